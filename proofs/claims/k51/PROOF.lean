import PyProof.Rows.All
import Wide.All
import OpenK.AllK
import Wide.FinOn
import Lean
import PyProof.EqAt
import PyProof.EqKinds
import PyProof.TupleCall
import PyProof.Rows.Range3
import KE.KRevIter
import PySem.Challenge.RW_daysgate_k51_plans_day_by_day
set_option Elab.async false
set_option linter.all false
set_option maxRecDepth 100000
set_option compiler.extract_closed false
set_option bootstrap.genMatcherCode false
set_option genSizeOf false
set_option genInjectivity false
set_option backward.eqns.nonrecursive false
noncomputable section
abbrev PP:=List (PySem.Addr×PySem.Obj)
abbrev PQ:=PySem.Value->PySem.Shared->Prop
abbrev PR:=PySem.Str->Option PySem.Value
open PySem.W (Frag)
set_option hygiene false
local macro_rules
| `(%[$n:num|0])=>`(.cons (.var $n) .nil)
| `(%[$a|0])=>`(.cons $a .nil)
| `(%[$n:num,$b,*|0])=>`(.cons (.var $n) %[$b,*|0])
| `(%[$a,$b,*|0])=>`(.cons $a %[$b,*|0])
| `(%[$n:num|1])=>`(qm (pg:=pg) (st:=top $n) (by kernel_rfl) (λk cl=>by kernel_rfl))
set_option hygiene true
theorem saidX:PySem.Challenge.rw_daysgate_k51_plans_day_by_day.wellSaid=true:=by kernel_rfl
local macro_rules | `((1:))=>`(by omega) | `((2:))=>`(by decide)
local macro_rules | `(tactic| simp? only[$ls,*]) => do
  let f (s : String) (k : Lean.Name) := (s.splitOn " ").toArray.map λn => Lean.mkIdent (k ++ n.toName)
  let b <- (f "Rv.list? Rv.plain? Rv.data Rv.int? Rv.str? Rv.bl? Rv.tup? int2 seqD Rv.non? idxD sliceD truthD lenD listD intD maxD minD B1.go B2.go Ty.of Ty.go toAr toSl flR slN runD th_ok of_some slR_s slR_v slR_o slR_b slR_c slX_s slX_v slX_o ownI_s ownI_o kk_f kk_cs kk_nw at_0 at_1 at_2 ixN_app set_app emp_app xR_var xR_con xR_bin xR_neg xR_not xR_one xR_and xR_cmp xR_ite xR_idx xR_sli xR_lst xR_tup xR_calF xR_call xR_b1 xR_b2 xR_isc xR_fld xR_met xR_new xR_isi xR_comp yRet yBl yTmp yB1 yB2 yNeg yNot yAnd yC1 yC2 yIf yI1 yI2 yS1 yS2 yS3 yLst yTup yCalF yCall yF1 yG1 yG2 yIsc yDat yFld yMt3 yMt2 yMt1 yMtO yMtN yMtI yMtv yNew yIsi yComp xT_not xT_one xT_and xT_or xT_cmp xT_val yBo yTn yTa yTo yD1 yD2 yTv xF_yes xF_test xEs_nil xEs_cons yE1 yE2 xAs_nil xAs_cons yA1 yA2 xO_none xO_some yO xI_seq xI_rng xI_rng2 xI_rev xI_enum xI_zip ySeq yRng yR1 yR2 yRev yEnum yZ1 yZ2 yVal yValt yValL yValLt yValLm yX yXt yAv yAx yAxt yCons xE_s xE_v xE_o xL_s xL_l xL_z xL_o xL_b xS_expr yExpr oGo_some xS_app yApp yApp2 xS_ext yExt yExt2 xS_ret yRt xS_set ySet xS_setT yST yNx xS_setI ySI ySI2 ySI3 ySI4 xS_ite yIte xS_for yFor xS_whl xSs_nil xSs_cons yNext yNextr xFo_cons yFo1 yFo2 yFo2r xWh yWh1 yWh2 xP_cons yP1 yP2 yP3 eE_bin eL_bin eX_bin eA_bin eA_neg eX_and eX_cmp eX_ite eE_idx eL_idx eX_idx eA_idx eL_sli eA_lst eE_tup eX_tup eA_tup eE_call eL_call eX_call eA_calF eA_call eE_b1 eL_b1 eX_b1 eA_b1 eE_b2 eA_b2 eL_fld eL_met eA_met eX_new eA_new eX_comp eA_comp eE_var eE_con eL_var eX_var eX_con eA_var eA_con bAdd bAdds bAddtt bAddct bSub bMult bDiv bMod bPow cEq cNe cLt cLe cGt cGe cIs cIsN cIn cNi mIn rgoV rgoT setIs_nil setIs_cons g_mapc g_mapn g_lenc g_lenn g_rep0 g_reps g_appc g_appn g_set0 g_sets g_last g_nott g_notf g_omap g_fe g_and g_dt g_df lend_v" `DE ++ f "Int.reduceLT Int.reduceLE Nat.reduceAdd Nat.reduceSub" .anonymous).mapM λn => `(Lean.Parser.Tactic.simpLemma| $n:ident)
  let d <- (f "sA_p sA_R sA_L sL_L rA_a rA_l rA_s rA_t rA_b rA_y" `DE ++ f "reduceIte" .anonymous).mapM λn => `(Lean.Parser.Tactic.simpLemma| ↓ $n:ident)
  let c : Array (Lean.TSyntax [`Lean.Parser.Tactic.simpStar, `Lean.Parser.Tactic.simpErase, `Lean.Parser.Tactic.simpLemma]) := (b ++ d).map (⟨·.raw⟩) ++ ls.getElems
  `(tactic| simp only[$c,*])
namespace L2
open PySem PySem.Spec PyProof.Rows
abbrev Key:=Sum Int Str
def qhQ:Key->Value->Bool
 |.inl k,v=>Value.isInt k v
 |.inr x,v=>Value.isStrOf x v
def ql2(w:World):Key->Int
 |.inl k=>hashInt k
 |.inr x=>hashStr w x
theorem qy:∀{k:Key} {v:Value},qhQ k v=true->(∃i t,k=Sum.inl i/\v=Value.int i t)\/(∃x t,k=Sum.inr x/\v=Value.str x t)
 |.inl i,v,h=>by obtain⟨t,e⟩:=Value.isInt_shape (k:=i) (v:=v) h;exact .inl ⟨i,t,rfl,e⟩
 |.inr x,v,h=>by obtain⟨t,e⟩:=Value.isStrOf_shape (x:=x) (v:=v) h;exact .inr ⟨x,t,rfl,e⟩
theorem qhR(a b:Int):decide ((Sum.inl a:Key)=Sum.inl b)=(a == b):=by
 by_cases e:a=b
 ·subst e;simp
 ·have h:¬ (Sum.inl a:Key)=Sum.inl b:=λq=>e (Sum.inl.inj q);rw[decide_eq_false h];exact(beq_eq_false_iff_ne.mpr e).symm
theorem qhS(a b:Str):decide ((Sum.inr a:Key)=Sum.inr b)=decide (a=b):=by
 by_cases e:a=b
 ·subst e;simp
 ·have h:¬ (Sum.inr a:Key)=Sum.inr b:=λq=>e (Sum.inr.inj q);rw[decide_eq_false h,decide_eq_false e]
theorem qhT(a:Int)(b:Str):decide ((Sum.inl a:Key)=Sum.inr b)=false:=decide_eq_false (λq=>nomatch q)
theorem qhU(a:Str)(b:Int):decide ((Sum.inr a:Key)=Sum.inl b)=false:=decide_eq_false (λq=>nomatch q)
noncomputable def Z5(prog:Program)(w:World):PySem.KeyKind prog w Key where
 is:=qhQ
 hash:=ql2 w
 inj:=λv a b ha hb=>by
  rcases qy ha with ⟨i,t,rfl,rfl⟩ | ⟨x,t,rfl,rfl⟩
  ·rcases qy hb with ⟨j,u,rfl,e⟩ | ⟨y,u,rfl,e⟩
   ·injection e with e1 _;rw[e1]
   ·exact nomatch e
  ·rcases qy hb with ⟨j,u,rfl,e⟩ | ⟨y,u,rfl,e⟩
   ·exact nomatch e
   ·injection e with e1 _;rw[e1]
 byValue:=λk v h=>by rcases qy h with ⟨i,t,rfl,rfl⟩ | ⟨x,t,rfl,rfl⟩<;>rfl
 pyHash:=λhv h=>by
  rcases qy hv with ⟨i,t,rfl,rfl⟩ | ⟨x,t,rfl,rfl⟩
  ·exact wpAny_pyHash_int h
  ·exact wpAny_pyHash_str h
 eqBool:=λhu hv h=>by
  rcases qy hu with ⟨i,t,rfl,rfl⟩ | ⟨x,t,rfl,rfl⟩
  ·rcases qy hv with ⟨j,u,rfl,rfl⟩ | ⟨y,u,rfl,rfl⟩
   ·rw[qhR] at h;exact wpAny_eqBool_int h
   ·rw[qhT] at h;exact SeqAt.EqAt.int_str i t y u _ _ _ _ h
  ·rcases qy hv with ⟨j,u,rfl,rfl⟩ | ⟨y,u,rfl,rfl⟩
   ·rw[qhU] at h;exact SeqAt.EqAt.str_int x t j u _ _ _ _ h
   ·rw[qhS] at h;exact wpAny_eqBool_str h
 «strs»:=λk x t v h=>by
  rcases qy h with ⟨i,u,rfl,e⟩ | ⟨y,u,rfl,e⟩
  ·exact nomatch e
  ·injection e with e1 _;subst e1;cases v<;>rfl
end L2
namespace L2
open PySem PySem.Spec PyProof.Rows
inductive V where
 | non | bl (b:Bool) | int (i:Int) | str (x:Str) | byt (b:Array UInt8) | flt (b:UInt64) | ref (a:Addr) | ty (n:String)
 deriving DecidableEq
noncomputable def qK:V->Value->Prop
 |.non,u=>u=Value.none
 |.bl b,u=>u=Value.bool b
 |.int i,u=>∃t,u=Value.int i t
 |.str x,u=>∃t,u=Value.str x t
 |.byt b,u=>∃t,u=Value.bytes b t
 |.flt b,u=>∃t,u=Value.float b t
 |.ref a,u=>u=Value.ref a
 |.ty n,u=>u=Value.type n
abbrev qz:List V->List Value->Prop:=Paired qK
theorem qz.length{xs:List V}{us:List Value}(r:qz xs us):xs.length=us.length:=Paired.length r
theorem qz.get:∀{xs:List V} {us:List Value} {i:Nat} {x:V},qz xs us->xs[i]?=some x->∃u,us[i]?=some u/\qK x u
 |_,_,_,_,.nil,e=>by simp at e
 |_,_,0,_,.cons r _,e=>by simp at e;subst e;exact⟨_,rfl,r⟩
 | _,_,i+1,x,.cons _ t,e=>by obtain⟨u,h1,h2⟩:=qz.get (i:=i) (x:=x) t (by simpa using e);exact⟨u,by simpa using h1,h2⟩
theorem qz.set{x:V}{u:Value}(r:qK x u):∀{xs:List V} {us:List Value} (i:Nat),qz xs us->qz (xs.set i x) (us.set i u)
 |_,_,_,.nil=>.nil
 |_,_,0,.cons _ t=>.cons r t
 | _,_,i+1,.cons q t=>.cons q (qz.set r i t)
theorem qz.append:∀{xs ys:List V} {us ws:List Value},qz xs us->qz ys ws->qz (xs++ys) (us++ws)
 |_,_,_,_,.nil,s=>s
 |_,_,_,_,.cons r t,s=>.cons r (qz.append t s)
theorem qz.take:∀{xs:List V} {us:List Value} (n:Nat),qz xs us->qz (xs.take n) (us.take n)
 |_,_,0,_=>.nil
 | _,_,_+1,.nil=>.nil
 | _,_,n+1,.cons r t=>.cons r (qz.take n t)
theorem qz.drop:∀{xs:List V} {us:List Value} (n:Nat),qz xs us->qz (xs.drop n) (us.drop n)
 |_,_,0,r=>r
 | _,_,_+1,.nil=>.nil
 | _,_,n+1,.cons _ t=>qz.drop n t
def qdP:Option V->Option Value->Prop
 |some v,some u=>qK v u
 |none,none=>True
 |_,_=>False
noncomputable def KV{κ:Type}:List (κ×V)->List (κ×Value)->Prop:=Paired λ(p:κ×V) (q:κ×Value)=>p.1=q.1/\qK p.2 q.2
def kV:Key->V
 |.inl i=>.int i
 |.inr x=>.str x
inductive HO where
 | lst (xs:List V)
 | tup (xs:List V)
 | dK (kvs:List (Key×V)) | dT (kvs:List (List Key×V))
 | set (S:Int->Bool) (n:Nat)
 | ins (C dx:Addr) (fs:List (Str×V))
 | own (x:Addr)
 | xd (fs:List (Str×V))
 | met (f x:Addr)
 | rng (lo hi:Int)
 | frz (o:Obj) (u:HO)
 | tbl (ps:Array Value)
 | ext (φ:Heap->Prop)
abbrev Hp:=Addr->Option HO
def upd(H:Hp)(a:Addr)(o:HO):Hp:=λb=>if b=a then some o else H b
theorem qf{H:Hp}{a:Addr}{o:HO}:upd H a o a=some o:=by unfold upd;rw[if_pos rfl]
theorem qd{H:Hp}{a b:Addr}{o:HO}(h:b≠a):upd H a o b=H b:=by unfold upd;rw[if_neg h]
theorem qP{H:Hp}{a b:Addr}{o:HO}(h:H a=some o)(h':H b=none):a≠b:=by intro e;subst e;rw[h] at h';cases h'
section
variable(P:Program)(w:World)
noncomputable def zu(H:Hp)(h:Heap)(a:Addr):HO->Prop
 |.lst xs=>xs.length<=sizeLine/\∃(its:List Value) (n:Nat),qz xs its/\h.get? a=some { cls:=.type "list",data:=.seq its.toArray n }
 |.tup xs=>xs.length<=sizeLine/\∃its:List Value,qz xs its/\IsTup h a its.toArray
 |.dK kvs=>kvs.length<=sizeLine/\(a == sysModules)=false/\∃vs,KV kvs vs/\h.DictOf (Z5 P w) a vs
 |.dT kvs=>kvs.length<=sizeLine/\(a == sysModules)=false/\∃xs:List (List Key×Addr×Value),
   Paired (λ(p:List Key×V) (q:List Key×Addr×Value)=>p.1=q.1/\H q.2.1=some (.tup (p.1.map kV))/\qK p.2 q.2.2) kvs xs/\
   ∃o es ep,h.get? a=some o/\o.ExactDict/\o.data=.dict es ep/\es.toList=xs.map (entryOfKey (tupleKind (Z5 P w)))/\(xs.map (·.1)).Nodup
 |.set S n=>h.SetOf (intKind P w) a S n
 |.ins C dx fs=>H dx=some (.own a)/\fs.length<=1000/\dx≠a/\h.get? a=some (PySem.W.instObj C dx)/\
   ∃mA,h.Ns1 dx mA/\(∀f,qdP (fs.lookup f) (mA f))/\PySem.Within mA (fs.map (·.1))
 |.own _=>∃o,h.get? a=some o
 |.xd fs=>∃mA,h.Ns1 a mA/\∀f,qdP (fs.lookup f) (mA f)
 |.rng lo hi=>∃t u v,h.get? a=some { cls:=.type "range",data:=.fields #[.int lo t,.int hi u,.int 1 v] }
 |.frz o u=>h.get? a=some o/\zu H h a u
 |.tbl ps=>h.get? a=some { cls:=.none,data:=.fields ps }
 |.met f x=>h.get? a=some (PySem.W.methodObj (.ref f) (.ref x))
 |.ext φ=>φ h/\(∃o,h.get? a=some o)/\∀h1 h2:Heap,φ h1->(∀o,h1.get? a=some o->h2.get? a=some o)->φ h2
def HOk(H:Hp)(h:Heap):Prop:=∀a o,H a=some o->zu P w H h a o
end
section
variable{P:Program}{w:World}{H H':Hp}{h h':Heap}{a:Addr}{o:HO}
theorem zu.lt(x:zu P w H h a o):a < h.objs.size:=by
 cases o with
 |lst xs=>obtain⟨_,_,_,_,e⟩:=x;exact Heap.lt_size e
 |tup xs=>obtain⟨_,_,_,p⟩:=x;exact p.lt
 |dK kvs=>obtain⟨_,_,_,_,o,_,_,e,_⟩:=x;exact Heap.lt_size e
 |dT kvs=>obtain⟨_,_,_,_,o,_,_,e,_⟩:=x;exact Heap.lt_size e
 |set S n=>obtain⟨o,_,_,_,e,_⟩:=x;exact Heap.lt_size e
 |ins C dx fs=>obtain⟨_,_,_,e,_⟩:=x;exact Heap.lt_size e
 |own y=>obtain⟨_,e⟩:=x;exact Heap.lt_size e
 |xd fs=>obtain⟨_,⟨_,_,_,e,_⟩,_⟩:=x;exact Heap.lt_size e
 |rng lo hi=>obtain⟨_,_,_,e⟩:=x;exact Heap.lt_size e
 |frz ob u=>obtain⟨e,_⟩:=x;exact Heap.lt_size e
 |tbl ps=>exact Heap.lt_size (show h.get? a=some _ from x)
 |met f y=>exact Heap.lt_size (show h.get? a=some _ from x)
 |ext φ=>obtain⟨_,⟨_,e⟩,_⟩:=x;exact Heap.lt_size e
theorem Paired.mapP{α β:Type}{F G:α->β->Prop}:∀{l₁:List α} {l₂:List β},Paired F l₁ l₂->(∀a b,F a b->G a b)->Paired G l₁ l₂
 |_,_,.nil,_=>.nil
 |_,_,.cons r t,f=>.cons (f _ _ r) (Paired.mapP t f)
theorem zu.stay(x:zu P w H h a o)(k:∀b u,(b=a\/H b=some (.own a))->h.get? b=some u->h'.get? b=some u)
  (ho:∀b,H b=some (.own a)->H' b=some (.own a)) (ht:∀b xs,H b=some (.tup xs)->H' b=some (.tup xs)):zu P w H' h' a o:=by
 induction o with
 |lst xs=>obtain⟨z,its,n,r,e⟩:=x;exact⟨z,its,n,r,k _ _ (.inl rfl) e⟩
 |tup xs=>obtain⟨z,its,r,ob,e,c⟩:=x;exact⟨z,its,r,ob,k _ _ (.inl rfl) e,c⟩
 |dK kvs=>obtain⟨z,y,vs,r,ob,es,ep,e,c⟩:=x;exact⟨z,y,vs,r,ob,es,ep,k _ _ (.inl rfl) e,c⟩
 |dT kvs=>obtain⟨z,y,xs,r,ob,es,ep,e,c⟩:=x;exact⟨z,y,xs,Paired.mapP r λp q z=>⟨z.1,ht _ _ z.2.1,z.2.2⟩,ob,es,ep,k _ _ (.inl rfl) e,c⟩
 |set S n=>obtain⟨ob,es,ep,t,e,c⟩:=x;exact⟨ob,es,ep,t,k _ _ (.inl rfl) e,c⟩
 |ins C dx fs=>obtain⟨d,z,ne,e,mA,⟨od,es,ep,e2,c⟩,r⟩:=x;exact⟨ho _ d,z,ne,k _ _ (.inl rfl) e,mA,⟨od,es,ep,k _ _ (.inr d) e2,c⟩,r⟩
 |own y=>obtain⟨ob,e⟩:=x;exact⟨ob,k _ _ (.inl rfl) e⟩
 |xd fs=>obtain⟨mA,⟨od,es,ep,e,c⟩,r⟩:=x;exact⟨mA,⟨od,es,ep,k _ _ (.inl rfl) e,c⟩,r⟩
 |rng lo hi=>obtain⟨t,u,v,e⟩:=x;exact⟨t,u,v,k _ _ (.inl rfl) e⟩
 |frz ob u ih=>obtain⟨e,q⟩:=x;exact⟨k _ _ (.inl rfl) e,ih q⟩
 |tbl ps=>have e:h.get? a=some { cls:=.none,data:=.fields ps }:=x;show h'.get? a=some { cls:=.none,data:=.fields ps };exact k a _ (.inl rfl) e
 |met f y=>have e:h.get? a=some (PySem.W.methodObj (.ref f) (.ref y)):=x;show h'.get? a=some (PySem.W.methodObj (.ref f) (.ref y));exact k a _ (.inl rfl) e
 |ext φ=>obtain⟨p,⟨o,e⟩,st⟩:=x;exact⟨st _ _ p λo q=>k _ _ (.inl rfl) q,⟨o,k _ _ (.inl rfl) e⟩,st⟩
theorem HOk.lt(x:HOk P w H h)(e:H a=some o):a < h.objs.size:=(x a o e).lt
theorem HOk.fresh(x:HOk P w H h)(e:h.objs.size<=a):H a=none:=by
 cases q:H a with
 |none=>rfl
 |some u=>exact absurd (Nat.lt_of_lt_of_le (x.lt q) e) (Nat.lt_irrefl _)
theorem HOk.kept(x:HOk P w H h)(k:∀b u,h.get? b=some u->h'.get? b=some u):HOk P w H h':=λa o e=>(x a o e).stay (λb u _ q=>k b u q) (λ_ q=>q) λ_ _ q=>q
theorem HOk.laid(x:HOk P w H h)(k:∀b u,h.get? b=some u->h'.get? b=some u)(hp:h.objs.size<=a)(new:zu P w (upd H a o) h' a o):HOk P w (upd H a o) h':=λb u e=>by
 have hn:=x.fresh hp
 by_cases hb:b=a
 ·subst hb;rw[qf] at e;cases e;exact new
 ·rw[qd hb] at e;exact(x b u e).stay (λc v _ q=>k c v q) (λc q=>by rw[qd (qP q hn)];exact q) λc xs q=>by rw[qd (qP q hn)];exact q
end
def Rd(H:Hp)(a:Addr)(u:HO):Prop:=H a=some u\/∃o,H a=some (.frz o u)
theorem Rd.ok{P:Program}{w:World}{H:Hp}{h:Heap}{a:Addr}{u:HO}(r:Rd H a u)(x:HOk P w H h):zu P w H h a u:=by
 rcases r with r | ⟨o,r⟩
 ·exact x a u r
 ·obtain⟨_,q⟩:=x a _ r;exact q
noncomputable def Mut:Option HO->Prop
 |some (.lst _)=>True
 |some (.dK _)=>True
 |some (.dT _)=>True
 |some (.set _ _)=>True
 |some (.ins _ _ _)=>True
 |some (.ext _)=>True
 |_=>False
section
variable{P:Program}{w:World}{H:Hp}{h h':Heap}{x e:Addr}{o':HO}
theorem HOk.write(ok:HOk P w H h)(mu:Mut (H x))(he:e=x\/H e=some (.own x))(k:∀b u,b≠e->h.get? b=some u->h'.get? b=some u)(heo:∃u,h'.get? e=some u)
  (new:zu P w (upd H x o') h' x o'):HOk P w (upd H x o') h':=λb u q=>by
 have nown:∀c y,H c=some (.own y)->c≠x:=λc y r z=>by subst z;rw[r] at mu;exact mu
 have ntup:∀c xs,H c=some (.tup xs)->c≠x:=λc xs r z=>by subst z;rw[r] at mu;exact mu
 by_cases hb:b=x
 ·subst hb;rw[qf] at q;cases q;exact new
 ·rw[qd hb] at q
  by_cases hbe:b=e
  ·have q':H b=some (.own x):=by
    rcases he with z | z
    ·exact absurd (hbe.trans z) hb
    ·rw[hbe];exact z
   rw[q] at q';cases q';obtain⟨v,hv⟩:=heo;exact⟨v,by rw[hbe];exact hv⟩
  ·refine(ok b u q).stay (λc v hc r=>k c v ?_ r) (λc r=>by rw[qd (nown c b r)];exact r) λc xs r=>by rw[qd (ntup c xs r)];exact r
   rcases hc with rfl | hc
   ·exact hbe
   ·rintro rfl;rcases he with z | z
    ·exact nown c b hc z
    ·rw[hc] at z;cases z;exact hb rfl
end
structure Un(fs ex:List Addr)(H H':Hp)(h h':Heap):Prop where
 keep:∀b o,h.get? b=some o->H b=none->b∉fs->b∉ex->h'.get? b=some o
 slot:∀b o,h.get? b=some o->H b=none->b∈fs->b∉ex->∃sl,h'.get? b=some { o with slots:=sl }
 free:∀b o,h.get? b=some o->H b=none->b∉ex->H' b=none
 there:∀b o,h.get? b=some o->b∉ex->∃o',h'.get? b=some o'
 tups:∀b xs,H b=some (.tup xs)->H' b=some (.tup xs)
 frzs:∀b o u,H b=some (.frz o u)->H' b=some (.frz o u)
 tbls:∀b ps,H b=some (.tbl ps)->∃more,H' b=some (.tbl (ps++more))
section
variable{fs fs' ex ex':List Addr}{H H1 H2:Hp}{h h1 h2 h':Heap}{a x e:Addr}{o:HO}
theorem Un.any(u:Un fs ex H H1 h h1){b:Addr}{ob:Obj}(q:h.get? b=some ob)(n:H b=none)(hx:b∉ex):∃sl,h1.get? b=some { ob with slots:=sl }:=by
 by_cases hb:b∈fs
 ·exact u.slot b ob q n hb hx
 ·exact⟨ob.slots,u.keep b ob q n hb hx⟩
theorem Un.kept(k:∀b u,h.get? b=some u->h'.get? b=some u):Un fs ex H H h h':=
 ⟨λb ob q _ _ _=>k b ob q,λb ob q _ _ _=>⟨ob.slots,k b ob q⟩,λ_ _ _ n _=>n,λb ob q _=>⟨ob,k b ob q⟩,λ_ _ q=>q,λ_ _ _ q=>q,λ_ ps q=>⟨#[],by rw[q];simp⟩⟩
theorem Un.refl:Un fs ex H H h h:=Un.kept λ_ _ q=>q
theorem Un.laid(k:∀b u,h.get? b=some u->h'.get? b=some u)(hp:h.objs.size<=a)(hn:H a=none):Un fs ex H (upd H a o) h h' where
 keep:=λb u q _ _ _=>k b u q
 slot:=λb u q _ _ _=>⟨u.slots,k b u q⟩
 free:=λb u q n _=>by rw[qd (Nat.ne_of_lt (Nat.lt_of_lt_of_le (Heap.lt_size q) hp))];exact n
 there:=λb u q _=>⟨u,k b u q⟩
 tups:=λb xs q=>by rw[qd (qP q hn)];exact q
 frzs:=λb u xs q=>by rw[qd (qP q hn)];exact q
 tbls:=λb ps q=>⟨#[],by rw[qd (qP q hn),q];simp⟩
theorem Un.write(mu:Mut (H x))(he:e=x\/H e=some (.own x))(k:∀b u,b≠e->h.get? b=some u->h'.get? b=some u)(heo:∃u,h'.get? e=some u):Un fs ex H (upd H x o) h h':=by
 have hx:∀b,H b=none->b≠x:=λb n z=>by subst z;rw[n] at mu;exact mu
 have hb:∀b,H b=none->b≠e:=λb n z=>by
  subst z;rcases he with r | r
  ·exact hx b n r
  ·rw[n] at r;cases r
 have hm:∀b u,H b=some u->¬ Mut (some u)->b≠x:=λb u q nm z=>by subst z;rw[q] at mu;exact nm mu
 refine⟨λb u q n _ _=>k b u (hb b n) q,λb u q n _ _=>⟨u.slots,k b u (hb b n) q⟩,λb u q n _=>by rw[qd (hx b n)];exact n,λb u q _=>?_,
  λb xs q=>by rw[qd (hm b _ q λz=>z)];exact q,λb u xs q=>by rw[qd (hm b _ q λz=>z)];exact q,λb ps q=>⟨#[],by rw[qd (hm b _ q λz=>z),q];simp⟩⟩
 by_cases hbe:b=e
 ·subst hbe;exact heo
 ·exact⟨u,k b u hbe q⟩
end
def trk(h:Heap)(H:Hp):List Addr:=(List.range h.objs.size).filter λa=>(H a).isSome
def qdR(h:Heap)(H:Hp):Heap:=PySem.W.hideAll h (trk h H)
theorem qb5(h:Heap)(H:Hp):(qdR h H).objs.size=h.objs.size:=PySem.W.hideAll_size _ _
theorem qdS{h:Heap}{H:Hp}{b:Addr}{o:Obj}(e:h.get? b=some o)(n:H b=none):(qdR h H).get? b=some o:=
 PySem.W.hideAll_get _ e λhm=>by have q:(H b).isSome=true:=(List.mem_filter.mp hm).2;rw[n] at q;simp at q
theorem qfV{h:Heap}{H:Hp}{b:Addr}{o:Obj}(e:(qdR h H).get? b=some o):h.get? b=some o/\H b=none:=by
 have e':h.get? b=some o:=PySem.W.of_hideAll (trk h H) e;refine⟨e',?_⟩
 cases q:H b with
 |none=>rfl
 |some x=>have hm:b∈trk h H:=List.mem_filter.mpr ⟨List.mem_range.mpr (Heap.lt_size e'),by simp[q]⟩;have z:(qdR h H).get? b=none:=PySem.W.hideAll_none (trk h H) hm;rw[z] at e;cases e
end L2
namespace L2
open PySem PySem.Spec PyProof.Rows
structure Mod(K:Frag)(mg:PR)(base:Heap):Prop where
 kin:K.In base
 glob:base.Ns mainGlobals mg
 blt:∃mb,base.Ns builtinsNs mb/\∀x:Str,x≠"__name__"->mb x=bootBuiltins x
 nolimit:base.NoLimit
structure Cx where
 prog:Program
 w:World
 K:Frag
 mg:PR
 base:Heap
 A:Around
 N:List Str
 s₀:Shared
 Hv:Hp
 env:Env
 outer:List Env
 stack:List Env
 ex:List Addr
 fn:Str->Bool
 calm:Bool
 pn:PP
 xe:PQ
def frs(l:List Env):List Addr:=l.filterMap (·.frame)
abbrev Cx.fs(X:Cx):List Addr:=frs X.outer
noncomputable def Vis(sc:Scope)(x:Str):Prop:=sc.names.lookup x=some .local\/sc.names.lookup x=some .cell\/sc.names.lookup x=some .free
def Loc(sc:Scope)(x:Str):Prop:=sc.names.lookup x=some .local\/sc.names.lookup x=some .cell
noncomputable def ql3(env:Env)(h:Heap)(m:PR)(x:Str)(u:Value):Prop:=
 (env.kindOf x=some .local/\m x=some u)\/((env.kindOf x=some .cell\/env.kindOf x=some .free)/\∃c,env.cells.lookup x=some c/\h.IsCell c (some u))
structure Cx.Ok(X:Cx):Prop where
 mod:Mod X.K X.mg X.base
 kind:X.env.scope.kind=.function
 glob:X.env.globals=mainGlobals
 blt:X.env.builtins=builtinsNs
 above:X.s₀.heap.objs.size<=X.env.locals
 inj:∀x y c,X.env.cells.lookup x=some c->X.env.cells.lookup y=some c->x=y
 has:∀x,(X.env.kindOf x=some .cell\/X.env.kindOf x=some .free)->∃c,X.env.cells.lookup x=some c
 cab:∀x c,X.fn x=true->X.env.cells.lookup x=some c->X.s₀.heap.objs.size<=c
 hd:X.calm=true->X.A.handled=none
 frames:X.A.frames=some X.stack
 stk:X.stack=X.outer\/(X.stack=X.env::X.outer/\X.env.frame=some X.env.locals)
 exf:∀b∈X.ex,b≠X.env.locals/\∀x c,X.env.cells.lookup x=some c->c≠b
 bs:∀b o,X.base.get? b=some o->X.s₀.heap.get? b=some o/\X.Hv b=none
 bsz:X.base.objs.size<=X.s₀.heap.objs.size
 noex:∀b o,X.base.get? b=some o->b∉X.ex
 exfs:∀b∈X.ex,b∉X.fs
 funs:X.s₀.heap.FunFrames X.base X.outer
 frf:∀b∈X.fs,X.Hv b=none
structure Inv(X:Cx)(pins:PP)(σ:List (Option V))(H:Hp)(s:Shared):Prop where
 ok:X.Ok
 os:s.os=X.s₀.os
 bare:AllBare s.gens
 base:Un X.fs X.ex X.Hv H X.s₀.heap s.heap
 loc:∃m,s.heap.Ns X.env.locals m/\∀(i:Nat) (x:Str) (v:V),X.N[i]?=some x->σ[i]?=some (some v)->Vis X.env.scope x->∃u,qK v u/\ql3 X.env s.heap m x u
 cell:∀x c,X.env.cells.lookup x=some c->∃v,s.heap.IsCell c v
 free:H X.env.locals=none
 freeC:∀x c,X.env.cells.lookup x=some c->H c=none
 pin:∀p∈X.pn++pins,s.heap.get? p.1=some p.2/\H p.1=none/\p.1≠X.env.locals/\p.1∉X.fs/\∀v,p.2.data≠.cell v
 hok:HOk X.prog X.w H s.heap
 len:σ.length=X.N.length
section
variable{X:Cx}{pins:PP}{σ:List (Option V)}{H H':Hp}{s:Shared}{h':Heap}
theorem Cx.Ok.nofr(ok:X.Ok){b:Addr}{o:Obj}(e:X.base.get? b=some o):b∉X.fs:=λhb=>by
 have:=(ok.funs.mem hb).1
 rw[e] at this;cases this
theorem Inv.bs(I:Inv X pins σ H s):∀b o,X.base.get? b=some o->s.heap.get? b=some o/\H b=none:=λb o e=>⟨I.base.keep b o (I.ok.bs b o e).1 (I.ok.bs b o e).2 (I.ok.nofr e) (I.ok.noex b o e),I.base.free b o (I.ok.bs b o e).1 (I.ok.bs b o e).2 (I.ok.noex b o e)⟩
theorem Inv.bk(I:Inv X pins σ H s):∀b o,X.base.get? b=some o->s.heap.get? b=some o:=λb o e=>(I.bs b o e).1
theorem Inv.mod(I:Inv X pins σ H s):Mod X.K X.mg X.base:=I.ok.mod
theorem Inv.kIn(I:Inv X pins σ H s):X.K.In s.heap:=I.ok.mod.kin.keeps I.bk
theorem Inv.lt(I:Inv X pins σ H s):X.env.locals < s.heap.objs.size:=let ⟨_,hn,_⟩:=I.loc;hn.lt
theorem Inv.sz(I:Inv X pins σ H s):X.s₀.heap.objs.size<=s.heap.objs.size:=Nat.le_trans I.ok.above (Nat.le_of_lt I.lt)
theorem Inv.nofs(I:Inv X pins σ H s){a:Addr}(h:s.heap.objs.size<=a):a∉X.fs:=λhb=>by obtain⟨_,o,ho,_⟩:=I.ok.funs.mem hb;exact absurd (Nat.lt_of_lt_of_le (Heap.lt_size ho) (Nat.le_trans I.sz h)) (Nat.lt_irrefl _)
theorem Inv.cne(I:Inv X pins σ H s):∀x c,X.env.cells.lookup x=some c->c≠X.env.locals:=λx c e z=>by obtain⟨v,o,ho,hd⟩:=I.cell x c e;obtain⟨m,⟨o',es,ep,ho',hd',_⟩,_⟩:=I.loc;rw[z,ho'] at ho;cases ho;rw[hd'] at hd;cases hd
theorem Inv.funs(I:Inv X pins σ H s):s.heap.FunFrames X.base X.outer:=by
 have all:∀(l:List Env),(∀b∈frs l,b∈X.fs)->X.s₀.heap.FunFrames X.base l->s.heap.FunFrames X.base l:=by
  intro l
  induction l with
  |nil=>intro _ _;trivial
  |cons env r ih=>intro hs hl;obtain⟨hk,⟨L,o,hf,hn,ho,hd⟩,hr⟩:=hl;have hL:L∈X.fs:=hs L (by unfold frs;rw[List.filterMap_cons,hf];exact List.mem_cons_self);obtain⟨sl,e⟩:=I.base.slot L o ho (I.ok.frf L hL) hL λz=>I.ok.exfs L z hL;exact⟨hk,⟨L,_,hf,hn,e,hd⟩,ih (λb hb=>hs b (by unfold frs;rw[List.filterMap_cons,hf];exact List.mem_cons_of_mem _ hb)) hr⟩
 exact all X.outer (λ_ hb=>hb) I.ok.funs
theorem Inv.stack(I:Inv X pins σ H s):s.heap.FunFrames X.base X.stack:=by
 rcases I.ok.stk with e | ⟨e,hf⟩
 ·rw[e];exact I.funs
 ·rw[e];obtain⟨m,hn,_⟩:=I.loc;refine .cons (by rw[I.ok.kind];decide) hf hn ?_ I.funs;exact Heap.get?_none_of_le (Nat.le_trans I.ok.bsz I.ok.above)
theorem Inv.stkSub(I:Inv X pins σ H s):∀b∈frs X.stack,b∈X.env.locals::X.fs:=λb hb=>by
 rcases I.ok.stk with e | ⟨e,hf⟩
 ·rw[e] at hb;exact List.mem_cons_of_mem _ hb
 ·rw[e] at hb;unfold frs at hb;rw[List.filterMap_cons,hf] at hb;exact hb
theorem Inv.stkFree(I:Inv X pins σ H s):∀b∈frs X.stack,H b=none:=λb hb=>by
 rcases List.mem_cons.mp (I.stkSub b hb) with e | hb
 ·rw[e];exact I.free
 ·obtain⟨_,o,ho,_⟩:=I.ok.funs.mem hb;exact I.base.free b o ho (I.ok.frf b hb) λz=>I.ok.exfs b z hb
theorem Inv.step{g':Array GenState}{t':Nat}{d':Drawn}{ch:List Addr}(I:Inv X pins σ H s)
  (hch:∀b∈ch,(b∈X.ex\/X.s₀.heap.objs.size<=b)/\b≠X.env.locals/\(∀x c,X.env.cells.lookup x=some c->c≠b)/\∀p∈X.pn++pins,p.1≠b)
  (keep:∀b o,b≠X.env.locals->b∉X.fs->b∉ch->s.heap.get? b=some o->H b=none->h'.get? b=some o)
  (slot:∀b o,b≠X.env.locals->b∈X.fs->b∉ch->s.heap.get? b=some o->H b=none->∃sl,h'.get? b=some { o with slots:=sl }) (free:∀b o,b∉ch->s.heap.get? b=some o->H b=none->H' b=none)
  (there:∀b o,b∉ch->s.heap.get? b=some o->∃o',h'.get? b=some o')
  (tups:∀b xs,H b=some (.tup xs)->H' b=some (.tup xs)) (frzs:∀b o u,H b=some (.frz o u)->H' b=some (.frz o u)) (tbls:∀b ps,H b=some (.tbl ps)->∃more,H' b=some (.tbl (ps++more)))
  (ns:∀m,s.heap.Ns X.env.locals m->h'.Ns X.env.locals m) (hok:HOk X.prog X.w H' h') (hg:AllBare g') :
  Inv X pins σ H' { s with heap:=h',gens:=g',drawn:=d',toks:=t' }:=by
 have neL:∀b o,X.s₀.heap.get? b=some o->b≠X.env.locals:=λb o e=>Nat.ne_of_lt (Nat.lt_of_lt_of_le (Heap.lt_size e) I.ok.above)
 have neC:∀b o,X.s₀.heap.get? b=some o->b∉X.ex->b∉ch:=λb o e hx hb=>by
  rcases (hch b hb).1 with z | z
  ·exact hx z
  ·exact absurd (Nat.lt_of_lt_of_le (Heap.lt_size e) z) (Nat.lt_irrefl _)
 have cellK:∀x c,X.env.cells.lookup x=some c->∀v,s.heap.IsCell c v->h'.IsCell c v:=λx c e v ⟨o,ho,hd⟩=>by
  have nch:c∉ch:=λz=>(hch c z).2.2.1 x c e rfl
  by_cases hc:c∈X.fs
  ·obtain⟨sl,q⟩:=slot c o (I.cne x c e) hc nch ho (I.freeC x c e);exact⟨_,q,hd⟩
  ·exact⟨o,keep c o (I.cne x c e) hc nch ho (I.freeC x c e),hd⟩
 refine⟨I.ok,I.os,hg,⟨λb o e n hb hx=>?_,λb o e n hb hx=>?_,λb o e n hx=>?_,λb o e hx=>?_,λb xs e=>tups b xs (I.base.tups b xs e),λb o xs e=>frzs b o xs (I.base.frzs b o xs e),λb ps e=>?_⟩,?_,λx c e=>?_,?_,λx c e=>?_,λp hp=>?_,hok,I.len⟩
 ·exact keep b o (neL b o e) hb (neC b o e hx) (I.base.keep b o e n hb hx) (I.base.free b o e n hx)
 ·obtain⟨sl,e1⟩:=I.base.slot b o e n hb hx;obtain⟨sl',e2⟩:=slot b _ (neL b o e) hb (neC b o e hx) e1 (I.base.free b o e n hx);exact⟨sl',e2⟩
 ·obtain⟨o',e1⟩:=I.base.there b o e hx;exact free b o' (neC b o e hx) e1 (I.base.free b o e n hx)
 ·obtain⟨o',e1⟩:=I.base.there b o e hx;exact there b o' (neC b o e hx) e1
 ·obtain⟨m1,e1⟩:=I.base.tbls b ps e;obtain⟨m2,e2⟩:=tbls b _ e1;exact⟨m1++m2,by rw[e2,Array.append_assoc]⟩
 ·obtain⟨m,hn,hl⟩:=I.loc;refine⟨m,ns m hn,λi x v e1 e2 e3=>?_⟩;obtain⟨u,r,l⟩:=hl i x v e1 e2 e3;refine⟨u,r,?_⟩;rcases l with l | ⟨k,c,e,z⟩
  ·exact .inl l
  ·exact .inr ⟨k,c,e,cellK x c e _ z⟩
 ·obtain⟨v,z⟩:=I.cell x c e;exact⟨v,cellK x c e v z⟩
 ·obtain⟨m,⟨o,_,_,ho,_⟩,_⟩:=I.loc;exact free _ o (λz=>(hch _ z).2.1 rfl) ho I.free
 ·obtain⟨v,o,ho,hd⟩:=I.cell x c e;exact free c o (λz=>(hch c z).2.2.1 x c e rfl) ho (I.freeC x c e)
 ·obtain⟨e,n,ne,nf,d⟩:=I.pin p hp;have nch:p.1∉ch:=λz=>(hch p.1 z).2.2.2 p hp rfl;exact⟨keep p.1 p.2 ne nf nch e n,free p.1 p.2 nch e n,ne,nf,d⟩
theorem Inv.un{t':Nat}(I:Inv X pins σ H s)(u:Un X.fs [] H H' s.heap h')(hok:HOk X.prog X.w H' h'):Inv X pins σ H' { s with heap:=h',toks:=t' }:=by
 obtain⟨m,⟨o,es,ep,ho,r⟩,_⟩:=id I.loc;obtain⟨sl,hL⟩:=u.any ho I.free (by simp)
 exact I.step (g':=s.gens) (d':=s.drawn) (ch:=[]) (λ_ z=>nomatch z) (λb o _ hb _ e n=>u.keep b o e n hb (by simp)) (λb o _ hb _ e n=>u.slot b o e n hb (by simp)) (λb o _ e n=>u.free b o e n (by simp)) (λb o _ e=>u.there b o e (by simp)) u.tups u.frzs u.tbls (λm' hm=>by obtain⟨o',es',ep',ho',r'⟩:=hm;rw[ho] at ho';cases ho';exact⟨_,es',ep',hL,r'⟩) hok I.bare
theorem Inv.call{g':Array GenState}{t':Nat}{d':Drawn}{ch:List Addr}(I:Inv X pins σ H s)(u:Un (frs X.stack) ch H H' s.heap h')(hok:HOk X.prog X.w H' h')(hg:AllBare g')
  (hch:∀b∈ch,(b∈X.ex\/X.s₀.heap.objs.size<=b)/\b≠X.env.locals/\(∀x c,X.env.cells.lookup x=some c->c≠b)/\∀p∈X.pn++pins,p.1≠b) :
  Inv X pins σ H' { s with heap:=h',gens:=g',drawn:=d',toks:=t' }:=by
 obtain⟨m,⟨o,es,ep,ho,r⟩,_⟩:=id I.loc;obtain⟨sl,hL⟩:=u.any ho I.free λz=>(hch _ z).2.1 rfl
 exact I.step (ch:=ch) hch (λb o hL hb hc e n=>u.keep b o e n (λz=>(List.mem_cons.mp (I.stkSub b z)).elim hL hb) hc) (λb o _ _ hc e n=>u.any e n hc) (λb o hc e n=>u.free b o e n hc) (λb o hc e=>u.there b o e hc) u.tups u.frzs u.tbls (λm' hm=>by obtain⟨o',es',ep',ho',r'⟩:=hm;rw[ho] at ho';cases ho';exact⟨_,es',ep',hL,r'⟩) hok hg
theorem Inv.turned{t':Nat}{it:Addr}(I:Inv X pins σ H s)(k:∀b o,b≠it->s.heap.get? b=some o->h'.get? b=some o)(hn:H it=none)(hL:it≠X.env.locals)
  (h1:it∈X.ex\/X.s₀.heap.objs.size<=it) (h2:∀x c,X.env.cells.lookup x=some c->c≠it) (h3:∀p∈X.pn++pins,p.1≠it):Inv X pins σ H { s with heap:=h',toks:=t' }:=by
 have nit:∀b u,H b=some u->b≠it:=λb u e z=>by rw[z,hn] at e;cases e
 refine I.step (g':=s.gens) (d':=s.drawn) (ch:=[it]) (λb hb=>?_) (λb o _ _ hc e _=>k b o (λz=>hc (by simp[z])) e) (λb o _ _ hc e _=>⟨o.slots,k b o (λz=>hc (by simp[z])) e⟩) (λ_ _ _ _ n=>n)
  (λb o hc e=>⟨o,k b o (λz=>hc (by simp[z])) e⟩) (λ_ _ e=>e) (λ_ _ _ e=>e) (λb ps e=>⟨#[],by rw[e];simp⟩) (λm hm=>?_) (λb u e=>?_) I.bare
 ·have e:b=it:=by simpa using hb
  subst e;exact⟨h1,hL,h2,h3⟩
 ·obtain⟨o,es,ep,ho,r⟩:=hm;exact⟨o,es,ep,k _ o (Ne.symm hL) ho,r⟩
 ·refine(I.hok b u e).stay (λc v hc q=>k c v ?_ q) (λ_ q=>q) λ_ _ q=>q;rcases hc with z | z
  ·rw[z];exact nit b u e
  ·exact nit c _ z
theorem Inv.tok(I:Inv X pins σ H s)(t:Nat):Inv X pins σ H { s with toks:=t }:=I.un (h':=s.heap) (t':=t) Un.refl I.hok
theorem Inv.kept{t':Nat}(I:Inv X pins σ H s)(k:∀b u,s.heap.get? b=some u->h'.get? b=some u):Inv X pins σ H { s with heap:=h',toks:=t' }:=I.un (Un.kept k) (I.hok.kept k)
theorem Inv.laid{a:Addr}{o:HO}{t':Nat}(I:Inv X pins σ H s)(k:∀b u,s.heap.get? b=some u->h'.get? b=some u)(hp:s.heap.objs.size<=a)(new:zu X.prog X.w (upd H a o) h' a o) :
  Inv X pins σ (upd H a o) { s with heap:=h',toks:=t' }:=I.un (Un.laid k hp (I.hok.fresh hp)) (I.hok.laid k hp new)
theorem Inv.write{x e:Addr}{o:HO}{t':Nat}(I:Inv X pins σ H s)(mu:Mut (H x))(he:e=x\/H e=some (.own x))(k:∀b u,b≠e->s.heap.get? b=some u->h'.get? b=some u)(heo:∃u,h'.get? e=some u)
  (new:zu X.prog X.w (upd H x o) h' x o):Inv X pins σ (upd H x o) { s with heap:=h',toks:=t' }:=I.un (Un.write mu he k heo) (I.hok.write mu he k heo new)
theorem Inv.pins_of{pins':PP}(I:Inv X pins σ H s)(h:∀p∈pins',s.heap.get? p.1=some p.2/\H p.1=none/\p.1≠X.env.locals/\p.1∉X.fs/\∀v,p.2.data≠.cell v):Inv X pins' σ H s:=
 ⟨I.ok,I.os,I.bare,I.base,I.loc,I.cell,I.free,I.freeC,λp hp=>(List.mem_append.mp hp).elim (λz=>I.pin p (List.mem_append_left _ z)) (h p),I.hok,I.len⟩
theorem qaC{N:List Str}(hN:N.Nodup){i j:Nat}{x:Str}(a:N[i]?=some x)(b:N[j]?=some x):i=j:=by obtain⟨h1,e1⟩:=List.getElem?_eq_some_iff.mp a;obtain⟨h2,e2⟩:=List.getElem?_eq_some_iff.mp b;exact(List.getElem_inj hN).mp (e1.trans e2.symm)
theorem QS{M:Model}{A:Around}{E:PQ}{i:Nat}{x:Str}{v:V}{u:Value}{Q:Unit->Shared->Prop}(I:Inv X pins σ H s)(hN:X.N.Nodup)(hi:X.N[i]?=some x)(hx:Loc X.env.scope x)(r:qK v u)
  (h:∀s',Inv X pins (σ.set i (some v)) H s'->(∃a,Heap.SameBut a s.heap s'.heap/\(a=X.env.locals\/X.env.cells.lookup x=some a))->Q () s') (hf:X.fn x=true\/X.env.scope.names.lookup x=some .local:=by first | exact .inl rfl | exact .inr rfl | assumption):wpAny M A (storeName X.env x u) Q E s:=by
 obtain⟨m,hn,hl⟩:=id I.loc;have hcls:(X.env.scope.kind == .class||(X.env.scope.kind == .module&&X.env.locals != X.env.globals))=false:=by rw[I.ok.kind];rfl
 have hiσ:i < σ.length:=by rw[I.len];exact(List.getElem?_eq_some_iff.mp hi).1
 have cne:=I.cne
 have tracked:∀{a:Addr} {h':Heap},(∃o,s.heap.get? a=some o/\H a=none)->Heap.SameBut a s.heap h'->HOk X.prog X.w H h':=λ{a h'} ha hs b ob e=>by
  obtain⟨_,_,hfree⟩:=ha;refine(I.hok b ob e).stay (λc w' hc q=>(hs.2 c ?_).trans q) (λ_ q=>q) λ_ _ q=>q;rintro rfl;rcases hc with rfl | hc
  ·rw[hfree] at e;cases e
  ·rw[hfree] at hc;cases hc
 rcases hx with hk | hk
 ·refine wpAny_storeName_local hk hn (λh' hn' hs=>?_) hcls;obtain⟨oL,_,_,hoL,_⟩:=id hn;refine h _ ⟨I.ok,I.os,I.bare,⟨λb o e n hb hx=>?_,λb o e n hb hx=>?_,I.base.free,λb o e hx=>?_,I.base.tups,I.base.frzs,I.base.tbls⟩,⟨_,hn',λj y v' e1 e2 e3=>?_⟩,λy c e=>?_,I.free,I.freeC,λp hp=>?_,tracked ⟨oL,hoL,I.free⟩ hs,by simpa using I.len⟩ ⟨_,hs,.inl rfl⟩
  ·exact(hs.2 b (Nat.ne_of_lt (Nat.lt_of_lt_of_le (Heap.lt_size e) I.ok.above))).trans (I.base.keep b o e n hb hx)
  ·obtain⟨sl,e1⟩:=I.base.slot b o e n hb hx;exact⟨sl,(hs.2 b (Nat.ne_of_lt (Nat.lt_of_lt_of_le (Heap.lt_size e) I.ok.above))).trans e1⟩
  ·obtain⟨o',e1⟩:=I.base.there b o e hx;exact⟨o',(hs.2 b (Nat.ne_of_lt (Nat.lt_of_lt_of_le (Heap.lt_size e) I.ok.above))).trans e1⟩
  ·by_cases hj:j=i
   ·subst hj;rw[hi] at e1;cases e1;rw[List.getElem?_set_self hiσ] at e2;cases e2;exact⟨u,r,.inl ⟨hk,by simp⟩⟩
   ·rw[List.getElem?_set_ne (Ne.symm hj)] at e2;obtain⟨u',r',q⟩:=hl j y v' e1 e2 e3;refine⟨u',r',?_⟩;rcases q with ⟨k,e⟩ | ⟨k,c,e,z⟩
    ·refine .inl ⟨k,?_⟩
     have:y≠x:=λe=>hj (qaC hN e1 (e▸hi))
     simp[this,e]
    ·exact .inr ⟨k,c,e,z.sameBut hs (cne y c e)⟩
  ·obtain⟨w',z⟩:=I.cell y c e;exact⟨w',z.sameBut hs (cne y c e)⟩
  ·obtain⟨e,n,ne,nf,d⟩:=I.pin p hp;exact⟨(hs.2 p.1 ne).trans e,n,ne,nf,d⟩
 ·have hfn:X.fn x=true:=by
   rcases hf with z | z
   ·exact z
   ·rw[z] at hk;cases hk
  obtain⟨c,hc⟩:=I.ok.has x (.inl hk);obtain⟨w',z⟩:=I.cell x c hc;refine wpAny_storeName_cell I.ok.kind hk hc z (λh' hc' hs=>?_);obtain⟨oc,hoc,hocd⟩:=id z;refine h { s with heap:=h' } ⟨I.ok,I.os,I.bare,⟨λb o e n hb hx=>?_,λb o e n hb hx=>?_,I.base.free,λb o e hx=>?_,I.base.tups,I.base.frzs,I.base.tbls⟩,⟨m,hn.sameBut hs (Ne.symm (cne x c hc)),λj y v' e1 e2 e3=>?_⟩,λy c' e=>?_,I.free,I.freeC,λp hp=>?_,tracked ⟨oc,hoc,I.freeC x c hc⟩ hs,by simpa using I.len⟩ ⟨c,hs,.inr hc⟩
  ·exact(hs.2 b (Nat.ne_of_lt (Nat.lt_of_lt_of_le (Heap.lt_size e) (I.ok.cab x c hfn hc)))).trans (I.base.keep b o e n hb hx)
  ·obtain⟨sl,e1⟩:=I.base.slot b o e n hb hx;exact⟨sl,(hs.2 b (Nat.ne_of_lt (Nat.lt_of_lt_of_le (Heap.lt_size e) (I.ok.cab x c hfn hc)))).trans e1⟩
  ·obtain⟨o',e1⟩:=I.base.there b o e hx;exact⟨o',(hs.2 b (Nat.ne_of_lt (Nat.lt_of_lt_of_le (Heap.lt_size e) (I.ok.cab x c hfn hc)))).trans e1⟩
  ·by_cases hj:j=i
   ·subst hj;rw[hi] at e1;cases e1;rw[List.getElem?_set_self hiσ] at e2;cases e2;exact⟨u,r,.inr ⟨.inl hk,c,hc,hc'⟩⟩
   ·rw[List.getElem?_set_ne (Ne.symm hj)] at e2;obtain⟨u',r',q⟩:=hl j y v' e1 e2 e3;refine⟨u',r',?_⟩;rcases q with q | ⟨k,c',e,z'⟩
    ·exact .inl q
    ·refine .inr ⟨k,c',e,z'.sameBut hs ?_⟩;rintro rfl;exact hj (qaC hN e1 (I.ok.inj _ _ _ e hc▸hi))
  ·by_cases hcc:c'=c
   ·subst hcc;exact⟨_,hc'⟩
   ·obtain⟨w2,z2⟩:=I.cell y c' e;exact⟨w2,z2.sameBut hs hcc⟩
  ·obtain⟨e,n,ne,nf,d⟩:=I.pin p hp;refine⟨(hs.2 p.1 ?_).trans e,n,ne,nf,d⟩;intro q;rw[q,hoc] at e;have q':oc=p.2:=Option.some.inj e;exact d w' (by rw[<-q'];exact hocd)
theorem qaD{M:Model}{A:Around}{E:PQ}{i:Nat}{x:Str}{v:V}{u:Value}{Q:Unit->Shared->Prop}(I:Inv X pins σ H s)(hN:X.N.Nodup)(hi:X.N[i]?=some x)(hx:Loc X.env.scope x)(r:qK v u)
  (h:∀s',Inv X pins (σ.set i (some v)) H s'->Q () s') (hf:X.fn x=true\/X.env.scope.names.lookup x=some .local:=by first | exact .inl rfl | exact .inr rfl | assumption):wpAny M A (storeName X.env x u) Q E s:=
 QS I hN hi hx r (λs' I' _=>h s' I') hf
theorem Inv.call'{s':Shared}{ch:List Addr}(I:Inv X pins σ H s)(ho:s'.os=s.os)(u:Un (frs X.stack) ch H H' s.heap s'.heap)(hok:HOk X.prog X.w H' s'.heap)(hg:AllBare s'.gens)
  (hch:∀b∈ch,(b∈X.ex\/X.s₀.heap.objs.size<=b)/\b≠X.env.locals/\(∀x c,X.env.cells.lookup x=some c->c≠b)/\∀p∈X.pn++pins,p.1≠b):Inv X pins σ H' s':=by
 obtain⟨h',g',d',t',o'⟩:=s';have e:o'=s.os:=ho;subst e;exact I.call (g':=g') (t':=t') (d':=d') u hok hg hch
end
abbrev XK:=Value->Option Addr->Hp->Prop
abbrev St:=List (Option V)
abbrev VK:=V->Hp->Prop
abbrev TE:=St->Hp->VK->Prop
abbrev TT:=St->Hp->(Bool->Hp->Prop)->Prop
abbrev TA:=St->Hp->(List V->Hp->Prop)->Prop
structure Ends where
 nx:St->Hp->Prop
 rt:VK
 bk:St->Hp->Prop:=λ_ _=>False
 ct:St->Hp->Prop:=λ_ _=>False
abbrev TS:=Ends->St->Hp->Prop
noncomputable def EP(X:Cx)(pins:PP)(σ:St)(Q:VK)(u:Value)(s':Shared):Prop:=∃v H',Inv X pins σ H' s'/\qK v u/\Q v H'
noncomputable def TP(X:Cx)(pins:PP)(σ:St)(Q:Bool->Hp->Prop)(b:Bool)(s':Shared):Prop:=∃H',Inv X pins σ H' s'/\Q b H'
noncomputable def AP(X:Cx)(pins:PP)(σ:St)(Q:List V->Hp->Prop)(us:List Value)(s':Shared):Prop:=∃vs H',Inv X pins σ H' s'/\qz vs us/\Q vs H'
noncomputable def SP(X:Cx)(pins:PP)(D:Ends)(f:Flow)(s':Shared):Prop:=
 match f with
 |.next=>∃σ' H',Inv X pins σ' H' s'/\D.nx σ' H'
 |.brk=>∃σ' H',Inv X pins σ' H' s'/\D.bk σ' H'
 |.cont=>∃σ' H',Inv X pins σ' H' s'/\D.ct σ' H'
 |.ret u=>∃v σ' H',Inv X pins σ' H' s'/\qK v u/\D.rt v H'
noncomputable def PE(X:Cx)(e:Expr)(t:TE):Prop:=
 ∀(pins:PP) (s:Shared) (σ:St) (H:Hp) (Q:VK),Inv X pins σ H s->t σ H Q->wpAny (model X.prog X.w) X.A (eval e X.env) (EP X pins σ Q) X.xe s
noncomputable def PT(X:Cx)(e:Expr)(t:TT):Prop:=
 ∀(pins:PP) (s:Shared) (σ:St) (H:Hp) (Q:Bool->Hp->Prop),Inv X pins σ H s->t σ H Q->wpAny (model X.prog X.w) X.A (isTrue e X.env (eval e X.env)) (TP X pins σ Q) X.xe s
noncomputable def PW(X:Cx)(e:Expr)(t:TT):Prop:=
 ∀(whole:Sem Value) (pins:PP) (s:Shared) (σ:St) (H:Hp) (Q:Bool->Hp->Prop),Inv X pins σ H s->t σ H Q->wpAny (model X.prog X.w) X.A (isTrue e X.env whole) (TP X pins σ Q) X.xe s
theorem PW.pt{X:Cx}{e:Expr}{t:TT}(h:PW X e t):PT X e t:=h _
noncomputable def PA(X:Cx)(es:List Expr)(t:TA):Prop:=
 ∀(pos:Pos) (pins:PP) (s:Shared) (σ:St) (H:Hp) (Q:List V->Hp->Prop),Inv X pins σ H s->t σ H Q->wpAny (model X.prog X.w) X.A (spliced (backTo pos (starEach es X.env))) (AP X pins σ Q) X.xe s
noncomputable def PS(X:Cx)(st:Stmt)(t:TS):Prop:=
 ∀(pins:PP) (s:Shared) (σ:St) (H:Hp) (D:Ends),Inv X pins σ H s->t D σ H->wpAny (model X.prog X.w) X.A (exec st X.env) (SP X pins D) X.xe s
noncomputable def PSs(X:Cx)(st:List Stmt)(t:TS):Prop:=
 ∀(pins:PP) (s:Shared) (σ:St) (H:Hp) (D:Ends),Inv X pins σ H s->t D σ H->wpAny (model X.prog X.w) X.A (execs st X.env) (SP X pins D) X.xe s
theorem thn{α:Type}{t:Sem α}{Q Q':α->Shared->Prop}{M:Model}{A:Around}{E:PQ}{s:Shared}(h:wpAny M A t Q E s)(hQ:∀a s,Q a s->Q' a s):wpAny M A t Q' E s:=wpAny_mono h hQ λ_ _ x=>x
end L2
namespace L2
open PySem PySem.Spec PyProof.Rows
section
variable{X:Cx}
theorem bin{a b:Expr}{ta tb:TE}(ha:PE X a ta)(hb:PE X b tb){pins:PP}{s:Shared}{σ:St}{H:Hp}{R:V->V->Hp->Prop}(I:Inv X pins σ H s)(h:ta σ H λx H1=>tb σ H1 λy H2=>R x y H2)
  {α:Type} {Q:α->Shared->Prop} {f:Value->Value->Sem α}
  (hf:∀v u s2 x y H2,Inv X pins σ H2 s2->qK x v->qK y u->R x y H2->wpAny (model X.prog X.w) X.A (f v u) Q X.xe s2) :
  wpAny (model X.prog X.w) X.A (eval a X.env) (λv s₁=>wpAny (model X.prog X.w) X.A (eval b X.env) (λu s₂=>wpAny (model X.prog X.w) X.A (f v u) Q X.xe s₂) X.xe s₁) X.xe s:=by
 refine thn (ha pins s σ H _ I h) λv s1 hq1=>?_;obtain⟨x,H1,I1,r1,q1⟩:=hq1;refine thn (hb pins s1 σ H1 _ I1 q1) λu s2 hq1=>?_;obtain⟨y,H2,I2,r2,q2⟩:=hq1;exact hf v u s2 x y H2 I2 r1 r2 q2
def qko(i:Nat):TE:=λσ H Q=>∃v,σ[i]?=some (some v)/\Q v H
def tC(v:V):TE:=λ_ H Q=>Q v H
theorem qb6{i:Nat}{x:Str}{pos:Pos}(hN:X.N[i]?=some x)(hv:Vis X.env.scope x)(hd:(x == ("__debug__" : Str))=false:=by decide)(hcd:(x == ("__classdict__" : Str))=false:=by decide):PE X (.Name x pos) (qko i):=by
 intro pins s σ H Q I h;obtain⟨v,e,h⟩:=h;obtain⟨m,hn,hl⟩:=I.loc;obtain⟨u,r,l⟩:=hl i x v hN e hv;have fin:EP X pins σ Q u s:=⟨v,H,I,r,h⟩;rcases l with ⟨hk,hm⟩ | ⟨hk,c,hc,hcell⟩
 ·exact wpAny_Name (wpAny_loadName_local I.ok.kind hk hn hm fin) hd
 ·rcases hk with hk | hk
  ·exact wpAny_Name (wpAny_loadName_cell I.ok.kind hk hc hcell fin) hd
  ·exact wpAny_Name (wpAny_loadName_free I.ok.kind hk hc hcell fin hcd) hd
theorem QT{i j pos}:PE X (.Constant (.int i) j pos) (tC (.int i)):=λ_ _ _ H _ I h=>wpAny_Constant_int ⟨.int i,H,I.tok _,⟨_,rfl⟩,h⟩
theorem qkz{b j pos}:PE X (.Constant (.bool b) j pos) (tC (.bl b)):=λ_ _ _ H _ I h=>Constant_bool ⟨.bl b,H,I,rfl,h⟩
theorem qhV{j pos}:PE X (.Constant .none j pos) (tC .non):=λ_ _ _ H _ I h=>Constant_none ⟨.non,H,I,rfl,h⟩
theorem qhW{x j pos}:PE X (.Constant (.str x) j pos) (tC (.str x)):=λ_ _ _ H _ I h=>Calls.Constant_str ⟨.str x,H,I.tok _,⟨_,rfl⟩,h⟩
def Gl(X:Cx)(x:Str):Prop:=X.env.kindOf x=some .globalImplicit
theorem yZ{E:PQ}{pins:PP}{s:Shared}{σ:St}{H:Hp}{x:Str}{u:Value}{pos:Pos}{Q:PQ}(I:Inv X pins σ H s)(hg:Gl X x)(hm:X.mg x=some u)(h:Q u s)
  (hd:(x == ("__debug__" : Str))=false:=by decide):wpAny (model X.prog X.w) X.A (eval (.Name x pos) X.env) Q E s:=
 Calls.Name_function_global I.ok.kind hg (Calls.loadGlobal_global (by rw[I.ok.glob];exact I.mod.glob.keeps I.bk) hm h) hd
theorem Jf{E:PQ}{pins:PP}{s:Shared}{σ:St}{H:Hp}{x:Str}{u:Value}{pos:Pos}{Q:PQ}(I:Inv X pins σ H s)(hg:Gl X x)(hm:X.mg x=none)(hv:bootBuiltins x=some u)(h:Q u s)
  (hn:x≠"__name__":=by decide) (hd:(x == ("__debug__" : Str))=false:=by decide):wpAny (model X.prog X.w) X.A (eval (.Name x pos) X.env) Q E s:=by
 obtain⟨mb,h1,h2⟩:=I.mod.blt;exact Calls.Name_function_global I.ok.kind hg (Calls.loadGlobal_builtin (by rw[I.ok.glob];exact I.mod.glob.keeps I.bk) hm (by rw[I.ok.blt];exact h1.keeps I.bk) ((h2 x hn).trans hv) h) hd
theorem JH{x:Str}{v:V}{u:Value}{pos:Pos}(hg:Gl X x)(hm:X.mg x=some u)(r:qK v u)(hd:(x == ("__debug__" : Str))=false:=by decide):PE X (.Name x pos) (tC v):=
 λ_ _ _ H _ I h=>yZ I hg hm ⟨v,H,I,r,h⟩ hd
theorem JI{x:Str}{v:V}{u:Value}{pos:Pos}(hg:Gl X x)(hm:X.mg x=none)(hv:bootBuiltins x=some u)(r:qK v u)(hn:x≠"__name__":=by decide)(hd:(x == ("__debug__" : Str))=false:=by decide):PE X (.Name x pos) (tC v):=
 λ_ _ _ H _ I h=>Jf I hg hm hv ⟨v,H,I,r,h⟩ hn hd
variable{a b:Expr}{ta tb:TE}{pos:Pos}
def tB(t:TE):TT:=λσ H Q=>t σ H λx H1=>∃c,x=.bl c/\Q c H1
theorem QU{e:Expr}{t:TE}(h:PE X e t)(he:∀whole,isTrue e X.env whole=(do let v<-whole;standAt e.pos;holding [v] (truthy v)):=by intro _;rfl):PT X e (tB t):=by intro pins s σ H Q I hw;refine isTrue_plain (thn (h pins s σ H _ I hw) λv s1 ⟨x,H1,I1,r1,q1⟩=>?_) (he _);obtain⟨d,rfl,q⟩:=q1;cases r1;exact wpAny_truthy_bool ⟨H1,I1,q⟩
variable{tA tB':TT}{rest:List Expr}
def ql4(t:TT):TT:=λσ H Q=>t σ H λc H1=>Q (!c) H1
theorem qfW(ha:PT X a tA):PW X (.BoolOp .And [a] pos) tA:=by
 intro wh pins s σ H Q I h;refine isTrue_and (thn (ha pins s σ H Q I h) λc s1 e=>?_)
 cases c with
 |true=>exact isTrue_and_nil e
 |false=>exact e
theorem qhX(ha:PT X a tA):PW X (.BoolOp .Or [a] pos) tA:=by
 intro wh pins s σ H Q I h;refine isTrue_or (thn (ha pins s σ H Q I h) λc s1 e=>?_)
 cases c with
 |false=>exact isTrue_or_nil e
 |true=>exact e
theorem YB(ha:PT X a tA):PT X (.UnaryOp .Not a pos) (ql4 tA):=by intro pins s σ H Q I h;exact isTrue_not (ha pins s σ H (λc H1=>Q (!c) H1) I h)
noncomputable def qkA(ta tb:TE):TE:=λσ H Q=>ta σ H λx H1=>∃c,x=.bl c/\if c=true then tb σ H1 Q else Q (.bl false) H1
def qkB(ta:TE):TE:=λσ H Q=>ta σ H λx H1=>∃c,x=.bl c/\Q (.bl (!c)) H1
theorem qhY{op}{t:TE}(h:PE X a t):PE X (.BoolOp op [a] pos) t:=λpins s σ H Q I hw=>BoolOp_one (h pins s σ H Q I hw)
theorem qhZ(ha:PE X a ta)(hb:PE X (.BoolOp .And (b::rest) pos) tb):PE X (.BoolOp .And (a::b::rest) pos) (qkA ta tb):=by
 intro pins s σ H Q I h;refine BoolOp_and (thn (ha pins s σ H _ I h) λv s1 hq1=>?_);obtain⟨x,H1,I1,r1,q1⟩:=hq1;obtain⟨c,rfl,q1⟩:=q1;cases r1;refine wpAny_truthy_bool ?_
 cases c with
 |true=>exact hb pins s1 σ H1 Q I1 q1
 |false=>exact⟨.bl false,H1,I1,rfl,q1⟩
theorem qh0(ha:PE X a ta):PE X (.UnaryOp .Not a pos) (qkB ta):=by intro pins s σ H Q I h;refine UnaryOp_ (thn (ha pins s σ H _ I h) λv s1 hq1=>?_);obtain⟨x,H1,I1,r1,q1⟩:=hq1;obtain⟨c,rfl,q1⟩:=q1;cases r1;exact not_of (wpAny_truthy_bool ⟨.bl (!c),H1,I1,rfl,q1⟩)
def tIf(t:TT)(ta tb:TE):TE:=λσ H Q=>t σ H λc H1=>if c=true then ta σ H1 Q else tb σ H1 Q
theorem qdT{c:Expr}(hc:PT X c tA)(ha:PE X a ta)(hb:PE X b tb):PE X (.IfExp c a b pos) (tIf tA ta tb):=by
 intro pins s σ H Q I h;refine wpAny_IfExp (thn (hc pins s σ H _ I h) λd s1 hq1=>?_);obtain⟨H1,I1,q1⟩:=hq1
 cases d with
 |true=>exact ha pins s1 σ H1 Q I1 q1
 |false=>exact hb pins s1 σ H1 Q I1 q1
end
end L2
namespace L2
open PySem PySem.Spec PyProof.Rows
noncomputable def SqL(K:Frag)(H:Hp)(a:Addr)(xs:List V):Prop:=
 Rd H a (.lst xs)\/
  ∃(o:Obj) (its:Array Value) (n:Nat),K.lookup a=some o/\o.cls=.type "list"/\o.dict=none/\o.data=.seq its n/\its.size<=sizeLine/\qz xs its.toList
noncomputable def SqT(K:Frag)(H:Hp)(a:Addr)(xs:List V):Prop:=
 Rd H a (.tup xs)\/
  ∃(o:Obj) (its:Array Value) (n:Nat),K.lookup a=some o/\o.cls=.type "tuple"/\o.data=.seq its n/\its.size<=sizeLine/\qz xs its.toList
noncomputable def ql5:Value->Option V
 |.none=>some .non
 |.bool b=>some (.bl b)
 |.int i _=>some (.int i)
 |.str x _=>some (.str x)
 |.bytes b _=>some (.byt b)
 |.float b _=>some (.flt b)
 |.ref a=>some (.ref a)
 |.type n=>some (.ty n)
 |_=>none
theorem qK.abs{x:V}{u:Value}(r:qK x u):ql5 u=some x:=by
 cases x with
 |non=>cases r;rfl
 |bl _=>cases r;rfl
 |int _=>obtain⟨t,rfl⟩:=r;rfl
 |str _=>obtain⟨t,rfl⟩:=r;rfl
 |byt _=>obtain⟨t,rfl⟩:=r;rfl
 |flt _=>obtain⟨t,rfl⟩:=r;rfl
 |ref _=>cases r;rfl
 |ty _=>cases r;rfl
theorem qK.inj{x y:V}{u:Value}(r:qK x u)(q:qK y u):x=y:=Option.some.inj (r.abs.symm.trans q.abs)
theorem qz.inj:∀{xs ys:List V} {us:List Value},qz xs us->qz ys us->xs=ys
 |_,_,_,.nil,.nil=>rfl
 | _,_,_,.cons r t,.cons r' t'=>by rw[r.inj r',qz.inj t t']
section
variable{X:Cx}{pins:PP}{σ:St}{H:Hp}{s:Shared}{a:Addr}{xs ys:List V}
theorem SqL.of{K:Frag}(h:H a=some (.lst xs)):SqL K H a xs:=.inl (.inl h)
theorem SqT.of{K:Frag}(h:H a=some (.tup xs)):SqT K H a xs:=.inl (.inl h)
theorem Inv.list(I:Inv X pins σ H s)(h:SqL X.K H a xs):∃its:List Value,qz xs its/\PlainL s.heap a its.toArray/\xs.length<=sizeLine:=by
 rcases h with h | ⟨o,its,n,hk,hc,hd,hs,hz,r⟩
 ·obtain⟨z,its,n,r,e⟩:=h.ok I.hok;exact⟨its,r,⟨_,n,e,rfl,rfl,rfl⟩,z⟩
 ·refine⟨its.toList,r,⟨o,n,I.kIn a o hk,hc,hd,by simpa using hs⟩,?_⟩;have e:=r.length;simp only[Array.length_toList] at e;omega
theorem Inv.tuple(I:Inv X pins σ H s)(h:SqT X.K H a xs):∃its:List Value,qz xs its/\IsTup s.heap a its.toArray/\xs.length<=sizeLine:=by
 rcases h with h | ⟨o,its,n,hk,hc,hs,hz,r⟩
 ·obtain⟨z,its,r,p⟩:=h.ok I.hok;exact⟨its,r,p,z⟩
 ·refine⟨its.toList,r,⟨o,I.kIn a o hk,hc,n,by simpa using hs⟩,?_⟩;have e:=r.length;simp only[Array.length_toList] at e;omega
theorem Inv.list_inj(I:Inv X pins σ H s)(h:SqL X.K H a xs)(h':SqL X.K H a ys):xs=ys:=by
 obtain⟨its,r,⟨o,n,e,_,_,d⟩,_⟩:=I.list h;obtain⟨its',r',⟨o',n',e',_,_,d'⟩,_⟩:=I.list h';rw[e] at e';cases e';rw[d] at d';injection d' with d1 _
 have:its=its':=by simpa using congrArg Array.toList d1
 subst this;exact r.inj r'
theorem Inv.tuple_inj(I:Inv X pins σ H s)(h:SqT X.K H a xs)(h':SqT X.K H a ys):xs=ys:=by
 obtain⟨its,r,⟨o,e,_,n,d⟩,_⟩:=I.tuple h;obtain⟨its',r',⟨o',e',_,n',d'⟩,_⟩:=I.tuple h';rw[e] at e';cases e';rw[d] at d';injection d' with d1 _
 have:its=its':=by simpa using congrArg Array.toList d1
 subst this;exact r.inj r'
end
abbrev Cx.wish(X:Cx)(E:PQ):Cx:={ X with xe:=E }
abbrev Cx.nox(X:Cx):Cx:=X.wish λ_ _=>False
theorem Cx.Ok.wish{X:Cx}(ok:X.Ok)(E:PQ):(X.wish E).Ok:=
 ⟨ok.mod,ok.kind,ok.glob,ok.blt,ok.above,ok.inj,ok.has,ok.cab,ok.hd,ok.frames,ok.stk,ok.exf,ok.bs,ok.bsz,ok.noex,ok.exfs,ok.funs,ok.frf⟩
theorem Cx.Ok.unwish{X:Cx}{E:PQ}(ok:(X.wish E).Ok):X.Ok:=
 ⟨ok.mod,ok.kind,ok.glob,ok.blt,ok.above,ok.inj,ok.has,ok.cab,ok.hd,ok.frames,ok.stk,ok.exf,ok.bs,ok.bsz,ok.noex,ok.exfs,ok.funs,ok.frf⟩
section
variable{X:Cx}{pins:PP}{σ:St}{H:Hp}{s:Shared}{E:PQ}
theorem Inv.wish(I:Inv X pins σ H s)(E:PQ):Inv (X.wish E) pins σ H s:=⟨I.ok.wish E,I.os,I.bare,I.base,I.loc,I.cell,I.free,I.freeC,I.pin,I.hok,I.len⟩
theorem Inv.unwish(I:Inv (X.wish E) pins σ H s):Inv X pins σ H s:=⟨I.ok.unwish,I.os,I.bare,I.base,I.loc,I.cell,I.free,I.freeC,I.pin,I.hok,I.len⟩
theorem SP.unwish{D:Ends}{f:Flow}{s':Shared}(h:SP (X.wish E) pins D f s'):SP X pins D f s':=by
 cases f with
 |next=>obtain⟨σ',H',I,q⟩:=h;exact⟨σ',H',I.unwish,q⟩
 |brk=>obtain⟨σ',H',I,q⟩:=h;exact⟨σ',H',I.unwish,q⟩
 |cont=>obtain⟨σ',H',I,q⟩:=h;exact⟨σ',H',I.unwish,q⟩
 |ret u=>obtain⟨v,σ',H',I,r,q⟩:=h;exact⟨v,σ',H',I.unwish,r,q⟩
theorem PSs.nox{st:List Stmt}{t:TS}(h:PSs X.nox st t):PSs X st t:=λpins s σ H D I hw=>wpAny_mono (h pins s σ H D (I.wish _) hw) (λ_ _ q=>q.unwish) λ_ _ z=>False.elim z
end
section
variable{X:Cx}{st:Stmt}{rest:List Stmt}{t u:TS}{e:Expr}{te:TE}{pos:Pos}
def qh1:TS:=λD σ H=>D.nx σ H
def ql6(t u:TS):TS:=λD σ H=>t { D with nx:=u D } σ H
theorem y0:PSs X [] qh1:=λ_ _ σ H _ I h=>wpAny_execs_nil ⟨σ,H,I,h⟩
theorem qL(h1:PS X st t)(h2:PSs X rest u):PSs X (st::rest) (ql6 t u):=by
 intro pins s σ H D I h;refine wpAny_execs_cons (thn (h1 pins s σ H { D with nx:=u D } I h) λf s1 q=>?_)
 cases f with
 |next=>obtain⟨σ',H',I',q⟩:=q;exact h2 pins s1 σ' H' D I' q
 |ret v=>exact q
 |brk=>exact q
 |cont=>exact q
theorem zQ(h1:PS X st t):PSs X [st] t:=by
 intro pins s σ H D I h;refine wpAny_execs_cons (thn (h1 pins s σ H D I h) λf s1 q=>?_)
 cases f with
 |next=>exact wpAny_execs_nil q
 |ret v=>exact q
 |brk=>exact q
 |cont=>exact q
theorem qfX:PS X (.Pass pos) qh1:=λ_ _ σ H _ I h=>wpAny_Pass ⟨σ,H,I,h⟩
theorem Inv.quiet{pins:PP}{σ:St}{H:Hp}{s:Shared}(I:Inv X pins σ H s):interactive X.env=false:=by simp[interactive,I.ok.kind]
def qkC(te:TE):TS:=λD σ H=>te σ H λ_ H1=>D.nx σ H1
theorem yj(he:PE X e te)(hs:swapsWith e none pos.line X.env=pure false:=by rfl):PS X (.Expr e pos) (qkC te):=by intro pins s σ H D I h;exact wpAny_Expr_any (thn (he pins s σ H _ I h) λv s1 ⟨x,H1,I1,r1,q1⟩=>⟨σ,H1,I1,q1⟩) I.quiet hs
def ql7(te:TE):TS:=λD σ H=>te σ H D.rt
theorem qb7(he:PE X e te):PS X (.Return (some e) pos) (ql7 te):=by intro pins s σ H D I h;exact wpAny_Return_some (thn (he pins s σ H _ I h) λv s1 ⟨x,H1,I1,r1,q1⟩=>⟨x,σ,H1,I1,r1,q1⟩)
def qkD:TS:=λD _ H=>D.rt .non H
theorem qfY:PS X (.Return none pos) qkD:=λ_ _ σ H _ I h=>wpAny_Return_none ⟨.non,σ,H,I,rfl,h⟩
def ql8(c:TT)(t u:TS):TS:=λD σ H=>c σ H λb H1=>if b=true then t D σ H1 else u D σ H1
theorem qbn{c:Expr}{a b:List Stmt}{tc:TT}(hc:PT X c tc)(ha:PSs X a t)(hb:PSs X b u):PS X (.If c a b pos) (ql8 tc t u):=by
 intro pins s σ H D I h;refine wpAny_If (thn (hc pins s σ H _ I h) λd s1 hq1=>?_);obtain⟨H1,I1,q1⟩:=hq1
 cases d with
 |true=>exact ha pins s1 σ H1 D I1 q1
 |false=>exact hb pins s1 σ H1 D I1 q1
def qh2:TS:=λ_ _ _=>False
theorem yy:PS X st qh2:=λ_ _ _ _ _ _ h=>h.elim
end
abbrev TG:=V->St->Hp->(St->Hp->Prop)->Prop
abbrev TGs:=List V->St->Hp->(St->Hp->Prop)->Prop
noncomputable def PG(X:Cx)(target:Expr)(t:TG):Prop:=
 ∀(pins:PP) (s:Shared) (σ:St) (H:Hp) (v:V) (u:Value) (Q:St->Hp->Prop),Inv X pins σ H s->qK v u->t v σ H Q->
  wpAny (model X.prog X.w) X.A (assign target X.env u) (λ_ s'=>∃σ' H',Inv X pins σ' H' s'/\Q σ' H') X.xe s
noncomputable def PGs(X:Cx)(ts:List Expr)(t:TGs):Prop:=
 ∀(pins:PP) (s:Shared) (σ:St) (H:Hp) (vs:List V) (us:List Value) (Q:St->Hp->Prop),Inv X pins σ H s->qz vs us->t vs σ H Q->
  wpAny (model X.prog X.w) X.A (assignInOrder ((assignEach ts X.env).map (·.2)) us) (λ_ s'=>∃σ' H',Inv X pins σ' H' s'/\Q σ' H') X.xe s
abbrev qkE:=V->V->V->Hp->(Hp->Prop)->Prop
noncomputable def qlA(X:Cx)(t:qkE):Prop:=
 ∀(pins:PP) (s:Shared) (σ:St) (H:Hp) (o i v:V) (ov iv u:Value) (Q:Hp->Prop),Inv X pins σ H s->qK o ov->qK i iv->qK v u->t o i v H Q->
  wpAny (model X.prog X.w) X.A (setItem ov iv u) (λ_ s'=>∃H',Inv X pins σ H' s'/\Q H') X.xe s
section
variable{X:Cx}{pos:Pos}
def qdU(i:Nat):TG:=λv σ H Q=>Q (σ.set i (some v)) H
theorem qfZ{i:Nat}{x:Str}(hN:X.N.Nodup)(hi:X.N[i]?=some x)(hx:Loc X.env.scope x)(hf:X.fn x=true\/X.env.scope.names.lookup x=some .local:=by first | exact .inl rfl | exact .inr rfl | assumption):PG X (.Name x pos) (qdU i):=by intro pins s σ H v u Q I r h;exact wpAny_assign_Name (qaD I hN hi hx r (λs' I'=>⟨_,H,I',h⟩) hf)
def ql9:TGs:=λvs σ H Q=>vs=[]/\Q σ H
def qkF(t:TG)(u:TGs):TGs:=λvs σ H Q=>∃v r,vs=v::r/\t v σ H λσ' H'=>u r σ' H' Q
theorem qf0:PGs X [] ql9:=by intro pins s σ H vs us Q I r h;obtain⟨e,h⟩:=h;subst e;cases r;exact assignInOrder_nil ⟨σ,H,I,h⟩
theorem qdV{e:Expr}{es:List Expr}{t:TG}{u:TGs}(h1:PG X e t)(h2:PGs X es u)
  (hs:(assignEach (e::es) X.env).map (·.2)=assign e X.env::(assignEach es X.env).map (·.2):=by rfl):PGs X (e::es) (qkF t u):=by
 intro pins s σ H vs us Q I r h;obtain⟨v,vr,e1,h⟩:=h;subst e1
 cases r with
 |cons r rr=>rw[hs];refine assignInOrder_cons (thn (h1 pins s σ H _ _ _ I r h) λ_ s1 hq1=>?_);obtain⟨σ1,H1,I1,q1⟩:=hq1;exact h2 pins s1 σ1 H1 _ _ Q I1 rr q1
noncomputable def qma(K:Frag)(n:Nat)(t:TGs):TG:=λv σ H Q=>∃a xs,v=.ref a/\SqT K H a xs/\xs.length=n/\t xs σ H Q
theorem qh3{es:List Expr}{k:Nat}{t:TGs}{n:Nat}(hc:X.calm=true)(h:PGs X es t)
  (hn:(assignEach es X.env).length=n:=by rfl) (hst:(assignEach es X.env).findIdx? (·.1)=none:=by rfl):PG X (.Tuple es k pos) (qma X.K n t):=by
 intro pins s σ H v u Q I r hw;obtain⟨a,xs,e1,hq,hl,hw⟩:=hw;subst e1;cases r;obtain⟨its,rv,ht,hz⟩:=I.tuple hq;refine assign_Tuple_tuple (I.ok.hd hc) ht (by simp[hn,<-hl,rv.length]) hst λh' hx=>?_;have I1:Inv X pins σ H { s with heap:=h' }:=I.kept (t':=s.toks) λb o e=>hx b o (Nat.ne_of_lt (Heap.lt_size e)) e;exact h pins _ σ H xs _ Q I1 (by simpa using rv) hw
noncomputable def qmb(to ti:TE)(t:qkE):TG:=λv σ H Q=>to σ H λo H1=>ti σ H1 λi H2=>t o i v H2 λH3=>Q σ H3
theorem qh4{o i:Expr}{to ti:TE}{t:qkE}(ho:PE X o to)(hi:PE X i ti)(hs:qlA X t)
  (ha:∀v,assign (.Subscript o i pos) X.env v=(do
   let ov<-holding [v] (eval o X.env)
   let iv<-holding [v,ov] (eval i X.env)
   standAt pos
   holding [v,ov,iv] (setItem ov iv v)
   release [v,ov,iv] []):=by intro _;rfl):PG X (.Subscript o i pos) (qmb to ti t):=by
 intro pins s σ H v u Q I r h;rw[ha];refine wpAny_bind (wpAny_holding (thn (ho pins s σ H _ I h) λov s1 hq1=>?_));obtain⟨x,H1,I1,r1,q1⟩:=hq1;refine wpAny_bind (wpAny_holding (thn (hi pins s1 σ H1 _ I1 q1) λiv s2 hq1=>?_));obtain⟨y,H2,I2,r2,q2⟩:=hq1;refine wpAny_bind (wpAny_standAt (wpAny_bind (wpAny_holding (thn (hs pins s2 σ H2 x y v ov iv u _ I2 r1 r2 r q2) λ_ s3 hq1=>?_))));obtain⟨H3,I3,q3⟩:=hq1;exact wpAny_release ⟨σ,H3,I3,q3⟩
def qkG(te:TE)(g:TG):TS:=λD σ H=>te σ H λx H1=>g x σ H1 D.nx
theorem qe8{tg e:Expr}{te:TE}{g:TG}(he:PE X e te)(hg:PG X tg g)(hs:swapsWithSole [tg] e pos.line X.env=pure false:=by rfl)(hw:swappedStores [tg] e X.env=pure none:=by rfl)
  (h1:(assignEach [tg] X.env).map (·.2)=[assign tg X.env]:=by rfl):PS X (.Assign [tg] e pos) (qkG te g):=by
 intro pins s σ H D I h;refine wpAny_Assign_stores (thn (he pins s σ H _ I h) λv s1 ⟨x,H1,I1,r1,q1⟩=>?_) hs hw;rw[h1];exact thn (hg pins s1 σ H1 x v _ I1 r1 q1) λ_ s2 q=>q
theorem qe9{i:Nat}{x:Str}{e:Expr}{te:TE}{pos':Pos}(hN:X.N.Nodup)(hi:X.N[i]?=some x)(hx:Loc X.env.scope x)(he:PE X e te)(hs:swapsWith e (some (.Name x pos')) pos.line X.env=pure false:=by rfl)(hf:X.fn x=true\/X.env.scope.names.lookup x=some .local:=by first | exact .inl rfl | exact .inr rfl | assumption) :
  PS X (.Assign [.Name x pos'] e pos) (qkG te (qdU i)):=by
 intro pins s σ H D I h;refine wpAny_Assign_Name (thn (he pins s σ H _ I h) λv s1 ⟨y,H1,I1,r1,q1⟩=>?_) hs;exact qaD I1 hN hi hx r1 (λs2 I2=>⟨_,H1,I2,q1⟩) hf
end
section
variable{X:Cx}{pos:Pos}
noncomputable def qh5(c:TT)(tb:TS):TS:=λD σ H=>∃W:Nat->St->Hp->Prop,(∃m,W m σ H)/\∀m σ H,W m σ H->
 c σ H λb H1=>if b=true then∃N:St->Hp->Prop,(∀σ' H',N σ' H'->∃m',m' < m/\W m' σ' H')/\tb { D with nx:=N,ct:=N,bk:=D.nx } σ H1 else D.nx σ H1
theorem qdW{c:Expr}{body:List Stmt}{tc:TT}{tb:TS}(hp:PassesOwn (model X.prog X.w) X.A X.env X.xe)(hc:PT X c tc)(hb:PSs X body tb):PS X (.While c body [] pos) (qh5 tc tb):=by
 intro pins s σ H D I h;obtain⟨W,⟨m0,w0⟩,turn⟩:=h;refine wpAny_While (codeAny_whileLoop (λn s'=>∃σ' H',Inv X pins σ' H' s'/\W n σ' H') ?_ m0 ⟨σ,H,I,w0⟩);rintro n s1 ⟨σ1,H1,I1,w1⟩;refine wpAny_passesOwn hp (thn (hc pins s1 σ1 H1 _ I1 (turn n σ1 H1 w1)) λb s2 hq1=>?_);obtain⟨H2,I2,q2⟩:=hq1
 cases b with
 |true=>
  obtain⟨N,hN,q2⟩:=q2;rw[if_pos rfl];refine wpAny_passesOwn hp (thn (hb pins s2 σ1 H2 _ I2 q2) λf s3 q3=>?_)
  cases f with
  |next=>obtain⟨σ3,H3,I3,n3⟩:=q3;obtain⟨m',hm,w3⟩:=hN σ3 H3 n3;exact⟨m',hm,σ3,H3,I3,w3⟩
  |cont=>obtain⟨σ3,H3,I3,n3⟩:=q3;obtain⟨m',hm,w3⟩:=hN σ3 H3 n3;exact⟨m',hm,σ3,H3,I3,w3⟩
  |brk=>exact q3
  |ret v=>exact q3
 |false=>rw[if_neg Bool.false_ne_true];exact wpAny_execs_nil ⟨σ1,H2,I2,q2⟩
end
structure It where
 go:Nat->Hp->Prop
 yld:Nat->Hp->V->Hp->Prop
 stop:Nat->Hp->Prop
noncomputable def qbo(X:Cx)(pins:PP)(H:Hp)(b:Addr):Prop:=
 H b=none/\b≠X.env.locals/\b∉X.fs/\(b∈X.ex\/X.s₀.heap.objs.size<=b)/\(∀x c,X.env.cells.lookup x=some c->c≠b)/\∀p∈X.pn++pins,p.1≠b
theorem Inv.fpOk{X:Cx}{pins:PP}{σ:St}{H H':Hp}{s:Shared}{b:Addr}(I:Inv X pins σ H s)(hb:s.heap.objs.size<=b)(hn:H' b=none):qbo X pins H' b:=by
 refine⟨hn,Nat.ne_of_gt (Nat.lt_of_lt_of_le I.lt hb),I.nofs hb,.inr (Nat.le_trans I.sz hb),λx c e z=>?_,λp hp z=>?_⟩
 ·obtain⟨v,q⟩:=I.cell x c e;exact absurd (Nat.lt_of_lt_of_le q.lt (by rw[z];exact hb)) (Nat.lt_irrefl _)
 ·exact absurd (Nat.lt_of_lt_of_le (Heap.lt_size (I.pin p hp).1) (by rw[z];exact hb)) (Nat.lt_irrefl _)
structure Turn(P:Program)(w:World)(K:Frag)(tg:Expr)(J:It)(fp:List Addr)(it:Addr)(tn:Nat->Heap->Prop):Prop where
 mem:it∈fp
 obj:∀i h,tn i h->∀b∈fp,∃o,h.get? b=some o/\∀v,o.data≠.cell v
 keep:∀i h h',tn i h->(∀b∈fp,∀o,h.get? b=some o->h'.get? b=some o)->tn i h'
 item:∀(X:Cx),X.prog=P->X.w=w->X.K=K->X.calm=true->∀(i:Nat) (pins:PP) (s:Shared) (σ:St) (H:Hp) (E:PQ),Inv X pins σ H s->(∀b∈fp,qbo X pins H b)->tn i s.heap->J.go i H->
  wpAny (model P w) X.A (pyNext (.ref it)) (λr s1=>∃u,r=some u/\
   wpAny (model P w) X.A (letOwnedTupleGo tg (.ref it) u) (λ_ s2=>∃x H',Inv X pins σ H' s2/\qK x u/\J.yld i H x H'/\tn (i+1) s2.heap/\∀b∈fp,H' b=none) E s1) E s
 done:∀(X:Cx),X.prog=P->X.w=w->X.K=K->X.calm=true->∀(i:Nat) (pins:PP) (s:Shared) (σ:St) (H:Hp) (E:PQ),Inv X pins σ H s->(∀b∈fp,qbo X pins H b)->tn i s.heap->J.stop i H->
  wpAny (model P w) X.A (pyNext (.ref it)) (λr s1=>r=none/\Inv X pins σ H s1) E s
 self:∀(A:Around) (i:Nat) (s:Shared) (Q:PQ) (E:PQ),tn i s.heap->Q (.ref it) s->wpAny (model P w) A (pyIter (.ref it)) Q E s
abbrev TI:=St->Hp->(It->Hp->Prop)->Prop
noncomputable def PIE(X:Cx)(pins:PP)(σ:St)(tg:Expr)(R:It->Hp->Prop)(itv:Value)(s2:Shared):Prop:=
 ∃(it:Addr) (fp:List Addr) (tn:Nat->Heap->Prop) (J:It) (H':Hp),itv=.ref it/\Inv X pins σ H' s2/\Turn X.prog X.w X.K tg J fp it tn/\tn 0 s2.heap/\(∀b∈fp,qbo X pins H' b)/\R J H'
noncomputable def PI(X:Cx)(tg iter:Expr)(wi:TI):Prop:=
 ∀(pins:PP) (s:Shared) (σ:St) (H:Hp) (R:It->Hp->Prop),Inv X pins σ H s->wi σ H R->
  wpAny (model X.prog X.w) X.A (eval iter X.env) (λv s1=>wpAny (model X.prog X.w) X.A (pyIter v) (PIE X pins σ tg R) X.xe s1) X.xe s
theorem qb8{M:Model}{A:Around}{E:PQ}{s:Shared}{tg:Expr}{it:Addr}{u:Value}{o:Obj}{n:String}{vs:Array Value}{Q:Unit->Shared->Prop}(ho:s.heap.get? it=some o)(hc:o.cls=.type n)(hd:o.data=.fields vs)
  (hn:["enumerate","zip","dict_itemiterator","dict_reverseitemiterator","odict_iterator","itertools.zip_longest","itertools.pairwise"].contains n=false) (hQ:Q () s):wpAny M A (letOwnedTupleGo tg (.ref it) u) Q E s:=by
 unfold letOwnedTupleGo
 cases tg<;>first
  | exact wpAny_pure hQ
  | (cases u<;>first
    | exact wpAny_pure hQ
    | (refine wpAny_bind (wpAny_load ho ?_)
       rw[hc,hd];show wpAny M A (if (["enumerate","zip","dict_itemiterator","dict_reverseitemiterator","odict_iterator","itertools.zip_longest","itertools.pairwise"].contains n&&vs[0]? == some (rawInt _))=true then _ else _) Q E s;rw[if_neg (by intro h;rw[hn,Bool.false_and] at h;cases h)];exact wpAny_pure hQ))
noncomputable def Itl(K:Frag)(a:Addr):It:=
 ⟨λi H=>∃xs x,SqL K H a xs/\xs[i]?=some x,λi H x H'=>H'=H/\∀xs,SqL K H a xs->xs[i]?=some x,λi H=>∃xs,SqL K H a xs/\xs.length<=i⟩
noncomputable def Itt(K:Frag)(a:Addr):It:=
 ⟨λi H=>∃xs x,SqT K H a xs/\xs[i]?=some x,λi H x H'=>H'=H/\∀xs,SqT K H a xs->xs[i]?=some x,λi H=>∃xs,SqT K H a xs/\xs.length<=i⟩
def Itr(lo:Int)(n:Nat):It:=⟨λi _=>i < n,λi H x H'=>H'=H/\x=.int (lo+i),λi _=>n<=i⟩
theorem qb9{P:Program}{w:World}{K:Frag}{tg:Expr}(a it:Addr):Turn P w K tg (Itl K a) [it] it (λi h=>h.IsListIter it a i) where
 mem:=by simp
 obj:=λi h st b hb=>by
  have e:b=it:=by simpa using hb
  subst e;obtain⟨o,e,c,d⟩:=st;exact⟨o,e,λv z=>by rw[d] at z;cases z⟩
 keep:=λi h h' st k=>st.at λo e=>k it (by simp) o e
 item:=by intro X hP hw hK hc i pins s σ H E I hf st hg;subst hP hw hK;obtain⟨xs,x,hq,hx⟩:=hg;obtain⟨its,rv,p,hz⟩:=I.list hq;obtain⟨u,hu,ru⟩:=rv.get hx;obtain⟨f0,f1,f2,f3,f4,f5⟩:=hf it (by simp);refine wpAny_pyNext_list_item st p.isList (x:=u) (by simpa using hu) λh' st' sb=>?_;have I1:Inv X pins σ H { s with heap:=h' }:=I.turned (t':=s.toks) (λb o hb e=>(sb.2 b hb).trans e) f0 f1 f3 f4 f5;obtain⟨o,e,c,d⟩:=id st';exact⟨u,rfl,qb8 (s:={ s with heap:=h' }) e c d (2:) ⟨x,H,I1,ru,⟨rfl,λys hy=>by rw[I.list_inj hy hq];exact hx⟩,st',λb hb=>(hf b hb).1⟩⟩
 done:=by intro X hP hw hK hc i pins s σ H E I hf st hg;subst hP hw hK;obtain⟨xs,hq,hx⟩:=hg;obtain⟨its,rv,p,hz⟩:=I.list hq;obtain⟨f0,f1,f2,f3,f4,f5⟩:=hf it (by simp);have hl:=rv.length;exact wpAny_pyNext_list_end (I.ok.hd hc) st p.isList (by simp;omega) λh' eb=>⟨rfl,I.turned (t':=s.toks) (λb o hb e=>eb b o hb e) f0 f1 f3 f4 f5⟩
 self:=λ_ _ _ _ _ st h=>wpAny_pyIter_listiter st h
theorem qbp{P:Program}{w:World}{K:Frag}{tg:Expr}(a it:Addr):Turn P w K tg (Itt K a) [it] it (λi h=>h.IsTupleIter it a i) where
 mem:=by simp
 obj:=λi h st b hb=>by
  have e:b=it:=by simpa using hb
  subst e;obtain⟨o,e,c,d⟩:=st;exact⟨o,e,λv z=>by rw[d] at z;cases z⟩
 keep:=λi h h' st k=>st.at λo e=>k it (by simp) o e
 item:=by intro X hP hw hK hc i pins s σ H E I hf st hg;subst hP hw hK;obtain⟨xs,x,hq,hx⟩:=hg;obtain⟨its,rv,p,hz⟩:=I.tuple hq;obtain⟨u,hu,ru⟩:=rv.get hx;obtain⟨f0,f1,f2,f3,f4,f5⟩:=hf it (by simp);refine wpAny_pyNext_tuple_item st (show s.heap.IsTuple a its.toArray from p) (x:=u) (by simpa using hu) λh' st' sb=>?_;have I1:Inv X pins σ H { s with heap:=h' }:=I.turned (t':=s.toks) (λb o hb e=>(sb.2 b hb).trans e) f0 f1 f3 f4 f5;obtain⟨o,e,c,d⟩:=id st';exact⟨u,rfl,qb8 (s:={ s with heap:=h' }) e c d (2:) ⟨x,H,I1,ru,⟨rfl,λys hy=>by rw[I.tuple_inj hy hq];exact hx⟩,st',λb hb=>(hf b hb).1⟩⟩
 done:=by intro X hP hw hK hc i pins s σ H E I hf st hg;subst hP hw hK;obtain⟨xs,hq,hx⟩:=hg;obtain⟨its,rv,p,hz⟩:=I.tuple hq;obtain⟨f0,f1,f2,f3,f4,f5⟩:=hf it (by simp);have hl:=rv.length;exact wpAny_pyNext_tuple_end (I.ok.hd hc) st (show s.heap.IsTuple a its.toArray from p) (by simp;omega) λh' eb=>⟨rfl,I.turned (t':=s.toks) (λb o hb e=>eb b o hb e) f0 f1 f3 f4 f5⟩
 self:=λ_ _ _ _ _ st h=>wpAny_pyIter_tupleiter st h
theorem qbq{P:Program}{w:World}{K:Frag}{tg:Expr}(it:Addr)(lo:Int)(n:Nat):Turn P w K tg (Itr lo n) [it] it (λi h=>IsRangeIter h it (lo+(i:Nat) * 1) ((n:Int) - (i:Nat)) 1) where
 mem:=by simp
 obj:=λi h st b hb=>by
  have e:b=it:=by simpa using hb
  subst e
  exact⟨_,st,λv z=>by have z':Data.fields _=Data.cell v:=z;cases z'⟩
 keep:=λi h h' st k=>k it (by simp) _ st
 item:=by intro X hP hw hK hc i pins s σ H E I hf st hg;subst hP hw hK;obtain⟨f0,f1,f2,f3,f4,f5⟩:=hf it (by simp);have W:=Walks.range (prog:=X.prog) (w:=X.w) (I.ok.hd hc) it lo 1 n;refine W.item i s _ _ hg st λv h' tk hv st' kk=>?_;obtain⟨t,rfl⟩:=hv;have I1:Inv X pins σ H { s with heap:=h',toks:=tk }:=I.turned (λb o hb e=>kk b o (by simpa using hb) e) f0 f1 f3 f4 f5;refine⟨_,rfl,qb8 (s:={ s with heap:=h',toks:=tk }) (n:="range_iterator") st' rfl rfl (2:) ⟨.int (lo+i),H,I1,⟨t,?_⟩,⟨rfl,rfl⟩,st',λb hb=>(hf b hb).1⟩⟩;rw[Int.mul_one]
 done:=by intro X hP hw hK hc i pins s σ H E I hf st hg;subst hP hw hK;obtain⟨f0,f1,f2,f3,f4,f5⟩:=hf it (by simp);exact wpAny_pyNext_range_end (I.ok.hd hc) st (by have:n<=i:=hg;omega) λh' eb=>⟨rfl,I.turned (t':=s.toks) (λb o hb e=>eb b o hb e) f0 f1 f3 f4 f5⟩
 self:=λ_ _ _ _ _ st h=>wpAny_pyIter_rangeiter st h
end L2
namespace L2
open PySem PySem.Spec PyProof.Rows
section
variable{X:Cx}{tg:Expr}
theorem qaE{pins:PP}{σ:St}{H:Hp}{s:Shared}{R:It->Hp->Prop}{E:PQ}{lo hi:Int}{t u v:Tok}{tk:Nat}(I:Inv X pins σ H s)(h1:-(2 ^ 62)<=lo)(h2:lo < 2 ^ 62)(h3:-(2 ^ 62)<=hi)(h4:hi < 2 ^ 62)
  (q:R (Itr lo (hi - lo).toNat) H):wpAny (model X.prog X.w) X.A (pyIter (.ref s.heap.objs.size)) (PIE X pins σ tg R) E { s with heap:=s.heap.push { cls:=.type "range",data:=.fields #[.int lo t,.int hi u,.int 1 v] },toks:=tk }:=by
 refine wpAny_pyIter_range (IsRange.new ..) (small_one h1 h2 h3 h4) ?_;have I1:Inv X pins σ H { s with heap:=s.heap.push { cls:=.type "range",data:=.fields #[.int lo t,.int hi u,.int 1 v] },toks:=tk }:=I.kept λb o e=>Heap.get?_push_of_some _ e
 refine⟨(s.heap.push { cls:=.type "range",data:=.fields #[.int lo t,.int hi u,.int 1 v] }).objs.size,[(s.heap.push { cls:=.type "range",data:=.fields #[.int lo t,.int hi u,.int 1 v] }).objs.size],_,_,H,rfl,
  I1.kept (t':=tk) λb o e=>Heap.get?_push_of_some _ e,qbq _ lo (hi - lo).toNat,?_,λb hb=>?_,q⟩
 ·have e1:lo+((0:Nat):Int) * 1=lo:=by simp
  have e2:(((hi - lo).toNat:Nat):Int) - ((0:Nat):Int)=Builtin.Range.rangeSize lo hi 1:=by rw[rangeSize_one];split<;>omega
  show IsRangeIter _ _ (lo+((0:Nat):Int) * 1) ((((hi - lo).toNat:Nat):Int) - ((0:Nat):Int)) 1;rw[e1,e2];exact Heap.get?_push_size _ rfl
 ·have e:b=(s.heap.push { cls:=.type "range",data:=.fields #[.int lo t,.int hi u,.int 1 v] }).objs.size:=by simpa using hb
  subst e;exact I1.fpOk (Nat.le_refl _) (I1.hok.fresh (Nat.le_refl _))
noncomputable def qkH(ta:TA):TI:=λσ H R=>ta σ H λvs H1=>∃j:Int,vs=[.int j]/\-(2 ^ 62)<=j/\j < 2 ^ 62/\R (Itr 0 j.toNat) H1
noncomputable def qkI(ta:TA):TI:=λσ H R=>ta σ H λvs H1=>∃i j:Int,vs=[.int i,.int j]/\(-(2 ^ 62)<=i/\i < 2 ^ 62/\-(2 ^ 62)<=j/\j < 2 ^ 62)/\R (Itr i (j - i).toNat) H1
theorem qca{a:Expr}{ta:TA}{p pos:Pos}(hg:Gl X "range")(hm:X.mg "range" = none)(ha:PA X [a] ta)(hs:starEach [a] X.env=[(false,eval a X.env)]:=by rfl):PI X tg (.Call (.Name "range" p) [a] [] pos) (qkH ta):=by
 intro pins s σ H R I h;refine Call_ (Jf I hg hm boot_range (PyProof.Rows.callWith_type1 (thn (ha pos pins s σ H _ I h) λus s1 ⟨vs,H1,I1,r1,q1⟩=>?_) hs rfl));obtain⟨j,e,q1,q2,q⟩:=q1;subst e
 cases r1 with
 |cons r rr=>cases rr;obtain⟨t,rfl⟩:=r;exact call_range_1 (qaE I1 (1:) (1:) q1 q2 (by simpa using q))
theorem qcb{a b:Expr}{ta:TA}{p pos:Pos}(hg:Gl X "range")(hm:X.mg "range" = none)(ha:PA X [a,b] ta)(hs:starEach [a,b] X.env=[(false,eval a X.env),(false,eval b X.env)]:=by rfl)(hs2:starEach [b] X.env=[(false,eval b X.env)]:=by rfl) :
  PI X tg (.Call (.Name "range" p) [a,b] [] pos) (qkI ta):=by
 intro pins s σ H R I h;refine Call_ (Jf I hg hm boot_range (PyProof.Rows.callWith_type1 (thn (ha pos pins s σ H _ I h) λus s1 ⟨vs,H1,I1,r1,q1⟩=>?_) (by rw[hs,hs2]) (by rw[hs2];rfl)));obtain⟨i,j,e,⟨q1,q2,q3,q4⟩,q⟩:=q1;subst e
 cases r1 with
 |cons r rr=>
  cases rr with
  | cons r' rr=>cases rr;obtain⟨t,rfl⟩:=r;obtain⟨t',rfl⟩:=r';exact call_range_2 (qaE I1 q1 q2 q3 q4 q)
noncomputable def qmc(wi:TI)(g:TG)(tb:TS):TS:=λD σ H=>wi σ H λJ H1=>∃W:Nat->Nat->St->Hp->Prop,(∃m,W 0 m σ H1)/\∀i m σ H,W i m σ H->
 (J.stop i H/\D.nx σ H)\/(J.go i H/\∃N:St->Hp->Prop,(∀σ' H',N σ' H'->∃m',m' < m/\W (i+1) m' σ' H')/\∀x H',J.yld i H x H'->g x σ H' λσ2 H2=>tb { D with nx:=N,ct:=N,bk:=D.nx } σ2 H2)
def QV(fp:List Addr)(h:Heap):List (Addr×Obj):=fp.filterMap λb=>(h.get? b).map λo=>(b,o)
theorem jZ{fp:List Addr}{h:Heap}{b:Addr}{o:Obj}(hb:b∈fp)(e:h.get? b=some o):(b,o)∈QV fp h:=List.mem_filterMap.mpr ⟨b,hb,by rw[e];rfl⟩
theorem qcc{fp:List Addr}{h:Heap}{p:Addr×Obj}(hp:p∈QV fp h):p.1∈fp/\h.get? p.1=some p.2:=by
 obtain⟨b,hb,e⟩:=List.mem_filterMap.mp hp
 cases q:h.get? b with
 |none=>rw[q] at e;cases e
 |some o=>rw[q] at e;have e':(b,o)=p:=Option.some.inj e;subst e';exact⟨hb,q⟩
theorem Inv.pinned{pins:PP}{σ:St}{H:Hp}{s:Shared}{fp:List Addr}(I:Inv X pins σ H s)(hf:∀b∈fp,qbo X pins H b)(ho:∀b∈fp,∃o,s.heap.get? b=some o/\∀v,o.data≠.cell v):Inv X (pins++QV fp s.heap) σ H s:=
 I.pins_of λp hp=>(List.mem_append.mp hp).elim (λz=>I.pin p (List.mem_append_right _ z)) λz=>by obtain⟨hb,e⟩:=qcc z;obtain⟨f0,f1,f2,_⟩:=hf p.1 hb;obtain⟨o,e',d⟩:=ho p.1 hb;rw[e] at e';cases e';exact⟨e,f0,f1,f2,d⟩
theorem Inv.unpinned{pins pl:PP}{σ:St}{H:Hp}{s:Shared}(I:Inv X (pins++pl) σ H s):Inv X pins σ H s:=I.pins_of λp hp=>I.pin p (List.mem_append_right _ (List.mem_append_left _ hp))
theorem qh6{iter:Expr}{body:List Stmt}{wi:TI}{g:TG}{tb:TS}{pos:Pos}(hp:PassesOwn (model X.prog X.w) X.A X.env X.xe)(hc:X.calm=true)(hi:PI X tg iter wi)(hg:PG X tg g)(hb:PSs X body tb)
  (hs:∀x,foldedSetIterable iter X.env x=pure x:=by intro _;rfl):PS X (.For tg iter body [] pos) (qmc wi g tb):=by
 intro pins s σ H D I h;refine wpAny_For (thn (hi pins s σ H _ I h) λv s1 h1=>thn h1 λitv s2 h2=>?_) hs;obtain⟨it,fp,tn,J,H2,e,I2,T,st2,f2,W,⟨m0,w0⟩,turn⟩:=h2;subst e;have stat:∀{H':Hp},(∀b∈fp,H' b=none)->∀b∈fp,qbo X pins H' b:=λhn b hb=>⟨hn b hb,(f2 b hb).2⟩;refine codeAny_forLoop_any (λn s'=>∃i σ' H',Inv X pins σ' H' s'/\tn i s'.heap/\(∀b∈fp,H' b=none)/\W i n σ' H') ?_ m0 ⟨0,σ,H2,I2,st2,λb hb=>(f2 b hb).1,w0⟩;rintro n s3 ⟨i,σ3,H3,I3,st3,fr3,w3⟩;rcases turn i n σ3 H3 w3 with ⟨stop,qn⟩ | ⟨go,N,hN,step⟩
 ·refine wpAny_passesOwn hp (thn (T.done X rfl rfl rfl hc i pins s3 σ3 H3 X.xe I3 (stat fr3) st3 stop) λr s4 hq1=>?_);obtain⟨hr,I4⟩:=hq1;subst hr;exact wpAny_execs_nil ⟨σ3,H3,I4,qn⟩
 ·refine wpAny_passesOwn hp (thn (T.item X rfl rfl rfl hc i pins s3 σ3 H3 X.xe I3 (stat fr3) st3 go) λr s4 hq1=>?_);obtain⟨u,hr,h4⟩:=hq1;subst hr;refine wpAny_passesOwn hp (thn h4 λ_ s5 hq1=>?_);obtain⟨x,H5,I5,r5,y5,st5,fr5⟩:=hq1;have I5':=I5.pinned (stat fr5) (T.obj _ _ st5);refine wpAny_passesOwn hp (thn (hg _ s5 σ3 H5 x u _ I5' r5 (step x H5 y5)) λ_ s6 hq1=>?_);obtain⟨σ6,H6,I6,q6⟩:=hq1;refine wpAny_passesOwn hp (thn (hb _ s6 σ6 H6 _ I6 q6) λf s7 q7=>?_)
  have again:∀{σ7:St} {H7:Hp},Inv X (pins++QV fp s5.heap) σ7 H7 s7->N σ7 H7->∃m,m < n/\∃i σ' H',Inv X pins σ' H' s7/\tn i s7.heap/\(∀b∈fp,H' b=none)/\W i m σ' H':=λ{σ7 H7} I7 n7=>by obtain⟨m',hm,w7⟩:=hN σ7 H7 n7;refine⟨m',hm,i+1,σ7,H7,I7.unpinned,T.keep _ _ _ st5 λb hb o e=>(I7.pin (b,o) (List.mem_append_right _ (List.mem_append_right _ (jZ hb e)))).1,λb hb=>?_,w7⟩;obtain⟨o,e,d⟩:=T.obj _ _ st5 b hb;exact(I7.pin (b,o) (List.mem_append_right _ (List.mem_append_right _ (jZ hb e)))).2.1
  cases f with
  |next=>obtain⟨σ7,H7,I7,n7⟩:=q7;exact again I7 n7
  |cont=>obtain⟨σ7,H7,I7,n7⟩:=q7;exact again I7 n7
  |brk=>obtain⟨σ7,H7,I7,q7⟩:=q7;exact⟨σ7,H7,I7.unpinned,q7⟩
  |ret v=>obtain⟨x7,σ7,H7,I7,r7,q7⟩:=q7;exact⟨x7,σ7,H7,I7.unpinned,r7,q7⟩
end
end L2
namespace L2
open PySem PySem.Spec PyProof.Rows
abbrev R2:=V->V->Hp->VK->Prop
noncomputable def OpR(X:Cx)(f:Value->Value->Sem Value)(r:R2):Prop:=
 ∀(pins:PP) (s:Shared) (σ:St) (H:Hp) (x y:V) (v u:Value) (Q:VK),Inv X pins σ H s->qK x v->qK y u->r x y H Q->
  wpAny (model X.prog X.w) X.A (f v u) (EP X pins σ Q) X.xe s
noncomputable def UnR(X:Cx)(f:Value->Sem Value)(r:V->Hp->VK->Prop):Prop:=
 ∀(pins:PP) (s:Shared) (σ:St) (H:Hp) (x:V) (v:Value) (Q:VK),Inv X pins σ H s->qK x v->r x H Q->
  wpAny (model X.prog X.w) X.A (f v) (EP X pins σ Q) X.xe s
noncomputable def zR(X:Cx)(f:Value)(r:List V->Hp->VK->Prop):Prop:=
 ∀(pins:PP) (s:Shared) (σ:St) (H:Hp) (xs:List V) (us:List Value) (Q:VK),Inv X pins σ H s->qz xs us->r xs H Q->
  wpAny (model X.prog X.w) X.A (call f us) (EP X pins σ Q) X.xe s
noncomputable def qmd(X:Cx)(r:V->Hp->(Bool->Hp->Prop)->Prop):Prop:=
 ∀(pins:PP) (s:Shared) (σ:St) (H:Hp) (x:V) (v:Value) (Q:Bool->Hp->Prop),Inv X pins σ H s->qK x v->r x H Q->
  wpAny (model X.prog X.w) X.A (truthy v) (TP X pins σ Q) X.xe s
def tOp(r:R2)(ta tb:TE):TE:=λσ H Q=>ta σ H λx H1=>tb σ H1 λy H2=>r x y H2 Q
def tUn(r:V->Hp->VK->Prop)(ta:TE):TE:=λσ H Q=>ta σ H λx H1=>r x H1 Q
noncomputable def rI(C:Int->Int->Prop)(g:Int->Int->V):R2:=λx y H Q=>∃i j,x=.int i/\y=.int j/\C i j/\Q (g i j) H
def rI0(g:Int->Int->V):R2:=λx y H Q=>∃i j,x=.int i/\y=.int j/\Q (g i j) H
def rU(g:Int->V):V->Hp->VK->Prop:=λx H Q=>∃i,x=.int i/\Q (g i) H
section
variable{X:Cx}{a b c:Expr}{ta tb tc:TE}{pos:Pos}
theorem qkJ(ha:PE X a ta)(hb:PE X b tb){pins:PP}{s:Shared}{σ:St}{H:Hp}{R:V->V->Hp->Prop}(I:Inv X pins σ H s)
  (h:ta σ H λx H1=>tb σ H1 λy H2=>R x y H2) {Q:PQ} {f:Value->Value->Sem Value}
  (hf:∀v u s2 x y H2,Inv X pins σ H2 s2->qK x v->qK y u->R x y H2->wpAny (model X.prog X.w) X.A (f v u) Q X.xe s2) :
  wpAny (model X.prog X.w) X.A (eval a X.env) (λv s₁=>wpAny (model X.prog X.w) X.A (eval b X.env) (λu s₂=>wpAny (model X.prog X.w) X.A (f v u) Q X.xe s₂) X.xe s₁) X.xe s:=by
 refine thn (ha pins s σ H _ I h) λv s1 hq1=>?_;obtain⟨x,H1,I1,r1,q1⟩:=hq1;refine thn (hb pins s1 σ H1 _ I1 q1) λu s2 hq1=>?_;obtain⟨y,H2,I2,r2,q2⟩:=hq1;exact hf v u s2 x y H2 I2 r1 r2 q2
theorem qkK{op:Operator}{r:R2}(ho:OpR X (binaryOp op) r)(ha:PE X a ta)(hb:PE X b tb):PE X (.BinOp a op b pos) (tOp r ta tb):=by intro pins s σ H Q I h;exact wpAny_BinOp (qkJ ha hb I h λv u s2 x y H2 I2 rx ry q=>ho pins s2 σ H2 x y v u Q I2 rx ry q)
theorem qkL{op:UnaryOp}{r:V->Hp->VK->Prop}(ho:UnR X (unaryOp op) r)(ha:PE X a ta):PE X (.UnaryOp op a pos) (tUn r ta):=by intro pins s σ H Q I h;exact UnaryOp_ (thn (ha pins s σ H _ I h) λv s1 ⟨x,H1,I1,r1,q1⟩=>ho pins s1 σ H1 x v Q I1 r1 q1)
theorem opI{f:Value->Value->Sem Value}{C:Int->Int->Prop}{g:Int->Int->Int}
  (rule:∀(i j:Int) (t u:Tok) (s:Shared) (Q:PQ) (E:PQ),C i j->Q (.int (g i j) s.toks) { s with toks:=s.toks+1 }->wpAny (model X.prog X.w) X.A (f (.int i t) (.int j u)) Q E s) :
  OpR X f (rI C λi j=>.int (g i j)):=by
 intro pins s σ H x y v u Q I rx ry h;obtain⟨i,j,rfl,rfl,hc,q⟩:=h;obtain⟨t,rfl⟩:=rx;obtain⟨t',rfl⟩:=ry;exact rule i j t t' s _ _ hc ⟨.int (g i j),H,I.tok _,⟨_,rfl⟩,q⟩
theorem qlB{f:Value->Value->Sem Value}{g:Int->Int->Int}
  (rule:∀(i j:Int) (t u:Tok) (s:Shared) (Q:PQ) (E:PQ),Q (.int (g i j) s.toks) { s with toks:=s.toks+1 }->wpAny (model X.prog X.w) X.A (f (.int i t) (.int j u)) Q E s) :
  OpR X f (rI0 λi j=>.int (g i j)):=by
 intro pins s σ H x y v u Q I rx ry h;obtain⟨i,j,rfl,rfl,q⟩:=h;obtain⟨t,rfl⟩:=rx;obtain⟨t',rfl⟩:=ry;exact rule i j t t' s _ _ ⟨.int (g i j),H,I.tok _,⟨_,rfl⟩,q⟩
theorem qkp{f:Value->Value->Sem Value}{g:Int->Int->Bool}
  (rule:∀(i j:Int) (t u:Tok) (s:Shared) (Q:PQ) (E:PQ),Q (.bool (g i j)) s->wpAny (model X.prog X.w) X.A (f (.int i t) (.int j u)) Q E s) :
  OpR X f (rI0 λi j=>.bl (g i j)):=by
 intro pins s σ H x y v u Q I rx ry h;obtain⟨i,j,rfl,rfl,q⟩:=h;obtain⟨t,rfl⟩:=rx;obtain⟨t',rfl⟩:=ry;exact rule i j t t' s _ _ ⟨.bl (g i j),H,I,rfl,q⟩
def qme(i j:Int):Prop:=0 < j/\j < 1073741824
def qmf(i j:Int):Prop:=0<=j/\j<=1000000/\i.natAbs < 2 ^ 64
def qkq(i j:Int):Prop:=(-(2 ^ 64) < i/\i < 2 ^ 64)\/(-(2 ^ 64) < j/\j < 2 ^ 64)
theorem qkq.ok{i j:Int}(h:qkq i j):IntMulOk i j:=by
 rcases h with ⟨h1,h2⟩ | ⟨h1,h2⟩
 ·exact .of_left (intBits_le_64 h1 h2)
 ·exact .of_right (intBits_le_64 h1 h2)
theorem qh7:OpR X (binaryOp .Add) (rI0 λi j=>.int (i+j)):=qlB λ_ _ _ _ _ _ _ q=>add_int q
theorem qh8:OpR X (binaryOp .Sub) (rI0 λi j=>.int (i - j)):=qlB λ_ _ _ _ _ _ _ q=>sub_int q
theorem qh9:OpR X (binaryOp .Mult) (rI qkq λi j=>.int (i * j)):=opI λ_ _ _ _ _ _ _ hc q=>mul_int q hc.ok
theorem qf1:OpR X (binaryOp .FloorDiv) (rI qme λi j=>.int (i / j)):=opI λi j _ _ _ _ _ hc q=>by have h1:(0:Int) < j:=hc.1;have h2:j < 1073741824:=hc.2;exact floordiv_int (1:) (by rw[Int.fdiv_eq_ediv_of_nonneg i (1:)];exact q) (.inl (PyProof.noPylong_small (1:)))
theorem qia:OpR X (binaryOp .Mod) (rI (λ_ j=>0 < j) λi j=>.int (i % j)):=opI λi j _ _ _ _ _ hc q=>by have h1:(0:Int) < j:=hc;exact mod_int' (1:) (by rw[Int.fmod_eq_emod_of_nonneg i (1:)];exact q)
theorem qib:OpR X (binaryOp .Pow) (rI qmf λi j=>.int (i ^ j.toNat)):=opI λ_ _ _ _ _ _ _ hc q=>pow_int_small hc.1 hc.2.1 hc.2.2 q
theorem unI{f:Value->Sem Value}{g:Int->Int}
  (rule:∀(i:Int) (t:Tok) (s:Shared) (Q:PQ) (E:PQ),Q (.int (g i) s.toks) { s with toks:=s.toks+1 }->wpAny (model X.prog X.w) X.A (f (.int i t)) Q E s) :
  UnR X f (rU λi=>.int (g i)):=by
 intro pins s σ H x v Q I rx h;obtain⟨i,rfl,q⟩:=h;obtain⟨t,rfl⟩:=rx;exact rule i t s _ _ ⟨.int (g i),H,I.tok _,⟨_,rfl⟩,q⟩
theorem qic:UnR X (unaryOp .USub) (rU λi=>.int (-i)):=unI λ_ _ _ _ _ q=>neg_int q
end
section
variable{X:Cx}{a b c:Expr}{ta tb tc:TE}{pos:Pos}
theorem qaF{pins:PP}{σ:St}{H:Hp}{s:Shared}{Q:VK}{k k':Bool}(I:Inv X pins σ H s)(q:Q (.bl k) H)(e:k=k'):EP X pins σ Q (.bool k') s:=by subst e;exact⟨.bl k,H,I,rfl,q⟩
theorem qkM:OpR X (compareOp .Lt) (rI0 λi j=>.bl (decide (i < j))):=qkp λ_ _ _ _ _ _ _ q=>lt_int q
theorem qkN:OpR X (compareOp .LtE) (rI0 λi j=>.bl (decide (i<=j))):=qkp λ_ _ _ _ _ _ _ q=>le_int q
theorem qkO:OpR X (compareOp .Gt) (rI0 λi j=>.bl (decide (j < i))):=qkp λ_ _ _ _ _ _ _ q=>gt_int q
theorem qkP:OpR X (compareOp .GtE) (rI0 λi j=>.bl (decide (j<=i))):=qkp λ_ _ _ _ _ _ _ q=>ge_int q
theorem qcd:OpR X (compareOp .In) (λx y H Q=>∃i j,x=.str i/\y=.str j/\Q (.bl (!(Builtin.Str.occurrences j i 0 j.length 1).isEmpty)) H):=by intro pins s σ H x y v u Q I rx ry h;obtain⟨i,j,rfl,rfl,q⟩:=h;obtain⟨t,rfl⟩:=rx;obtain⟨t',rfl⟩:=ry;exact in_str (qaF I q rfl)
theorem qid:OpR X (compareOp .Is) (λx y H Q=>y=.non/\Q (.bl (decide (x=.non))) H):=by
 intro pins s σ H x y v u Q I rx ry h;obtain⟨rfl,q⟩:=h;cases ry;refine is_none_gen (qaF I q ?_)
 cases x<;>first
  | (cases rx;rfl)
  | (obtain⟨t,rfl⟩:=rx;rfl)
theorem qf2:OpR X (compareOp .IsNot) (λx y H Q=>y=.non/\Q (.bl (!decide (x=.non))) H):=by
 intro pins s σ H x y v u Q I rx ry h;obtain⟨rfl,q⟩:=h;cases ry;refine isnot_none_gen (qaF I q ?_)
 cases x<;>first
  | (cases rx;rfl)
  | (obtain⟨t,rfl⟩:=rx;rfl)
theorem QW:OpR X (compareOp .NotIn) (λx y H Q=>∃i j,x=.str i/\y=.str j/\Q (.bl (!(!(Builtin.Str.occurrences j i 0 j.length 1).isEmpty))) H):=by intro pins s σ H x y v u Q I rx ry h;obtain⟨i,j,rfl,rfl,q⟩:=h;obtain⟨t,rfl⟩:=rx;obtain⟨t',rfl⟩:=ry;exact notIn_str (qaF I q rfl)
theorem qf3{op:CmpOp}{r:R2}(ho:OpR X (compareOp op) r)(ha:PE X a ta)(hb:PE X b tb)(hm:behindInMarks op b=false):PE X (.Compare a [op] [b] pos) (tOp r ta tb):=by intro pins s σ H Q I h;exact wpAny_Compare1 (qkJ ha hb I h λv u s2 x y H2 I2 rx ry q=>ho pins s2 σ H2 x y v u Q I2 rx ry q) hm
def qkQ(t:TE):TT:=λσ H Q=>t σ H λx H'=>∃k,x=.bl k/\Q k H'
theorem qf4{op:CmpOp}{r:R2}(ho:OpR X (compareOp op) r)(ha:PE X a ta)(hb:PE X b tb)(hm:behindInMarks op b=false):PT X (.Compare a [op] [b] pos) (qkQ (tOp r ta tb)):=by
 intro pins s σ H Q I h
 refine wpAny_isTrue_Compare1 (thn (ha pins s σ H _ I h) λv s1 ⟨x,H1,I1,r1,q1⟩=>thn (hb pins s1 σ H1 _ I1 q1) λu s2 ⟨y,H2,I2,r2,q2⟩=>thn (ho pins s2 σ H2 x y v u _ I2 r1 r2 q2) λc s3 ⟨z,H3,I3,r3,k,e,q3⟩=>?_) hm
 subst e;cases r3;exact wpAny_truthy_bool ⟨H3,I3,q3⟩
noncomputable def qkr(K:Frag)(x:V)(H:Hp)(k:Bool):Prop:=
 match x with
 |.non=>k=false
 |.bl b=>k=b
 |.int i=>k=(i != 0)
 |.str y=>y.length<=sizeLine/\k=((y.length:Int) != 0)
 |.byt y=>y.size<=sizeLine/\k=((y.size:Int) != 0)
 |.ref p=>(∃xs,SqL K H p xs/\k = !xs.isEmpty)\/(∃xs,SqT K H p xs/\k = !xs.isEmpty)\/∃kvs,H p=some (.dK kvs)/\k = !kvs.isEmpty
 |_=>False
theorem qbr{κ:Type}{kvs:List (κ×V)}{vs:List (κ×Value)}(r:KV kvs vs):(!vs.isEmpty) = !kvs.isEmpty:=by cases r<;>rfl
theorem YC{xs:List V}{its:List Value}(r:qz xs its):(!its.toArray.isEmpty) = !xs.isEmpty:=by cases r<;>simp
theorem JJ:(sizeLine:Nat) < 2 ^ 63:=by rw[sizeLine_eq];decide
theorem qie:qmd X (λx H Q=>∃k,qkr X.K x H k/\Q k H):=by
 intro pins s σ H x v Q I rx h;obtain⟨k,e,q⟩:=h;have hl:=JJ;have hs:sizeLine=16777216:=sizeLine_eq
 cases x with
 |non=>cases rx;have e':k=false:=e;subst e';exact truthy_none ⟨H,I,q⟩
 |bl b=>cases rx;have e':k=b:=e;subst e';exact wpAny_truthy_bool ⟨H,I,q⟩
 |int i=>obtain⟨t,rfl⟩:=rx;have e':k=(i != 0):=e;subst e';exact PySem.P.truthy_int ⟨H,I,q⟩
 |str y=>obtain⟨t,rfl⟩:=rx;obtain⟨hy,e'⟩:y.length<=sizeLine/\k=((y.length:Int) != 0):=e;subst e';exact PySem.P.truthy_str (1:) ⟨H,I.tok _,q⟩
 |byt y=>obtain⟨t,rfl⟩:=rx;obtain⟨hy,e'⟩:y.size<=sizeLine/\k=((y.size:Int) != 0):=e;subst e';exact PySem.W.truthy_bytes (1:) ⟨H,I.tok _,q⟩
 |ref p=>
  cases rx;have e':(∃xs,SqL X.K H p xs/\k = !xs.isEmpty)\/(∃xs,SqT X.K H p xs/\k = !xs.isEmpty)\/∃kvs,H p=some (.dK kvs)/\k = !kvs.isEmpty:=e;rcases e' with ⟨xs,hx,e'⟩ | ⟨xs,hx,e'⟩ | ⟨kvs,hx,e'⟩
  ·subst e';obtain⟨its,r,pl,hz⟩:=I.list hx;have hlen:=r.length;exact wpAny_truthy_list pl.isList (by simp only[List.size_toArray];omega) ⟨H,I.tok _,by rw[YC r];exact q⟩
  ·subst e';obtain⟨its,r,pl,hz⟩:=I.tuple hx;have hlen:=r.length;exact truthy_tuple pl (by simp only[List.size_toArray];omega) ⟨H,I.tok _,by rw[YC r];exact q⟩
  ·subst e';obtain⟨hz,hS,vs,r,m⟩:kvs.length<=sizeLine/\(p == sysModules)=false/\∃vs,KV kvs vs/\s.heap.DictOf (Z5 X.prog X.w) p vs:=I.hok p _ hx;have hlen:kvs.length=vs.length:=Paired.length r;exact wpAny_truthy_dict hS m (1:) ⟨H,I.tok _,by rw[qbr r];exact q⟩
 |_=>exact(show False from e).elim
theorem qdX(ha:PE X a ta)(he:∀whole,isTrue a X.env whole=(do let v<-whole;standAt a.pos;holding [v] (truthy v))) :
  PT X a (λσ H Q=>ta σ H λx H'=>∃k,qkr X.K x H' k/\Q k H'):=by
 intro pins s σ H Q I h;exact isTrue_plain (thn (ha pins s σ H _ I h) λv s1 ⟨x,H1,I1,r1,q1⟩=>qie pins s1 σ H1 x v Q I1 r1 q1) (he _)
theorem qbs:OpR X (binaryOp .Add) (λx y H Q=>∃i j,x=.str i/\y=.str j/\i.length+j.length<=sizeLine/\Q (.str (i++j)) H):=by intro pins s σ H x y v u Q I rx ry h;obtain⟨i,j,rfl,rfl,hz,q⟩:=h;obtain⟨t,rfl⟩:=rx;obtain⟨t',rfl⟩:=ry;exact add_str (λt' tk=>⟨.str (i++j),H,I.tok _,⟨_,rfl⟩,q⟩) hz
theorem Yu{x:V}{us:List Value}(r:qz [x] us):∃u,us=[u]/\qK x u:=by
 cases r with
 |cons r1 r2=>cases r2;exact⟨_,rfl,r1⟩
theorem qbt{x y:V}{us:List Value}(r:qz [x,y] us):∃u w',us=[u,w']/\qK x u/\qK y w':=by
 cases r with
 |cons r1 r2=>
  cases r2 with
  |cons r3 r4=>cases r4;exact⟨_,_,rfl,r1,r3⟩
theorem qce(hc:X.calm=true):zR X (.builtin "max") (λxs H Q=>∃i j,xs=[.int i,.int j]/\Q (.int (if j > i then j else i)) H):=by
 intro pins s σ H xs us Q I r h;obtain⟨i,j,rfl,q⟩:=h;obtain⟨u,w',rfl,⟨t,rfl⟩,⟨t',rfl⟩⟩:=qbt r;refine max_two_ints (I.ok.hd hc) λh' tk k=>⟨_,H,I.kept k,?_,q⟩
 by_cases hj:j > i
 ·rw[if_pos hj,if_pos hj];exact⟨_,rfl⟩
 ·rw[if_neg hj,if_neg hj];exact⟨_,rfl⟩
theorem qcf(hc:X.calm=true):zR X (.builtin "min") (λxs H Q=>∃i j,xs=[.int i,.int j]/\Q (.int (if j < i then j else i)) H):=by
 intro pins s σ H xs us Q I r h;obtain⟨i,j,rfl,q⟩:=h;obtain⟨u,w',rfl,⟨t,rfl⟩,⟨t',rfl⟩⟩:=qbt r;refine min_two_ints (I.ok.hd hc) λh' tk k=>⟨_,H,I.kept k,?_,q⟩
 by_cases hj:j < i
 ·rw[if_pos hj,if_pos hj];exact⟨_,rfl⟩
 ·rw[if_neg hj,if_neg hj];exact⟨_,rfl⟩
theorem QX:zR X (.type "int") (λxs H Q=>(∃i,xs=[.int i]/\Q (.int i) H)\/∃k,xs=[.bl k]/\Q (.int (if k then 1 else 0)) H):=by
 intro pins s σ H xs us Q I r h;rcases h with ⟨i,rfl,q⟩ | ⟨k,rfl,q⟩
 ·obtain⟨u,rfl,t,rfl⟩:=Yu r;exact call_int_int ⟨.int i,H,I,⟨_,rfl⟩,q⟩
 ·obtain⟨u,rfl,r1⟩:=Yu r;cases r1;exact call_int_bool ⟨.int (if k then 1 else 0),H,I.tok _,⟨_,rfl⟩,q⟩
end
end L2
namespace L2
open PySem PySem.Spec PyProof.Rows
structure ObjM(h:Heap)(x dx C:Addr)(mA:PR):Prop where
 obj:h.get? x=some (PySem.W.instObj C dx)
 ns:h.Ns1 dx mA
 ne:dx≠x
theorem qcg{h:Heap}{dx:Addr}{mA:PR}(n:h.Ns1 dx mA):∃od,h.get? dx=some od/\∀name,PySem.W.lookIn name od=some (mA name):=by
 obtain⟨o,es,ep,ho,hd,hk,_,hm⟩:=n;refine⟨o,ho,λname=>?_⟩;have e:=hm name;unfold nsFind findBy at e;rw[<-Array.find?_toList] at e;unfold PySem.W.lookIn;rw[hd];dsimp only;split
 ·rename_i y q;rw[q] at e;exact congrArg some e
 ·rename_i q;rw[q] at e
  have a:es.toList.any (·.refKey)=false:=by rw[List.any_eq_false];intro y hy;obtain⟨z,t,hkey⟩:=hk y (Array.mem_toList_iff.mp hy);simp[DictEntry.refKey,hkey]
  have a':¬ es.toList.any (·.refKey)=true:=by rw[a];exact Bool.false_ne_true
  rw[if_neg a'];exact congrArg some e
theorem ObjM.look{h:Heap}{x dx C:Addr}{mA:PR}(I:ObjM h x dx C mA):∃od,PySem.W.InstAt h x (PySem.W.instObj C dx) C (some od)/\∀name,PySem.W.lookIn name od=some (mA name):=
 let ⟨od,ho,hl⟩:=qcg I.ns
 ⟨od,⟨I.obj,rfl,rfl,ho⟩,hl⟩
section
variable{prog:Program}{w:World}{A:Around}{E:PQ}{s:Shared}{K:Frag}{x dx C f:Addr}{mA:PR}{name:Str}{v:Value}
theorem qf5{expr:Bool}{Q:PQ}(X:K.In s.heap)(I:ObjM s.heap x dx C mA)(hg:PySem.W.plainGet K C name=true)(hh:PySem.W.hasDictIn K C=true)
  (ha:PySem.W.findIn K (.ref C) name=some none) (hv:mA name=some v) (hv':PySem.W.handedIn v=true) (h:Q v { s with toks:=s.toks+1 }) :
  wpAny (model prog w) A (getAttr (.ref x) name expr) Q E s:=by
 obtain⟨od,J,hl⟩:=I.look;exact PySem.W.get_value X J (PySem.W.plainGet_of hg).1 (PySem.W.findObj_own hh ha rfl (by rw[hl,hv])) hv' h
theorem qdY{pl:Sem Bool}{Q:Value×List Value->Shared->Prop}(X:K.In s.heap)(I:ObjM s.heap x dx C mA)(hg:PySem.W.plainGet K C name=true)
  (hf:PySem.W.findIn K (.ref C) name=some (some (.ref f))) (ht:PySem.W.isFn K (.ref f)=true) (hv:mA name=none) (h:Q (.ref f,[.ref x]) s) :
  wpAny (model prog w) A (getMethod (.ref x) name pl) Q E s:=by
 obtain⟨od,J,hl⟩:=I.look;exact PySem.W.method_fn X J (PySem.W.plainGet_of hg).1 (PySem.W.plainGet_of hg).2 hf (beq_iff_eq.mp ht) (by show(PySem.W.lookIn name od).map (·.isSome)=some false;rw[hl,hv];rfl) h
theorem qf6{ns:List Str}{Q:Unit->Shared->Prop}(X:K.In s.heap)(I:ObjM s.heap x dx C mA)
  (hs:PySem.W.findIn K (.ref C) "__setattr__" = some (some (.builtin "object.__setattr__"))) (hp:PySem.W.plainOver K C=true) (ht:PySem.W.takerIn K C name=some none) (hh:PySem.W.hasDictIn K C=true)
  (hw:PySem.Within mA ns) (hsz:ns.length<=sizeLine)
  (h:∀h',ObjM h' x dx C (λy=>if y=name then some v else mA y)->Heap.SameBut dx s.heap h'->Q () { s with heap:=h',toks:=s.toks+2 }) :
  wpAny (model prog w) A (setAttr (.ref x) name v) Q E s:=by
 obtain⟨od,J,hl⟩:=I.look;refine PySem.W.set_plain X J hs (PySem.W.osa_open (s:={ s with toks:=s.toks+1 }) (r:=none) X J hp ht λb=>?_);obtain⟨cd,hc,hd'⟩:=PySem.W.any_some hh;have hx:s.heap.get? x=some ⟨.ref C,some dx,.plain,#[]⟩:=I.obj;refine wpAny_bind (wpAny_pure (wpAny_bind (wpAny_bind (wpAny_loadPart hx (wpAny_bind (PySem.W.Looks.here (s:={ s with toks:=s.toks+1 }) (PySem.W.looks_clsIn X hc) ?_))))));rw[hd'];refine wpAny_pure (a:=some dx) (wpAny_bind (wpAny_pure (wpAny_bind ?_)));refine wpAny_nsSet1 (s:={ s with toks:=s.toks+1 }) I.ns λh' hn2 hs2=>?_;obtain⟨oD,esD,epD,hoD,hdD,hcD⟩:=hn2.count (PySem.Within.cons name v hw);refine wpAny_bind (wpAny_lookBehind hoD (by rw[hdD];exact pastItsLine_dict (Nat.le_trans hcD (by rw[List.length_cons];omega))) ?_);exact wpAny_pure (h _ ⟨(hs2.2 _ (Ne.symm I.ne)).trans I.obj,hn2,I.ne⟩ hs2)
theorem qdZ{R:Result->Shared->Prop}{vs:List Value}{kw:List (Str×Value)}(X:K.In s.heap)(hm:PySem.W.makesIn K C=true)
  (hi:PySem.W.findIn K (.ref C) "__init__" = some (some (.ref f))) (hf:PySem.W.typeIn K (.ref f)=some (.type "function"))
  (h:codeAny (model prog w) (A.under (.builtin "type.__call__" ⟨.ref C::vs,kw⟩)) (.call (.ref f) ⟨.ref (s.heap.objs.size+1)::vs,kw⟩) (PySem.W.InitBack (s.heap.objs.size+1) R)
   { s with heap:=(s.heap.push PySem.W.emptyDict).push (PySem.W.instObj C s.heap.objs.size) }) :
  codeAny (model prog w) A (.call (.ref C) ⟨vs,kw⟩) R s:=by
 obtain⟨hh,g,d,t,os⟩:=s;exact PySem.W.make_core (PySem.W.makes_of X hm) (PySem.W.looks_findIn X hi) (λself=>PySem.W.bind_fn X self hf) (.inl rfl) h
end
noncomputable def Z2(f:Str)(v:V):List (Str×V)->List (Str×V)
 |[]=>[(f,v)]
 | (g,x)::r=>if g=f then (g,v)::r else (g,x)::Z2 f v r
theorem JK(f g:Str)(v:V):∀fs:List (Str×V),(Z2 f v fs).lookup g=if g=f then some v else fs.lookup g
 |[]=>by
  show List.lookup g [(f,v)]=_
  by_cases h:g=f
  ·have hb:(g == f)=true:=beq_iff_eq.mpr h;simp only[List.lookup,hb,if_pos h]
  ·have hb:(g == f)=false:=beq_eq_false_iff_ne.mpr h;simp only[List.lookup,hb,if_neg h]
 | (k,x)::r=>by
  have ih:=JK f g v r;rw[show Z2 f v ((k,x)::r)=(if k=f then (k,v)::r else (k,x)::Z2 f v r) from rfl]
  by_cases hk:k=f
  ·rw[if_pos hk]
   by_cases h:g=k
   ·have hb:(g == k)=true:=beq_iff_eq.mpr h;simp only[List.lookup,hb,if_pos (h.trans hk)]
   ·have hb:(g == k)=false:=beq_eq_false_iff_ne.mpr h;simp only[List.lookup,hb,if_neg (λe:g=f=>h (e.trans hk.symm))]
  ·rw[if_neg hk]
   by_cases h:g=k
   ·have hb:(g == k)=true:=beq_iff_eq.mpr h;simp only[List.lookup,hb,if_neg (λe:g=f=>hk (h.symm.trans e))]
   ·have hb:(g == k)=false:=beq_eq_false_iff_ne.mpr h;simp only[List.lookup,hb];exact ih
theorem JL(f:Str)(v:V):∀fs:List (Str×V),f∈(Z2 f v fs).map (·.1)/\∀g,g∈fs.map (·.1)->g∈(Z2 f v fs).map (·.1)
 |[]=>⟨by simp[Z2],λg h=>by simp at h⟩
 | (k,x)::r=>by
  obtain⟨i1,i2⟩:=JL f v r;rw[show Z2 f v ((k,x)::r)=(if k=f then (k,v)::r else (k,x)::Z2 f v r) from rfl]
  by_cases hk:k=f
  ·rw[if_pos hk];subst hk;exact⟨by simp,λg h=>by simpa using h⟩
  ·rw[if_neg hk];refine⟨?_,λg h=>?_⟩
   ·rw[List.map_cons];exact List.mem_cons_of_mem _ i1
   ·rw[List.map_cons] at h ⊢;rcases List.mem_cons.mp h with e | e
    ·exact List.mem_cons.mpr (.inl e)
    ·exact List.mem_cons_of_mem _ (i2 g e)
theorem JM(f:Str)(v:V):∀fs:List (Str×V),(Z2 f v fs).length<=fs.length+1
 |[]=>by simp[Z2]
 | (k,x)::r=>by
  have ih:=JM f v r;rw[show Z2 f v ((k,x)::r)=(if k=f then (k,v)::r else (k,x)::Z2 f v r) from rfl]
  by_cases hk:k=f
  ·rw[if_pos hk,List.length_cons,List.length_cons];omega
  ·rw[if_neg hk,List.length_cons,List.length_cons];omega
theorem qdP.some_of{v:V}{o:Option Value}(r:qdP (some v) o):∃u,o=some u/\qK v u:=by
 cases o with
 |none=>exact(show False from r).elim
 |some u=>exact⟨u,rfl,r⟩
theorem qdP.none_of{o:Option Value}(r:qdP none o):o=none:=by
 cases o with
 |none=>rfl
 |some u=>exact(show False from r).elim
theorem qch{v:V}{u:Value}(r:qK v u):PySem.W.handedIn u=true:=by
 cases v with
 |non=>cases (show u=Value.none from r);rfl
 |bl b=>cases (show u=Value.bool b from r);rfl
 |int i=>obtain⟨t,e⟩:=(show∃t,u=Value.int i t from r);cases e;rfl
 |str x=>obtain⟨t,e⟩:=(show∃t,u=Value.str x t from r);cases e;rfl
 |byt b=>obtain⟨t,e⟩:=(show∃t,u=Value.bytes b t from r);cases e;rfl
 |flt b=>obtain⟨t,e⟩:=(show∃t,u=Value.float b t from r);cases e;rfl
 |ref a=>cases (show u=Value.ref a from r);rfl
 |ty n=>cases (show u=Value.type n from r);rfl
section
variable{P:Program}{w:World}{H H':Hp}{h h':Heap}{a C dx:Addr}{fs fs':List (Str×V)}
theorem Y3(hok:HOk P w H h)(e:H a=some (.ins C dx fs)):∃mA,ObjM h a dx C mA/\(∀f,qdP (fs.lookup f) (mA f))/\PySem.Within mA (fs.map (·.1))/\fs.length<=1000/\H dx=some (.own a):=by obtain⟨d,z,ne,ob,mA,n,r,q⟩:=(show zu P w H h a (.ins C dx fs) from hok a _ e);exact⟨mA,⟨ob,n,ne⟩,r,q,z,d⟩
end
structure Cls(K:Frag)(C:Addr):Prop where
 pg:PySem.W.plainGet K C Str.empty=true
 hd:PySem.W.hasDictIn K C=true
 po:PySem.W.plainOver K C=true
 sa:PySem.W.findIn K (.ref C) "__setattr__" = some (some (.builtin "object.__setattr__"))
theorem Cls.get{K:Frag}{C:Addr}(c:Cls K C)(f:Str):PySem.W.plainGet K C f=true:=c.pg
def zv(K:Frag)(C:Addr)(f:Str):Prop:=PySem.W.findIn K (.ref C) f=some none
theorem zv.taker{K:Frag}{C:Addr}{f:Str}(n:zv K C f):PySem.W.takerIn K C f=some none:=by unfold PySem.W.takerIn;rw[show PySem.W.findIn K (.ref C) f=some none from n];rfl
structure Meth(K:Frag)(C:Addr)(m:Str)(f:Addr):Prop where
 at_:PySem.W.findIn K (.ref C) m=some (some (.ref f))
 fn:PySem.W.isFn K (.ref f)=true
 kp:PySem.W.keepIn K (.ref f)=true
section
variable{X:Cx}{pins:PP}{σ:St}{H:Hp}{s:Shared}{a C dx:Addr}{fs:List (Str×V)}{f:Str}{v:V}{A:Around}{E:PQ}
theorem qbu{b:Bool}{Q:PQ}(I:Inv X pins σ H s)(e:H a=some (.ins C dx fs))(c:Cls X.K C)(n:zv X.K C f)(l:fs.lookup f=some v)
  (h:∀u s',Inv X pins σ H s'->qK v u->Q u s'):wpAny (model X.prog X.w) A (getAttr (.ref a) f b) Q E s:=by
 obtain⟨mA,O,r,_,_,_⟩:=Y3 I.hok e;obtain⟨u,hu,ru⟩:=qdP.some_of (v:=v) (o:=mA f) (by rw[<-l];exact r f);exact qf5 I.kIn O (c.get f) c.hd n hu (qch ru) (h u _ (I.tok _) ru)
theorem YD{m:Str}{g:Addr}{pl:Sem Bool}{Q:Value×List Value->Shared->Prop}(I:Inv X pins σ H s)(e:H a=some (.ins C dx fs))(c:Cls X.K C)(k:Meth X.K C m g)(l:fs.lookup m=none)
  (h:Q (.ref g,[.ref a]) s):wpAny (model X.prog X.w) A (getMethod (.ref a) m pl) Q E s:=by
 obtain⟨mA,O,r,_,_,_⟩:=Y3 I.hok e;have hn:mA m=none:=qdP.none_of (by rw[<-l];exact r m);exact qdY I.kIn O (c.get m) k.at_ k.fn hn h
theorem qbv{y:V}{u:Value}{Q:Unit->Shared->Prop}(I:Inv X pins σ H s)(e:H a=some (.ins C dx fs))(c:Cls X.K C)(n:zv X.K C f)(hl:fs.length < 1000)(ry:qK y u)
  (h:∀s',Inv X pins σ (upd H a (.ins C dx (Z2 f y fs))) s'->Q () s'):wpAny (model X.prog X.w) A (setAttr (.ref a) f u) Q E s:=by
 obtain⟨mA,O,r,wi,_,ho⟩:=Y3 I.hok e;have hz:(fs.map (·.1)).length<=sizeLine:=by rw[List.length_map,sizeLine_eq];omega
 refine qf6 I.kIn O c.sa c.po n.taker c.hd wi hz λh' O' sb=>h _ ?_;have hd:∃o,h'.get? dx=some o:=let ⟨o,_,_,e',_⟩:=O'.ns;⟨o,e'⟩;refine I.write (x:=a) (e:=dx) (by rw[e];exact True.intro) (.inr ho) (λb q hb z=>(sb.2 b hb).trans z) hd ?_;refine⟨by rw[qd O.ne];exact ho,?_,O.ne,O'.obj,_,O'.ns,λg=>?_,λg hg=>?_⟩
 ·have:=JM f y fs;omega
 ·show qdP ((Z2 f y fs).lookup g) (if g=f then some u else mA g);rw[JK]
  by_cases q:g=f
  ·rw[if_pos q,if_pos q];exact ry
  ·rw[if_neg q,if_neg q];exact r g
 ·by_cases q:g=f
  ·rw[q];exact(JL f y fs).1
  ·refine(JL f y fs).2 g (wi g λz=>hg ?_);show(if g=f then some u else mA g)=none;rw[if_neg q];exact z
theorem Inv.made(I:Inv X pins σ H s):Inv X pins σ (upd (upd H s.heap.objs.size (.own (s.heap.objs.size+1))) (s.heap.objs.size+1) (.ins C s.heap.objs.size []))
  { s with heap:=(s.heap.push PySem.W.emptyDict).push (PySem.W.instObj C s.heap.objs.size) }:=by
 have e1:(s.heap.push PySem.W.emptyDict).get? s.heap.objs.size=some PySem.W.emptyDict:=Heap.get?_push_size s.heap rfl
 have e2:((s.heap.push PySem.W.emptyDict).push (PySem.W.instObj C s.heap.objs.size)).get? (s.heap.objs.size+1)=some (PySem.W.instObj C s.heap.objs.size):=by
  have:=Heap.get?_push_size (s.heap.push PySem.W.emptyDict) (o:=PySem.W.instObj C s.heap.objs.size) rfl
  rwa[Heap.size_push] at this
 have e3:(s.heap.push PySem.W.emptyDict).Ns s.heap.objs.size (λ_=>none):=⟨PySem.W.emptyDict,#[],_,e1,rfl,(λe he=>absurd he (by simp)),λ_=>rfl⟩;have I1:=I.laid (a:=s.heap.objs.size) (o:=.own (s.heap.objs.size+1)) (h':=s.heap.push PySem.W.emptyDict) (t':=s.toks) (λb u q=>Heap.get?_push_of_some _ q) (Nat.le_refl _) ⟨_,e1⟩;refine I1.laid (a:=s.heap.objs.size+1) (o:=.ins C s.heap.objs.size []) (t':=s.toks) (λb u q=>Heap.get?_push_of_some _ q) (Nat.le_of_eq (Heap.size_push _ _)) ?_;have ne:s.heap.objs.size≠s.heap.objs.size+1:=Nat.ne_of_lt (Nat.lt_succ_self _);refine⟨by rw[qd ne,qf],Nat.zero_le _,ne,e2,λ_=>none,(Heap.Ns1.of_empty e3).at λo q=>Heap.get?_push_of_some _ q,λ_=>True.intro,λy hy=>absurd rfl hy⟩
theorem qf7{prog:Program}{w:World}{env:Env}{e:Expr}{f:Str}{pos:Pos}{s:Shared}{Q:PQ}(hb:attributeBase e f env (eval e env)=eval e env)
  (h:wpAny (model prog w) A (eval e env) (λo s₁=>wpAny (model prog w) A (getAttr o f true) Q E s₁) E s):wpAny (model prog w) A (eval (.Attribute e f pos) env) Q E s:=
 Attribute_any_ h (by rw[arm_eval_Attribute,hb])
end
noncomputable def qmg(K:Frag)(ta:TE)(f:Str):TE:=λσ H Q=>ta σ H λx H1=>∃a C dx fs v,x=.ref a/\H1 a=some (.ins C dx fs)/\Cls K C/\zv K C f/\fs.lookup f=some v/\Q v H1
noncomputable def qmh(K:Frag)(ta tv:TE)(f:Str):TS:=λD σ H=>tv σ H λy H1=>ta σ H1 λx H2=>∃a C dx fs,x=.ref a/\H2 a=some (.ins C dx fs)/\Cls K C/\zv K C f/\fs.length < 1000/\
 D.nx σ (upd H2 a (.ins C dx (Z2 f y fs)))
section
variable{X:Cx}{o e value:Expr}{f:Str}{pos pos' tpos:Pos}{ta tv:TE}
theorem qif(he:PE X e ta)(hb:attributeBase e f X.env (eval e X.env)=eval e X.env):PE X (.Attribute e f pos) (qmg X.K ta f):=by intro pins s σ H Q I h;refine qf7 hb (thn (he pins s σ H _ I h) λu s1 hq1=>?_);obtain⟨x,H1,I1,rx,a,C,dx,fs,v,ex,ea,c,n,l,q⟩:=hq1;subst ex;obtain rfl:u=Value.ref a:=rx;exact qbu I1 ea c n l λu' s2 I2 ru=>⟨v,H1,I2,ru,q⟩
theorem YE(ha:PE X o ta)(hv:PE X value tv)(hs:swapsWith value (some (.Attribute o f pos')) pos.line X.env=pure false):PS X (.Assign [.Attribute o f pos'] value pos) (qmh X.K ta tv f):=by intro pins s σ H D I h;refine plainObj_wpAny_Assign_Attribute (thn (hv pins s σ H _ I h) λu s1 ⟨y,H1,I1,ry,q⟩=>thn (ha pins s1 σ H1 _ I1 q) λov s2 ⟨x,H2,I2,rx,a,C,dx,fs,ex,ea,c,n,l,q2⟩=>?_) hs;subst ex;obtain rfl:ov=Value.ref a:=rx;exact qbv I2 ea c n l ry λs3 I3=>⟨σ,_,I3,q2⟩
end
section
variable{X:Cx}{pins:PP}{σ:St}{H:Hp}{s:Shared}{A:Around}{E:PQ}{Q:PQ}{c:Value}{b:Bool}
inductive TyOf(K:Frag)(H:Hp):V->Value->Prop where
 | non:TyOf K H .non (.type "NoneType")
 | bl (x:Bool):TyOf K H (.bl x) (.type "bool")
 | int (i:Int):TyOf K H (.int i) (.type "int")
 | str (x:Str):TyOf K H (.str x) (.type "str")
 | flt (x:UInt64):TyOf K H (.flt x) (.type "float")
 | lst {a:Addr} {xs:List V} (e:H a=some (.lst xs)):TyOf K H (.ref a) (.type "list")
 | frz {a:Addr} {o:Obj} {xs:List V} (e:H a=some (.frz o (.lst xs))):TyOf K H (.ref a) (.type "list")
 | tup {a:Addr} {xs:List V} (e:H a=some (.tup xs)):TyOf K H (.ref a) (.type "tuple")
 | dK {a:Addr} {kvs:List (Key×V)} (e:H a=some (.dK kvs)):TyOf K H (.ref a) (.type "dict")
 | dT {a:Addr} {kvs:List (List Key×V)} (e:H a=some (.dT kvs)):TyOf K H (.ref a) (.type "dict")
 | ins {a C dx:Addr} {fs:List (Str×V)} (e:H a=some (.ins C dx fs)) (cl:Cls K C) (ha:PySem.W.findIn K (.ref C) "__class__" = some (some (.builtin "object.__class__")))
   (hn:PySem.W.specialIn K (.builtin "object.__class__") "__get__" = some (some (.builtin "getset_descriptor.__get__"))) (htk:PySem.W.takesIn K (.builtin "object.__class__")=some true)
   (hm:PySem.W.mroIn K C (.type "object")=some true):TyOf K H (.ref a) (.ref C)
theorem QY{x:V}{u t:Value}(I:Inv X pins σ H s)(rx:qK x u)(ty:TyOf X.K H x t)(e:PySem.W.kitOne X.K t c=some b)(h:∀tk,Q (.bool b) { s with toks:=tk }) :
  wpAny (model X.prog X.w) A (call (.builtin "isinstance") [u,c]) Q E s:=by
 cases ty with
 |non=>cases (show u=Value.none from rx);exact PySem.W.kia_one PySem.W.kitx_none I.kIn True.intro e (λz=>nomatch z) h
 |bl y=>cases (show u=Value.bool y from rx);exact PySem.W.kia_one PySem.W.kitx_bool I.kIn True.intro e (λz=>nomatch z) h
 |int i=>obtain⟨t,q⟩:=(show∃t,u=Value.int i t from rx);cases q;exact PySem.W.kia_one PySem.W.kitx_int I.kIn True.intro e (λz=>nomatch z) h
 |str y=>obtain⟨t,q⟩:=(show∃t,u=Value.str y t from rx);cases q;exact PySem.W.kia_one PySem.W.kitx_str I.kIn True.intro e (λz=>nomatch z) h
 |flt y=>obtain⟨t,q⟩:=(show∃t,u=Value.float y t from rx);cases q;exact PySem.W.kia_one PySem.W.kitx_float I.kIn True.intro e (λz=>nomatch z) h
 |@lst a xs ea=>
  cases (show u=Value.ref a from rx)
  obtain⟨_,_,n,_,h1⟩:=(show zu X.prog X.w H s.heap a (.lst xs) from I.hok a _ ea);exact PySem.W.kia_one PySem.W.kitx_list I.kIn ⟨_,h1,rfl⟩ e (λz=>nomatch z) h
 |@frz a ob xs ea=>
  cases (show u=Value.ref a from rx)
  obtain⟨_,_,_,n,_,h1⟩:=(show zu X.prog X.w H s.heap a (.frz ob (.lst xs)) from I.hok a _ ea);exact PySem.W.kia_one PySem.W.kitx_list I.kIn ⟨_,h1,rfl⟩ e (λz=>nomatch z) h
 |@tup a xs ea=>
  cases (show u=Value.ref a from rx)
  obtain⟨_,_,_,p⟩:=(show zu X.prog X.w H s.heap a (.tup xs) from I.hok a _ ea);obtain⟨o,h1,h2,_⟩:=p;exact PySem.W.kia_one PySem.W.kitx_tuple I.kIn ⟨o,h1,h2⟩ e (λz=>nomatch z) h
 |@dK a kvs ea=>
  cases (show u=Value.ref a from rx)
  obtain⟨_,_,vs,_,p⟩:=(show zu X.prog X.w H s.heap a (.dK kvs) from I.hok a _ ea);obtain⟨o,es,ep,h1,h2,_⟩:=p;exact PySem.W.kia_one PySem.W.kitx_dict I.kIn ⟨o,h1,h2.1⟩ e (λz=>nomatch z) h
 |@dT a kvs ea=>
  cases (show u=Value.ref a from rx)
  obtain⟨_,_,xs,_,o,es,ep,h1,h2,_⟩:=(show zu X.prog X.w H s.heap a (.dT kvs) from I.hok a _ ea);exact PySem.W.kia_one PySem.W.kitx_dict I.kIn ⟨o,h1,h2.1⟩ e (λz=>nomatch z) h
 |@ins a C dx fs ea cl ha hn htk hm=>
  cases (show u=Value.ref a from rx)
  obtain⟨mA,O,_⟩:=Y3 I.hok ea;obtain⟨od,J,_⟩:=O.look;exact PySem.W.kia_one (PySem.W.kitx_own (cl.get _) cl.hd ha hn htk hm) I.kIn J e (λz=>nomatch z) h
end
end L2
namespace L2
open PySem PySem.Spec PyProof.Rows
structure Room(k:Nat)(A:Around):Prop where
 hd:A.handled=none
 dp:A.depth+3 * k+5 < recursionLimit
 un:A.units+16 * k+200 < cLine
theorem Room.deeper{k:Nat}{A:Around}(r:Room (k+1) A)(env:Env):Room k (A.deeper env):=
 ⟨r.hd,by have:=r.dp;show A.depth+1+3 * k+5 < _;omega,by have:=r.un;show A.units+3+16 * k+200 < _;omega⟩
theorem qbw{A:Around}{C:Addr}{us:List Value}{kw:List (Str×Value)}:(A.under (.builtin "type.__call__" ⟨.ref C::us,kw⟩)).depth=A.depth+1:=by first | rfl | simp[Around.under,Code.weight,Code.isCreation,Code.isGuard,Code.isCaller,Code.frames,Code.isFrame,guardIds]
theorem qbx{A:Around}{C:Addr}{us:List Value}{kw:List (Str×Value)}:(A.under (.builtin "type.__call__" ⟨.ref C::us,kw⟩)).units=A.units+1:=by first | rfl | simp[Around.under,Code.cUnits,Code.frames,Code.isFrame]
theorem Room.make{k:Nat}{A:Around}(r:Room (k+1) A)(C:Addr)(us:List Value)(kw:List (Str×Value)):Room k (A.under (.builtin "type.__call__" ⟨.ref C::us,kw⟩)):=
 ⟨r.hd,by have:=r.dp;rw[qbw];omega,by have:=r.un;rw[qbx];omega⟩
theorem Room.depth{k:Nat}{A:Around}(r:Room k A):A.depth < recursionLimit:=by have:=r.dp;omega
def qhF:TA:=λ_ H Q=>Q [] H
def qd0(ta:TE)(tr:TA):TA:=λσ H Q=>ta σ H λx H1=>tr σ H1 λxs H2=>Q (x::xs) H2
section
variable{X:Cx}{e:Expr}{es:List Expr}{te:TE}{t:TA}{pos:Pos}
theorem qx:PA X [] qhF:=λ_ _ _ _ H Q I h=>Calls.spliced_nil ⟨[],H,I,.nil,h⟩
theorem qg(ha:PE X e te)(hr:PA X es t)(hs:starEach (e::es) X.env=(false,eval e X.env)::starEach es X.env:=by rfl):PA X (e::es) (qd0 te t):=by intro pos pins s σ H Q I h;rw[hs];show wpAny _ _ (spliced ((false,eval e X.env)::backTo pos (starEach es X.env))) _ _ s;refine Calls.spliced_cons (thn (ha pins s σ H _ I h) λu s1 hq1=>?_);obtain⟨x,H1,I1,r1,q1⟩:=hq1;exact thn (hr pos pins s1 σ H1 _ I1 q1) λus s2 ⟨xs,H2,I2,r2,q2⟩=>⟨x::xs,H2,I2,.cons r1 r2,q2⟩
noncomputable def qmi(t:TA):TE:=λσ H Q=>t σ H λxs H1=>xs.length<=sizeLine/\∀p,H1 p=none->Q (.ref p) (upd H1 p (.tup xs))
noncomputable def qmj(t:TA):TE:=λσ H Q=>t σ H λxs H1=>xs.length<=sizeLine/\∀p,H1 p=none->Q (.ref p) (upd H1 p (.lst xs))
theorem qig{x1}(h:PA X es t):PE X (.Tuple es x1 pos) (qmi t):=by intro pins s σ H Q I hq;refine wpAny_Tuple_spliced (thn (h pos pins s σ H _ I hq) λus s1 ⟨xs,H1,I1,r,z,q⟩=>⟨by rw[<-r.length];exact z,?_⟩);have hf:H1 s1.heap.objs.size=none:=I1.hok.fresh (Nat.le_refl _);refine⟨.ref s1.heap.objs.size,upd H1 s1.heap.objs.size (.tup xs),I1.laid (t':=s1.toks) (λb u e=>Heap.get?_push_of_some _ e) (Nat.le_refl _) ?_,rfl,q _ hf⟩;exact⟨z,us,r,⟨_,Heap.get?_push_size _ rfl,rfl,_,rfl⟩⟩
theorem qih(h:PA X es t):PE X (.List es pos) (qmj t):=by intro pins s σ H Q I hq;refine wpAny_List_spliced (thn (h pos pins s σ H _ I hq) λus s1 ⟨xs,H1,I1,r,z,q⟩=>⟨by rw[<-r.length];exact z,?_⟩);have hf:H1 s1.heap.objs.size=none:=I1.hok.fresh (Nat.le_refl _);refine⟨.ref s1.heap.objs.size,upd H1 s1.heap.objs.size (.lst xs),I1.laid (t':=s1.toks) (λb u e=>Heap.get?_push_of_some _ e) (Nat.le_refl _) ?_,rfl,q _ hf⟩;exact⟨z,us,0,r,Heap.get?_push_size _ rfl⟩
end
abbrev Sp:=List V->Hp->VK->XK->Prop
abbrev CXT:=List Env->Hp->Shared->XK->Value->Shared->Prop
structure Env0(P:Program)(w:World)(K:Frag)(mg:PR)(base:Heap)(A:Around)(outer:List Env)(s:Shared)(H:Hp):Prop where
 frames:A.frames=some outer
 mod:Mod K mg base
 bs:∀b o,base.get? b=some o->s.heap.get? b=some o/\H b=none
 bsz:base.objs.size<=s.heap.objs.size
 funs:s.heap.FunFrames base outer
 frf:∀b∈frs outer,H b=none
 hok:HOk P w H s.heap
 bare:AllBare s.gens
noncomputable def CE(outer:List Env)(P:Program)(w:World)(H:Hp)(s:Shared)(Q:VK)(u:Value)(s':Shared):Prop:=
 ∃v H',s'.os=s.os/\AllBare s'.gens/\Un (frs outer) [] H H' s.heap s'.heap/\HOk P w H' s'.heap/\qK v u/\Q v H'
noncomputable def CR(CX:CXT)(outer:List Env)(P:Program)(w:World)(H:Hp)(s:Shared)(Q:VK)(E:XK)(r:Result)(s':Shared):Prop:=
 match r with
 |.ok (.ret u)=>CE outer P w H s Q u s'
 |.ok _=>False
 |.error e=>CX outer H s E e s'
structure FnOk(P:Program)(w:World)(K:Frag)(mg:PR)(base:Heap)(CX:CXT)(k:Nat)(f:Addr)(fd:FuncData)(ps:List Str)(sp:Sp):Prop where
 len:∀vs H Q E,sp vs H Q E->vs.length=ps.length
 run:∀(A:Around) (outer:List Env) (s:Shared) (H:Hp) (args:Args) (us:List Value) (vs:List V) (Q:VK) (E:XK),Room k A->Env0 P w K mg base A outer s H->BindsTo s fd args (ps.zip us)->qz vs us->sp vs H Q E->
  codeAny (model P w) A (.call (.ref f) args) (CR CX outer P w H s Q E) s
theorem Env0.make{P:Program}{w:World}{K:Frag}{mg:PR}{base:Heap}{A:Around}{outer:List Env}{s:Shared}{H:Hp}(e:Env0 P w K mg base A outer s H)(C:Addr)(us:List Value)(kw:List (Str×Value)) :
  Env0 P w K mg base (A.under (.builtin "type.__call__" ⟨.ref C::us,kw⟩)) outer s H:=⟨by first | exact e.frames | (simpa [Around.under,Code.envs,Code.isFrame,pushEnvs] using e.frames),e.mod,e.bs,e.bsz,e.funs,e.frf,e.hok,e.bare⟩
section
variable{X:Cx}{pins:PP}{σ:St}{H:Hp}{s s':Shared}
theorem Inv.env0(I:Inv X pins σ H s):Env0 X.prog X.w X.K X.mg X.base X.A X.stack s H:=
 ⟨I.ok.frames,I.ok.mod,I.bs,Nat.le_trans I.ok.bsz I.sz,I.stack,I.stkFree,I.hok,I.bare⟩
theorem Inv.after{Q:VK}{u:Value}(I:Inv X pins σ H s)(h:CE X.stack X.prog X.w H s Q u s'):EP X pins σ Q u s':=by obtain⟨v,H',os,bare,un,hok,r,q⟩:=h;obtain⟨hh,g,d,t,os'⟩:=s';obtain rfl:os'=s.os:=os;exact⟨v,H',I.call (h':=hh) (g':=g) (d':=d) (t':=t) (ch:=[]) un hok bare (λb z=>absurd z (by simp)),r,q⟩
end
def qci(sp:Sp)(dvs:List V)(E:XK)(t:TA):TE:=λσ H Q=>t σ H λvs H1=>sp (vs++dvs) H1 Q E
noncomputable def qf8(C:Addr)(m:Str)(sp:Sp)(dvs:List V)(E:XK)(ta:TE)(t:TA):TE:=λσ H Q=>ta σ H λx H1=>∃a dx fs,x=.ref a/\H1 a=some (.ins C dx fs)/\fs.lookup m=none/\
 t σ H1 λvs H2=>sp (x::(vs++dvs)) H2 Q E
noncomputable def qf9(C:Addr)(sp:Sp)(dvs:List V)(E:XK)(t:TA):TE:=λσ H Q=>t σ H λvs H1=>∀x dx,H1 x=none->H1 dx=none->dx≠x->
 sp (.ref x::(vs++dvs)) (upd (upd H1 dx (.own x)) x (.ins C dx [])) (λv H2=>v=.non/\Q (.ref x) H2) E
noncomputable def zj(K:Frag)(fd:FuncData)(ps:List Str)(ds:List Value):Prop:=
 ∀(s:Shared) (us:List Value),K.In s.heap->(us++ds).length=ps.length->BindsTo s fd ⟨us,[]⟩ (ps.zip (us++ds))
theorem zj.all{K:Frag}{fd:FuncData}{ps:List Str}(h:∀us:List Value,us.length=ps.length->bindArgs fd ⟨us,[]⟩=pure (ps.zip us)):zj K fd ps []:=λs us _ hl=>by rw[List.append_nil] at hl ⊢;exact .of_eq (h us hl)
noncomputable def j8(CX:CXT)(X:Cx)(E:XK):Prop:=∀(pins:PP) (σ:St) (H:Hp) (s:Shared) (e:Value) (s':Shared),Inv X pins σ H s->CX X.stack H s E e s'->X.xe e s'
section
variable{X:Cx}{CX:CXT}{k:Nat}{f C:Addr}{fd:FuncData}{ps:List Str}{sp:Sp}{dvs:List V}{ds:List Value}{E:XK}{x m:Str}{p pos apos:Pos}{e o:Expr}{es:List Expr}{ta:TE}{t:TA}
theorem QZ{pins:PP}{σ:St}{H:Hp}{s:Shared}{Q:VK}{us:List Value}{vs:List V}(F:FnOk X.prog X.w X.K X.mg X.base CX k f fd ps sp)(hr:Room k X.A)(hb:zj X.K fd ps ds)(hd:qz dvs ds)(hx:j8 CX X E)
  (I:Inv X pins σ H s) (r:qz vs us) (h:sp (vs++dvs) H Q E):wpAny (model X.prog X.w) X.A (call (.ref f) us) (EP X pins σ Q) X.xe s:=by
 have r2:qz (vs++dvs) (us++ds):=r.append hd;have hl:(us++ds).length=ps.length:=by rw[<-r2.length];exact F.len _ _ _ _ h
 refine wpAny_call (codeAny_mono (F.run X.A X.stack s H ⟨us,[]⟩ (us++ds) (vs++dvs) Q E hr I.env0 (hb s us I.kIn hl) r2 h) λr s' hq=>?_)
 cases r with
 |error e=>exact hx pins σ H s e s' I hq
 |ok fl=>
  cases fl with
  |ret u=>exact I.after hq
  |next=>exact False.elim hq
  |brk=>exact False.elim hq
  |cont=>exact False.elim hq
theorem jG(F:FnOk X.prog X.w X.K X.mg X.base CX k f fd ps sp)(hr:Room k X.A)(hg:Gl X x)(hm:X.mg x=some (.ref f))(hk:PySem.W.keepIn X.K (.ref f)=true)(hb:zj X.K fd ps ds)(hd:qz dvs ds)(hx:j8 CX X E)
  (ha:PA X (e::es) t) (hdb:(x == ("__debug__" : Str))=false:=by decide) (he:starEach (e::es) X.env=(false,eval e X.env)::starEach es X.env:=by rfl) (hpl:(backTo pos (starEach es X.env)).any (·.1)=false:=by rfl) :
  PE X (.Call (.Name x p) (e::es) [] pos) (qci sp dvs E t):=by
 intro pins s σ H Q I h;refine wpAny_Call_Name_kw (yZ I hg hm ?_ hdb);refine PySem.W.callWith_K (h₀:=X.base) I.ok.mod.kin hk (thn (ha pos pins s σ H _ I h) λus s1 ⟨vs,H1,I1,r,q⟩=>⟨I1.kIn,?_⟩) he hpl;exact QZ F hr hb hd hx I1 r q
theorem qaG(F:FnOk X.prog X.w X.K X.mg X.base CX k f fd ps sp)(hr:Room k X.A)(hg:Gl X x)(hm:X.mg x=some (.ref f))(hk:PySem.W.keepIn X.K (.ref f)=true)(hb:zj X.K fd ps ds)(hd:qz dvs ds)(hx:j8 CX X E)
  (hdb:(x == ("__debug__" : Str))=false:=by decide):PE X (.Call (.Name x p) [] [] pos) (qci sp dvs E qhF):=by
 intro pins s σ H Q I h;refine wpAny_Call_Name_kw (yZ I hg hm ?_ hdb);exact PySem.W.callWith_K0 I.kIn hk (QZ (us:=[]) F hr hb hd hx I .nil h)
theorem qga{pl:Sem Bool}(he:PE X o ta)(c:Cls X.K C)(hm:Meth X.K C m f)(F:FnOk X.prog X.w X.K X.mg X.base CX k f fd ps sp)(hr:Room k X.A)(hb:zj X.K fd ps ds)(hd:qz dvs ds)(hx:j8 CX X E)(ha:PA X (e::es) t)
  (hst:starEach (e::es) X.env=(false,eval e X.env)::starEach es X.env:=by rfl) (hpl:(backTo pos (starEach es X.env)).any (·.1)=false:=by rfl)
  (ht:eval (.Call (.Attribute o m apos) (e::es) [] pos) X.env=(do
   let ov<-eval o X.env
   standAt apos.atName
   let (f,first)<-holding [ov] (getMethod ov m pl)
   callWith pos f first (backTo pos (starEach (e::es) X.env)) (backToKw pos (keywordEach [] X.env))):=by rfl) :
  PE X (.Call (.Attribute o m apos) (e::es) [] pos) (qf8 C m sp dvs E ta t):=by
 intro pins s σ H Q I h;refine PySem.W.methodCall_KW (pl:=pl) (thn (he pins s σ H _ I h) λu s1 ⟨x,H1,I1,rx,a,dx,fs,ex,ea,l,q⟩=>?_) ht;subst ex;obtain rfl:u=Value.ref a:=rx;refine YD I1 ea c hm l ?_;refine PySem.W.callWith_K (first:=[.ref a]) (h₀:=X.base) I.ok.mod.kin hm.kp (thn (ha pos pins s1 σ H1 _ I1 q) λus s2 ⟨vs,H2,I2,r,q2⟩=>⟨I2.kIn,?_⟩) hst hpl;exact QZ (us:=.ref a::us) (vs:=.ref a::vs) F hr hb hd hx I2 (.cons rfl r) q2
theorem qd1{pl:Sem Bool}(he:PE X o ta)(c:Cls X.K C)(hm:Meth X.K C m f)(F:FnOk X.prog X.w X.K X.mg X.base CX k f fd ps sp)(hr:Room k X.A)(hb:zj X.K fd ps ds)(hd:qz dvs ds)(hx:j8 CX X E)
  (ht:eval (.Call (.Attribute o m apos) [] [] pos) X.env=(do
   let ov<-eval o X.env
   standAt apos.atName
   let (f,first)<-holding [ov] (getMethod ov m pl)
   callWith pos f first (backTo pos (starEach [] X.env)) (backToKw pos (keywordEach [] X.env))):=by rfl) :
  PE X (.Call (.Attribute o m apos) [] [] pos) (qf8 C m sp dvs E ta qhF):=by
 intro pins s σ H Q I h;refine PySem.W.methodCall_KW (pl:=pl) (thn (he pins s σ H _ I h) λu s1 ⟨x,H1,I1,rx,a,dx,fs,ex,ea,l,q⟩=>?_) ht;subst ex;obtain rfl:u=Value.ref a:=rx;refine YD I1 ea c hm l ?_;exact PySem.W.callWith_K0 (first:=[.ref a]) I1.kIn hm.kp (QZ (us:=[.ref a]) (vs:=[.ref a]) F hr hb hd hx I1 %[rfl|0] q)
structure Mk(K:Frag)(C f:Addr):Prop where
 makes:PySem.W.makesIn K C=true
 init:PySem.W.findIn K (.ref C) "__init__" = some (some (.ref f))
 fn:PySem.W.isFn K (.ref f)=true
 kp:PySem.W.keepIn K (.ref C)=true
theorem qaH{pins:PP}{σ:St}{H:Hp}{s:Shared}{Q:VK}{us:List Value}{vs:List V}(M:Mk X.K C f)(F:FnOk X.prog X.w X.K X.mg X.base CX k f fd ps sp)(hr:Room (k+1) X.A)(hb:zj X.K fd ps ds)(hd:qz dvs ds)
  (hx:j8 CX X E) (I:Inv X pins σ H s) (r:qz vs us)
  (h:∀x dx,H x=none->H dx=none->dx≠x->sp (.ref x::(vs++dvs)) (upd (upd H dx (.own x)) x (.ins C dx [])) (λv H2=>v=.non/\Q (.ref x) H2) E) :
  wpAny (model X.prog X.w) X.A (call (.ref C) us) (EP X pins σ Q) X.xe s:=by
 have hq:=h (s.heap.objs.size+1) s.heap.objs.size (I.hok.fresh (Nat.le_succ _)) (I.hok.fresh (Nat.le_refl _)) (Nat.ne_of_lt (Nat.lt_succ_self _));have I2:=Inv.made (C:=C) I;have r2:qz (V.ref (s.heap.objs.size+1)::(vs++dvs)) (Value.ref (s.heap.objs.size+1)::(us++ds)):=.cons rfl (r.append hd)
 have hl:(Value.ref (s.heap.objs.size+1)::us++ds).length=ps.length:=by have e:=r2.length;rw[F.len _ _ _ _ hq] at e;exact e.symm
 refine wpAny_call (qdZ (f:=f) I.kIn M.makes M.init (beq_iff_eq.mp M.fn) (codeAny_mono (F.run _ X.stack _ _ ⟨Value.ref (s.heap.objs.size+1)::us,[]⟩ (Value.ref (s.heap.objs.size+1)::(us++ds)) _ _ E (hr.make C us [])
  (I2.env0.make C us []) (hb _ (Value.ref (s.heap.objs.size+1)::us) I2.kIn hl) r2 hq) λr s' hq'=>?_))
 cases r with
 |error e=>exact hx pins σ _ _ e s' I2 hq'
 |ok fl=>
  cases fl with
  |ret u=>obtain⟨v,H',I3,rv,ev,q3⟩:=I2.after hq';subst ev;exact⟨rv,⟨V.ref (s.heap.objs.size+1),H',I3,rfl,q3⟩⟩
  |next=>exact False.elim hq'
  |brk=>exact False.elim hq'
  |cont=>exact False.elim hq'
theorem qgb(M:Mk X.K C f)(F:FnOk X.prog X.w X.K X.mg X.base CX k f fd ps sp)(hr:Room (k+1) X.A)(hg:Gl X x)(hm:X.mg x=some (.ref C))(hb:zj X.K fd ps ds)(hd:qz dvs ds)(hx:j8 CX X E)
  (ha:PA X (e::es) t) (hdb:(x == ("__debug__" : Str))=false:=by decide) (he:starEach (e::es) X.env=(false,eval e X.env)::starEach es X.env:=by rfl) (hpl:(backTo pos (starEach es X.env)).any (·.1)=false:=by rfl) :
  PE X (.Call (.Name x p) (e::es) [] pos) (qf9 C sp dvs E t):=by
 intro pins s σ H Q I h;refine wpAny_Call_Name_kw (yZ I hg hm ?_ hdb);refine PySem.W.callWith_K (h₀:=X.base) I.ok.mod.kin M.kp (thn (ha pos pins s σ H _ I h) λus s1 ⟨vs,H1,I1,r,q⟩=>⟨I1.kIn,?_⟩) he hpl;exact qaH M F hr hb hd hx I1 r q
theorem qd2(M:Mk X.K C f)(F:FnOk X.prog X.w X.K X.mg X.base CX k f fd ps sp)(hr:Room (k+1) X.A)(hg:Gl X x)(hm:X.mg x=some (.ref C))(hb:zj X.K fd ps ds)(hd:qz dvs ds)(hx:j8 CX X E)
  (hdb:(x == ("__debug__" : Str))=false:=by decide):PE X (.Call (.Name x p) [] [] pos) (qf9 C sp dvs E qhF):=by
 intro pins s σ H Q I h;refine wpAny_Call_Name_kw (yZ I hg hm ?_ hdb);exact PySem.W.callWith_K0 I.kIn M.kp (qaH (us:=[]) M F hr hb hd hx I .nil h)
end
structure FnScope(N P:List Str)(sc:Scope):Prop where
 kind:sc.kind=.function
 co:sc.isCoroutine=false
 gen:sc.isGenerator=false
 nd:N.Nodup
 pre:N.take P.length=P
 par:∀x∈P,sc.names.lookup x=some .local\/sc.names.lookup x=some .cell
 nofree:∀y∈sc.names,y.2≠.free
theorem Q0{kindOf:Str->Option NameKind}{x:Str}:∀{binds:List (Str×Value)} {m:PR},(∀v,(x,v)∉binds)->bindL kindOf binds m x=m x
 |[],_,_=>rfl
 | (n,v)::r,m,h=>by
  unfold bindL;rw[Q0 λw hw=>h w (List.mem_cons_of_mem _ hw)];split
  ·have:x≠n:=by rintro rfl;exact h v List.mem_cons_self
   simp[this]
  ·rfl
theorem Q1{kindOf:Str->Option NameKind}{x:Str}:∀{binds:List (Str×Value)} {m:PR},(∀v,(x,v)∉binds)->bindC kindOf binds m x=m x
 |[],_,_=>rfl
 | (n,v)::r,m,h=>by
  unfold bindC;rw[Q1 λw hw=>h w (List.mem_cons_of_mem _ hw)];split
  ·rfl
  ·have:x≠n:=by rintro rfl;exact h v List.mem_cons_self
   simp[this]
theorem Q2{kindOf:Str->Option NameKind}{x:Str}{v:Value}:∀{P:List Str} {vs:List Value} {i:Nat} {m:PR},P.Nodup->P[i]?=some x->vs[i]?=some v->kindOf x=some .local->
  bindL kindOf (P.zip vs) m x=some v
 |[],_,_,_,_,h,_,_=>by simp at h
 | _::_,[],_,_,_,_,h,_=>by simp at h
 | p::P,w::vs,0,m,nd,h1,h2,hk=>by simp at h1 h2;subst h1;subst h2;show bindL kindOf ((p,w)::P.zip vs) m p=_;unfold bindL;rw[Q0 λv hv=>(List.nodup_cons.mp nd).1 (List.of_mem_zip hv).1,if_pos hk];simp
 | p::P,w::vs,i+1,m,nd,h1,h2,hk=>by show bindL kindOf ((p,w)::P.zip vs) m x=_;unfold bindL;exact Q2 (i:=i) (List.nodup_cons.mp nd).2 (by simpa using h1) (by simpa using h2) hk
theorem Q3{kindOf:Str->Option NameKind}{x:Str}{v:Value}:∀{P:List Str} {vs:List Value} {i:Nat} {m:PR},P.Nodup->P[i]?=some x->vs[i]?=some v->kindOf x≠some .local->
  bindC kindOf (P.zip vs) m x=some v
 |[],_,_,_,_,h,_,_=>by simp at h
 | _::_,[],_,_,_,_,h,_=>by simp at h
 | p::P,w::vs,0,m,nd,h1,h2,hk=>by simp at h1 h2;subst h1;subst h2;show bindC kindOf ((p,w)::P.zip vs) m p=_;unfold bindC;rw[Q1 λv hv=>(List.nodup_cons.mp nd).1 (List.of_mem_zip hv).1,if_neg hk];simp
 | p::P,w::vs,i+1,m,nd,h1,h2,hk=>by show bindC kindOf ((p,w)::P.zip vs) m x=_;unfold bindC;exact Q3 (i:=i) (List.nodup_cons.mp nd).2 (by simpa using h1) (by simpa using h2) hk
def qr(N:List Str)(vs:List V):St:=vs.map some++List.replicate (N.length - vs.length) none
noncomputable def qgc(CX:CXT)(P:Program)(w:World)(K:Frag)(mg:PR)(base:Heap)(N:List Str)(qual:Str)(scope:Scope)(f:Addr)(cd:Value)(A:Around)(outer:List Env)(s:Shared)(H:Hp)(E:XK):Cx where
 prog:=P
 w:=w
 K:=K
 mg:=mg
 base:=base
 A:=A.deeper (envOfC qual scope s.heap.objs.size f cd)
 N:=N
 s₀:=s
 Hv:=H
 env:=envOfC qual scope s.heap.objs.size f cd
 outer:=outer
 stack:=envOfC qual scope s.heap.objs.size f cd::outer
 ex:=[]
 calm:=true
 fn:=λ_=>true
 pn:=[]
 xe:=λe s'=>wpAny (model P w) (A.deeper (envOfC qual scope s.heap.objs.size f cd)) (leaving (envOfC qual scope s.heap.objs.size f cd) e) (λ_ s''=>CX outer H s E e s'') (λe' s''=>CX outer H s E e' s'') s'
theorem qaI{sc:Scope}{n:Nat}{x:Str}(h:sc.names.lookup x=some .cell):∃c,(cellsFrom n sc.names []).lookup x=some c:=by have q:=PySem.W.cellsFrom_some sc.names n [] (.inl h);exact Option.isSome_iff_exists.mp q
theorem qcj{CX:CXT}{P:Program}{w:World}{K:Frag}{mg:PR}{base:Heap}{N ps:List Str}{qual:Str}{scope:Scope}{f:Addr}{cd:Value}{A:Around}{outer:List Env}{s s1:Shared}{H:Hp}{E:XK}{us:List Value}{vs:List V}
  (S:FnScope N ps scope) (hd:A.handled=none) (e0:Env0 P w K mg base A outer s H) (hl:vs.length=ps.length) (r:qz vs us)
  (x:InCallC s s.heap.objs.size (bindL (envOfC qual scope s.heap.objs.size f cd).kindOf (ps.zip us) λ_=>none) (cellsFrom (s.heap.objs.size+1) scope.names []) (bindC (envOfC qual scope s.heap.objs.size f cd).kindOf (ps.zip us) λ_=>none) s1) :
  Inv (qgc CX P w K mg base N qual scope f cd A outer s H E) [] (qr N vs) H s1:=by
 have hpl:ps.length<=N.length:=by have:=congrArg List.length S.pre;rw[List.length_take] at this;omega
 obtain⟨h1,tk,rfl,hk⟩:=x.done;have noA:∀b:Addr,b∉(qgc CX P w K mg base N qual scope f cd A outer s H E).ex:=λb z=>absurd (show b∈([]:List Addr) from z) (by simp)
 refine⟨⟨e0.mod,S.kind,rfl,rfl,Nat.le_refl _,λy z c h1 h2=>?_,λy hy=>?_,λy c _ h=>?_,λ_=>hd,Around.frames_deeper e0.frames,.inr ⟨rfl,rfl⟩,λb z=>absurd z (noA b),e0.bs,e0.bsz,λb _ _=>noA b,λb z=>absurd z (noA b),e0.funs,e0.frf⟩,
  rfl,e0.bare,Un.kept hk,⟨_,x.toInCall.ns,λi y v h1 h2 h3=>?_⟩,λy c h=>⟨_,x.cell y c h⟩,e0.hok.fresh (Nat.le_refl _),λy c h=>?_,λp hp=>absurd (show p∈([]:PP) from hp) (by simp),e0.hok.kept hk,?_⟩
 ·exact name_of_addr x.apart (PySem.mem_of_lookup h1) (PySem.mem_of_lookup h2)
 ·have hy:scope.names.lookup y=some .cell\/scope.names.lookup y=some .free:=hy;rcases hy with hy | hy
  ·exact qaI hy
  ·exact absurd rfl (S.nofree _ (PySem.mem_of_lookup hy))
 ·exact Nat.le_of_lt (x.above y c (PySem.mem_of_lookup h))
 ·have hi:i < vs.length:=by
   unfold qr at h2
   by_cases hi:i < vs.length
   ·exact hi
   ·rw[List.getElem?_append_right (by simpa using hi)] at h2;rw[List.getElem?_replicate] at h2
    split at h2<;>cases h2
  have ha:vs[i]?=some v:=by
   unfold qr at h2;rw[List.getElem?_append_left (by simpa using hi),List.getElem?_map] at h2
   cases e:vs[i]? with
   |none=>rw[e] at h2;cases h2
   |some a=>rw[e] at h2;cases h2;rfl
  obtain⟨u,hu,rv⟩:=r.get ha
  have hp:ps[i]?=some y:=by rw[<-S.pre,List.getElem?_take_of_lt (1:)];exact h1
  have ndP:ps.Nodup:=by rw[<-S.pre];exact S.nd.sublist (List.take_sublist _ _)
  refine⟨u,rv,?_⟩;rcases S.par y (List.mem_of_getElem? hp) with k | k
  ·exact .inl ⟨k,Q2 ndP hp hu k⟩
  ·obtain⟨c,e⟩:=qaI (n:=s.heap.objs.size+1) k;refine .inr ⟨.inl k,c,e,?_⟩;have q:=x.cell y c e;rw[Q3 ndP hp hu (by show scope.names.lookup y≠_;rw[k];decide)] at q;exact q
 ·exact e0.hok.fresh (Nat.le_of_lt (x.above y c (PySem.mem_of_lookup h)))
 ·unfold qr;show _=N.length;rw[List.length_append,List.length_map,List.length_replicate];omega
theorem qkR{CX:CXT}{P:Program}{w:World}{K:Frag}{mg:PR}{base:Heap}{k:Nat}{f:Addr}{name qual:Str}{params:Arguments}{body:List Stmt}{scope:Scope}{dV kV doc pm cdv ct oc:Value}{an od:Option Addr}
  {osl:Array (Option Value)} {N ps:List Str} {sp:Sp} (lk:K.lookup f=some ⟨oc,od,.func (PySem.W.fnOf name qual params body scope dV kV doc pm an cdv ct),osl⟩) (hcd:PySem.W.codeIn K cdv qual=true) (S:FnScope N ps scope)
  (len:∀vs H Q E,sp vs H Q E->vs.length=ps.length)
  (hbody:∀(A:Around) (outer:List Env) (s:Shared) (H:Hp) (vs:List V) (Q:VK) (E:XK),Room k (A.deeper (envOfC qual scope s.heap.objs.size f cdv))->sp vs H Q E->
   ∃t,PSs (qgc CX P w K mg base N qual scope f cdv A outer s H E) body t/\t { nx:=λ_ H'=>Q .non H',rt:=Q } (qr N vs) H) :
  FnOk P w K mg base CX (k+1) f (PySem.W.fnOf name qual params body scope dV kV doc pm an cdv ct) ps sp:=by
 refine⟨len,λA outer s H args us vs Q E hr e0 hb r hsp=>?_⟩;have hl:=len _ _ _ _ hsp;have KX:K.In s.heap:=e0.mod.kin.keeps λb o e=>(e0.bs b o e).1;have lim:s.heap.NoLimit:=e0.mod.nolimit.keeps λb o e=>(e0.bs b o e).1
 have hkind:∀y∈ps.zip us,scope.names.lookup y.1=some .local\/(scope.names.lookup y.1=some .cell/\((cellsFrom (s.heap.objs.size+1) scope.names []).lookup y.1).isSome=true):=λ⟨n,v⟩ hy=>by
  rcases S.par n (List.of_mem_zip hy).1 with q | q
  ·exact .inl q
  ·exact .inr ⟨q,PySem.W.cellsFrom_some _ _ _ (.inl q)⟩
 refine codeAny_call_function hr.depth (KX _ _ lk) rfl S.co S.gen rfl (PySem.W.codeRec_of KX hcd) (hb _ _ _ _ ?_);refine wpAny_newFunctionEnv_cells S.kind hkind λenv he s1 x=>?_;subst he;refine⟨lim.keeps x.toInCall.keep,codeAny_func ?_⟩;obtain⟨t,ht,hq⟩:=hbody A outer s H vs Q E (hr.deeper _) hsp;have I:Inv (qgc CX P w K mg base N qual scope f cdv A outer s H E) [] (qr N vs) H s1:=qcj S hr.hd e0 hl r x;refine wpAny_mono (ht [] s1 (qr N vs) H _ I hq) (λfl s' hs=>?_) λe s' hs=>hs
 have fin:∀{σ':St} {H':Hp} {v:V} {u:Value},Inv (qgc CX P w K mg base N qual scope f cdv A outer s H E) [] σ' H' s'->qK v u->Q v H'->CE outer P w H s Q u s':=
  λ{σ' H' v u} J rv q=>⟨v,H',J.os,J.bare,J.base,J.hok,rv,q⟩
 cases fl with
 |ret u=>obtain⟨v,σ',H',J,rv,q⟩:=hs;exact fin J rv q
 |next=>obtain⟨σ',H',J,q⟩:=hs;exact fin (v:=V.non) (u:=Value.none) J rfl q
 |brk=>obtain⟨_,_,_,q⟩:=hs;exact False.elim q
 |cont=>obtain⟨_,_,_,q⟩:=hs;exact False.elim q
end L2
namespace L2
open PySem PySem.Spec PyProof.Rows
section
variable{X:Cx}{x:Str}{p pos:Pos}{e:Expr}{es:List Expr}{t:TA}{id T:String}{r:List V->Hp->VK->Prop}
def tCB(r:List V->Hp->VK->Prop)(t:TA):TE:=λσ H Q=>t σ H λvs H1=>r vs H1 Q
theorem zk(hc:zR X (.builtin id) r)(hg:Gl X x)(hm:X.mg x=none)(hv:bootBuiltins x=some (.builtin id))(ha:PA X (e::es) t)(hn:x≠"__name__":=by decide)(hdb:(x == ("__debug__" : Str))=false:=by decide)
  (he:starEach (e::es) X.env=(false,eval e X.env)::starEach es X.env:=by rfl) (hpl:(backTo pos (starEach es X.env)).any (·.1)=false:=by rfl):PE X (.Call (.Name x p) (e::es) [] pos) (tCB r t):=by
 intro pins s σ H Q I h;refine wpAny_Call_Name_kw (Jf I hg hm hv ?_ hn hdb);exact PyProof.Rows.callWith_builtin1 (thn (ha pos pins s σ H _ I h) λus s1 ⟨vs,H1,I1,r1,q1⟩=>hc pins s1 σ H1 vs us Q I1 r1 q1) he hpl
theorem jH(hc:zR X (.type T) r)(hg:Gl X x)(hm:X.mg x=none)(hv:bootBuiltins x=some (.type T))(ha:PA X (e::es) t)(hn:x≠"__name__":=by decide)(hdb:(x == ("__debug__" : Str))=false:=by decide)
  (he:starEach (e::es) X.env=(false,eval e X.env)::starEach es X.env:=by rfl) (hpl:(backTo pos (starEach es X.env)).any (·.1)=false:=by rfl):PE X (.Call (.Name x p) (e::es) [] pos) (tCB r t):=by
 intro pins s σ H Q I h;refine wpAny_Call_Name_kw (Jf I hg hm hv ?_ hn hdb);exact PyProof.Rows.callWith_type1 (thn (ha pos pins s σ H _ I h) λus s1 ⟨vs,H1,I1,r1,q1⟩=>hc pins s1 σ H1 vs us Q I1 r1 q1) he hpl
end
end L2
namespace HT
open PySem PyProof.Rows
section
variable{prog:Program}{w:World}{A:Around}{E:PQ}{s:Shared}
noncomputable def sIx(n d:Nat):Option Int->Nat
 |none=>d
 |some v=>if v < 0 then (v+(n:Int)).toNat else min v.toNat n
theorem qaJ(n d:Nat):sIx n d none=d:=rfl
theorem Y4(n d k:Nat):sIx n d (some (k:Int))=min k n:=by show(if (k:Int) < 0 then ((k:Int)+(n:Int)).toNat else min (k:Int).toNat n)=min k n;rw[if_neg (1:),Int.toNat_natCast]
end
end HT
namespace L2
open PySem PySem.Spec PyProof.Rows
abbrev TO:=St->Hp->(Option Int->Hp->Prop)->Prop
noncomputable def PO(X:Cx)(e:Option Expr)(t:TO):Prop:=
 ∀(pins:PP) (s:Shared) (σ:St) (H:Hp) (Q:Option Int->Hp->Prop),Inv X pins σ H s->t σ H Q->
  wpAny (model X.prog X.w) X.A (evalPart e X.env) (λu s'=>∃o H',Inv X pins σ H' s'/\IsPart u o/\Q o H') X.xe s
def qgd:TO:=λ_ H Q=>Q none H
def qkS(t:TE):TO:=λσ H Q=>t σ H λx H1=>∃i,x=.int i/\Q (some i) H1
section
variable{X:Cx}{e:Expr}{te:TE}{lo hi:Option Expr}{tl th:TO}{pos p2:Pos}
theorem qge:PO X none qgd:=by intro pins s σ H Q I h;rw[evalPart_none];exact wpAny_pure ⟨none,H,I,.none,h⟩
theorem qgf(h:PE X e te):PO X (some e) (qkS te):=by intro pins s σ H Q I hw;rw[evalPart_some];refine thn (h pins s σ H _ I hw) λu s1 hq1=>?_;obtain⟨x,H1,I1,r1,q1⟩:=hq1;obtain⟨i,rfl,q⟩:=q1;obtain⟨t,rfl⟩:=r1;exact⟨some i,H1,I1,.int i t,q⟩
noncomputable def SlR(X:Cx)(r:V->Option Int->Option Int->Hp->VK->Prop):Prop:=
 ∀(pins:PP) (s:Shared) (σ:St) (H:Hp) (x:V) (v vl vu:Value) (lo hi:Option Int) (sl:Addr) (Q:VK),Inv X pins σ H s->qK x v->s.heap.IsSliceOf sl vl vu .none->IsPart vl lo->IsPart vu hi->r x lo hi H Q->
  ∃T id,typeLookup (.type T) "__getitem__" = pure (some (.builtin id))/\s.TypeIs v T/\wpAny (model X.prog X.w) X.A (getItem v (.ref sl)) (EP X pins σ Q) X.xe s
noncomputable def tSl(r:V->Option Int->Option Int->Hp->VK->Prop)(te:TE)(tl th:TO):TE:=λσ H Q=>te σ H λx H1=>tl σ H1 λl H2=>th σ H2 λu H3=>r x l u H3 Q
theorem qd3{r:V->Option Int->Option Int->Hp->VK->Prop}(hr:SlR X r)(he:PE X e te)(hl:PO X lo tl)(hu:PO X hi th):PE X (.Subscript e (.Slice lo hi none p2) pos) (tSl r te tl th):=by intro pins s σ H Q I h;refine Subscript_ (thn (he pins s σ H _ I h) λv s1 hq1=>?_);obtain⟨x,H1,I1,r1,q1⟩:=hq1;refine wpAny_Slice (thn (hl pins s1 σ H1 _ I1 q1) λvl s2 ⟨l,H2,I2,pl,q2⟩=>thn (hu pins s2 σ H2 _ I2 q2) λvu s3 hq1=>?_);obtain⟨u,H3,I3,pu,q3⟩:=hq1;rw[evalPart_none];refine wpAny_pure ?_;have I4:Inv X pins σ H3 { s3 with heap:=s3.heap.push { cls:=.type "slice",data:=.fields #[vl,vu,.none] } }:=I3.kept (t':=s3.toks) λb ob q=>Heap.get?_push_of_some _ q;obtain⟨T,id,hT,ht,hg⟩:=hr pins { s3 with heap:=s3.heap.push { cls:=.type "slice",data:=.fields #[vl,vu,.none] } } σ H3 x v vl vu l u s3.heap.objs.size Q I4 r1 (Heap.IsSliceOf.new ..) pl pu q3;show wpAny (model X.prog X.w) X.A (subscriptTail e (.Slice lo hi none p2) v (.ref s3.heap.objs.size)) (EP X pins σ Q) X.xe { s3 with heap:=s3.heap.push { cls:=.type "slice",data:=.fields #[vl,vu,.none] } };exact tail_any (ops:=[.ref s3.heap.objs.size,v]) ht hT hg (by with_unfolding_all rfl)
noncomputable def qhG(xs:List V)(lo hi:Option Int):List V:=(xs.drop (HT.sIx xs.length 0 lo)).take (HT.sIx xs.length xs.length hi - HT.sIx xs.length 0 lo)
theorem Z6(xs:List V)(lo hi:Option Int):(qhG xs lo hi).length<=xs.length:=by unfold qhG;rw[List.length_take,List.length_drop];omega
end
end L2
namespace L2
open PySem PySem.Spec PyProof.Rows
noncomputable def ixN(n:Nat)(i:Int):Option Nat:=if 0<=i then (if i < n then some i.toNat else none) else if -(n:Int)<=i then some (i+n).toNat else none
def atI{α:Type}(xs:List α)(i:Int):Option α:=(ixN xs.length i).bind λj=>xs[j]?
theorem qck{n:Nat}{i:Int}{j:Nat}(h:ixN n i=some j):seqIndex? i n=some j/\j < n/\-(n:Int)<=i/\i < n:=by
 unfold ixN at h
 by_cases h0:0<=i
 ·rw[if_pos h0] at h
  by_cases h1:i < n
  ·rw[if_pos h1] at h;have e:i.toNat=j:=Option.some.inj h;exact⟨by rw[seqIndex_of h0 h1,e],by omega,by omega,h1⟩
  ·rw[if_neg h1] at h;cases h
 ·rw[if_neg h0] at h
  by_cases h1:-(n:Int)<=i
  ·rw[if_pos h1] at h;have e:(i+n).toNat=j:=Option.some.inj h;exact⟨by rw[seqIndex_neg (1:) h1,e],by omega,h1,by omega⟩
  ·rw[if_neg h1] at h;cases h
theorem Z7{α:Type}{xs:List α}{i:Int}{v:α}(h:atI xs i=some v):∃j,seqIndex? i xs.length=some j/\xs[j]?=some v/\j < xs.length/\-(xs.length:Int)<=i/\i < xs.length:=by
 unfold atI at h
 cases e:ixN xs.length i with
 |none=>rw[e] at h;cases h
 |some j=>rw[e] at h;obtain⟨h1,h2,h3,h4⟩:=qck e;exact⟨j,h1,h,h2,h3,h4⟩
theorem qd4{α:Type}(xs:List α)(v:α):atI (xs++[v]) (-1)=some v:=by
 have hl:(xs++[v]).length=xs.length+1:=by simp
 have e:ixN (xs++[v]).length (-1)=some xs.length:=by
  unfold ixN;rw[hl,if_neg (2:),if_pos (1:)]
  congr 1
  omega
 unfold atI;rw[e];show(xs++[v])[xs.length]?=some v;simp
def qcl(b:Expr):Prop:=∀o i,subscripted b false o i=operate [o,i] (getItem o i)
noncomputable def IxR(X:Cx)(r:R2):Prop:=
 ∀(value slice:Expr) (pins:PP) (s:Shared) (σ:St) (H:Hp) (x y:V) (v u:Value) (Q:VK),Inv X pins σ H s->qK x v->qK y u->r x y H Q->
  subscripted slice false v u=operate [v,u] (getItem v u)->wpAny (model X.prog X.w) X.A (subscriptTail value slice v u) (EP X pins σ Q) X.xe s
noncomputable def MtR(X:Cx)(id:String)(r:V->List V->Hp->VK->Prop):Prop:=
 ∀(pins:PP) (s:Shared) (σ:St) (H:Hp) (x:V) (xs:List V) (v:Value) (us:List Value) (Q:VK),Inv X pins σ H s->qK x v->qz xs us->r x xs H Q->
  wpAny (model X.prog X.w) X.A (call (.builtin id) (v::us)) (EP X pins σ Q) X.xe s
section
variable{X:Cx}{a b:Expr}{ta tb:TE}{pos:Pos}
theorem qkT{r:R2}(hr:IxR X r)(ha:PE X a ta)(hb:PE X b tb)(hs:qcl b):PE X (.Subscript a b pos) (tOp r ta tb):=by intro pins s σ H Q I h;exact Subscript_ (qkJ ha hb I h λv u s2 x y H2 I2 rx ry q=>hr a b pins s2 σ H2 x y v u Q I2 rx ry q (hs _ _))
noncomputable def qmk(K:Frag):R2:=λx y H Q=>∃p xs i v,x=.ref p/\y=.int i/\SqL K H p xs/\atI xs i=some v/\Q v H
noncomputable def qml(K:Frag):R2:=λx y H Q=>∃p xs i v,x=.ref p/\y=.int i/\SqT K H p xs/\atI xs i=some v/\Q v H
noncomputable def qmm:R2:=λx y H Q=>∃z i c,x=.str z/\y=.int i/\z.length<=sizeLine/\atI z.cps.toList i=some c/\Q (.str ⟨#[c]⟩) H
theorem qgg:IxR X (qmk X.K):=by
 intro value slice pins s σ H x y v u Q I rx ry h hs;obtain⟨p,xs,i,z,rfl,rfl,hq,he,q⟩:=h;cases rx;obtain⟨t,rfl⟩:=ry;obtain⟨its,r,pl,hz⟩:=I.list hq;obtain⟨j,h1,h2,h3,h4,h5⟩:=Z7 he;obtain⟨w,ew,rw'⟩:=r.get h2;have hl:=r.length;have hn:=JJ;have fin:EP X pins σ Q w s:=⟨z,H,I,rw',q⟩
 by_cases h0:0<=i
 ·have hj:i.toNat=j:=by
   rw[seqIndex_of h0 h5] at h1;exact Option.some.inj h1
  exact item_listR pl.isList h0 (1:) (by rw[hj];simpa using ew) fin hs
 ·have hj:(i+(its.toArray.size:Int)).toNat=j:=by
   rw[seqIndex_neg (1:) h4] at h1;rw[List.size_toArray,<-hl];exact Option.some.inj h1
  exact subscriptTail_builtinR (x:=w) pl.isList.typeIs slot_list_getitem.lookup
   (wpAny_getItem_list_neg (Q:=λr s'=>r=w/\EP X pins σ Q r s') pl.isList (1:) (by rw[List.size_toArray]<;>omega) (1:) (by rw[hj];simpa using ew) ⟨rfl,fin⟩) hs
theorem qii:IxR X (qml X.K):=by
 intro value slice pins s σ H x y v u Q I rx ry h hs;obtain⟨p,xs,i,z,rfl,rfl,hq,he,q⟩:=h;cases rx;obtain⟨t,rfl⟩:=ry;obtain⟨its,r,pl,hz⟩:=I.tuple hq;obtain⟨j,h1,h2,h3,h4,h5⟩:=Z7 he;obtain⟨w,ew,rw'⟩:=r.get h2;have hl:=r.length;have hn:=JJ;have fin:EP X pins σ Q w s:=⟨z,H,I,rw',q⟩
 exact subscriptTail_builtinR (x:=w) pl.typeIs slot_tuple_getitem.lookup
  (getItem_tuple (j:=j) (Q:=λr s'=>r=w/\EP X pins σ Q r s') pl (1:) (1:) (by rw[List.size_toArray,<-hl];exact h1) (by simpa using ew) ⟨rfl,fin⟩) hs
theorem qij:IxR X qmm:=by
 intro value slice pins s σ H x y v u Q I rx ry h hs;obtain⟨z,i,c,rfl,rfl,hz,he,q⟩:=h;obtain⟨t,rfl⟩:=rx;obtain⟨t',rfl⟩:=ry;obtain⟨j,h1,h2,h3,h4,h5⟩:=Z7 he;have hl:z.cps.toList.length=z.length:=by simp[Str.length]
 rw[hl] at h1 h4 h5;have hn:=JJ
 exact tail_any (typeIs_str s z t) slot_str_getitem.lookup (getItem_str (c:=c) (by have e1:decide (i < -(2 ^ 63:Int))=false:=decide_eq_false (1:);have e2:decide (i≥2 ^ 63)=false:=decide_eq_false (1:);rw[e1,e2,Bool.or_false]) (by rw[h1];simpa using h2) ⟨.str ⟨#[c]⟩,H,I.tok _,⟨_,rfl⟩,q⟩) hs
theorem qby(its:List Value)(n j:Nat)(u:Value):Obj.mapSeq (·.setIfInBounds j u) { cls:=.type "list",data:=.seq its.toArray n }={ cls:=.type "list",data:=.seq (its.set j u).toArray n }:=by simp[Obj.mapSeq]
theorem Inv.lst{pins:PP}{σ:St}{H:Hp}{s:Shared}{p:Addr}{xs:List V}(I:Inv X pins σ H s)(h:H p=some (.lst xs)) :
  ∃(its:List Value) (n:Nat),qz xs its/\s.heap.get? p=some { cls:=.type "list",data:=.seq its.toArray n }/\xs.length<=sizeLine:=by
 obtain⟨z,its,n,r,e⟩:=I.hok p _ h;exact⟨its,n,r,e,z⟩
theorem Inv.lstUpd{pins:PP}{σ:St}{H:Hp}{s:Shared}{p:Addr}{xs ys:List V}{its its':List Value}{n n':Nat}{f:Obj->Obj}(I:Inv X pins σ H s)(h:H p=some (.lst xs))
  (ho:s.heap.get? p=some { cls:=.type "list",data:=.seq its.toArray n }) (hf:f { cls:=.type "list",data:=.seq its.toArray n }={ cls:=.type "list",data:=.seq its'.toArray n' }) (r:qz ys its') (hz:ys.length<=sizeLine) (t:Nat) :
  Inv X pins σ (upd H p (.lst ys)) { s with heap:=s.heap.update p f,toks:=t }:=by
 have e:(s.heap.update p f).get? p=some { cls:=.type "list",data:=.seq its'.toArray n' }:=by rw[Heap.get?_update_self f ho (by rw[hf]<;>rfl),hf]
 refine I.write (x:=p) (e:=p) (by rw[h];trivial) (.inl rfl) (λb u hb q=>(Heap.get?_update_other _ _ (Ne.symm hb)).trans q) ⟨_,e⟩ ?_;exact⟨hz,its',n',r,e⟩
noncomputable def qkU:V->V->V->Hp->(Hp->Prop)->Prop:=λo i v H Q=>∃p xs k j,o=.ref p/\i=.int k/\H p=some (.lst xs)/\ixN xs.length k=some j/\Q (upd H p (.lst (xs.set j v)))
theorem qd5:qlA X qkU:=by
 intro pins s σ H o i v ov iv u Q I ro ri rv h;obtain⟨p,xs,k,j,rfl,rfl,hp,hj,q⟩:=h;cases ro;obtain⟨t,rfl⟩:=ri;obtain⟨its,n,r,ho,hz⟩:=I.lst hp;obtain⟨h1,h2,h3,h4⟩:=qck hj;have hl:=r.length;have hn:=JJ
 have I':Inv X pins σ (upd H p (.lst (xs.set j v))) { s with heap:=s.heap.update p (Obj.mapSeq (·.setIfInBounds j u)) }:=
  I.lstUpd hp ho (qby its n j u) (r.set rv j) (by rw[List.length_set];exact hz) s.toks
 by_cases h0:0<=k
 ·have hk:k.toNat=j:=by
   rw[seqIndex_of h0 h4] at h1;exact Option.some.inj h1
  exact PySem.W.ki_setAt ho h0 (1:) (by rw[List.size_toArray,<-hl];exact h4) (by rw[hk];exact⟨_,I',q⟩)
 ·have hk:(k+(its.toArray.size:Int)).toNat=j:=by
   rw[seqIndex_neg (1:) h3] at h1;rw[List.size_toArray,<-hl];exact Option.some.inj h1
  exact PySem.W.ki_setBack ho (1:) (by rw[List.size_toArray,<-hl];exact h3) (1:) (by rw[hk];exact⟨_,I',q⟩)
theorem Q4(lo hi:Option Int)(n:Nat):(sliceBounds lo hi none n).1=((HT.sIx n 0 lo:Nat):Int)/\(sliceBounds lo hi none n).2.1=((HT.sIx n n hi:Nat):Int)/\(sliceBounds lo hi none n).2.2=1:=by
 refine⟨?_,?_,rfl⟩
 ·cases lo with
  |none=>simp[sliceBounds,HT.sIx]
  |some i=>
   simp only[sliceBounds,HT.sIx,Option.getD_none,show(1:Int) > 0 by decide,if_true]
   by_cases h:i < 0
   ·simp only[h,if_true]<;>omega
   ·simp only[h,if_false]<;>omega
 ·cases hi with
  |none=>simp[sliceBounds,HT.sIx]
  |some i=>
   simp only[sliceBounds,HT.sIx,Option.getD_none,show(1:Int) > 0 by decide,if_true]
   by_cases h:i < 0
   ·simp only[h,if_true]<;>omega
   ·simp only[h,if_false]<;>omega
theorem Y5(its:List Value)(lo hi:Option Int):slicePick its.toArray lo hi none=((its.drop (HT.sIx its.length 0 lo)).take (HT.sIx its.length its.length hi - HT.sIx its.length 0 lo)).toArray:=by obtain⟨h1,h2,h3⟩:=Q4 lo hi its.toArray.size;unfold slicePick;rw[h1,h2,h3];simp only[sliceRange_one,pick_run,List.size_toArray]<;>rfl
noncomputable def qmn(K:Frag):V->Option Int->Option Int->Hp->VK->Prop:=λx lo hi H Q=>∃a xs,x=.ref a/\SqL K H a xs/\∀p,H p=none->Q (.ref p) (upd H p (.lst (qhG xs lo hi)))
theorem qgh:SlR X (qmn X.K):=by intro pins s σ H x v vl vu lo hi sl Q I rx hs pl pu h;obtain⟨a,xs,rfl,hx,q⟩:=h;cases rx;obtain⟨its,r,ht,hz⟩:=I.list hx;have hlen:=r.length;refine⟨"list",_,slot_list_getitem.lookup,ht.isList.typeIs,?_⟩;refine wpAny_getItem_list_slice ht.isList hs pl pu .none (by simp) ?_ (by rw[List.size_toArray]<;>omega);rw[Y5,<-hlen];refine⟨.ref s.heap.objs.size,_,I.laid (t':=s.toks) (o:=.lst (qhG xs lo hi)) (λb ob q=>Heap.get?_push_of_some _ q) (Nat.le_refl _) ?_,rfl,q _ (I.hok.fresh (Nat.le_refl _))⟩;exact⟨Nat.le_trans (Z6 xs lo hi) hz,_,0,(r.drop (HT.sIx xs.length 0 lo)).take (HT.sIx xs.length xs.length hi - HT.sIx xs.length 0 lo),Heap.get?_push_size _ rfl⟩
def JN:V->Bool
 |.non=>true
 |.bl _=>true
 |.int _=>true
 |.str _=>true
 |_=>false
noncomputable def eqV:V->V->Bool
 |.non,.non=>true
 |.bl a,.bl b=>a == b
 |.bl a,.int b=>(if a then 1 else 0) == b
 |.int a,.bl b=>a == (if b then 1 else 0)
 |.int a,.int b=>a == b
 |.str a,.str b=>a == b
 |_,_=>false
theorem qik{A:Around}{s:Shared}{y x:V}{u v:Value}(ry:qK y u)(rx:qK x v)(fy:JN y=true)(fx:JN x=true):SeqAt.EqAt A s u v (eqV y x):=by
 cases y with
 |non=>
  cases ry
  cases x with
  |non=>cases rx;exact SeqAt.EqAt.same _
  |bl b=>cases rx;exact SeqAt.EqAt.none_bool b
  |int b=>obtain⟨t,rfl⟩:=rx;exact SeqAt.EqAt.none_int b t
  |str b=>obtain⟨t,rfl⟩:=rx;exact SeqAt.EqAt.none_str b t
  |_=>exact absurd (show false=true from fx) Bool.false_ne_true
 |bl a=>
  cases ry
  cases x with
  |non=>cases rx;exact SeqAt.EqAt.bool_none a
  |bl b=>cases rx;exact SeqAt.EqAt.bool_bool a b
  |int b=>obtain⟨t,rfl⟩:=rx;exact SeqAt.EqAt.bool_int a b t
  |str b=>obtain⟨t,rfl⟩:=rx;exact SeqAt.EqAt.bool_str a b t
  |_=>exact absurd (show false=true from fx) Bool.false_ne_true
 |int a=>
  obtain⟨t',rfl⟩:=ry
  cases x with
  |non=>cases rx;exact SeqAt.EqAt.int_none a t'
  |bl b=>cases rx;exact SeqAt.EqAt.int_bool a t' b
  |int b=>obtain⟨t,rfl⟩:=rx;exact SeqAt.EqAt.int_int a t' b t
  |str b=>obtain⟨t,rfl⟩:=rx;exact SeqAt.EqAt.int_str a t' b t
  |_=>exact absurd (show false=true from fx) Bool.false_ne_true
 |str a=>
  obtain⟨t',rfl⟩:=ry
  cases x with
  |non=>cases rx;exact SeqAt.EqAt.str_none a t'
  |bl b=>cases rx;exact SeqAt.EqAt.str_bool a t' b
  |int b=>obtain⟨t,rfl⟩:=rx;exact SeqAt.EqAt.str_int a t' b t
  |str b=>obtain⟨t,rfl⟩:=rx;exact SeqAt.EqAt.str_str a t' b t
  |_=>exact absurd (show false=true from fx) Bool.false_ne_true
 |_=>exact absurd (show false=true from fy) Bool.false_ne_true
noncomputable def eqU(x:V)(u:Value):Bool:=match u with
 |.none=>eqV .non x
 |.bool b=>eqV (.bl b) x
 |.int i _=>eqV (.int i) x
 |.str z _=>eqV (.str z) x
 |_=>false
theorem qfa{x y:V}{u:Value}(r:qK y u)(f:JN y=true):eqU x u=eqV y x:=by
 cases y with
 |non=>cases r;rfl
 |bl b=>cases r;rfl
 |int i=>obtain⟨t,rfl⟩:=r;rfl
 |str z=>obtain⟨t,rfl⟩:=r;rfl
 |_=>exact absurd (show false=true from f) Bool.false_ne_true
theorem JO{x:V}:∀{xs:List V} {us:List Value},qz xs us->xs.all JN=true->us.any (eqU x)=xs.any λy=>eqV y x
 |_,_,.nil,_=>rfl
 | y::xs,u::us,.cons r t,f=>by rw[List.all_cons,Bool.and_eq_true] at f;rw[List.any_cons,List.any_cons,qfa r f.1,JO t f.2]
theorem yz{A:Around}{s:Shared}{x:V}{v:Value}(rx:qK x v)(fx:JN x=true):∀{xs:List V} {us:List Value},qz xs us->xs.all JN=true->∀u∈us,SeqAt.EqAt A s u v (eqU x u)
 |_,_,.nil,_=>λu hu=>by cases hu
 | y::xs,u::us,.cons r t,f=>λu' hu=>by
  rw[List.all_cons,Bool.and_eq_true] at f;rcases List.mem_cons.mp hu with rfl | hu
  ·rw[qfa r f.1];exact qik r rx f.1 fx
  ·exact yz rx fx t f.2 u' hu
def inV(x:V)(xs:List V):Bool:=xs.any λy=>eqV y x
noncomputable def rIn(K:Frag)(neg:Bool):R2:=λx y H Q=>∃p xs,y=.ref p/\(SqL K H p xs\/SqT K H p xs)/\JN x=true/\xs.all JN=true/\Q (.bl (if neg then !inV x xs else inV x xs)) H
theorem qcm:OpR X (compareOp .In) (rIn X.K false):=by
 intro pins s σ H x y v u Q I rx ry h;obtain⟨p,xs,rfl,hq,fx,fs,q⟩:=h;cases ry;rcases hq with hq | hq
 ·obtain⟨its,r,pl,hz⟩:=I.list hq;refine SeqAt.in_listAt (eqU x) pl.isList (λw hw=>yz rx fx r fs w (by simpa using hw)) ⟨.bl _,H,I,rfl,?_⟩;rw[show its.toArray.any (eqU x)=its.any (eqU x) by simp,JO r fs];exact q
 ·obtain⟨its,r,pl,hz⟩:=I.tuple hq;refine SeqAt.in_tupleAt (eqU x) pl (λw hw=>yz rx fx r fs w (by simpa using hw)) ⟨.bl _,H,I,rfl,?_⟩;rw[show its.toArray.any (eqU x)=its.any (eqU x) by simp,JO r fs];exact q
theorem Q5:OpR X (compareOp .NotIn) (rIn X.K true):=by
 intro pins s σ H x y v u Q I rx ry h;obtain⟨p,xs,rfl,hq,fx,fs,q⟩:=h;cases ry;rcases hq with hq | hq
 ·obtain⟨its,r,pl,hz⟩:=I.list hq;refine SeqAt.notIn_listAt (eqU x) pl.isList (λw hw=>yz rx fx r fs w (by simpa using hw)) ⟨.bl _,H,I,rfl,?_⟩;rw[show its.toArray.any (eqU x)=its.any (eqU x) by simp,JO r fs];exact q
 ·obtain⟨its,r,pl,hz⟩:=I.tuple hq;refine SeqAt.notIn_tupleAt (eqU x) pl (λw hw=>yz rx fx r fs w (by simpa using hw)) ⟨.bl _,H,I,rfl,?_⟩;rw[show its.toArray.any (eqU x)=its.any (eqU x) by simp,JO r fs];exact q
theorem Jg:zR X (.builtin "len") (λxs H Q=>∃p ys,xs=[.ref p]/\(SqL X.K H p ys\/SqT X.K H p ys)/\Q (.int ys.length) H):=by
 intro pins s σ H xs us Q I r h;obtain⟨p,ys,rfl,hq,q⟩:=h;obtain⟨u,rfl,rx⟩:=Yu r;cases rx;have hn:=JJ;rcases hq with hq | hq
 ·obtain⟨its,r',pl,hz⟩:=I.list hq;have hlen:=r'.length;exact Calls.call_len_list pl.isList (by simp only[List.size_toArray]<;>omega) ⟨.int ys.length,H,I.tok _,⟨s.toks+1,by rw[List.size_toArray,hlen]⟩,q⟩
 ·obtain⟨its,r',pl,hz⟩:=I.tuple hq;have hlen:=r'.length;exact len_tuple pl (by simp only[List.size_toArray]<;>omega) ⟨.int ys.length,H,I.tok _,⟨s.toks+1,by rw[List.size_toArray,hlen]⟩,q⟩
theorem Q6:zR X (.builtin "len") (λxs H Q=>∃z,xs=[.str z]/\z.length<=sizeLine/\Q (.int z.length) H):=by intro pins s σ H xs us Q I r h;obtain⟨z,rfl,hz,q⟩:=h;obtain⟨u,rfl,t,rfl⟩:=Yu r;have hn:=JJ;exact len_str (1:) ⟨.int z.length,H,I.tok _,⟨_,rfl⟩,q⟩
theorem jI:zR X (.type "list") (λxs H Q=>∃p ys,xs=[.ref p]/\(SqL X.K H p ys\/SqT X.K H p ys)/\∀l,H l=none->Q (.ref l) (upd H l (.lst ys))):=by
 intro pins s σ H xs us Q I r h;obtain⟨p,ys,rfl,hq,q⟩:=h;obtain⟨u,rfl,rx⟩:=Yu r;cases rx
 have fin:∀(its:List Value),qz ys its->ys.length<=sizeLine->∀(h':Heap) (c':Nat),(∀b o',s.heap.get? b=some o'->h'.get? b=some o')->
   h'.get? s.heap.objs.size=some { cls:=.type "list",dict:=none,data:=.seq its.toArray c',slots:=#[] }->EP X pins σ Q (.ref s.heap.objs.size) { s with heap:=h' }:=λits r' hz h' c' kp e=>
  ⟨.ref s.heap.objs.size,_,I.laid (t':=s.toks) kp (Nat.le_refl _) (show zu X.prog X.w _ h' _ (.lst ys) from⟨hz,its,c',r',e⟩),rfl,q _ (I.hok.fresh (Nat.le_refl _))⟩
 rcases hq with hq | hq
 ·obtain⟨its,r',pl,hz⟩:=I.list hq;have hlen:=r'.length;obtain⟨o,ho,hc,n,hd⟩:=pl.isList;exact call_list_seq p (.inl rfl) ho hc hd (λh' c' kp e=>fin its r' hz h' c' kp e) (by simp only[List.size_toArray]<;>omega)
 ·obtain⟨its,r',pl,hz⟩:=I.tuple hq;have hlen:=r'.length;obtain⟨o,ho,hc,n,hd⟩:=pl;exact call_list_seq p (.inr rfl) ho hc hd (λh' c' kp e=>fin its r' hz h' c' kp e) (by simp only[List.size_toArray]<;>omega)
theorem Y6:zR X (.type "tuple") (λxs H Q=>∃p ys,xs=[.ref p]/\((SqL X.K H p ys/\∀l,H l=none->Q (.ref l) (upd H l (.tup ys)))\/(SqT X.K H p ys/\Q (.ref p) H))):=by
 intro pins s σ H xs us Q I r h;obtain⟨p,ys,rfl,h⟩:=h;obtain⟨u,rfl,rx⟩:=Yu r;cases rx;rcases h with ⟨hq,q⟩ | ⟨hq,q⟩
 ·obtain⟨its,r',pl,hz⟩:=I.list hq;have hlen:=r'.length;refine call_tuple_list pl.isList (λh' kp=>?_) (by simp only[List.size_toArray]<;>omega);have I1:Inv X pins σ H { s with heap:=h' }:=I.kept (t':=s.toks) kp
  have I2:Inv X pins σ (upd H h'.objs.size (.tup ys)) { s with heap:=h'.push { cls:=.type "tuple",data:=.seq its.toArray } }:=
   I1.laid (t':=s.toks) (λb o e=>Heap.get?_push_of_some _ e) (Nat.le_refl _) (show zu X.prog X.w _ _ _ (.tup ys) from⟨hz,its,r',IsTup.new _ _⟩)
  exact⟨.ref h'.objs.size,_,I2,rfl,q _ (I1.hok.fresh (Nat.le_refl _))⟩
 ·obtain⟨its,r',pl,hz⟩:=I.tuple hq;exact call_tuple_same pl ⟨.ref p,H,I,rfl,q⟩
noncomputable def tyV(K:Frag)(T:String)(x:V)(H:Hp):Prop:=match x with
 |.str _=>T = "str"
 |.int _=>T = "int"
 |.ref p=>(T = "list"/\∃xs,SqL K H p xs)\/(T = "tuple"/\∃o,K.lookup p=some o/\o.cls=.type "tuple"/\o.dict=none)\/
   (T = "dict"/\((∃kvs,H p=some (.dK kvs))\/∃kvs,H p=some (.dT kvs)))\/(T = "set"/\∃S n,H p=some (.set S n))
 |_=>False
theorem qil{pins:PP}{σ:St}{H:Hp}{s:Shared}{T:String}{x:V}{v:Value}(I:Inv X pins σ H s)(r:qK x v)(ty:tyV X.K T x H) :
  s.TypeIs v T/\∀a,v=.ref a->∃ob,s.heap.get? a=some ob/\ob.dict=none:=by
 cases x with
 |str z=>
  obtain⟨t,rfl⟩:=r
  cases (show T = "str" from ty)
  exact⟨typeIs_str s z t,λ_ e=>nomatch e⟩
 |int i=>
  obtain⟨t,rfl⟩:=r
  cases (show T = "int" from ty)
  exact⟨typeIs_int s i t,λ_ e=>nomatch e⟩
 |ref p=>
  cases r;rcases ty with ⟨rfl,xs,hq⟩ | ⟨rfl,o,hk,hc,hd⟩ | ⟨rfl,hk⟩ | ⟨rfl,S,n,hk⟩
  ·obtain⟨its,_,pl,_⟩:=I.list hq;refine⟨pl.isList.typeIs,λa e=>?_⟩;cases e;obtain⟨o,n,e,c,hd,_⟩:=pl;exact⟨o,e,hd⟩
  ·refine⟨⟨o,I.kIn p o hk,hc⟩,λa e=>?_⟩;cases e;exact⟨o,I.kIn _ o hk,hd⟩
  ·have z:∃o,s.heap.get? p=some o/\o.ExactDict:=by
    rcases hk with ⟨kvs,hk⟩ | ⟨kvs,hk⟩
    ·obtain⟨_,_,_,_,o,_,_,e,ex,_⟩:=I.hok p _ hk;exact⟨o,e,ex⟩
    ·obtain⟨_,_,_,_,o,_,_,e,ex,_⟩:=I.hok p _ hk;exact⟨o,e,ex⟩
   obtain⟨o,e,ex⟩:=z;refine⟨⟨o,e,ex.1⟩,λa e2=>?_⟩;cases e2;exact⟨o,e,ex.2.1⟩
  ·obtain⟨o,_,_,_,e,ex,_⟩:=I.hok p _ hk;refine⟨⟨o,e,ex.1⟩,λa e2=>?_⟩;cases e2;exact⟨o,e,ex.2.1⟩
 |_=>exact False.elim ty
noncomputable def tBM(K:Frag)(T:String)(r:V->List V->Hp->VK->Prop)(to:TE)(t:TA):TE:=λσ H Q=>to σ H λx H1=>tyV K T x H1/\t σ H1 λxs H2=>r x xs H2 Q
variable{o e:Expr}{es:List Expr}{to:TE}{t:TA}{name:Str}{apos cpos:Pos}{T id:String}{r:V->List V->Hp->VK->Prop}
theorem qgi(pa:PlainAttrs T)(slot:Slot T name id)(hty:typeOf (.builtin id)=pure (.type "method_descriptor"))(hm:MtR X id r)(ho:PE X o to)(ha:PA X (e::es) t)
  (hbase:attributeBase o name X.env (eval o X.env)=eval o X.env:=by rfl)
  (hfew:((backTo cpos (starEach (e::es) X.env)).all (λx=>!x.1)&&(backToKw cpos (keywordEach [] X.env)).all (λx=>x.1.isSome)
   && decide ((e::es).length+([]:List Keyword).length+(if ([]:List Keyword).isEmpty then 0 else 1) < 30))=true:=by rfl)
  (hline:(apos.endLine == cpos.line)=true:=by rfl) (hs:starEach (e::es) X.env=(false,eval e X.env)::starEach es X.env:=by rfl) (hplain:(backTo cpos (starEach es X.env)).any (·.1)=false:=by rfl) :
  PE X (.Call (.Attribute o name apos) (e::es) [] cpos) (tBM X.K T r to t):=by
 intro pins s σ H Q I h;refine wpAny_Call_method_late hbase hfew hline rfl (thn (ho pins s σ H _ I h) λv s1 hq1=>?_);obtain⟨x,H1,I1,r1,ty,q1⟩:=hq1;obtain⟨h1,h2⟩:=qil I1 r1 ty;refine⟨T,id,pa,slot,hty,h1,h2,?_⟩;have hA:=ha cpos pins s1 σ H1 _ I1 q1;rw[hs] at hA ⊢;refine Calls.callWith_builtin (by show(false||(backTo cpos (starEach es X.env)).any (·.1))=false;rw[hplain]<;>rfl) (Calls.evalArgs_plain ?_);exact thn hA λus s2 ⟨vs,H2,I2,r2,q2⟩=>hm pins s2 σ H2 x vs v us Q I2 r1 r2 q2
end
end L2
namespace L2
open PySem PySem.Spec PyProof.Rows
noncomputable def MtM(X:Cx)(id:String)(r:V->List V->Hp->VK->Prop):Prop:=
 ∀(pins:PP) (s:Shared) (σ:St) (H:Hp) (x:V) (xs:List V) (v:Value) (us:List Value) (Q:VK),Inv X pins σ H s->qK x v->qz xs us->r x xs H Q->
  wpAny (model X.prog X.w) X.A (call (.builtin id) (v::us)) (EP X pins σ Q) X.xe s
theorem qz.one:∀{x:V} {us:List Value},qz [x] us->∃u,us=[u]/\qK x u
 |_,_,.cons r .nil=>⟨_,rfl,r⟩
theorem qz.rep{xs:List V}{us:List Value}(h:qz xs us):∀k:Nat,qz (List.replicate k xs).flatten (List.replicate k us).flatten
 |0=>.nil
 | k+1=>by rw[List.replicate_succ,List.replicate_succ,List.flatten_cons,List.flatten_cons];exact qz.append h (qz.rep h k)
theorem Q7(its:List Value):∀(k:Nat) (acc:List Value),
  List.foldl (λx1 x2=>x1++x2) acc.toArray (List.replicate k its.toArray)=(acc++(List.replicate k its).flatten).toArray
 |0,acc=>by simp
 | k+1,acc=>by
  have e:acc.toArray++its.toArray=(acc++its).toArray:=by simp
  have e2:(acc++its)++(List.replicate k its).flatten=acc++(List.replicate (k+1) its).flatten:=by rw[List.replicate_succ,List.flatten_cons,List.append_assoc]
  rw[<-e2,<-Q7 its k (acc++its),<-e,List.replicate_succ,List.foldl_cons]
section
variable{X:Cx}{pins:PP}{σ:St}{H:Hp}{s:Shared}{l b:Addr}{xs ys zs:List V}
theorem Inv.lset{its its':List Value}{n:Nat}{f:Array Value->Array Value}{t':Nat}(I:Inv X pins σ H s)(hH:H l=some (.lst xs))
  (e:s.heap.get? l=some { cls:=.type "list",data:=.seq its.toArray n }) (hf:f its.toArray=its'.toArray) (hv:qz ys its') (hz:ys.length<=sizeLine) :
  Inv X pins σ (upd H l (.lst ys)) { s with heap:=s.heap.update l (Obj.mapSeq f),toks:=t' }:=by
 have q:=PySem.IsL.update e f;rw[hf] at q;refine I.write (x:=l) (e:=l) (by rw[hH];exact trivial) (.inl rfl) (λb' u hb hu=>(Heap.get?_update_other s.heap (Obj.mapSeq f) (Ne.symm hb)).trans hu) ⟨_,q⟩ ?_;exact⟨hz,its',_,hv,q⟩
theorem Inv.lnew{its:List Value}{t':Nat}(I:Inv X pins σ H s)(hv:qz ys its)(hz:ys.length<=sizeLine) :
  Inv X pins σ (upd H s.heap.objs.size (.lst ys)) { s with heap:=s.heap.push { cls:=.type "list",data:=.seq its.toArray },toks:=t' }:=
 I.laid (λ_ _ q=>Heap.get?_push_of_some _ q) (Nat.le_refl _) ⟨hz,its,0,hv,Heap.get?_push_size _ rfl⟩
theorem Inv.fresh(I:Inv X pins σ H s):H s.heap.objs.size=none:=I.hok.fresh (Nat.le_refl _)
theorem Inv.lstM(I:Inv X pins σ H s)(hH:H l=some (.lst xs)):xs.length<=sizeLine/\∃(its:List Value) (n:Nat),qz xs its/\xs.length=its.length/\s.heap.get? l=some { cls:=.type "list",data:=.seq its.toArray n }:=by obtain⟨z,its,n,r,e⟩:=I.hok l _ hH;exact⟨z,its,n,r,r.length,e⟩
theorem qaK{n:Nat}(h:n<=sizeLine):Builtin.List.listTooLong n=false:=by unfold Builtin.List.listTooLong;exact decide_eq_false (1:)
end
section
variable{X:Cx}
noncomputable def qgj:V->List V->Hp->VK->Prop:=λx vs H Q=>∃l xs y,x=.ref l/\vs=[y]/\H l=some (.lst xs)/\xs.length < sizeLine/\Q .non (upd H l (.lst (xs++[y])))
theorem qcn:MtM X "list.append" qgj:=by intro pins s σ H x vs v us Q I rx rv h;obtain⟨l,xs,y,rfl,rfl,hH,hz,q⟩:=h;cases rx;obtain⟨u,rfl,ru⟩:=rv.one;obtain⟨z,its,n,r,hl,e⟩:=I.lstM hH;refine call_meets F.slot_list_append ⟨_,e,rfl⟩ F.entry_list_append (F.args_list_append_2 _ _) (PySem.list_append l its.toArray n u (by rw[List.size_toArray];omega)) ⟨e,?_⟩;refine⟨.non,_,I.lset (its':=its++[u]) hH e (by simp) (r.append %[ru|0]) ?_,rfl,q⟩;rw[List.length_append,List.length_singleton];omega
noncomputable def qgk:V->List V->Hp->VK->Prop:=λx vs H Q=>∃l b xs zs,x=.ref l/\vs=[.ref b]/\H l=some (.lst xs)/\H b=some (.lst zs)/\xs.length+zs.length<=sizeLine/\Q .non (upd H l (.lst (xs++zs)))
theorem qco:MtM X "list.extend" qgk:=by
 intro pins s σ H x vs v us Q I rx rv h;obtain⟨l,b,xs,zs,rfl,rfl,hH,hB,hz,q⟩:=h;cases rx;obtain⟨u,rfl,ru⟩:=rv.one;cases ru;obtain⟨z,its,n,r,hl,e⟩:=I.lstM hH;obtain⟨z2,its2,n2,r2,hl2,e2⟩:=I.lstM hB;have hsz:its.toArray.size+its2.toArray.size<=sizeLine:=by rw[List.size_toArray,List.size_toArray];omega
 have hlong:¬ (!its.toArray.isEmpty&&Builtin.List.listTooLong (its.toArray.size+its2.toArray.size))=true:=by rw[qaK hsz,Bool.and_false];exact Bool.false_ne_true
 refine call_meets F.slot_list_extend ⟨_,e,rfl⟩ F.entry_list_extend (F.args_list_extend_2 _ _)
  (AutoSeq1.list_extend_list_list_0 l its.toArray n b its2.toArray n2 hlong (by rw[List.size_toArray];omega) (1:)) ⟨e,e2,?_⟩
 refine⟨.non,_,I.lset (its':=its++its2) hH e (by simp) (r.append r2) ?_,rfl,q⟩;rw[List.length_append];omega
noncomputable def qmo:R2:=λx y H Q=>∃l b xs zs,x=.ref l/\y=.ref b/\H l=some (.lst xs)/\H b=some (.lst zs)/\xs.length+zs.length<=sizeLine/\∀p,H p=none->Q (.ref p) (upd H p (.lst (xs++zs)))
theorem qim:OpR X (binaryOp .Add) qmo:=by
 intro pins s σ H x y v u Q I rx ry h;obtain⟨l,b,xs,zs,rfl,rfl,hH,hB,hz,q⟩:=h;cases rx;cases ry;obtain⟨z,its,n,r,hl,e⟩:=I.lstM hH;obtain⟨z2,its2,n2,r2,hl2,e2⟩:=I.lstM hB;refine PySem.P.add_list e e2 ?_ (by rw[List.size_toArray,List.size_toArray];omega);have ea:its.toArray++its2.toArray=(its++its2).toArray:=by simp
 rw[ea];exact⟨.ref _,_,I.lnew (t':=s.toks) (r.append r2) (by rw[List.length_append];omega),rfl,q _ I.fresh⟩
noncomputable def qmp:R2:=λx y H Q=>∃l k xs,x=.ref l/\y=.int k/\H l=some (.lst xs)/\-(2 ^ 63)<=k/\k < 2 ^ 63/\xs.length * k.toNat<=sizeLine/\
 ∀p,H p=none->Q (.ref p) (upd H p (.lst (List.replicate k.toNat xs).flatten))
theorem qgl{α:Type}(xs:List α)(k:Nat):(List.replicate k xs).flatten.length=k * xs.length:=by
 induction k with
 |zero=>simp
 |succ k ih=>rw[List.replicate_succ,List.flatten_cons,List.length_append,ih,Nat.succ_mul,Nat.add_comm]
theorem qin:OpR X (binaryOp .Mult) qmp:=by
 intro pins s σ H x y v u Q I rx ry h;obtain⟨l,k,xs,rfl,rfl,hH,h1,h2,hz,q⟩:=h;cases rx;obtain⟨t,rfl⟩:=ry;obtain⟨z,its,n,r,hl,e⟩:=I.lstM hH;have hlen:its.toArray.size * k.toNat<=sizeLine:=by rw[List.size_toArray,<-hl];exact hz
 have hcap:¬ its.toArray.size * k.toNat > (2 ^ 63 - 1) / 8:=by
  have:(sizeLine:Nat)<=(2 ^ 63 - 1) / 8:=by decide
  omega
 have hfit:¬ (!Builtin.List.listFitsIndex k)=true:=by rw[fitsIndex_both h1 h2];exact Bool.false_ne_true
 have hlong:¬ Builtin.List.listTooLong (its.toArray.size * k.toNat)=true:=by rw[qaK hlen];exact Bool.false_ne_true
 have hnew:List.foldl (λx1 x2=>x1++x2) #[] (List.replicate (if its.toArray.isEmpty=true then 0 else k.toNat) its.toArray)=(List.replicate k.toNat its).flatten.toArray:=by
  have f0:∀m:Nat,List.foldl (λx1 x2=>x1++x2) #[] (List.replicate m its.toArray)=(List.replicate m its).flatten.toArray:=λm=>by
   have:=Q7 its m []
   rw[List.nil_append] at this;exact this
  rw[f0]
  cases its with
  |nil=>simp
  | cons a r'=>rw[if_neg (by simp)]
 refine wpAny_binaryOp_repeat_ref (T:="list") (U:="int") (2:) ⟨_,e,rfl⟩ (λs'=>typeIs_int s' k t) noFill_list_mul F.fills_int_mul F.slot_int_rmul repeat_list F.slot_int_index.lookup
  (call_meets F.slot_int_rmul (typeIs_int s k t) F.entry_int_rmul (F.args_int_rmul_2 _ _) (int___rmul___int_list k t l its.toArray n)
   ⟨e,rfl,⟨_,e,rfl⟩,call_meets F.slot_list_mul ⟨_,e,rfl⟩ F.entry_list_mul (F.args_list_mul_2 _ _) (AutoListH.list___mul___list_int_3 l its.toArray n k t hfit hcap hlong) ⟨e,?_⟩⟩)
 rw[hnew];exact⟨.ref _,_,I.lnew (t':=s.toks) (r.rep k.toNat) (by rw[qgl,Nat.mul_comm];exact hz),rfl,q _ I.fresh⟩
end
end L2
namespace Att
open PySem PySem.W PySem.Calls PyProof.Rows
theorem JP{P:Params}{h:Heap}:∀(ns:List Int) (vs:List Value),WellAll P h vs (ns.map WData.int)->IntsAre vs ns:=by
 intro ns
 induction ns with
 |nil=>intro vs w;rw[List.map_nil] at w;cases w;exact .nil
 |cons n ns ih=>
  intro vs w;rw[List.map_cons] at w
  cases w with
  |cons a b=>cases a;exact .cons _ _ (ih _ b)
theorem qcp{l:OpenLaw}{n:Nat}(hn:l.most=some n){P:Params}{h:Heap}{args:List WData}{vals:List Value}
  (hpre:l.row.toRowW.claim.pre args=true) (hwl:WellAll P h vals args) :
  ∃a vs ns,vals=[Value.ref a]/\args=[WData.list (ns.map WData.int)]/\h.get? a=some { cls:=.type "list",data:=.seq vs.toArray }/\IntsAre vs ns/\ns.length<=n:=by
 have hsh:WShape.hasAll [] args [.list .int]=true:=(pre_splitW hpre).1;have hc:l.pre.holds [] { args:=args }=true:=(pre_splitW hpre).2;obtain⟨d,r,rfl,h1,h2⟩:=hasAllW_cons hsh;obtain rfl:=hasAllW_nil h2;obtain⟨xs,rfl,h3⟩:=hasW_list h1;obtain⟨ns,rfl⟩:=items_int h3
 have hlen:ns.length<=n:=by
  unfold OpenLaw.pre at hc
  have h4:(WTm.not (.lt (.lit (.int (n:Int))) (.len (.arg 0)))).holds [] { args:=[.list (ns.map .int)] }=true:=by have h4:=(holds_andW hc).1;rw[hn] at h4;exact h4
  have h5:=condW_of h4 (w_not (w_lt w_lit (w_len_list (w_arg rfl))));rw[List.length_map] at h5;refine Nat.le_of_not_lt λq=>?_;have q':(n:Int) < ((ns.length:Nat):Int):=by omega
  first
   | (rw[decide_eq_true q'] at h5;exact absurd h5 (2:))
   | (simp at h5;omega)
 cases hwl with
 |cons w1 w2=>
  cases w2
  cases w1 with
  |list ho hall=>exact⟨_,_,ns,rfl,rfl,ho,JP ns _ hall,hlen⟩
theorem qcq(l:OpenLaw)(args:List WData):l.row.toRowW.claim.post args (.bool true) args=true:=
 postW_of (r:=l.row.toRowW) (X:=(true == true))
  (show WShape.has [] (.bool true) .bool=true by first | rfl | decide | simp[WShape.has,WShape.arms,WShape.armsAll])
  (show(WTm.eq .res (.lit (.bool true))).value [] { args:=args,res:=some (.bool true),after:=args }=some (.bool (true == true)) from w_eq_bool (w_res rfl) w_lit) rfl
theorem Z8{l:OpenLaw}{n:Nat}{q:Program}{loose:List Str}{XP:(Str->Option Value)->Heap->Prop}{YP:World->Heap->Prop}{d:DefRec}
  (hn:l.most=some n) (hdf:d.params.defaults=[])
  (call:∀(w:World) (s₀ s₁:Shared) (mg mb:PR) (fa:Addr) (o:Obj) (pm cd doc:Value) (a:Addr) (vs:List Value) (ns:List Int),
   Ground q loose [] XP w s₀ mg mb s₁.heap->YP w s₁.heap->
   s₁.heap.get? fa=some o->o.data=.func (docDef d.name d.params d.body d.scope pm cd doc)->s₁.heap.CodeRec cd d.name->mg d.name=some (.ref fa)->
   s₁.heap.get? a=some { cls:=.type "list",data:=.seq vs.toArray }->IntsAre vs ns->ns.length<=n->s₁.gens=#[]->
   codeAny (model l.prog w) callerA (.call (.ref fa) ⟨[.ref a],[]⟩) (λr s'=>r=.ok (.ret (.bool true))/\OldK s₁.heap s'.heap/\s'.os=s₁.os/\AllBare s'.gens) s₁) :
  WalkO q loose XP YP l.row.toRowW d [] (λf vs=>PySem.call f vs):=by
 intro w s₀ s₁ mg mb G Y fa o pm cd doc dV kV ho hd hcd hD hmg hg args vals as hpre hlay hrd hwl hlo;obtain rfl:dV=.none:=Dflts.none hD hdf;obtain rfl:kV=.none:=Dflts.noKw hD;obtain⟨a,vs,ns,rfl,rfl,hobj,hints,hlen⟩:=qcp hn hpre hwl;refine enter_call (codeAny_mono (call w s₀ s₁ mg mb fa o pm cd doc a vs ns G Y ho (fd_plain hd) hcd hmg hobj hints hlen hg) λr s' hq=>?_);obtain⟨rfl,h2,h3,h4⟩:=hq;exact⟨.inl ⟨.bool true,.bool true,[],rfl,λ_=>rfl,.bool true,qcq l _,λ_=>⟨List.Pairwise.nil,λ_ hm=>(nomatch hm)⟩⟩,h2,h3,h4⟩
end Att
namespace L2
open PySem PySem.Spec PyProof.Rows
theorem Q8:∀{vs:List Value} {ns:List Int},IntsAre vs ns->qz (ns.map V.int) vs
 |_,_,.nil=>.nil
 |_,_,.cons n t h=>.cons ⟨t,rfl⟩ (Q8 h)
def qkV(H:Hp):Prop:=∀b,H b=none\/∃o xs,H b=some (.frz o (.lst xs))
theorem qd6{P:Program}{w:World}{K:Frag}{mg mb:PR}{CX:CXT}{k:Nat}{fa a:Addr}{fd:FuncData}{x:Str}{sp:Sp}{s₁:Shared}{vs:List Value}{ns:List Int}
  (KX:K.In s₁.heap) (hns:s₁.heap.Ns mainGlobals mg) (hb:s₁.heap.Ns builtinsNs mb) (hbb:∀x:Str,x≠"__name__"->mb x=bootBuiltins x) (hlim:s₁.heap.NoLimit) (hg:s₁.gens=#[])
  (ha:s₁.heap.get? a=some { cls:=.type "list",data:=.seq vs.toArray }) (hi:IntsAre vs ns) (hl:ns.length<=sizeLine) (hr:Room k callerA)
  (F:∀base:Heap,K.In base->base.Ns mainGlobals mg->FnOk P w K mg base CX k fa fd [x] sp) (hbind:∀(s:Shared) (u:Value),BindsTo s fd ⟨[u],[]⟩ [(x,u)])
  (hsp:∀H:Hp,qkV H->SqL K H a (ns.map V.int)->sp [.ref a] H (λv _=>v=.bl true) λ_ _ _=>False)
  (hCX:∀H e s',CX [] H s₁ (λ_ _ _=>False) e s'->False) :
  codeAny (model P w) callerA (.call (.ref fa) ⟨[.ref a],[]⟩) (λr s'=>r=.ok (.ret (.bool true))/\OldK s₁.heap s'.heap/\s'.os=s₁.os/\AllBare s'.gens) s₁:=by
 have rv:=Q8 hi;have lenV:=hi.length
 have core:∀H:Hp,qkV H->SqL K H a (ns.map V.int)->HOk P w H s₁.heap->(∀b,H b≠none->b=a)->(H a≠none->K.lookup a=none)->
   codeAny (model P w) callerA (.call (.ref fa) ⟨[.ref a],[]⟩) (λr s'=>r=.ok (.ret (.bool true))/\OldK s₁.heap s'.heap/\s'.os=s₁.os/\AllBare s'.gens) s₁:=by
  intro H hO hS hok hA hK;have base_of:∀{b:Addr} {o:Obj},s₁.heap.get? b=some o->H b=none->(qdR s₁.heap H).get? b=some o:=λe n=>qdS e n
  have noA:∀{b:Addr} {o:Obj} {es:Array DictEntry} {ep:Nat},s₁.heap.get? b=some o->o.data=.dict es ep->H b=none:=λ{b o es ep} e d=>by
   cases q:H b with
   |none=>rfl
   |some u=>have e':b=a:=hA b (by rw[q];simp);subst e';rw[ha] at e;cases e;have d':Data.seq vs.toArray _=Data.dict es ep:=d;cases d'
  have nsK:∀{b:Addr} {m:PR},s₁.heap.Ns b m->(qdR s₁.heap H).Ns b m:=λ{b m} ⟨o,es,ep,e,d,r⟩=>⟨o,es,ep,base_of e (noA e d),d,r⟩
  have hKb:K.In (qdR s₁.heap H):=λb o e=>base_of (KX b o e) (by
   cases q:H b with
   |none=>rfl
   |some u=>have e':b=a:=hA b (by rw[q];simp);subst e';rw[hK (by rw[q];simp)] at e;cases e)
  have hM:Mod K mg (qdR s₁.heap H):=⟨hKb,nsK hns,⟨mb,nsK hb,hbb⟩,let ⟨mc,h1,h2⟩:=hlim;⟨mc,nsK h1,h2⟩⟩;have e0:Env0 P w K mg (qdR s₁.heap H) callerA [] s₁ H:=⟨rfl,hM,λb o e=>qfV e,Nat.le_of_eq (qb5 _ _),trivial,λb hb=>absurd (show b∈([]:List Addr) from hb) (by simp),hok,.of_eq hg⟩;refine codeAny_mono ((F _ hKb (nsK hns)).run callerA [] s₁ H ⟨[.ref a],[]⟩ [.ref a] [.ref a] _ _ hr e0 (hbind s₁ (.ref a)) %[rfl|0] (hsp H hO hS)) λr s' h=>?_
  cases r with
  |error e=>exact(hCX H e s' h).elim
  |ok fl=>
   cases fl with
   |next=>exact False.elim h
   |brk=>exact False.elim h
   |cont=>exact False.elim h
   |ret u=>
    obtain⟨v,H',os,bare,un,hok',r',q⟩:=h;have q':v=.bl true:=q;subst q';obtain rfl:u=Value.bool true:=r';refine⟨rfl,OldK.of_keep λb o e=>?_,os,bare⟩
    cases q:H b with
    |none=>exact un.keep b o e q (by intro z;exact absurd (show b∈([]:List Addr) from z) (by simp)) (by simp)
    |some u=>
     rcases hO b with z | ⟨ob,xs,z⟩
     ·rw[q] at z;cases z
     ·have z2:=un.frzs b ob _ z;obtain⟨e1,_⟩:=hok b _ z;obtain⟨e2,_⟩:=hok' b _ z2;rw[e] at e1;cases e1;exact e2
 cases hk:K.lookup a with
 |some o=>have e:=KX a o hk;rw[ha] at e;cases e;refine core (λ_=>none) (λ_=>.inl rfl) (.inr ⟨_,vs.toArray,_,hk,rfl,rfl,rfl,by rw[List.size_toArray,lenV];exact hl,by simpa using rv⟩) (λb u z=>by have z':(none:Option HO)=some u:=z;cases z') (λb z=>absurd rfl z) λz=>absurd rfl z
 |none=>
  refine core (λb=>if b=a then some (.frz { cls:=.type "list",data:=.seq vs.toArray } (.lst (ns.map V.int))) else none) (λb=>?_) (.inl (.inr ⟨{ cls:=.type "list",data:=.seq vs.toArray },if_pos rfl⟩)) (λb u z=>?_) (λb z=>?_) λ_=>hk
  ·by_cases hb:b=a
   ·exact .inr ⟨_,_,if_pos hb⟩
   ·exact .inl (if_neg hb)
  ·by_cases hb:b=a
   ·have z':=(if_pos hb).symm.trans z;cases z';subst hb;exact⟨ha,by rw[List.length_map];exact hl,vs,_,rv,ha⟩
   ·have z':=(if_neg hb).symm.trans z;cases z'
  ·by_cases hb:b=a
   ·exact hb
   ·exact absurd (if_neg hb) z
end L2
namespace L2
open PySem PySem.Spec PyProof.Rows
theorem qgm{l:PySem.W.OpenLaw}{n k:Nat}{q:Program}{loose:List Str}{XP:(Str->Option Value)->Heap->Prop}{YP:World->Heap->Prop}{d:DefRec}{K:Params->Frag}{CX:World->CXT}{sp:World->Sp}{x:Str}
  (hn:l.most=some n) (hn2:n<=sizeLine) (hdf:d.params.defaults=[]) (hr:Room k callerA)
  (hY:∀(w:World) (h:Heap),YP w h->(K w.params).In h)
  (F:∀(w:World) (mg:PR) (fa:Addr) (h:Heap),(K w.params).In h->h.Ns mainGlobals mg->mg d.name=some (.ref fa)->
   ∃fd:FuncData,(∀(s:Shared) (u:Value),BindsTo s fd ⟨[u],[]⟩ [(x,u)])/\
    ∀base:Heap,(K w.params).In base->base.Ns mainGlobals mg->FnOk l.prog w (K w.params) mg base (CX w) k fa fd [x] (sp w))
  (hsp:∀(w:World) (H:Hp) (a:Addr) (ns:List Int),ns.length<=n->qkV H->SqL (K w.params) H a (ns.map V.int)->sp w [.ref a] H (λv _=>v=.bl true) λ_ _ _=>False)
  (hCX:∀(w:World) (H:Hp) (s:Shared) (e:Value) (s':Shared),CX w [] H s (λ_ _ _=>False) e s'->False) :
  PySem.W.WalkO q loose XP YP l.row.toRowW d [] (λf vs=>PySem.call f vs):=by
 refine Att.Z8 hn hdf λw s₀ s₁ mg mb fa o pm cd doc a vs ns G Y ho hd hcd hmg hobj hints hlen hg=>?_;have KX:=hY w _ Y;obtain⟨fd,hb,hF⟩:=F w mg fa _ KX G.T.g hmg;exact qd6 KX G.T.g G.T.b G.T.builtins G.T.nolimit hg hobj hints (Nat.le_trans hlen hn2) hr hF hb (λH hO hS=>hsp w H a ns hlen hO hS) λH e s'=>hCX w H s₁ e s'
end L2
namespace L2
open PySem PySem.Spec PyProof.Rows
noncomputable def qQ(s:Stmt):Arguments:=match s with
 |.FunctionDef _ a _ _ _ _ _ _ _ _=>a
 |_=>{ posonlyargs:=[],args:=[],vararg:=none,kwonlyargs:=[],kw_defaults:=[],kwarg:=none,defaults:=[] }
def qB(s:Stmt):List Stmt:=match s with
 |.FunctionDef _ _ b _ _ _ _ _ _ _=>b
 |_=>[]
noncomputable def qi(s:Stmt):Scope:=match s with
 |.FunctionDef _ _ _ _ _ _ sc _ _ _=>sc
 |_=>{ kind:=.function,names:=[],isGenerator:=false,isCoroutine:=false }
abbrev CX0:CXT:=λ_ _ _ _ _ _=>False
abbrev E0:XK:=λ_ _ _=>False
theorem jJ{X:Cx}:j8 CX0 X E0:=λ_ _ _ _ _ _ _ h=>h.elim
structure Fun(K:Frag)(x qual:Str)(st:Stmt)(f:Addr)(fd:FuncData):Prop where
 ex:∃(oc:Value) (od:Option Addr) (kV doc pm:Value) (an:Option Addr) (cdv ct:Value) (osl:Array (Option Value)),
  fd=PySem.W.fnOf x qual (qQ st) (qB st) (qi st) .none kV doc pm an cdv ct/\K.lookup f=some ⟨oc,od,.func fd,osl⟩/\PySem.W.codeIn K cdv qual=true
 kp:PySem.W.keepIn K (.ref f)=true
section
variable{P:Program}{w:World}{K:Frag}{mg:PR}{base:Heap}
theorem Fun.ok{x qual:Str}{st:Stmt}{f:Addr}{fd:FuncData}{N ps:List Str}{k:Nat}{sp:Sp}(F:Fun K x qual st f fd)(S:FnScope N ps (qi st))(len:∀vs H Q E,sp vs H Q E->vs.length=ps.length)
  (hbody:∀(cdv:Value) (A:Around) (outer:List Env) (s:Shared) (H:Hp) (vs:List V) (Q:VK) (E:XK),Room k (A.deeper (envOfC qual (qi st) s.heap.objs.size f cdv))->sp vs H Q E->
   ∃t,PSs (qgc CX0 P w K mg base N qual (qi st) f cdv A outer s H E).nox (qB st) t/\t { nx:=λ_ H'=>Q .non H',rt:=Q } (qr N vs) H):FnOk P w K mg base CX0 (k+1) f fd ps sp:=by
 obtain⟨oc,od,kV,doc,pm,an,cdv,ct,osl,rfl,lk,hcd⟩:=F.ex;refine qkR lk hcd S len λA outer s H vs Q E hr hsp=>?_;obtain⟨t,h,q⟩:=hbody cdv A outer s H vs Q E hr hsp;exact⟨t,h.nox,q⟩
theorem Fun.binds{x qual:Str}{st:Stmt}{f:Addr}{fd:FuncData}{ps:List Str}(F:Fun K x qual st f fd)
  (h:∀(kV doc pm:Value) (an:Option Addr) (cdv ct:Value) (us:List Value),us.length=ps.length->bindArgs (PySem.W.fnOf x qual (qQ st) (qB st) (qi st) .none kV doc pm an cdv ct) ⟨us,[]⟩=pure (ps.zip us)):zj K fd ps []:=by
 obtain⟨oc,od,kV,doc,pm,an,cdv,ct,osl,rfl,lk,hcd⟩:=F.ex;exact .all (h kV doc pm an cdv ct)
theorem qfb{x qual:Str}{st:Stmt}{f:Addr}{oc:Value}{od an:Option Addr}{osl:Array (Option Value)}{kV doc pm cdv ct:Value}(l:K.lookup f=some ⟨oc,od,.func (PySem.W.fnOf x qual (qQ st) (qB st) (qi st) .none kV doc pm an cdv ct),osl⟩)
  (c:PySem.W.codeIn K cdv qual=true) (k:PySem.W.keepIn K (.ref f)=true):Fun K x qual st f (PySem.W.fnOf x qual (qQ st) (qB st) (qi st) .none kV doc pm an cdv ct):=⟨⟨oc,od,kV,doc,pm,an,cdv,ct,osl,rfl,l,c⟩,k⟩
end
theorem Q9{n:Nat}(h:n<=1000):n < sizeLine:=Nat.lt_of_le_of_lt h (2:)
section
variable{X:Cx}
theorem pv(i:Nat){x:Str}{pos:Pos}(hN:X.N[i]?=some x:=by rfl)(hv:Vis X.env.scope x:=by first | exact Or.inl rfl | exact Or.inr (Or.inl rfl) | exact Or.inr (Or.inr rfl))(hd:(x == ("__debug__" : Str))=false:=by decide)
  (hcd:(x == ("__classdict__" : Str))=false:=by decide):PE X (.Name x pos) (qko i):=qb6 hN hv hd hcd
end
def qo(H H':Hp):Prop:=∀b o,H b=some o->H' b=some o
theorem qo.seq{K:Frag}{H H':Hp}{a:Addr}{xs:List V}(e:qo H H')(h:SqL K H a xs):SqL K H' a xs:=by
 rcases h with (h | ⟨o,h⟩) | h
 ·exact .inl (.inl (e _ _ h))
 ·exact .inl (.inr ⟨o,e _ _ h⟩)
 ·exact .inr h
end L2
namespace TS
open PySem PyProof.Rows
section
variable{M:Model}{A:Around}{E:PQ}{s:Shared}{O:KeyOrd}{kf:Keyed->O.α}{κ:SortKind}{G:Keyed->Prop}
noncomputable def qd7(M:Model)(A:Around)(E:PQ)(s:Shared)(O:KeyOrd)(kf:Keyed->O.α)(κ:SortKind)(G:Keyed->Prop):Prop:=
 ∀x y,G x->G y->∀(st:SortSt) (Q:Option Bool->SortSt->Prop),kindOf st=κ->Q (some (O.blt (kf x) (kf y))) st->wpS M A E s (lt' x y) Q st
theorem qcr{arr:Array Keyed}{p:Nat}{x:Keyed}{st:SortSt}{Q:Keyed->SortSt->Prop}(e:arr[p]?=some x)(h:Q x st):wpS M A E s (elem' arr p) Q st:=by rw[elem'_eq,e];exact wpS_pure h
variable{left:Bool}{key:Keyed}{arr:Array Keyed}{base n hint:Nat}{st:SortSt}{P:Nat->Bool}
end
end TS
namespace TS
open PySem PyProof.Rows
section
variable{O:KeyOrd}{kf:Keyed->O.α}
def le(O:KeyOrd)(kf:Keyed->O.α)(x y:Keyed):Prop:=O.kle (kf x) (kf y)
noncomputable def Srt(O:KeyOrd)(kf:Keyed->O.α)(a:Array Keyed)(lo hi:Nat):Prop:=∀(i j:Nat) (x y:Keyed),lo<=i->i<=j->j < hi->a[i]?=some x->a[j]?=some y->le O kf x y
theorem Srt.pw{a:Array Keyed}(h:Srt O kf a 0 a.size):a.toList.Pairwise (le O kf):=by
 rw[List.pairwise_iff_getElem];intro i j hi hj hij;have hj':j < a.size:=by simpa using hj
 have hi':i < a.size:=by simpa using hi
 exact h i j _ _ (1:) (1:) hj' (by simp[hi']) (by simp[hj'])
variable{a b o:Array Keyed}{i j:Nat}
end
end TS
namespace TS
open PySem PyProof.Rows
section
variable{M:Model}{A:Around}{E:PQ}{s:Shared}{O:KeyOrd}{kf:Keyed->O.α}{κ:SortKind}{G:Keyed->Prop}{a b:Array Keyed}
theorem qcs{a:Array Keyed}{i:Nat}(h:i < a.size):∃x,a[i]?=some x/\x∈a.toList:=⟨a[i],Array.getElem?_eq_getElem h,by simp⟩
end
end TS
namespace TS
open PySem PyProof.Rows
section
variable{O:KeyOrd}{kf:Keyed->O.α}
noncomputable def KA(O:KeyOrd)(kf:Keyed->O.α)(xs:Array Keyed)(i:Nat):O.α:=kf (xs[i]?.getD (Value.none,Value.none))
noncomputable def Inc(O:KeyOrd)(kf:Keyed->O.α)(xs:Array Keyed)(lo hi:Nat):Prop:=∀i j,lo<=i->i<=j->j < hi->O.kle (KA O kf xs i) (KA O kf xs j)
noncomputable def Dec(O:KeyOrd)(kf:Keyed->O.α)(xs:Array Keyed)(lo hi:Nat):Prop:=∀i j,lo<=i->i<=j->j < hi->O.kle (KA O kf xs j) (KA O kf xs i)
theorem yA{xs ys:Array Keyed}{i j:Nat}(h:xs[i]?=ys[j]?):KA O kf xs i=KA O kf ys j:=by unfold KA;rw[h]
theorem qd8{xs:Array Keyed}{i:Nat}{x:Keyed}(h:xs[i]?=some x):KA O kf xs i=kf x:=by unfold KA;rw[h];rfl
theorem Inc.srt{xs:Array Keyed}{lo hi:Nat}(h:Inc O kf xs lo hi):Srt O kf xs lo hi:=λi j x y h1 h2 h3 e1 e2=>by
 have:=h i j h1 h2 h3
 rw[qd8 e1,qd8 e2] at this;exact this
theorem JQ{xs:Array Keyed}{i j:Nat}(hj:j<=xs.size)(k:Nat):KA O kf (mirror xs i j ((j - i) / 2)) k=if i<=k/\k < j then KA O kf xs (i+j - 1 - k) else KA O kf xs k:=by
 have e:=getElem?_mirror_all (i:=i) hj k
 by_cases h:i<=k/\k < j
 ·rw[if_pos h] at e ⊢;exact yA e
 ·rw[if_neg h] at e ⊢;exact yA e
theorem qV{xs:Array Keyed}{i j:Nat}(hj:j<=xs.size)(heq:∀k,i<=k->k < j->KA O kf xs k=KA O kf xs (j - 1))(k:Nat):KA O kf (mirror xs i j ((j - i) / 2)) k=KA O kf xs k:=by
 rw[JQ hj];split
 ·rw[heq _ (1:) (1:),heq k (1:) (1:)]
 ·rfl
theorem Za{xs:Array Keyed}{src d:Nat}(hs:src < xs.size)(hd:d<=src)(k:Nat) :
  KA O kf (bubble xs src d) k=if k=src - d then KA O kf xs src else if src - d < k/\k<=src then KA O kf xs (k - 1) else KA O kf xs k:=by
 have e:=getElem?_bubble hs d hd k
 by_cases h1:k=src - d
 ·rw[if_pos h1] at e ⊢;exact yA e
 ·rw[if_neg h1] at e ⊢
  by_cases h2:src - d < k/\k<=src
  ·rw[if_pos h2] at e ⊢;exact yA e
  ·rw[if_neg h2] at e ⊢;exact yA e
structure Re(lo:Nat)(xs ys:Array Keyed):Prop where
 perm:ys.Perm xs
 keep:∀k,k < lo->ys[k]?=xs[k]?
theorem Re.refl(lo:Nat)(xs:Array Keyed):Re lo xs xs:=⟨Array.Perm.refl _,λ_ _=>rfl⟩
theorem Re.trans{lo:Nat}{xs ys zs:Array Keyed}(a:Re lo xs ys)(b:Re lo ys zs):Re lo xs zs:=⟨b.perm.trans a.perm,λk h=>(b.keep k h).trans (a.keep k h)⟩
theorem Re.size{lo:Nat}{xs ys:Array Keyed}(a:Re lo xs ys):ys.size=xs.size:=a.perm.size_eq
theorem Re.mirror{lo i j:Nat}{xs:Array Keyed}(hi:lo<=i)(hj:j<=xs.size):Re lo xs (mirror xs i j ((j - i) / 2)):=⟨mirror_perm _ _ _ _,λk h=>by rw[getElem?_mirror_all hj k,if_neg (1:)]⟩
theorem Re.bubble{lo src d:Nat}{xs:Array Keyed}(hs:src < xs.size)(hd:lo+d<=src):Re lo xs (bubble xs src d):=⟨bubble_perm _ _ _,λk h=>by rw[getElem?_bubble hs d (1:),if_neg (1:),if_neg (1:)]⟩
theorem Re.mem{lo:Nat}{xs ys:Array Keyed}(a:Re lo xs ys){G:Keyed->Prop}(h:∀x∈xs.toList,G x):∀x∈ys.toList,G x:=λx hx=>h x ((Array.perm_iff_toList_perm.mp a.perm).mem_iff.mp hx)
end
abbrev ASt:=Option (Option Nat)×Nat
abbrev BSt:=Option (Option Nat)×Nat×Nat
noncomputable def asc(lo a nrem:Nat):StateT SortSt Sem ASt:=
 forIn [a:nrem] ((none,a):ASt) λ_ c=>do
  let r<-ltAt' (lo+c.2) (lo+c.2 - 1)
  match r with
  |some sm=>if sm=true then pure (.done (none,c.2)) else pure (.yield (none,c.2+1))
  |_=>pure (.done (some none,c.2))
noncomputable def dsc(lo a nrem:Nat):StateT SortSt Sem BSt:=
 forIn [a:nrem] ((none,a,0):BSt) λ_ c=>do
  let r<-ltAt' (lo+c.2.1) (lo+c.2.1 - 1)
  match r with
  |some sm=>
   if sm=true then
    if c.2.2 > 0 then do
     reverseSlice' (lo+c.2.1 - (c.2.2+1)) (lo+c.2.1)
     pure (.yield (none,c.2.1+1,0))
    else pure (.yield (none,c.2.1+1,0))
   else do
    let r<-ltAt' (lo+c.2.1 - 1) (lo+c.2.1)
    match r with
    |some lg=>if lg=true then pure (.done (none,c.2.1,c.2.2)) else pure (.yield (none,c.2.1+1,c.2.2+1))
    |_=>pure (.done (some none,c.2.1,c.2.2))
  |_=>pure (.done (some none,c.2.1,c.2.2))
noncomputable def tl3(lo n nrem:Nat):StateT SortSt Sem (Option Nat):=do
 reverseSlice' lo (lo+n)
 let c<-asc lo n nrem
 match c.1 with
 |some r=>pure r
 |none=>pure (some c.2)
noncomputable def dpt(lo n nrem:Nat):StateT SortSt Sem (Option Nat):=do
 rule "list.sort.descending-run"
 let c<-dsc lo (n+1) nrem
 match c.1 with
 |some r=>pure r
 |none=>if c.2.2 > 0 then do reverseSlice' (lo+c.2.1 - (c.2.2+1)) (lo+c.2.1);tl3 lo c.2.1 nrem else tl3 lo c.2.1 nrem
theorem qkW(lo nrem:Nat):countRun' lo nrem=(do
 let c<-asc lo 1 nrem
 match c.1 with
 |some r=>pure r
 |none=>
  if (c.2 == nrem)=true then pure (some c.2)
  else if c.2 > 1 then do
   let r<-ltAt' lo (lo+c.2 - 1)
   match r with
   |some rs=>if rs=true then pure (some c.2) else do reverseSlice' lo (lo+c.2);dpt lo c.2 nrem
   |_=>pure none
  else dpt lo c.2 nrem):=by
 rw[countRun'_eq];show(forIn _ _ _ >>= _:StateT SortSt Sem (Option Nat))=asc lo 1 nrem >>= _;refine congr (congrArg Bind.bind ?_) (funext λc=>?_)
 ·delta asc
  refine congrArg (forIn _ _) (funext λ_=>funext λc=>?_);refine congrArg (λz=>_ >>= z) (funext λr=>?_)
  cases r with
  |none=>exact rfl
  |some sm=>exact rfl
 ·obtain⟨c1,c2⟩:=c
  cases c1 with
  |some r=>rfl
  |none=>
   show(ite _ _ (ite _ _ _):StateT SortSt Sem (Option Nat))=ite _ _ (ite _ _ _);refine congrArg (ite _ _) ?_;refine congr (congrArg (ite _) ?_) ?_
   ·refine congrArg (λz=>_ >>= z) (funext λr=>?_)
    cases r with
    |none=>exact rfl
    |some rs=>
     show(ite _ _ _:StateT SortSt Sem (Option Nat))=ite _ _ _;refine congrArg (ite _ _) ?_;refine congrArg (λz=>_ >>= z) (funext λ_=>?_)
     delta dpt
     refine congrArg (λz=>_ >>= z) (funext λ_=>?_);show(forIn _ _ _ >>= _:StateT SortSt Sem (Option Nat))=dsc lo (c2+1) nrem >>= _;refine congr (congrArg Bind.bind ?_) (funext λd=>?_)
     ·delta dsc
      refine congrArg (forIn _ _) (funext λ_=>funext λc=>?_);refine congrArg (λz=>_ >>= z) (funext λr=>?_)
      cases r with
      |none=>exact rfl
      |some sm=>
       show(ite _ _ _:StateT SortSt Sem (ForInStep BSt))=ite _ _ _;refine congr (congrArg (ite _) ?_) ?_
       ·exact rfl
       ·refine congrArg (λz=>_ >>= z) (funext λr=>?_)
        cases r with
        |none=>exact rfl
        |some lg=>exact rfl
     ·obtain⟨d1,d2,d3⟩:=d
      cases d1 with
      |some r=>exact rfl
      |none=>
       show(ite _ _ _:StateT SortSt Sem (Option Nat))=ite _ _ _;refine congr (congrArg (ite _) ?_) ?_
       ·refine congrArg (λz=>_ >>= z) (funext λ_=>?_)
        delta tl3
        refine congrArg (λz=>_ >>= z) (funext λ_=>?_);show(forIn _ _ _ >>= _:StateT SortSt Sem (Option Nat))=asc lo d2 nrem >>= _;refine congr (congrArg Bind.bind ?_) (funext λe=>?_)
        ·delta asc
         refine congrArg (forIn _ _) (funext λ_=>funext λc=>?_);refine congrArg (λz=>_ >>= z) (funext λr=>?_)
         cases r with
         |none=>exact rfl
         |some sm=>exact rfl
        ·obtain⟨e1,e2⟩:=e
         cases e1 with
         |some r=>exact rfl
         |none=>exact rfl
       ·delta tl3
        refine congrArg (λz=>_ >>= z) (funext λ_=>?_);show(forIn _ _ _ >>= _:StateT SortSt Sem (Option Nat))=asc lo d2 nrem >>= _;refine congr (congrArg Bind.bind ?_) (funext λe=>?_)
        ·delta asc
         refine congrArg (forIn _ _) (funext λ_=>funext λc=>?_);refine congrArg (λz=>_ >>= z) (funext λr=>?_)
         cases r with
         |none=>exact rfl
         |some sm=>exact rfl
        ·obtain⟨e1,e2⟩:=e
         cases e1 with
         |some r=>exact rfl
         |none=>exact rfl
   ·show _=dpt lo c2 nrem
    delta dpt
    refine congrArg (λz=>_ >>= z) (funext λ_=>?_);show(forIn _ _ _ >>= _:StateT SortSt Sem (Option Nat))=dsc lo (c2+1) nrem >>= _;refine congr (congrArg Bind.bind ?_) (funext λd=>?_)
    ·delta dsc
     refine congrArg (forIn _ _) (funext λ_=>funext λc=>?_);refine congrArg (λz=>_ >>= z) (funext λr=>?_)
     cases r with
     |none=>exact rfl
     |some sm=>
      show(ite _ _ _:StateT SortSt Sem (ForInStep BSt))=ite _ _ _;refine congr (congrArg (ite _) ?_) ?_
      ·exact rfl
      ·refine congrArg (λz=>_ >>= z) (funext λr=>?_)
       cases r with
       |none=>exact rfl
       |some lg=>exact rfl
    ·obtain⟨d1,d2,d3⟩:=d
     cases d1 with
     |some r=>exact rfl
     |none=>
      show(ite _ _ _:StateT SortSt Sem (Option Nat))=ite _ _ _;refine congr (congrArg (ite _) ?_) ?_
      ·refine congrArg (λz=>_ >>= z) (funext λ_=>?_)
       delta tl3
       refine congrArg (λz=>_ >>= z) (funext λ_=>?_);show(forIn _ _ _ >>= _:StateT SortSt Sem (Option Nat))=asc lo d2 nrem >>= _;refine congr (congrArg Bind.bind ?_) (funext λe=>?_)
       ·delta asc
        refine congrArg (forIn _ _) (funext λ_=>funext λc=>?_);refine congrArg (λz=>_ >>= z) (funext λr=>?_)
        cases r with
        |none=>exact rfl
        |some sm=>exact rfl
       ·obtain⟨e1,e2⟩:=e
        cases e1 with
        |some r=>exact rfl
        |none=>exact rfl
      ·delta tl3
       refine congrArg (λz=>_ >>= z) (funext λ_=>?_);show(forIn _ _ _ >>= _:StateT SortSt Sem (Option Nat))=asc lo d2 nrem >>= _;refine congr (congrArg Bind.bind ?_) (funext λe=>?_)
       ·delta asc
        refine congrArg (forIn _ _) (funext λ_=>funext λc=>?_);refine congrArg (λz=>_ >>= z) (funext λr=>?_)
        cases r with
        |none=>exact rfl
        |some sm=>exact rfl
       ·obtain⟨e1,e2⟩:=e
        cases e1 with
        |some r=>exact rfl
        |none=>exact rfl
section
variable{M:Model}{A:Around}{E:PQ}{s:Shared}{O:KeyOrd}{kf:Keyed->O.α}{κ:SortKind}{G:Keyed->Prop}
theorem JR(L:qd7 M A E s O kf κ G){st:SortSt}{i j:Nat}{Q:Option Bool->SortSt->Prop}(hk:kindOf st=κ)(hG:∀x∈(arrOf st).toList,G x)(hi:i < (arrOf st).size)(hj:j < (arrOf st).size)
  (h:Q (some (O.blt (KA O kf (arrOf st) i) (KA O kf (arrOf st) j))) st):wpS M A E s (ltAt' i j) Q st:=by
 rw[ltAt'_eq];refine wpS_bind (wpS_get ?_);obtain⟨x,ex,mx⟩:=qcs hi;obtain⟨y,ey,my⟩:=qcs hj;rw[qd8 ex,qd8 ey] at h;exact wpS_bind (qcr ex (wpS_bind (qcr ey (L x y (hG x mx) (hG y my) st Q hk h))))
theorem qaL{i j:Nat}{st:SortSt}{Q:Unit->SortSt->Prop}(h:Q () (setArr st (mirror (arrOf st) i j ((j - i) / 2)))):wpS M A E s (reverseSlice' i j) Q st:=by rw[reverseSlice'_eq];exact wpS_modify h
theorem qfc(L:qd7 M A E s O kf κ G){st:SortSt}{lo a nrem:Nat}{Q:ASt->SortSt->Prop}(hk:kindOf st=κ)(hG:∀x∈(arrOf st).toList,G x)(hn:lo+nrem<=(arrOf st).size)(ha:1<=a)(han:a<=nrem)
  (hs:Inc O kf (arrOf st) lo (lo+a))
  (h:∀n,a<=n->n<=nrem->Inc O kf (arrOf st) lo (lo+n)->(n=nrem\/O.klt (KA O kf (arrOf st) (lo+n)) (KA O kf (arrOf st) (lo+n - 1)))->Q (none,n) st):wpS M A E s (asc lo a nrem) Q st:=by
 unfold asc;refine wpS_forRange (I:=λx c st'=>st'=st/\c=(none,x)/\Inc O kf (arrOf st) lo (lo+x)) ?step ?fin ⟨rfl,rfl,hs⟩
 case fin=>rintro c st' ⟨rfl,rfl,hs'⟩;rw[show max a nrem=nrem by omega] at hs' ⊢;exact h nrem han (Nat.le_refl _) hs' (.inl rfl)
 case step=>
  rintro x c st' hax hxn ⟨rfl,rfl,hs'⟩;dsimp only;refine wpS_bind (JR L hk hG (1:) (1:) ?_)
  cases hb:O.blt (KA O kf (arrOf st') (lo+x)) (KA O kf (arrOf st') (lo+x - 1)) with
  |true=>simp only[if_true];exact wpS_pure (h x hax (1:) hs' (.inr hb))
  |false=>
   simp only[Bool.false_eq_true,if_false];refine wpS_pure ⟨rfl,rfl,λi j h1 h2 h3=>?_⟩
   by_cases hjx:j < lo+x
   ·exact hs' i j h1 h2 hjx
   ·have:j=lo+x:=by omega
    subst this
    by_cases e:i=lo+x
    ·subst e;exact KeyOrd.kle_refl _
    ·exact KeyOrd.kle_trans (hs' i (lo+x - 1) h1 (1:) (1:)) hb
noncomputable def qbz(O:KeyOrd)(kf:Keyed->O.α)(lo nrem:Nat)(st:SortSt)(Q:Option Nat->SortSt->Prop):Prop:=
 ∀m xs,Re lo (arrOf st) xs->1<=m->m<=nrem->Inc O kf xs lo (lo+m)->Q (some m) (setArr st xs)
theorem qbz.step{lo nrem:Nat}{st:SortSt}{Q:Option Nat->SortSt->Prop}{xs:Array Keyed}(h:qbz O kf lo nrem st Q)(r:Re lo (arrOf st) xs):qbz O kf lo nrem (setArr st xs) Q:=
 λm ys r' h1 h2 h3=>h m ys (r.trans r') h1 h2 h3
theorem qfd(L:qd7 M A E s O kf κ G){st:SortSt}{lo n nrem:Nat}{Q:Option Nat->SortSt->Prop}(hk:kindOf st=κ)(hG:∀x∈(arrOf st).toList,G x)(hn:lo+nrem<=(arrOf st).size)(h1:1<=n)(hnn:n<=nrem)
  (hs:Dec O kf (arrOf st) lo (lo+n)) (h:qbz O kf lo nrem st Q):wpS M A E s (tl3 lo n nrem) Q st:=by
 unfold tl3;refine wpS_bind (qaL ?_);have r:Re lo (arrOf st) (mirror (arrOf st) lo (lo+n) ((lo+n - lo) / 2)):=Re.mirror (Nat.le_refl _) (1:);refine wpS_bind (qfc L (st:=setArr st (mirror (arrOf st) lo (lo+n) ((lo+n - lo) / 2))) hk (r.mem hG) (by have:=r.size;show lo+nrem<=(mirror (arrOf st) lo (lo+n) ((lo+n - lo) / 2)).size;omega) h1 hnn ?_ λm hm1 hm2 hs2 _=>wpS_pure (h m _ r (1:) hm2 hs2));intro i j h2 h3 h4;show O.kle (KA O kf (mirror (arrOf st) lo (lo+n) ((lo+n - lo) / 2)) i) (KA O kf (mirror (arrOf st) lo (lo+n) ((lo+n - lo) / 2)) j);rw[JQ (1:),JQ (1:),if_pos (1:),if_pos (1:)];exact hs _ _ (1:) (1:) (1:)
theorem qio(L:qd7 M A E s O kf κ G){st:SortSt}{lo n nrem:Nat}{Q:BSt->SortSt->Prop}(hk:kindOf st=κ)(hG:∀x∈(arrOf st).toList,G x)(hn:lo+nrem<=(arrOf st).size)(h1:1<=n)(hnn:n<=nrem)
  (hs:Dec O kf (arrOf st) lo (lo+n))
  (h:∀m ne xs,Re lo (arrOf st) xs->n<=m->m<=nrem->Dec O kf xs lo (lo+m)->ne+1<=m->(∀i,lo+m - (ne+1)<=i->i < lo+m->KA O kf xs i=KA O kf xs (lo+m - 1))->Q (none,m,ne) (setArr st xs)):wpS M A E s (dsc lo n nrem) Q st:=by
 unfold dsc
 refine wpS_forRange (I:=λx c st'=>∃ne xs,c=(none,x,ne)/\st'=setArr st xs/\Re lo (arrOf st) xs/\Dec O kf xs lo (lo+x)/\ne+1<=x/\(∀i,lo+x - (ne+1)<=i->i < lo+x->KA O kf xs i=KA O kf xs (lo+x - 1))) ?step ?fin
  ⟨0,arrOf st,rfl,rfl,Re.refl _ _,hs,by omega,λi a b=>by congr 1;omega⟩
 case fin=>rintro c st' ⟨ne,xs,rfl,rfl,r,hs',hq,he⟩;rw[show max n nrem=nrem by omega] at hs' hq he ⊢;exact h nrem ne xs r hnn (Nat.le_refl _) hs' hq he
 case step=>
  rintro x c st' hax hxn ⟨ne,xs,rfl,rfl,r,hs',hq,he⟩;dsimp only;have hsz:xs.size=(arrOf st).size:=r.size;refine wpS_bind (JR L (st:=setArr st xs) hk (r.mem hG) (by show lo+x < xs.size;omega) (by show lo+x - 1 < xs.size;omega) ?_);show wpS M A E s _ _ _
  cases hb:O.blt (KA O kf (arrOf (setArr st xs)) (lo+x)) (KA O kf (arrOf (setArr st xs)) (lo+x - 1)) with
  |true=>
   have hb:O.blt (KA O kf xs (lo+x)) (KA O kf xs (lo+x - 1))=true:=hb;simp only[if_true]
   have step1:∀ys:Array Keyed,(∀k,KA O kf ys k=KA O kf xs k)->Dec O kf ys lo (lo+(x+1)):=by
    intro ys hy i j a b d;rw[hy,hy]
    by_cases hjx:j < lo+x
    ·exact hs' i j a b hjx
    ·have:j=lo+x:=by omega
     subst this
     by_cases e:i=lo+x
     ·subst e;exact KeyOrd.kle_refl _
     ·exact KeyOrd.kle_trans (KeyOrd.kle_of_klt hb) (hs' i (lo+x - 1) a (1:) (1:))
   by_cases hneq:ne > 0
   ·rw[if_pos hneq];refine wpS_bind (qaL (wpS_pure ⟨0,_,rfl,rfl,r.trans (Re.mirror (xs:=xs) (1:) (1:)),step1 _ (qV (xs:=xs) (1:) he),by omega,λi a b=>by congr 1;omega⟩))
   ·rw[if_neg hneq];exact wpS_pure ⟨0,xs,rfl,rfl,r,step1 _ (λ_=>rfl),by omega,λi a b=>by congr 1;omega⟩
  |false=>
   have hb:O.blt (KA O kf xs (lo+x)) (KA O kf xs (lo+x - 1))=false:=hb;simp only[Bool.false_eq_true,if_false];refine wpS_bind (JR L (st:=setArr st xs) hk (r.mem hG) (by show lo+x - 1 < xs.size;omega) (by show lo+x < xs.size;omega) ?_)
   cases hc:O.blt (KA O kf (arrOf (setArr st xs)) (lo+x - 1)) (KA O kf (arrOf (setArr st xs)) (lo+x)) with
   |true=>simp only[if_true];exact wpS_pure (h x ne xs r hax (1:) hs' hq he)
   |false=>
    have hc:O.blt (KA O kf xs (lo+x - 1)) (KA O kf xs (lo+x))=false:=hc;simp only[Bool.false_eq_true,if_false];have heqx:KA O kf xs (lo+x)=KA O kf xs (lo+x - 1):=KeyOrd.kle_antisymm hc hb;refine wpS_pure ⟨ne+1,xs,rfl,rfl,r,λi j a b d=>?_,by omega,λi a b=>?_⟩
    ·by_cases hjx:j < lo+x
     ·exact hs' i j a b hjx
     ·have:j=lo+x:=by omega
      subst this
      by_cases e:i=lo+x
      ·subst e;exact KeyOrd.kle_refl _
      ·rw[heqx];exact hs' i (lo+x - 1) a (1:) (1:)
    ·rw[show lo+(x+1) - 1=lo+x by omega]
     by_cases e:i=lo+x
     ·rw[e]
     ·rw[heqx];exact he i (1:) (1:)
theorem qfe(L:qd7 M A E s O kf κ G){st:SortSt}{lo n nrem:Nat}{Q:Option Nat->SortSt->Prop}(hk:kindOf st=κ)(hG:∀x∈(arrOf st).toList,G x)(hn:lo+nrem<=(arrOf st).size)(hnn:n+1<=nrem)
  (hs:Dec O kf (arrOf st) lo (lo+(n+1))) (h:qbz O kf lo nrem st Q):wpS M A E s (dpt lo n nrem) Q st:=by
 unfold dpt;refine wpS_bind (wpS_lift (wpAny_rule ⟨rfl,?_⟩));refine wpS_bind (qio L hk hG hn (1:) hnn hs λm ne xs r h1 h2 h3 h4 h5=>?_);dsimp only;have hsz:xs.size=(arrOf st).size:=r.size
 by_cases hneq:ne > 0
 ·rw[if_pos hneq];have r2:Re lo xs (mirror xs (lo+m - (ne+1)) (lo+m) ((lo+m - (lo+m - (ne+1))) / 2)):=Re.mirror (1:) (1:);refine wpS_bind (qaL (qfd L hk (r2.mem (r.mem hG)) (by have:=r2.size;show lo+nrem<=(mirror xs (lo+m - (ne+1)) (lo+m) ((lo+m - (lo+m - (ne+1))) / 2)).size;omega) (1:) h2 ?_ ((h.step r).step r2)));intro i j a b d;show O.kle (KA O kf (mirror xs _ _ _) j) (KA O kf (mirror xs _ _ _) i);rw[qV (1:) h5,qV (1:) h5];exact h3 i j a b d
 ·rw[if_neg hneq];exact qfd L (st:=setArr st xs) hk (r.mem hG) (by show lo+nrem<=xs.size;omega) (1:) h2 h3 (h.step r)
theorem qkX(L:qd7 M A E s O kf κ G){st:SortSt}{lo nrem:Nat}{Q:Option Nat->SortSt->Prop}(hk:kindOf st=κ)(hG:∀x∈(arrOf st).toList,G x)(hn:lo+nrem<=(arrOf st).size)(h1:1<=nrem)
  (h:qbz O kf lo nrem st Q):wpS M A E s (countRun' lo nrem) Q st:=by
 rw[qkW];refine wpS_bind (qfc L hk hG hn (Nat.le_refl 1) h1 (λi j a b d=>by have:i=j:=(1:);subst this;exact KeyOrd.kle_refl _) λn hn1 hn2 hsn hor=>?_);dsimp only
 by_cases hnn:n=nrem
 ·rw[if_pos (by simpa using hnn)];exact wpS_pure (h n _ (Re.refl _ _) hn1 hn2 hsn)
 ·rw[if_neg (by simpa using hnn)];have hlt:=hor.resolve_left hnn
  by_cases hgt:n > 1
  ·rw[if_pos hgt];refine wpS_bind (JR L hk hG (1:) (1:) ?_)
   cases hr:O.blt (KA O kf (arrOf st) lo) (KA O kf (arrOf st) (lo+n - 1)) with
   |true=>simp only[if_true];exact wpS_pure (h n _ (Re.refl _ _) hn1 hn2 hsn)
   |false=>
    simp only[Bool.false_eq_true,if_false]
    have hall:∀k,lo<=k->k < lo+n->KA O kf (arrOf st) k=KA O kf (arrOf st) (lo+n - 1):=by intro k a b;exact KeyOrd.kle_antisymm (hsn k (lo+n - 1) a (1:) (1:)) (KeyOrd.kle_trans hr (hsn lo k (Nat.le_refl _) a b))
    have r:Re lo (arrOf st) (mirror (arrOf st) lo (lo+n) ((lo+n - lo) / 2)):=Re.mirror (Nat.le_refl _) (1:);refine wpS_bind (qaL (qfe L hk (r.mem hG) (by have:=r.size;show lo+nrem<=(mirror (arrOf st) lo (lo+n) ((lo+n - lo) / 2)).size;omega) (1:) ?_ (h.step r)));intro i j a b d;show O.kle (KA O kf (mirror (arrOf st) _ _ _) j) (KA O kf (mirror (arrOf st) _ _ _) i);rw[qV (1:) hall,qV (1:) hall]
    by_cases hjn:j < lo+n
    ·rw[hall i (1:) (1:),hall j (1:) hjn];exact KeyOrd.kle_refl _
    ·have:j=lo+n:=by omega
     subst this
     by_cases e:i=lo+n
     ·subst e;exact KeyOrd.kle_refl _
     ·rw[hall i (1:) (1:)];exact KeyOrd.kle_of_klt hlt
  ·rw[if_neg hgt]
   have:n=1:=by omega
   subst this;refine qfe L hk hG hn (1:) ?_ h;intro i j a b d
   by_cases e:i=j
   ·subst e;exact KeyOrd.kle_refl _
   ·have e1:i=lo:=by omega
    have e2:j=lo+1:=by omega
    subst e1 e2;exact KeyOrd.kle_of_klt (by simpa using hlt)
theorem qip(L:qd7 M A E s O kf κ G){st:SortSt}{lo n ok:Nat}{Q:Bool->SortSt->Prop}(hk:kindOf st=κ)(hG:∀x∈(arrOf st).toList,G x)(hn:lo+n<=(arrOf st).size)(hok:ok<=n)(hs:Inc O kf (arrOf st) lo (lo+ok))
  (h:∀xs,Re lo (arrOf st) xs->Inc O kf xs lo (lo+n)->Q true (setArr st xs)):wpS M A E s (binarySort' lo n ok) Q st:=by
 rw[binarySort'_eq]
 refine wpS_bind (wpS_mono (wpS_forRange (I:=λk c st'=>c=(none,())/\∃xs,st'=setArr st xs/\Re lo (arrOf st) xs/\Inc O kf xs lo (lo+min k n))
  (Q:=λc st'=>c=(none,())/\∃xs,st'=setArr st xs/\Re lo (arrOf st) xs/\Inc O kf xs lo (lo+n)) ?step ?fin ?init) ?post)
 case post=>rintro c st' ⟨rfl,xs,rfl,r,hs'⟩;exact wpS_pure (h xs r hs')
 case init=>
  refine⟨rfl,arrOf st,rfl,Re.refl _ _,λi j a b d=>?_⟩
  by_cases h1:ok=0
  ·have:i=j:=by omega
   subst this;exact KeyOrd.kle_refl _
  ·exact hs i j a b (1:)
 case fin=>
  rintro c st' ⟨hc,xs,rfl,r,hs'⟩;refine⟨hc,xs,rfl,r,?_⟩
  rwa[show min (max (max ok 1) n) n=n by omega] at hs'
 case step=>
  rintro k c st' hak hkn ⟨rfl,xs,rfl,r,hs'⟩;rw[show min k n=k by omega] at hs';have hsz:xs.size=(arrOf st).size:=r.size
  refine wpS_bind (wpS_mono (wpS_forRange (I:=λx c st''=>st''=setArr st xs/\∃l u,c=(none,l,u)/\l<=u/\u<=k/\u - l<=k - x/\
    (∀i,i < l->O.kle (KA O kf xs (lo+i)) (KA O kf xs (lo+k)))/\(∀i,u<=i->i < k->O.klt (KA O kf xs (lo+k)) (KA O kf xs (lo+i))))
   (Q:=λc st''=>st''=setArr st xs/\∃l u,c=(none,l,u)/\l<=k/\
    (∀i,i < l->O.kle (KA O kf xs (lo+i)) (KA O kf xs (lo+k)))/\(∀i,l<=i->i < k->O.klt (KA O kf xs (lo+k)) (KA O kf xs (lo+i)))) ?istep ?ifin ?iinit) ?ipost)
  case iinit=>exact⟨rfl,0,k,rfl,by omega,by omega,by omega,λi hi=>by omega,λi h1 h2=>by omega⟩
  case ifin=>
   rintro c st'' ⟨rfl,l,u,rfl,a,b,d,e,f⟩
   have:l=u:=by omega
   subst this;exact⟨rfl,l,l,rfl,b,e,f⟩
  case istep=>
   rintro x c st'' _ hxk ⟨rfl,l,u,rfl,a,b,d,e,f⟩;dsimp only
   by_cases hge:l≥u
   ·rw[if_pos hge]
    have:l=u:=by omega
    subst this;exact wpS_pure ⟨rfl,l,l,rfl,b,e,f⟩
   ·rw[if_neg hge];refine wpS_bind (JR L (st:=setArr st xs) hk (r.mem hG) (by show lo+k < xs.size;omega) (by show lo+(l+u) / 2 < xs.size;omega) ?_)
    cases hb:O.blt (KA O kf (arrOf (setArr st xs)) (lo+k)) (KA O kf (arrOf (setArr st xs)) (lo+(l+u) / 2)) with
    |true=>have hb:O.blt (KA O kf xs (lo+k)) (KA O kf xs (lo+(l+u) / 2))=true:=hb;simp only[if_true];refine wpS_pure ⟨rfl,l,(l+u) / 2,rfl,by omega,by omega,by omega,e,λi h1 h2=>?_⟩;exact KeyOrd.klt_of_klt_of_kle hb (hs' _ _ (1:) (1:) (1:))
    |false=>have hb:O.blt (KA O kf xs (lo+k)) (KA O kf xs (lo+(l+u) / 2))=false:=hb;simp only[Bool.false_eq_true,if_false];refine wpS_pure ⟨rfl,(l+u) / 2+1,u,rfl,by omega,by omega,by omega,λi h1=>?_,f⟩;exact KeyOrd.kle_trans (hs' (lo+i) (lo+(l+u) / 2) (1:) (1:) (1:)) (show O.kle _ _ from hb)
  case ipost=>
   rintro c st'' ⟨rfl,l,u,rfl,hlk,hlo,hhi⟩;show wpS _ _ _ _ (do moveDown' (lo+k) (lo+l);pure (ForInStep.yield (none,()))) _ _;rw[moveDown'_eq];have hks:lo+k < xs.size:=by omega
   refine wpS_bind (wpS_modify (wpS_pure ⟨rfl,_,rfl,r.trans (Re.bubble hks (d:=lo+k - (lo+l)) (1:)),?_⟩));rw[show min (k+1) n=k+1 by omega];intro i j a b d;show O.kle (KA O kf (bubble xs (lo+k) (lo+k - (lo+l))) i) (KA O kf (bubble xs (lo+k) (lo+k - (lo+l))) j);rw[Za hks (1:),Za hks (1:),show lo+k - (lo+k - (lo+l))=lo+l by omega]
   have lo':∀t,lo<=t->t < lo+l->O.kle (KA O kf xs t) (KA O kf xs (lo+k)):=λt h1 h2=>by
    have:=hlo (t - lo) (1:)
    rwa[show lo+(t - lo)=t by omega] at this
   have hi':∀t,lo+l<=t->t < lo+k->O.klt (KA O kf xs (lo+k)) (KA O kf xs t):=λt h1 h2=>by
    have:=hhi (t - lo) (1:) (1:)
    rwa[show lo+(t - lo)=t by omega] at this
   repeat' split
   all_goals first
    | (exfalso;omega)
    | exact KeyOrd.kle_refl _
    | exact lo' _ (1:) (1:)
    | exact KeyOrd.kle_of_klt (hi' _ (1:) (1:))
    | exact hs' _ _ (1:) (1:) (1:)
end
end TS
namespace TS
open PySem PyProof.Rows
section
variable{prog:Program}{w:World}{A:Around}{E:PQ}{s:Shared}{O:KeyOrd}{kf:Keyed->O.α}{κ:SortKind}
def qct(s s1:Shared):Prop:=∀b o,s.heap.get? b=some o->s1.heap.get? b=some o
structure Sorts(prog:Program)(w:World)(s:Shared)(vs:List Value)(O:KeyOrd)(kf:Keyed->O.α)(κ:SortKind):Prop where
 kind:2<=vs.length->∀(A:Around) (E:PQ) (s1:Shared) (Q:SortKind->Shared->Prop),qct s s1->Q κ s1->wpAny (model prog w) A (keyKind' vs.toArray) Q E s1
 lt:∀(A:Around) (E:PQ) (s1:Shared),qct s s1->qd7 (model prog w) A E s1 O kf κ (λx=>x∈(pairsOf vs).toList)
end
end TS
namespace TS
open PySem PyProof.Rows
noncomputable def pO:KeyOrd where
 α:=Int×Int
 blt p q:=decide (p.1 < q.1)||(decide (p.1=q.1)&&decide (p.2 < q.2))
 irrefl a:=by simp
 trans a b c h1 h2:=by simp at h1 h2 ⊢;omega
 negTrans a b c h:=by simp at h ⊢;omega
 total a b h1 h2:=by
  obtain⟨a1,a2⟩:=a;obtain⟨b1,b2⟩:=b;simp at h1 h2;have e1:a1=b1:=by omega
  subst e1;have e2:a2=b2:=by omega
  rw[e2]
def nOf:Value->Int
 |.int n _=>n
 |_=>0
noncomputable def j9(h:Heap)(v:Value):Int×Int:=match v with
 |.ref a=>match h.get? a with
  |some o=>match o.data with
   |.seq xs _=>(nOf (xs.getD 0 .none),nOf (xs.getD 1 .none))
   |_=>(0,0)
  |none=>(0,0)
 |_=>(0,0)
def qaM(h:Heap)(v:Value)(p:Int×Int):Prop:=∃a t u,v=.ref a/\IsTup h a #[.int p.1 t,.int p.2 u]
theorem qaM.pair{h:Heap}{v:Value}{p:Int×Int}(e:qaM h v p):j9 h v=p:=by obtain⟨a,t,u,rfl,o,ho,hc,n,hd⟩:=e;unfold j9;simp only[ho,hd];rfl
theorem qaM.grow{s s1:Shared}{v:Value}{p:Int×Int}(e:qaM s.heap v p)(g:qct s s1):qaM s1.heap v p:=by obtain⟨a,t,u,rfl,o,ho,hc,n,hd⟩:=e;exact⟨a,t,u,rfl,o,g a o ho,hc,n,hd⟩
section
variable{prog:Program}{w:World}{A:Around}{E:PQ}{s:Shared}
theorem qiq{x y:Value}{p q:Int×Int}{Q:Bool->Shared->Prop}(hx:qaM s.heap x p)(hy:qaM s.heap y q)(h:Q (pO.blt p q) s):wpAny (model prog w) A (keyLt' (tuples' true) x y) Q E s:=by
 obtain⟨a,t,u,rfl,o,ho,hc,n,hd⟩:=hx;obtain⟨b,t',u',rfl,o',ho',hc',n',hd'⟩:=hy;refine PySem.W.kat_lt ho hd ho' hd' ?_;show PySem.W.KatLex prog w A true _ Q [(.int p.1 t,.int q.1 t'),(.int p.2 u,.int q.2 u')] 0 s;refine PySem.W.kat_cons (wpAny_eqBool_int ?_)
 by_cases e1:p.1=q.1
 ·rw[show(p.1 == q.1)=true by simpa using e1];refine PySem.W.kat_yes (PySem.W.kat_cons (wpAny_eqBool_int ?_))
  by_cases e2:p.2=q.2
  ·rw[show(p.2 == q.2)=true by simpa using e2];refine PySem.W.kat_yes (PySem.W.kat_nil ?_)
   have:pO.blt p q=false:=by unfold pO;simp[e1,e2]
   rw[this] at h;exact h
  ·rw[show(p.2 == q.2)=false by simpa using e2];refine PySem.W.kat_no (PySem.W.kat_one _ _ (lt_int ?_))
   have:pO.blt p q=decide (p.2 < q.2):=by unfold pO;simp[e1]
   rw[this] at h;exact h
 ·rw[show(p.1 == q.1)=false by simpa using e1];refine PySem.W.kat_no ?_
  have:pO.blt p q=decide (p.1 < q.1):=by unfold pO;simp[e1]
  rw[this] at h;exact oneLt_int h
theorem qcu:∀{vs:List Value} {ps:List (Int×Int)},Paired (qaM s.heap) vs ps->∃fs,PySem.W.KatTups s.heap vs fs/\fs.length=vs.length/\∀v∈fs,∃n t,v=Value.int n t
 |_,_,.nil=>⟨[],trivial,rfl,λ_ h=>nomatch h⟩
 |_,_,.cons r rs=>by
  obtain⟨a,t,u,rfl,o,ho,hc,n,hd⟩:=r;obtain⟨fs,h1,h2,h3⟩:=qcu rs;refine⟨_::fs,PySem.W.KatTups.cons ho hc hd rfl h1,by simp[h2],λv hv=>?_⟩;rcases List.mem_cons.mp hv with rfl | hv
  ·exact⟨_,_,rfl⟩
  ·exact h3 v hv
theorem Zb{vs:List Value}{x:Keyed}(h:x∈(pairsOf vs).toList):x.1=x.2/\x.1∈vs:=by rw[pairsOf_toList] at h;exact mem_zip_self h
theorem Paired.at_mem{α β:Type}{R:α->β->Prop}:∀{l:List α} {m:List β},Paired R l m->∀a∈l,∃b∈m,R a b
 |_,_,.nil,_,h=>nomatch h
 |_,_,.cons r rs,a,h=>by
  rcases List.mem_cons.mp h with rfl | h
  ·exact⟨_,List.mem_cons_self,r⟩
  ·obtain⟨b,hb,q⟩:=Paired.at_mem rs a h;exact⟨b,List.mem_cons_of_mem _ hb,q⟩
theorem Paired.grow2{s s1:Shared}(g:qct s s1):∀{vs:List Value} {ps:List (Int×Int)},Paired (qaM s.heap) vs ps->Paired (qaM s1.heap) vs ps
 |_,_,.nil=>.nil
 |_,_,.cons r rs=>.cons (r.grow g) (Paired.grow2 g rs)
theorem qcv{vs:List Value}{ps:List (Int×Int)}(h:Paired (qaM s.heap) vs ps):Sorts prog w s vs pO (λx=>j9 s.heap x.1) (tuples' true) where
 kind:=λh2 A E s1 Q g q=>by obtain⟨fs,t1,t2,t3⟩:=qcu (Paired.grow2 g h);refine PySem.W.kat_kind t1 (1:) (T:=Value.type "int") (λv hv=>?_) rfl q;obtain⟨n,t,rfl⟩:=t3 v hv;exact .now
 lt:=λA E s1 g x y hx hy st Q hk q=>by obtain⟨p,_,hp⟩:=Paired.at_mem h _ (Zb hx).2;obtain⟨p',_,hp'⟩:=Paired.at_mem h _ (Zb hy).2;have q:Q (some (pO.blt (j9 s.heap x.1) (j9 s.heap y.1))) st:=q;rw[hp.pair,hp'.pair] at q;rw[lt'_eq];refine wpS_bind (wpS_get ?_);rw[hk];refine wpS_bind (wpS_lift (wpAny_attempt (qiq (hp.grow g) (hp'.grow g) ⟨rfl,?_⟩)));exact wpS_pure q
end
theorem Paired.perm{α β:Type}{R:α->β->Prop}{us us':List β}(p:us'.Perm us):∀{xs:List α},Paired R xs us->∃xs',xs'.Perm xs/\Paired R xs' us':=by
 induction p with
 |nil=>exactλ{xs} h=>⟨xs,List.Perm.refl _,h⟩
 |cons x _ ih=>
  intro xs h
  cases h with
  |cons r rs=>obtain⟨xs',h1,h2⟩:=ih rs;exact⟨_::xs',h1.cons _,.cons r h2⟩
 |swap x y l=>
  intro xs h
  cases h with
  |cons r rs=>
   cases rs with
   | cons r' rs=>exact⟨_::_::_,List.Perm.swap ..,.cons r' (.cons r rs)⟩
 |trans _ _ ih1 ih2=>intro xs h;obtain⟨x1,h1,h2⟩:=ih2 h;obtain⟨x2,h3,h4⟩:=ih1 h2;exact⟨x2,h3.trans h1,h4⟩
end TS
namespace L2
open PySem PySem.Spec PyProof.Rows
noncomputable def P2(K:Frag)(H:Hp)(v:V)(p:Int×Int):Prop:=∃a,v=.ref a/\H a=some (.tup [.int p.1,.int p.2])
def qcw(p q:Int×Int):Prop:=p.1 < q.1\/(p.1=q.1/\p.2<=q.2)
section
variable{X:Cx}
theorem P2.raw{pins:PP}{σ:St}{H:Hp}{s:Shared}{v:V}{u:Value}{p:Int×Int}(I:Inv X pins σ H s)(h:P2 X.K H v p)(r:qK v u):TS.qaM s.heap u p:=by obtain⟨a,rfl,hq⟩:=h;obtain rfl:u=Value.ref a:=r;obtain⟨its,rv,pl,_⟩:=I.tuple (SqT.of hq);obtain⟨u1,u2,rfl,⟨t1,rfl⟩,⟨t2,rfl⟩⟩:=qbt rv;exact⟨a,t1,t2,rfl,pl⟩
end
end L2
namespace L2
open PySem PySem.Spec PyProof.Rows
noncomputable def zn(env:Env)(ns:List (Str×NameKind))(acc:List (Str×Addr)):List (Str×Addr):=ns.foldl (λcs x=>if x.2 == .free then (x.1,(env.cells.lookup x.1).getD 0)::cs else cs) acc
theorem qff{env:Env}:∀(ns:List (Str×NameKind)) (acc:List (Str×Addr)),(∀x∈ns,x.2=.free->∃c,env.cells.lookup x.1=some c)->
  (forIn ns acc λ(x:Str×NameKind) (cs:List (Str×Addr))=>(match x with |(name,kind)=>if kind == .free then (do let c<-cellOf env name;pure (ForInStep.yield ((name,c)::cs)):Sem (ForInStep (List (Str×Addr)))) else pure (ForInStep.yield cs)))=(pure (zn env ns acc):Sem (List (Str×Addr)))
 |[],acc,_=>by rw[List.forIn_nil];rfl
 | (n,k)::r,acc,h=>by
  rw[List.forIn_cons];have hr:=qff (env:=env) r
  by_cases hk:k=.free
  ·subst hk;obtain⟨c,hc⟩:=h (n,.free) List.mem_cons_self rfl;have e1:cellOf env n=pure c:=by unfold cellOf;rw[hc]
   simp only[beq_self_eq_true,if_true,e1,pure_bind];rw[hr _ λx hx=>h x (List.mem_cons_of_mem _ hx)];unfold zn;simp[hc]
  ·have hb:(k == NameKind.free)=false:=by simpa using hk
   simp only[hb,Bool.false_eq_true,if_false,pure_bind];rw[hr _ λx hx=>h x (List.mem_cons_of_mem _ hx)];unfold zn;rw[List.foldl_cons];simp only[hb,Bool.false_eq_true,if_false]
theorem qfg{env:Env}{scope:Scope}(h:∀x∈scope.names,x.2=.free->∃c,env.cells.lookup x.1=some c):closureFor scope env=pure (zn env scope.names []):=by
 unfold closureFor
 have:=qff scope.names [] h
 simp only[bind_pure_comp] at this;simp only[bind_pure_comp,id_map',this];rfl
theorem qcx{env:Env}:∀(ns:List (Str×NameKind)) (acc:List (Str×Addr)),(∀x∈ns,x.2=.free->∃c,env.cells.lookup x.1=some c)->(∀x c,acc.lookup x=some c->env.cells.lookup x=some c)->
  ∀x c,(zn env ns acc).lookup x=some c->env.cells.lookup x=some c
 |[],_,_,h=>h
 | (n,k)::r,acc,hf,h=>by
  have ih:=qcx (env:=env) r (if k == .free then (n,(env.cells.lookup n).getD 0)::acc else acc) (λx hx=>hf x (List.mem_cons_of_mem _ hx)) (λx c e=>by
   by_cases hk:k=.free
   ·subst hk;simp only[beq_self_eq_true,if_true] at e;obtain⟨c',hc⟩:=hf (n,.free) List.mem_cons_self rfl;rw[List.lookup_cons] at e
    by_cases hx:x=n
    ·subst hx;simp[hc] at e;rw[hc,e]
    ·rw[show(x == n)=false by simpa using hx] at e;exact h x c e
   ·rw[show(k == NameKind.free)=false by simpa using hk] at e;exact h x c e)
  exact ih
theorem yB{env:Env}{ns:List (Str×NameKind)}(h:∀x∈ns,x.2=.free->∃c,env.cells.lookup x.1=some c):∀x c,(zn env ns []).lookup x=some c->env.cells.lookup x=some c:=qcx ns [] h λ_ _ e=>by cases e
theorem Y7{env:Env}:∀(ns:List (Str×NameKind)) (acc:List (Str×Addr)) (x:Str) (c:Addr),acc.lookup x=some c->∃c,(zn env ns acc).lookup x=some c
 |[],_,_,c,h=>⟨c,h⟩
 | (n,k)::r,acc,x,c,h=>by
  show∃c,(zn env r (if k == .free then (n,(env.cells.lookup n).getD 0)::acc else acc)).lookup x=some c
  by_cases hk:k=.free
  ·subst hk;simp only[beq_self_eq_true,if_true]
   by_cases hx:x=n
   ·subst hx;exact Y7 r _ x ((env.cells.lookup x).getD 0) (by rw[List.lookup_cons];simp)
   ·exact Y7 r _ x c (by rw[List.lookup_cons,show(x == n)=false by simpa using hx];exact h)
  ·rw[show(k == NameKind.free)=false by simpa using hk];exact Y7 r _ x c h
theorem Z9{env:Env}:∀(ns:List (Str×NameKind)) (acc:List (Str×Addr)) (x:Str),(x,NameKind.free)∈ns->∃c,(zn env ns acc).lookup x=some c
 | (n,k)::r,acc,x,h=>by
  show∃c,(zn env r (if k == .free then (n,(env.cells.lookup n).getD 0)::acc else acc)).lookup x=some c;rcases List.mem_cons.mp h with e | h
  ·injection e with e1 e2;subst e1 e2;simp only[beq_self_eq_true,if_true];exact Y7 r _ x ((env.cells.lookup x).getD 0) (by rw[List.lookup_cons];simp)
  ·exact Z9 r _ x h
theorem JA{env:Env}:∀{names:List (Str×NameKind)} {x:Str},names.lookup x=some .free->
  (names.map λ(n,k)=>if (k == NameKind.free&&env.scope.kind == .function&&env.kindOf n == some .cell) then (n,NameKind.cell) else (n,k)).lookup x=some .cell\/
  (names.map λ(n,k)=>if (k == NameKind.free&&env.scope.kind == .function&&env.kindOf n == some .cell) then (n,NameKind.cell) else (n,k)).lookup x=some .free
 |[],_,h=>by simp at h
 | (n,k)::r,x,h=>by
  simp only[List.map_cons]
  by_cases hx:x=n
  ·subst hx;simp[List.lookup_cons] at h;subst h
   by_cases hc:(NameKind.free == NameKind.free&&env.scope.kind == .function&&env.kindOf x == some .cell)=true
   ·rw[if_pos hc];left;simp[List.lookup_cons]
   ·rw[if_neg hc];right;simp[List.lookup_cons]
  ·have hb:(x == n)=false:=by simpa using hx
   rw[List.lookup_cons,hb] at h;have ih:=JA (env:=env) h
   by_cases hc:(k == NameKind.free&&env.scope.kind == .function&&env.kindOf n == some .cell)=true
   ·rw[if_pos hc];simp only[List.lookup_cons,hb];exact ih
   ·rw[if_neg hc];simp only[List.lookup_cons,hb];exact ih
theorem qcy{env:Env}:∀{names:List (Str×NameKind)} {x:Str} {k':NameKind},(names.map λ(n,k)=>if (k == NameKind.free&&env.scope.kind == .function&&env.kindOf n == some .cell) then (n,NameKind.cell) else (n,k)).lookup x=some k'->
  k'=.cell\/k'=.free->(x,NameKind.free)∈names\/(x,NameKind.cell)∈names
 |[],_,_,h,_=>by simp at h
 | (n,k)::r,x,k',h,hk=>by
  simp only[List.map_cons] at h
  by_cases hx:x=n
  ·subst hx
   by_cases hc:(k == NameKind.free&&env.scope.kind == .function&&env.kindOf x == some .cell)=true
   ·have:k=.free:=by simp at hc;exact hc.1.1
    subst this;exact .inl List.mem_cons_self
   ·rw[if_neg hc] at h;simp[List.lookup_cons] at h;subst h;rcases hk with rfl | rfl
    ·exact .inr List.mem_cons_self
    ·exact .inl List.mem_cons_self
  ·have hb:(x == n)=false:=by simpa using hx
   have ih:=qcy (env:=env) (names:=r) (x:=x) (k':=k') (by
    by_cases hc:(k == NameKind.free&&env.scope.kind == .function&&env.kindOf n == some .cell)=true
    ·rw[if_pos hc] at h;simp only[List.lookup_cons,hb] at h;exact h
    ·rw[if_neg hc] at h;simp only[List.lookup_cons,hb] at h;exact h) hk
   exact ih.imp (List.mem_cons_of_mem _) (List.mem_cons_of_mem _)
noncomputable def blk(X:Cx)(N:List Str)(scope:Scope)(cl:List (Str×Addr))(C:Addr)(fp:List Addr)(s2:Shared)(H2:Hp):Cx:=
 { X with N:=N,s₀:=s2,Hv:=H2,env:=compEnvC scope cl C X.env,outer:=X.stack,stack:=X.stack,ex:=fp,fn:=λ_=>false,pn:=[],xe:=λ_ _=>False }
structure BlkScope(X:Cx)(own:List Str)(fr:List Nat)(scope:Scope):Prop where
 kind:scope.kind=.function
 nocell:∀x∈scope.names,x.2≠.cell
 names:∀x∈scope.names,x.2=.local->scope.names.lookup x.1=some .local
 free:∀x∈scope.names,x.2=.free->X.env.kindOf x.1=some .cell\/X.env.kindOf x.1=some .free
 look:∀i∈fr,scope.names.lookup (X.N.getD i "")=some .free
def Jh(X:Cx)(own:List Str)(fr:List Nat):List Str:=own++fr.map λi=>X.N.getD i ""
def Yv(own:List Str)(fr:List Nat)(σ:St):St:=(own.map λ_=>none)++fr.map λi=>(σ[i]?).join
section
variable{X:Cx}{pins:PP}{σ:St}{H:Hp}{s:Shared}{own:List Str}{fr:List Nat}{scope:Scope}
abbrev qbY(its:List Value)(n:Nat):Obj:={ cls:=.type "list",data:=.seq its.toArray n }
theorem qir{C:Addr}{fp:List Addr}(B:BlkScope X own fr scope)(I:Inv X pins σ H s)(hf:∀b∈fp,qbo X pins H b)(hfo:∀b∈fp,b < s.heap.objs.size)(hC:s.heap.objs.size<=C) :
  (blk X (Jh X own fr) scope (zn X.env scope.names []) C fp s H).Ok where
 mod:=I.ok.mod
 kind:=B.kind
 glob:=I.ok.glob
 blt:=I.ok.blt
 above:=hC
 inj:=λx y c h1 h2=>I.ok.inj x y c (yB (λz hz e=>I.ok.has _ (B.free z hz e)) x c h1) (yB (λz hz e=>I.ok.has _ (B.free z hz e)) y c h2)
 has:=λx h=>by
  have h':(x,NameKind.free)∈scope.names\/(x,NameKind.cell)∈scope.names:=by
   rcases h with h | h
   ·exact qcy (env:=X.env) h (.inl rfl)
   ·exact qcy (env:=X.env) h (.inr rfl)
  rcases h' with h' | h'
  ·exact Z9 _ _ _ h'
  ·exact absurd rfl (B.nocell _ h')
 cab:=λx c h=>nomatch h
 hd:=I.ok.hd
 frames:=I.ok.frames
 stk:=.inl rfl
 exf:=λb hb=>⟨Nat.ne_of_lt (Nat.lt_of_lt_of_le (hfo b hb) hC),λx c e=>(hf b hb).2.2.2.2.1 x c (yB (λz hz e=>I.ok.has _ (B.free z hz e)) x c e)⟩
 bs:=I.bs
 bsz:=Nat.le_trans I.ok.bsz I.sz
 noex:=λb o e hb=>by
  rcases (hf b hb).2.2.2.1 with z | z
  ·exact I.ok.noex b o e z
  ·exact absurd (Nat.lt_of_lt_of_le (Heap.lt_size (I.ok.bs b o e).1) z) (Nat.lt_irrefl _)
 exfs:=λb hb z=>by
  rcases List.mem_cons.mp (I.stkSub b z) with e | e
  ·exact(hf b hb).2.1 e
  ·exact(hf b hb).2.2.1 e
 funs:=I.stack
 frf:=I.stkFree
theorem qcz{C D:Addr}{fp:List Addr}{h4:Heap}{tk:Nat}{n:Nat}(B:BlkScope X own fr scope)(I:Inv X pins σ H s)(hf:∀b∈fp,qbo X pins H b)(hfo:∀b∈fp,b < s.heap.objs.size)(hC:s.heap.objs.size<=C)(hD:s.heap.objs.size<=D)(hDC:D≠C)
  (k:∀b o,s.heap.get? b=some o->h4.get? b=some o) (hn:h4.Ns C λ_=>none) (hl:h4.get? D=some (qbY [] n)) :
  Inv (blk X (Jh X own fr) scope (zn X.env scope.names []) C fp s H) [(D,qbY [] n)] (Yv own fr σ) H { s with heap:=h4,toks:=tk }:=by
 have sub:=yB (env:=X.env) (ns:=scope.names) (λz hz e=>I.ok.has _ (B.free z hz e));refine⟨qir B I hf hfo hC,rfl,I.bare,Un.kept k,⟨_,hn,λi x v h1 h2 h3=>?_⟩,λx c e=>?_,I.hok.fresh hC,λx c e=>I.freeC x c (sub x c e),λp hp=>?_,I.hok.kept k,?_⟩
 ·have h1:(Jh X own fr)[i]?=some x:=h1;unfold Jh at h1;unfold Yv at h2
  by_cases hi:i < own.length
  ·rw[List.getElem?_append_left (by simpa using hi),List.getElem?_map] at h2
   cases q:own[i]? with
   |none=>rw[q] at h2;cases h2
   |some a=>rw[q] at h2;cases h2
  ·rw[List.getElem?_append_right (by simpa using hi),List.getElem?_map] at h2;rw[List.getElem?_append_right (by simpa using hi),List.getElem?_map] at h1;rw[List.length_map] at h2
   cases q:fr[i - own.length]? with
   |none=>rw[q] at h2;cases h2
   |some j=>
    rw[q] at h1 h2;have h1:X.N.getD j "" = x:=Option.some.inj h1;have h2:(σ[j]?).join=some v:=Option.some.inj h2
    have h2':σ[j]?=some (some v):=by
     cases w:σ[j]? with
     |none=>rw[w] at h2;cases h2
     |some y=>rw[w] at h2;cases y with
      |none=>cases h2
      |some y=>cases h2;rfl
    have hjl:j < X.N.length:=by rw[<-I.len];exact(List.getElem?_eq_some_iff.mp h2').1
    have hN:X.N[j]?=some x:=by rw[<-h1,List.getElem?_eq_getElem hjl];simp[hjl]
    have hfree:scope.names.lookup x=some .free:=by rw[<-h1];exact B.look j (List.mem_of_getElem? q)
    have hk:=B.free (x,.free) (PySem.mem_of_lookup hfree) rfl;obtain⟨m,_,hloc⟩:=I.loc
    obtain⟨u,r,l⟩:=hloc j x v hN h2' (by
     rcases hk with z | z
     ·exact .inr (.inl z)
     ·exact .inr (.inr z))
    refine⟨u,r,.inr ⟨?_,?_⟩⟩
    ·exact JA (env:=X.env) hfree
    ·rcases l with ⟨l,_⟩ | ⟨_,c,hc,o,ho,hd⟩
     ·have hk:X.env.kindOf x=some .cell\/X.env.kindOf x=some .free:=hk;rw[l] at hk;rcases hk with z | z<;>cases z
     ·obtain⟨c',hc'⟩:=Z9 (env:=X.env) scope.names [] x (PySem.mem_of_lookup hfree)
      have:=sub x c' hc'
      rw[hc] at this;cases this;exact⟨c,hc',o,k _ _ ho,hd⟩
 ·obtain⟨v,o,ho,hd⟩:=I.cell x c (sub x c e);exact⟨v,o,k _ _ ho,hd⟩
 ·have hp:p∈[(D,qbY [] n)]:=by simpa [blk] using hp
  obtain rfl:=List.mem_singleton.mp hp;refine⟨hl,I.hok.fresh hD,hDC,λz=>?_,λv e=>by cases e⟩;rcases List.mem_cons.mp (I.stkSub D z) with e | e
  ·exact Nat.ne_of_lt (Nat.lt_of_lt_of_le I.lt hD) e.symm
  ·exact I.nofs hD e
 ·show(Yv own fr σ).length=(Jh X own fr).length;unfold Yv Jh;simp
end
end L2
namespace L2
open PySem PySem.Spec PyProof.Rows
noncomputable def PIf(X:Cx)(ifs:List Expr)(t:TT):Prop:=
 ∀(pins:PP) (s:Shared) (σ:St) (H:Hp) (Q:Bool->Hp->Prop),Inv X pins σ H s->t σ H Q->
  wpAny (model X.prog X.w) X.A (forIn ifs true λc r=>if r=true then do let ok<-isTrue c X.env (eval c X.env);pure (ForInStep.yield ok) else pure (ForInStep.yield r)) (TP X pins σ Q) X.xe s
def qmq:TT:=λ_ H Q=>Q true H
section
variable{X:Cx}{pins:PP}{σ:St}{H:Hp}{s:Shared}{own:List Str}{fr:List Nat}{scope:Scope}
theorem qgn:PIf X [] qmq:=λ_ _ _ H _ I h=>wpAny_tests_nil ⟨H,I,h⟩
theorem qgo{c:Expr}{t:TT}(h:PT X c t):PIf X [c] t:=λpins s σ H Q I hw=>wpAny_tests_one (h pins s σ H Q I hw)
noncomputable def Zc(J:It)(g:TG)(tc:TT)(te:TE)(fin:List V->Hp->Prop)(W:Nat->Nat->List V->St->Hp->Prop):Prop:=
 ∀i m ys σ' H',W i m ys σ' H'->(J.stop i H'/\fin ys H')\/
  (J.go i H'/\ys.length < sizeLine/\∃N:List V->St->Hp->Prop,(∀ys' σ2 H2,N ys' σ2 H2->∃m',m' < m/\W (i+1) m' ys' σ2 H2)/\
   ∀x H2,J.yld i H' x H2->g x σ' H2 λσ2 H3=>tc σ2 H3 λb H4=>if b=true then te σ2 H4 λy H5=>N (ys++[y]) σ2 H5 else N ys σ2 H4)
noncomputable def qgp(own:List Str)(fr:List Nat)(wi:TI)(g:TG)(tc:TT)(te:TE):TE:=λσ H Q=>wi σ H λJ H1=>∃W:Nat->Nat->List V->St->Hp->Prop,(∃m,W 0 m [] (Yv own fr σ) H1)/\Zc J g tc te (λys H'=>∀l,H' l=none->Q (.ref l) (upd H' l (.lst ys))) W
theorem qgq{N:List Str}{cl:List (Str×Addr)}{C l:Addr}{fp:List Addr}{s4:Shared}{H':Hp}{σ':St}{its:List Value}{k:Nat}{ys:List V}(I:Inv X pins σ H s)(hf:∀b∈fp,qbo X pins H b)(hl:s.heap.objs.size<=l)
  (I4:Inv (blk X N scope cl C fp s H) [(l,qbY its k)] σ' H' s4) (rv:qz ys its) (hz:ys.length<=sizeLine):Inv X pins σ (upd H' l (.lst ys)) s4:=by
 have base:Un (frs X.stack) fp H H' s.heap s4.heap:=I4.base;have pin:=I4.pin (l,qbY its k) (List.mem_append_right _ List.mem_cons_self);have nl:∀b o,s.heap.get? b=some o->b≠l:=λb o e=>Nat.ne_of_lt (Nat.lt_of_lt_of_le (Heap.lt_size e) hl);have nh:∀b u,H' b=some u->b≠l:=λb u e=>qP e pin.2.1;refine I.call' (ch:=fp) I4.os ⟨base.keep,base.slot,λb o e n hx=>?_,base.there,λb xs e=>?_,λb o u e=>?_,λb ps e=>?_⟩ (λb u e=>?_) I4.bare (λb hb=>⟨(hf b hb).2.2.2.1,(hf b hb).2.1,(hf b hb).2.2.2.2.1,(hf b hb).2.2.2.2.2⟩)
 ·rw[qd (nl b o e)];exact base.free b o e n hx
 ·have:=base.tups b xs e
  rw[qd (nh b _ this)];exact this
 ·have:=base.frzs b o u e
  rw[qd (nh b _ this)];exact this
 ·obtain⟨more,this⟩:=base.tbls b ps e;exact⟨more,by rw[qd (nh b _ this)];exact this⟩
 ·by_cases hb:b=l
  ·subst hb;rw[qf] at e;cases e;exact⟨hz,its,k,rv,pin.1⟩
  ·rw[qd hb] at e;exact(I4.hok b u e).stay (λc v _ q=>q) (λc q=>by rw[qd (nh c _ q)];exact q) λc xs q=>by rw[qd (nh c _ q)];exact q
theorem Zd{elt iter tg:Expr}{ifs:List Expr}{pos:Pos}{g:TG}{tc:TT}{te:TE}{it:Addr}{fp:List Addr}{tn:Nat->Heap->Prop}{J:It}{fin:List V->Hp->Prop}{W:Nat->Nat->List V->St->Hp->Prop}{m0:Nat}
  {RR:Value->Addr->Result->Shared->Prop} {E:PQ} (hc:X.calm=true) (B:BlkScope X own fr scope)
  (hg:∀cl C fp s2 H2,PG (blk X (Jh X own fr) scope cl C fp s2 H2) tg g) (ht:∀cl C fp s2 H2,PIf (blk X (Jh X own fr) scope cl C fp s2 H2) ifs tc) (he:∀cl C fp s2 H2,PE (blk X (Jh X own fr) scope cl C fp s2 H2) elt te)
  (I:Inv X pins σ H s) (T:Turn X.prog X.w X.K tg J fp it tn) (st0:tn 0 s.heap) (hf:∀b∈fp,qbo X pins H b) (w0:W 0 m0 [] (Yv own fr σ) H) (hW:Zc J g tc te fin W)
  (post:∀(l C:Addr) (s4:Shared) (ys:List V) (H':Hp) (m:PR),s.heap.objs.size<=C->H' C=none->H' l=none->l≠C->s4.heap.Ns C m->Inv X pins σ (upd H' l (.lst ys)) s4->fin ys H'->RR (.ref l) C (.ok .next) s4) :
  wpAny (model X.prog X.w) X.A (newList []) (λacc s₃=>wpAny (model X.prog X.w) X.A (newFunctionEnv scope X.env.globals (zn X.env scope.names []) [] X.env.qual none .none (some X.env)) (λcenv s₄=>codeAny (model X.prog X.w) X.A (.compStart (.ListComp elt [⟨tg,iter,ifs,0⟩] scope pos) 0 (.ref it) acc { cenv with scope:=relabel scope X.env }) (RR acc cenv.locals) s₄) E s₃) E s:=by
 have hfo:∀b∈fp,b < s.heap.objs.size:=λb hb=>by obtain⟨o,e,_⟩:=T.obj _ _ st0 b hb;exact Heap.lt_size e
 refine wpAny_newObj_type (wpAny_newFunctionEnv B.nocell (by intro y hy;simp at hy) (λh1 hns hsb=>?_) B.kind);dsimp only at hns hsb ⊢;generalize hH2:s.heap.push { cls:=.type "list",dict:=none,data:=.seq ([]:List Value).toArray }=h2 at hns hsb ⊢;have hC:h2.objs.size=s.heap.objs.size+1:=by rw[<-hH2,Heap.size_push]
 have hDC:s.heap.objs.size≠h2.objs.size:=by rw[hC];exact Nat.ne_of_lt (Nat.lt_succ_self _)
 have hCle:s.heap.objs.size<=h2.objs.size:=by rw[hC];exact Nat.le_succ _
 have old:∀b o,s.heap.get? b=some o->h1.get? b=some o:=λb o e=>hsb.extBut b o (by rw[hC];exact Nat.ne_of_lt (Nat.lt_succ_of_lt (Heap.lt_size e))) (Heap.get?_push_of_some _ (hH2▸Heap.get?_push_of_some _ e));have hacc:h1.get? s.heap.objs.size=some (qbY [] 0):=hsb.extBut _ _ hDC (Heap.get?_push_of_some _ (hH2▸Heap.get?_push_size _ rfl));have hns':h1.Ns h2.objs.size λ_=>none:=hns;have I0:=qcz (tk:=s.toks+([]:List (Str×Value)).length) B I hf hfo hCle (Nat.le_refl _) hDC old hns' hacc;have st1:tn 0 h1:=T.keep _ _ _ st0 λb hb o e=>old b o e
 have loop:codeAny (model X.prog X.w) X.A (.compLoop (.ListComp elt [⟨tg,iter,ifs,0⟩] scope pos) 0 (.ref it) (.ref s.heap.objs.size) (compEnvC scope (zn X.env scope.names []) h2.objs.size X.env))
   (RR (.ref s.heap.objs.size) h2.objs.size) { s with heap:=h1,toks:=s.toks+([]:List (Str×Value)).length }:=by
  generalize hl:s.heap.objs.size=l at *;generalize hCC:h2.objs.size=C at *
  have stat:∀{H':Hp} {o:Obj},(∀b∈fp,H' b=none)->∀b∈fp,qbo (blk X (Jh X own fr) scope (zn X.env scope.names []) C fp s H) [(l,o)] H' b:=λ{H' o} hn b hb=>by
   refine⟨hn b hb,λe=>?_,λz=>?_,.inl hb,λx c e z=>?_,λp hp z=>?_⟩
   ·exact Nat.ne_of_lt (Nat.lt_of_lt_of_le (hfo b hb) hCle) e
   ·rcases List.mem_cons.mp (I.stkSub b z) with e | e
    ·exact(hf b hb).2.1 e
    ·exact(hf b hb).2.2.1 e
   ·exact(hf b hb).2.2.2.2.1 x c (yB (λz hz e=>I.ok.has _ (B.free z hz e)) x c e) z
   ·have hp:p∈[(l,o)]:=by simpa [blk] using hp
    obtain rfl:=List.mem_singleton.mp hp;exact Nat.ne_of_lt (hfo b hb) z.symm
  refine codeAny_loop rfl (λn s'=>∃i ys σ' H' its k,Inv (blk X (Jh X own fr) scope (zn X.env scope.names []) C fp s H) [(l,qbY its k)] σ' H' s'/\qz ys its/\ys.length<=sizeLine/\tn i s'.heap/\(∀b∈fp,H' b=none)/\W i n ys σ' H')
   (λn s3 hI=>?_) m0 ⟨0,[],Yv own fr σ,H,[],0,I0,.nil,Nat.zero_le _,st1,λb hb=>(hf b hb).1,w0⟩
  show wpAny _ X.A ((compTurn (.ListComp elt [⟨tg,iter,ifs,0⟩] scope pos) 0 (.ref it) (.ref l) (compEnvC scope (zn X.env scope.names []) C X.env)).onRaise (λx=>do noteFrame x (compEnvC scope (zn X.env scope.names []) C X.env);theTreesLotGoes x)) _ _ s3;refine wpAny_noted ?_;rw[compTurn_list];obtain⟨i,ys,σ3,H3,its,k,I3,rv,hz,st3,fr3,w3⟩:=hI;refine wpAny_bind (wpAny_standAt (wpAny_bind ?_));rcases hW i n ys σ3 H3 w3 with ⟨stop,qn⟩ | ⟨go,hlt,N,hN,step⟩
  ·refine thn (T.done (blk X (Jh X own fr) scope (zn X.env scope.names []) C fp s H) rfl rfl rfl hc i _ s3 σ3 H3 _ I3 (stat fr3) st3 stop) λr s4 hq1=>?_;obtain⟨hr,I4⟩:=hq1;subst hr;obtain⟨m,hm,_⟩:=I4.loc;exact wpAny_pure (post l C s4 ys H3 m hCle I4.free (I4.pin (l,qbY its k) (List.mem_append_right _ List.mem_cons_self)).2.1 hDC hm (qgq I hf (Nat.le_of_eq hl) I4 rv hz) qn)
  ·refine thn (T.item (blk X (Jh X own fr) scope (zn X.env scope.names []) C fp s H) rfl rfl rfl hc i _ s3 σ3 H3 _ I3 (stat fr3) st3 go) λr s4 hq1=>?_;obtain⟨u,hr,h4⟩:=hq1;subst hr;refine wpAny_bind (thn h4 λ_ s5 hq1=>?_);obtain⟨x,H5,I5,r5,y5,st5,fr5⟩:=hq1;have I5':=I5.pinned (stat fr5) (T.obj _ _ st5);refine wpAny_bind (wpAny_mono (hg _ _ _ _ _ _ s5 σ3 H5 x u _ I5' r5 (step x H5 y5)) (λ_ s6 ⟨σ6,H6,I6,q6⟩=>?_) λ_ _ z=>z.elim);refine wpAny_bind (wpAny_mono (ht _ _ _ _ _ _ s6 σ6 H6 _ I6 q6) (λb s7 ⟨H7,I7,q7⟩=>?_) λ_ _ z=>z.elim)
   have back:∀{σ8:St} {H8:Hp} {s8:Shared},Inv (blk X (Jh X own fr) scope (zn X.env scope.names []) C fp s H) ([(l,qbY its k)]++QV fp s5.heap) σ8 H8 s8->(∀b∈fp,∀o,s5.heap.get? b=some o->s8.heap.get? b=some o)/\∀b∈fp,H8 b=none:=λI8=>by refine⟨λb hb o e=>(I8.pin (b,o) (List.mem_append_right _ (List.mem_append_right _ (jZ hb e)))).1,λb hb=>?_⟩;obtain⟨o,e,_⟩:=T.obj _ _ st5 b hb;exact(I8.pin (b,o) (List.mem_append_right _ (List.mem_append_right _ (jZ hb e)))).2.1
   cases b with
   |false=>obtain⟨k1,k2⟩:=back I7;simp only[Bool.false_eq_true,if_false] at q7 ⊢;obtain⟨m',hm',w7⟩:=hN _ _ _ q7;exact wpAny_pure ⟨rfl,m',hm',i+1,ys,σ6,H7,its,k,I7.unpinned,rv,hz,T.keep _ _ _ st5 k1,k2,w7⟩
   |true=>
    simp only[if_true] at q7 ⊢;refine wpAny_bind (wpAny_bind (wpAny_mono (he _ _ _ _ _ _ s7 σ6 H7 _ I7 q7) (λw s8 ⟨y,H8,I8,r8,q8⟩=>?_) λ_ _ z=>z.elim));obtain⟨k1,k2⟩:=back I8;obtain⟨m',hm',w8⟩:=hN _ _ _ q8;have pin:=I8.pin (l,qbY its k) (List.mem_append_right _ (List.mem_append_left _ List.mem_cons_self));have hil:its.length=ys.length:=rv.length.symm;refine wpAny_bind (append_at pin.1 (λh9 hs9 hD9=>?_) (by rw[List.size_toArray,hil];exact hz));have new:h9.get? l=some (qbY (its++[w]) (k+1)):=by rw[hD9,List.push_toArray]
    have Ia:Inv (blk X (Jh X own fr) scope (zn X.env scope.names []) C fp s H) [] σ6 H8 s8:=I8.pins_of (λp hp=>nomatch hp)
    have Ib:Inv (blk X (Jh X own fr) scope (zn X.env scope.names []) C fp s H) [] σ6 H8 { s8 with heap:=h9 }:=Ia.turned (t':=s8.toks) (λb o hb e=>hs9.extBut b o hb e) pin.2.1 pin.2.2.1 (.inr (Nat.le_of_eq hl)) (λx c e z=>by
     obtain⟨v,o,ho,hd⟩:=I8.cell x c e;rw[z,pin.1] at ho;cases ho
     cases hd) (λp hp=>by
      have hp:p∈([]:PP):=by simpa [blk] using hp
      cases hp)
    have Ic:Inv (blk X (Jh X own fr) scope (zn X.env scope.names []) C fp s H) [(l,qbY (its++[w]) (k+1))] σ6 H8 { s8 with heap:=h9 }:=Ib.pins_of λp hp=>by obtain rfl:=List.mem_singleton.mp hp;exact⟨new,pin.2.1,pin.2.2.1,pin.2.2.2.1,λv e=>by cases e⟩
    refine wpAny_pure (wpAny_pure ⟨rfl,m',hm',i+1,ys++[y],σ6,H8,its++[w],k+1,Ic,rv.append %[r8|0],by rw[List.length_append];exact hlt,T.keep _ _ _ st5 λb hb o e=>?_,k2,w8⟩);exact hs9.extBut b o (Nat.ne_of_lt (hfo b hb)) (k1 b hb o e)
 exact codeAny_compStart_list loop (T.self _ 0 _ _ _ st1 loop)
theorem Inv.letgo{s2 s4:Shared}{H2 H4:Hp}{C:Addr}{h':Heap}(I2:Inv X pins σ H2 s2){σ4:St}(I4:Inv X pins σ4 H4 s4)(hC:s2.heap.objs.size<=C)(hn:H4 C=none)(hs:Heap.SameBut C s4.heap h'):Inv X pins σ4 H4 { s4 with heap:=h' }:=by obtain⟨f0,f1,_,f3,f4,f5⟩:=I2.fpOk hC hn;exact I4.turned (t':=s4.toks) (λb o hb e=>hs.extBut b o hb e) f0 f1 f3 f4 f5
theorem qgr{elt iter tg:Expr}{ifs:List Expr}{pos:Pos}{g:TG}{tc:TT}{te:TE}{wi:TI}(own:List Str)(fr:List Nat)(hc:X.calm=true)(B:BlkScope X own fr scope)(hi:PI X tg iter wi)
  (hg:∀cl C fp s2 H2,PG (blk X (Jh X own fr) scope cl C fp s2 H2) tg g) (ht:∀cl C fp s2 H2,PIf (blk X (Jh X own fr) scope cl C fp s2 H2) ifs tc) (he:∀cl C fp s2 H2,PE (blk X (Jh X own fr) scope cl C fp s2 H2) elt te)
  (hs:∀x,foldedSetIterable iter X.env x=pure x:=by intro _;rfl):PE X (.ListComp elt [⟨tg,iter,ifs,0⟩] scope pos) (qgp own fr wi g tc te):=by
 intro pins s σ H Q I h;rw[eval_ListComp];refine wpAny_comprehension_free (use:=none) rfl hs (qfg λz hz e=>I.ok.has _ (B.free z hz e)) B.kind B.names ?_;refine thn (hi pins s σ H _ I h) λv s1 h1=>thn h1 λitv s2 h2=>?_;obtain⟨it,fp,tn,J,H2,e,I2,T,st2,f2,W,⟨m0,w0⟩,hW⟩:=h2;subst e;refine Zd hc B hg ht he I2 T st2 f2 w0 hW λl C s4 ys H' m hC nC nl hlC hm I4 fin=>?_;exact⟨m,hm,λh' hs'=>⟨.ref l,_,I2.letgo I4 hC (by rw[qd (Ne.symm hlC)];exact nC) hs',rfl,fin l nl⟩⟩
theorem qgs{elt iter tg:Expr}{ifs:List Expr}{pos pos' cpos:Pos}{g:TG}{tc:TT}{te:TE}{wi:TI}{i:Nat}{x:Str}(own:List Str)(fr:List Nat)(hN:X.N.Nodup)(hxi:X.N[i]?=some x)(hx:X.env.scope.names.lookup x=some .local)(hc:X.calm=true)(B:BlkScope X own fr scope)(hi:PI X tg iter wi)
  (hg:∀cl C fp s2 H2,PG (blk X (Jh X own fr) scope cl C fp s2 H2) tg g) (ht:∀cl C fp s2 H2,PIf (blk X (Jh X own fr) scope cl C fp s2 H2) ifs tc) (he:∀cl C fp s2 H2,PE (blk X (Jh X own fr) scope cl C fp s2 H2) elt te)
  (hsw:swapsWith (.ListComp elt [⟨tg,iter,ifs,0⟩] scope cpos) (some (.Name x pos')) pos.line X.env=pure true:=by rfl)
  (hs:∀x,foldedSetIterable iter X.env x=pure x:=by intro _;rfl):PS X (.Assign [.Name x pos'] (.ListComp elt [⟨tg,iter,ifs,0⟩] scope cpos) pos) (qkG (qgp own fr wi g tc te) (qdU i)):=by
 intro pins s σ H D I h;rw[exec_Assign_Name_used _ _ _ _ hsw];refine wpAny_bind (wpAny_standAt (wpAny_bind ?_));show wpAny _ X.A (do let _<-comprehension (.ListComp elt [⟨tg,iter,ifs,0⟩] scope cpos) scope X.env _ (newList []) false (eval iter X.env) (some (assign (.Name x pos') X.env))) _ _ s;refine wpAny_bind (wpAny_mono (wpAny_comprehension_free (use:=some (assign (.Name x pos') X.env)) (Q:=λ_ s'=>SP X pins D .next s') rfl hs (qfg λz hz e=>I.ok.has _ (B.free z hz e)) B.kind B.names ?_) (λ_ s' hq=>wpAny_pure (wpAny_pure hq)) λ_ _ e=>e);refine thn (hi pins s σ H _ I h) λv s1 h1=>thn h1 λitv s2 h2=>?_;obtain⟨it,fp,tn,J,H2,e,I2,T,st2,f2,W,⟨m0,w0⟩,hW⟩:=h2;subst e;refine Zd (RR:=λacc C=>compPost (model X.prog X.w) X.A X.xe (some (assign (.Name x pos') X.env)) (λ_ s'=>SP X pins D .next s') acc C) hc B hg ht he I2 T st2 f2 w0 hW λl C s4 ys H' m hC nC nl hlC hm I4 fin=>?_;show wpAny _ X.A (assign (.Name x pos') X.env (.ref l)) _ _ s4;refine wpAny_assign_Name (QS I4 hN hxi (.inl hx) (v:=.ref l) rfl (λs5 I5 hsb=>?_) (.inr hx));obtain⟨a,sb,ha⟩:=hsb
 have hCa:C≠a:=by
  rcases ha with rfl | ha
  ·exact Nat.ne_of_gt (Nat.lt_of_lt_of_le I2.lt hC)
  ·obtain⟨v,q⟩:=I2.cell x a ha;exact Nat.ne_of_gt (Nat.lt_of_lt_of_le q.lt hC)
 exact⟨m,hm.sameBut sb hCa,λh' hs'=>⟨_,_,I2.letgo I5 hC (by rw[qd (Ne.symm hlC)];exact nC) hs',fin l nl⟩⟩
end
end L2
namespace L2
open PySem PySem.Spec PyProof.Rows
mutual
noncomputable def DV(K:Frag)(H:Hp):PyData->V->Prop
 |.none,v=>v=.non
 |.bool b,v=>v=.bl b
 |.int i,v=>v=.int i
 |.str x,v=>v=.str x
 |.list ds,v=>∃a xs,v=.ref a/\SqL K H a xs/\DVs K H ds xs
 |.tuple ds,v=>∃a xs,v=.ref a/\SqT K H a xs/\DVs K H ds xs
 |.dict _,_=>False
noncomputable def DVs(K:Frag)(H:Hp):List PyData->List V->Prop
 |[],xs=>xs=[]
 | d::ds,xs=>∃x r,xs=x::r/\DV K H d x/\DVs K H ds r
end
section
variable{X:Cx}{pins:PP}{σ:St}{H:Hp}{s:Shared}
mutual
theorem DV.reads(I:Inv X pins σ H s):∀{d:PyData} {v:V} {u:Value},DV X.K H d v->qK v u->∃as,Reads s.heap u d as
 |.none,v,u,h,r=>by
  have h:v=.non:=by simpa [DV] using h
  subst h;cases r;exact⟨_,Reads.none⟩
 |.bool b,v,u,h,r=>by
  have h:v=.bl b:=by simpa [DV] using h
  subst h;cases r;exact⟨_,Reads.bool b⟩
 |.int i,v,u,h,r=>by
  have h:v=.int i:=by simpa [DV] using h
  subst h;obtain⟨t,rfl⟩:=r;exact⟨_,Reads.int i t⟩
 |.str x,v,u,h,r=>by
  have h:v=.str x:=by simpa [DV] using h
  subst h;obtain⟨t,rfl⟩:=r;exact⟨_,Reads.str x t⟩
 |.list ds,v,u,h,r=>by
  have h:∃a xs,v=.ref a/\SqL X.K H a xs/\DVs X.K H ds xs:=by simpa [DV] using h
  obtain⟨a,xs,rfl,hq,hd⟩:=h;cases r;obtain⟨its,rv,pl,_⟩:=I.list hq;obtain⟨as,ra⟩:=DVs.reads I hd rv;obtain⟨o,ho,hc,n,hdd⟩:=pl.isList;exact⟨_,reads_list_at ho hc hdd (by simpa using ra)⟩
 |.tuple ds,v,u,h,r=>by
  have h:∃a xs,v=.ref a/\SqT X.K H a xs/\DVs X.K H ds xs:=by simpa [DV] using h
  obtain⟨a,xs,rfl,hq,hd⟩:=h;cases r;obtain⟨its,rv,pl,_⟩:=I.tuple hq;obtain⟨as,ra⟩:=DVs.reads I hd rv;obtain⟨o,ho,hc,n,hdd⟩:=pl;exact⟨_,reads_tuple_at ho hc hdd (by simpa using ra)⟩
 |.dict _,v,u,h,r=>by simp[DV] at h
theorem DVs.reads(I:Inv X pins σ H s):∀{ds:List PyData} {vs:List V} {us:List Value},DVs X.K H ds vs->qz vs us->∃as,ReadsAll s.heap us ds as
 |[],vs,us,h,r=>by
  have h:vs=[]:=by simpa [DVs] using h
  subst h;cases r;exact⟨_,ReadsAll.nil⟩
 | d::ds,vs,us,h,r=>by
  have h:∃x r,vs=x::r/\DV X.K H d x/\DVs X.K H ds r:=by simpa [DVs] using h
  obtain⟨x,rr,rfl,h1,h2⟩:=h
  cases r with
  |cons r1 r2=>obtain⟨as,ra⟩:=DV.reads I h1 r1;obtain⟨bs,rb⟩:=DVs.reads I h2 r2;exact⟨_,ReadsAll.cons ra rb⟩
end
noncomputable def qmr(K:Frag):R2:=λx y H Q=>∃d e,DV K H d x/\DV K H e y/\SeqAt.shaped d=true/\SeqAt.shaped e=true/\Q (.bl (PyData.eqv d e)) H
noncomputable def qms(K:Frag):R2:=λx y H Q=>∃d e,DV K H d x/\DV K H e y/\SeqAt.shaped d=true/\SeqAt.shaped e=true/\Q (.bl (!PyData.eqv d e)) H
theorem qis(hu:X.A.units+64 < cLine):OpR X (compareOp .Eq) (qmr X.K):=by intro pins s σ H x y v u Q I rx ry h;obtain⟨d,e,hd,he,sd,se,q⟩:=h;obtain⟨as,ra⟩:=DV.reads I hd rx;obtain⟨bs,rb⟩:=DV.reads I he ry;exact eq_dataH ra rb sd se hu ⟨.bl _,H,I,rfl,q⟩
theorem qit(hu:X.A.units+64 < cLine):OpR X (compareOp .NotEq) (qms X.K):=by intro pins s σ H x y v u Q I rx ry h;obtain⟨d,e,hd,he,sd,se,q⟩:=h;obtain⟨as,ra⟩:=DV.reads I hd rx;obtain⟨bs,rb⟩:=DV.reads I he ry;exact ne_dataH ra rb sd se hu ⟨.bl _,H,I,rfl,q⟩
theorem qd9:zR X (.builtin "isinstance") (λvs H Q=>∃x n t b,vs=[x,.ty n]/\TyOf X.K H x t/\PySem.W.kitOne X.K t (.type n)=some b/\Q (.bl b) H):=by intro pins s σ H xs us Q I r h;obtain⟨x,n,t,b,rfl,ty,e,q⟩:=h;obtain⟨u,w,rfl,rx,rn⟩:=qbt r;cases rn;exact QY I rx ty e λtk=>⟨.bl b,H,I.tok tk,rfl,q⟩
end
end L2
set_option maxHeartbeats 4000000
namespace L2
open PySem PySem.Spec PyProof.Rows
section
variable{X:Cx}
theorem YF:∀{ns:List Int} {its:List Value},qz (ns.map V.int) its->∃xs:List (Int×Tok),its=xs.map (λp=>Value.int p.1 p.2)/\ns=xs.map (·.1)
 |[],_,.nil=>⟨[],rfl,rfl⟩
 | n::ns,_,.cons r t=>by obtain⟨xs,rfl,rfl⟩:=YF t;obtain⟨k,rfl⟩:=r;exact⟨(n,k)::xs,rfl,rfl⟩
theorem qcA(hc:X.calm=true):zR X (.builtin "sum") (λvs H Q=>∃(p:Addr) (ns:List Int),vs=[.ref p]/\SqL X.K H p (ns.map V.int)/\Q (.int ns.sum) H):=by
 intro pins s σ H xs us Q I r h;obtain⟨p,ns,rfl,hq,q⟩:=h;obtain⟨u,rfl,rx⟩:=Yu r;cases rx;obtain⟨its,rv,pl,hz⟩:=I.list hq;obtain⟨zs,rfl,rfl⟩:=YF rv
 have hl:s.heap.IsList p (intItems zs.toArray):=by
  have e:(zs.map λp=>Value.int p.1 p.2).toArray=intItems zs.toArray:=by simp[intItems]
  rw[<-e];exact pl.isList
 refine sum_intListG (I.ok.hd hc) hl λh' tk t' hk=>?_;refine⟨.int _,H,I.kept (t':=tk) hk,⟨t',?_⟩,q⟩;rw[preSum_eq,List.take_of_length_le (by simp)]
end
end L2
namespace L2
open PySem PySem.Spec PyProof.Rows
noncomputable def JB(osc:Scope)(N:List Str)(fr:List Nat)(sc:Scope):Bool:=
 sc.kind == .function&&(sc.names.all λx=>x.2 != .cell&&(x.2 != .local||sc.names.lookup x.1 == some .local)&&(x.2 != .free||(osc.names.lookup x.1 == some .cell||osc.names.lookup x.1 == some .free)))&&fr.all λi=>sc.names.lookup (N.getD i "") == some .free
theorem qo.upd{H:Hp}{a:Addr}{o:HO}(h:H a=none):qo H (upd H a o):=λb u e=>by rw[qd (qP e h)];exact e
end L2
namespace L2
open PySem PySem.Spec PyProof.Rows PySem.W
theorem qea{P:Program}{w:World}{H:Hp}{h:Heap}{a:Addr}{o:HO}(x:zu P w H h a o):∃ob,h.get? a=some ob:=by
 cases o with
 |lst xs=>obtain⟨z,its,n,r,e⟩:=x;exact⟨_,e⟩
 |tup xs=>obtain⟨z,its,r,ob,e,c⟩:=x;exact⟨_,e⟩
 |dK kvs=>obtain⟨z,y,vs,r,ob,es,ep,e,c⟩:=x;exact⟨_,e⟩
 |dT kvs=>obtain⟨z,y,xs,r,ob,es,ep,e,c⟩:=x;exact⟨_,e⟩
 |set S n=>obtain⟨ob,es,ep,t,e,c⟩:=x;exact⟨_,e⟩
 |ins C dx fs=>obtain⟨d,z,ne,e,_⟩:=x;exact⟨_,e⟩
 |own y=>obtain⟨ob,e⟩:=x;exact⟨_,e⟩
 |xd fs=>obtain⟨mA,⟨od,es,ep,e,c⟩,r⟩:=x;exact⟨_,e⟩
 |rng lo hi=>obtain⟨t,u,v,e⟩:=x;exact⟨_,e⟩
 |frz ob u=>obtain⟨e,q⟩:=x;exact⟨_,e⟩
 |tbl ps=>exact⟨_,x⟩
 |met f y=>exact⟨_,x⟩
 |ext φ=>obtain⟨p,⟨o,e⟩,st⟩:=x;exact⟨_,e⟩
section
variable{X:Cx}{pins:PP}{σ:St}{H:Hp}{s:Shared}
variable{x T':Addr}{oT:Option Addr}{oe:Obj}{vs:Array Value}{h':Heap}
theorem Inv.newH{x:Addr}(I:Inv X pins σ H s)(h:s.heap.get? x=none):H x=none:=by
 cases e:H x with
 |none=>rfl
 |some u=>obtain⟨o,q⟩:=qea (I.hok x u e);rw[h] at q;cases q
end
end L2
namespace L2
open PySem PySem.Spec PyProof.Rows PySem.W
noncomputable def Its(x:Str):It:=⟨λi _=>i < x.cps.size,λi H v H'=>H'=H/\∃c,x.cps[i]?=some c/\v=.str ⟨#[c]⟩,λi _=>i=x.cps.size⟩
theorem qeb{P:Program}{w:World}{K:Frag}{tg:Expr}{x:Str}{t:Tok}{it:Addr}{T:String}(hT:T = "str_ascii_iterator"\/T = "str_iterator")(W:∀A':Around,A'.handled=none->Walks P w A' it [it] [it] x.cps.size (SignAt x) (λi h=>h.IsStrIter it T x t i)) :
  Turn P w K tg (Its x) [it] it (λi h=>h.IsStrIter it T x t i) where
 mem:=by simp
 obj:=λi h st b hb=>by
  have e:b=it:=by simpa using hb
  subst e;obtain⟨o,e,c,d⟩:=st;exact⟨o,e,λv z=>by rw[d] at z;cases z⟩
 keep:=λi h h' st k=>let ⟨o,e,r⟩:=st;⟨o,k it (by simp) o e,r⟩
 item:=by intro X hP hw hK hc i pins s σ H E I hf st hg;subst hP hw hK;obtain⟨f0,f1,f2,f3,f4,f5⟩:=hf it (by simp);refine(W X.A (I.ok.hd hc)).item i s _ _ hg st λv h' tk hv st' kk=>?_;obtain⟨c,u,hcx,rfl⟩:=hv;have I1:Inv X pins σ H { s with heap:=h',toks:=tk }:=I.turned (λb o hb e=>kk b o (by simpa using hb) e) f0 f1 f3 f4 f5;obtain⟨o,e1,e2,e3⟩:=id st';refine⟨_,rfl,qb8 (s:={ s with heap:=h',toks:=tk }) e1 e2 e3 (by rcases hT with z | z<;>(rw[z];decide)) ⟨.str ⟨#[c]⟩,H,I1,⟨u,rfl⟩,⟨rfl,c,hcx,rfl⟩,st',λb hb=>(hf b hb).1⟩⟩
 done:=by intro X hP hw hK hc i pins s σ H E I hf st hg;subst hP hw hK;obtain rfl:i=x.cps.size:=hg;obtain⟨f0,f1,f2,f3,f4,f5⟩:=hf it (by simp);exact(W X.A (I.ok.hd hc)).done s _ _ st λh' tk kk=>⟨rfl,I.turned (λb o hb e=>kk b o (by simpa using hb) e) f0 f1 f3 f4 f5⟩
 self:=λA i s Q E st h=>by
  rcases hT with z | z
  ·subst z;exact wpAny_pyIter_striter_ascii st h
  ·subst z;exact wpAny_pyIter_striter_wide st h
end L2
namespace L2
open PySem PySem.Spec PyProof.Rows PySem.W
structure ClsFn(K:Frag)(C:Addr)(m:Str)(f:Addr):Prop where
 reads:readsIn K C (.type "type")=true
 sp:specialIn K (.ref C) "__getattribute__" = some (some (.builtin "type.__getattribute__"))
 at_:findCls K (.ref C) (.type "type") m=some (.val (.ref f))
 kp:keepIn K (.ref f)=true
section
variable{X:Cx}{CX:CXT}{k:Nat}{f C:Addr}{fd:FuncData}{ps:List Str}{sp:Sp}{dvs:List V}{ds:List Value}{E:XK}{x m:Str}{p pos apos:Pos}{e:Expr}{es:List Expr}{t:TA}
theorem Y8{pl:Sem Bool}(hC:ClsFn X.K C m f)(F:FnOk X.prog X.w X.K X.mg X.base CX k f fd ps sp)(hr:Room k X.A)(hg:Gl X x)(hm:X.mg x=some (.ref C))(hb:zj X.K fd ps ds)(hd:qz dvs ds)(hx:j8 CX X E)(ha:PA X (e::es) t)
  (hdb:(x == ("__debug__" : Str))=false:=by decide) (hst:starEach (e::es) X.env=(false,eval e X.env)::starEach es X.env:=by rfl) (hpl:(backTo pos (starEach es X.env)).any (·.1)=false:=by rfl)
  (ht:eval (.Call (.Attribute (.Name x p) m apos) (e::es) [] pos) X.env=(do
   let ov<-eval (.Name x p) X.env
   standAt apos.atName
   let (f,first)<-holding [ov] (getMethod ov m pl)
   callWith pos f first (backTo pos (starEach (e::es) X.env)) (backToKw pos (keywordEach [] X.env))):=by rfl) :
  PE X (.Call (.Attribute (.Name x p) m apos) (e::es) [] pos) (qci sp dvs E t):=by
 intro pins s σ H Q I h;refine PySem.W.methodCall_KW (pl:=pl) (yZ I hg hm ?_ hdb) ht;refine method_cls I.kIn hC.sp (cls_value I.kIn hC.reads hC.at_ rfl ?_);have I1:=I.tok (s.toks+1);refine PySem.W.callWith_K (first:=[]) (h₀:=X.base) I.ok.mod.kin hC.kp (thn (ha pos pins _ σ H _ I1 h) λus s2 z=>?_) hst hpl;obtain⟨vs,H2,I2,r,q⟩:=z;exact⟨I2.kIn,QZ F hr hb hd hx I2 r q⟩
end
end L2
namespace L2
open PySem PySem.Spec PyProof.Rows PySem.W
noncomputable def Itz(K:Frag)(a b:Addr):It:=
 ⟨λi H=>∃xs ys x y,SqL K H a xs/\SqL K H b ys/\xs[i]?=some x/\ys[i]?=some y,
  λi H v H'=>∃T x y,v=.ref T/\H T=none/\H'=upd H T (.tup [x,y])/\∀xs ys,SqL K H a xs->SqL K H b ys->xs[i]?=some x/\ys[i]?=some y,
  λi H=>∃xs ys,SqL K H a xs/\SqL K H b ys/\(xs.length<=i\/ys.length<=i)⟩
noncomputable def ZSt(z TI TO i1 i2 a b:Addr)(i:Nat)(h:Heap):Prop:=IsZip h z TI TO .none/\IsPair h TI (.ref i1) (.ref i2)/\(∃u v,IsPair h TO u v)/\h.IsListIter i1 a i/\h.IsListIter i2 b i
theorem Inv.turnedAll{X:Cx}{pins:PP}{σ:St}{H:Hp}{s:Shared}{h':Heap}{t':Nat}{ch:List Addr}(I:Inv X pins σ H s)(k:∀b o,b∉ch->s.heap.get? b=some o->h'.get? b=some o)(hf:∀b∈ch,qbo X pins H b):Inv X pins σ H { s with heap:=h',toks:=t' }:=by
 have nch:∀{b:Addr} {u:HO},H b=some u->b∉ch:=λ{b u} e z=>by rw[(hf b z).1] at e;cases e
 refine I.step (g':=s.gens) (d':=s.drawn) (ch:=ch) (λb hb=>?_) (λb o _ _ hc e _=>k b o hc e) (λb o _ _ hc e _=>⟨o.slots,k b o hc e⟩) (λ_ _ _ _ n=>n) (λb o hc e=>⟨o,k b o hc e⟩) (λ_ _ e=>e) (λ_ _ _ e=>e) (λb ps e=>⟨#[],by rw[e];simp⟩) (λm hm=>?_) (λb u e=>?_) I.bare
 ·obtain⟨f0,f1,f2,f3,f4,f5⟩:=hf b hb;exact⟨f3,f1,f4,f5⟩
 ·obtain⟨o,es,ep,ho,r⟩:=hm;exact⟨o,es,ep,k _ o (λz=>(hf _ z).2.1 rfl) ho,r⟩
 ·refine(I.hok b u e).stay (λc v hc q=>k c v ?_ q) (λ_ q=>q) λ_ _ q=>q;rcases hc with z | z
  ·rw[z];exact nch e
  ·exact nch z
theorem Inv.turnedNew{X:Cx}{pins:PP}{σ:St}{H:Hp}{s:Shared}{h':Heap}{t':Nat}{ch:List Addr}{T:Addr}{ob:HO}(I:Inv X pins σ H s)(k:∀b o,b∉ch->s.heap.get? b=some o->h'.get? b=some o)(hf:∀b∈ch,qbo X pins H b)
  (hT:s.heap.get? T=none) (new:zu X.prog X.w (upd H T ob) h' T ob):Inv X pins σ (upd H T ob) { s with heap:=h',toks:=t' }:=by
 have hH:H T=none:=I.newH hT;have nch:∀{b:Addr} {u:HO},H b=some u->b∉ch:=λ{b u} e z=>by rw[(hf b z).1] at e;cases e
 have nT:∀{b:Addr} {u:HO},H b=some u->b≠T:=λ{b u} e z=>by rw[z,hH] at e;cases e
 have up:∀{b:Addr} {u:HO},H b=some u->upd H T ob b=some u:=λ{b u} e=>by rw[qd (nT e)];exact e
 refine I.step (g':=s.gens) (d':=s.drawn) (ch:=ch) (λb hb=>?_) (λb o _ _ hc e _=>k b o hc e) (λb o _ _ hc e _=>⟨o.slots,k b o hc e⟩) (λb o _ e n=>?_) (λb o hc e=>⟨o,k b o hc e⟩) (λ_ _ e=>up e) (λ_ _ _ e=>up e) (λb ps e=>⟨#[],by rw[up e];simp⟩) (λm hm=>?_) (λb u e=>?_) I.bare
 ·obtain⟨f0,f1,f2,f3,f4,f5⟩:=hf b hb;exact⟨f3,f1,f4,f5⟩
 ·rw[qd (λz=>by rw[z,hT] at e;cases e)];exact n
 ·obtain⟨o,es,ep,ho,r⟩:=hm;exact⟨o,es,ep,k _ o (λz=>(hf _ z).2.1 rfl) ho,r⟩
 ·by_cases hb:b=T
  ·subst hb;rw[qf] at e;cases e;exact new
  ·rw[qd hb] at e;refine(I.hok b u e).stay (λc v hc q=>k c v ?_ q) (λ_ q=>up q) λ_ _ q=>up q;rcases hc with z | z
   ·rw[z];exact nch e
   ·exact nch z
theorem qec{P:Program}{w:World}{K:Frag}{elts:List Expr}{kk:Nat}{pos:Pos}{z TI TO i1 i2 a b:Addr}(D:ZipApart z TI TO i1 i2 a b) :
  Turn P w K (.Tuple elts kk pos) (Itz K a b) [z,TI,TO,i1,i2] z (ZSt z TI TO i1 i2 a b) where
 mem:=by simp
 obj:=λi h st c hc=>by
  obtain⟨s1,s2,⟨u,v,s3⟩,⟨o4,s4,_,d4⟩,⟨o5,s5,_,d5⟩⟩:=st;simp at hc;rcases hc with rfl | rfl | rfl | rfl | rfl
  ·exact⟨_,s1,λv q=>by cases q⟩
  ·exact⟨_,s2,λv q=>by cases q⟩
  ·exact⟨_,s3,λv q=>by cases q⟩
  ·exact⟨_,s4,λv q=>by rw[d4] at q;cases q⟩
  ·exact⟨_,s5,λv q=>by rw[d5] at q;cases q⟩
 keep:=λi h h' st k=>by obtain⟨s1,s2,⟨u,v,s3⟩,s4,s5⟩:=st;exact⟨k z (by simp) _ s1,k TI (by simp) _ s2,⟨u,v,k TO (by simp) _ s3⟩,s4.at λo e=>k i1 (by simp) o e,s5.at λo e=>k i2 (by simp) o e⟩
 item:=by
  intro X hP hw hK hc i pins s σ H E I hf st hg;subst hP hw hK;obtain⟨xs,ys,x,y,qa,qb,hx,hy⟩:=hg;obtain⟨s1,s2,⟨u,v,s3⟩,s4,s5⟩:=st;obtain⟨ia,ra,pa,za⟩:=I.list qa;obtain⟨ib,rb,pb,zb⟩:=I.list qb;obtain⟨ux,ex,rx⟩:=ra.get hx;obtain⟨uy,ey,ry⟩:=rb.get hy;refine wpAny_pyNext_zip_item D s1 s2 s3 s4 s5 pa.isList pb.isList (x:=ux) (y:=uy) (by simpa using ex) (by simpa using ey) λh' a1 a2 a3 a4 a5 a6 kp=>?_;refine⟨_,rfl,wpAny_letOwnedTupleGo_zip (s:={ s with heap:=h' }) a1 λh2 b1 b2=>?_⟩;have two:(2:Nat)<=sizeLine:=Nat.le_of_lt (Q9 (2:))
  have kp2:∀c o,c∉[z,TI,TO,i1,i2]->s.heap.get? c=some o->h2.get? c=some o:=λc o hc e=>by simp at hc;exact b2.extBut c o hc.1 (kp c o hc.1 hc.2.2.1 hc.2.2.2.1 hc.2.2.2.2 e)
  have I1:Inv X pins σ H { s with heap:=h2 }:=I.turnedAll (t':=s.toks) kp2 hf
  have hnew:s.heap.get? s.heap.objs.size=none:=by
   cases q:s.heap.get? s.heap.objs.size with
   |none=>rfl
   |some o=>exact absurd (Heap.lt_size q) (Nat.lt_irrefl _)
  have hH:H s.heap.objs.size=none:=I.hok.fresh (Nat.le_refl _);have hTz:s.heap.objs.size≠z:=Nat.ne_of_gt (Heap.lt_size s1);have hT2:IsPair h2 s.heap.objs.size ux uy:=b2.extBut _ _ hTz a5;have hf2:=hf;have I2:Inv X pins σ (upd H s.heap.objs.size (.tup [x,y])) { s with heap:=h2 }:=I.turnedNew (t':=s.toks) kp2 hf hnew ⟨two,[ux,uy],.cons rx %[ry|0],_,hT2,rfl,0,rfl⟩;refine⟨.ref s.heap.objs.size,_,I2,rfl,⟨_,x,y,rfl,hH,rfl,λxs' ys' h1 h2=>?_⟩,?_,λc hc=>?_⟩
  ·rw[I.list_inj h1 qa,I.list_inj h2 qb];exact⟨hx,hy⟩
  ·exact⟨b1,b2.extBut _ _ D.TIz (kp TI _ D.TIz D.TITO D.TIi1 D.TIi2 s2),⟨_,_,b2.extBut _ _ D.TOz a2⟩,a3.extBut b2.extBut D.i1z,a4.extBut b2.extBut D.i2z⟩
  ·have hc0:=(hf c hc).1;rw[qd]
   ·exact hc0
   ·intro q
    have e:∃o,s.heap.get? c=some o:=by
     simp at hc;rcases hc with rfl | rfl | rfl | rfl | rfl
     ·exact⟨_,s1⟩
     ·exact⟨_,s2⟩
     ·exact⟨_,s3⟩
     ·obtain⟨o,e,_⟩:=s4;exact⟨o,e⟩
     ·obtain⟨o,e,_⟩:=s5;exact⟨o,e⟩
    obtain⟨o,e⟩:=e;rw[q,hnew] at e;cases e
 done:=by intro X hP hw hK hc i pins s σ H E I hf st hg;subst hP hw hK;obtain⟨xs,ys,qa,qb,hend⟩:=hg;obtain⟨s1,s2,⟨u,v,s3⟩,s4,s5⟩:=st;obtain⟨ia,ra,pa,za⟩:=I.list qa;obtain⟨ib,rb,pb,zb⟩:=I.list qb;have la:=ra.length;have lb:=rb.length;refine wpAny_pyNext_zip_end (I.ok.hd hc) D s1 s2 s3 s4 s5 pa.isList pb.isList (by simp;omega) λh' kp=>⟨rfl,I.turnedAll (t':=s.toks) (λc o hc e=>?_) hf⟩;simp at hc;exact kp c o hc.1 hc.2.2.1 hc.2.2.2.1 hc.2.2.2.2 e
 self:=λA i s Q E st h=>wpAny_pyIter_zip st.1 h
noncomputable def qmt(K:Frag)(ta:TA):TI:=λσ H R=>ta σ H λvs H1=>∃a b,vs=[.ref a,.ref b]/\(∃xs,SqL K H1 a xs)/\(∃ys,SqL K H1 b ys)/\R (Itz K a b) H1
section
variable{X:Cx}
theorem qiu{ea eb:Expr}{elts:List Expr}{kk:Nat}{tpos p pos:Pos}{ta:TA}(hg:Gl X "zip")(hm:X.mg "zip" = none)(ha:PA X [ea,eb] ta)(hs:starEach [ea,eb] X.env=[(false,eval ea X.env),(false,eval eb X.env)]:=by rfl)(hs2:starEach [eb] X.env=[(false,eval eb X.env)]:=by rfl) :
  PI X (.Tuple elts kk tpos) (.Call (.Name "zip" p) [ea,eb] [] pos) (qmt X.K ta):=by
 intro pins s σ H R I h;refine Call_ (Jf I hg hm boot_zip (PyProof.Rows.callWith_type1 (thn (ha pos pins s σ H _ I h) λus s1 z=>?_) (by rw[hs,hs2]) (by rw[hs2];rfl)));obtain⟨vs,H1,I1,r1,a,b,rfl,⟨xs,qa⟩,⟨ys,qb⟩,q⟩:=z;obtain⟨u,v,rfl,ru,rv⟩:=qbt r1;cases ru;cases rv;obtain⟨ia,ra,pa,za⟩:=I1.list qa;obtain⟨ib,rb,pb,zb⟩:=I1.list qb;have la:a < s1.heap.objs.size:=by obtain⟨_,e,_⟩:=pa.isList;exact Heap.lt_size e
 have lb:b < s1.heap.objs.size:=by obtain⟨_,e,_⟩:=pb.isList;exact Heap.lt_size e
 refine call_zip_2 pa.isList pb.isList λh' z1 z2 z3 z4 z5 z6 kp=>wpAny_pyIter_zip z1 ?_
 have D:ZipApart (s1.heap.objs.size+4) (s1.heap.objs.size+2) (s1.heap.objs.size+3) s1.heap.objs.size (s1.heap.objs.size+1) a b:=by constructor<;>(first | exact Nat.ne_of_lt (Nat.lt_of_lt_of_le la (Nat.le_add_right _ _)) | exact Nat.ne_of_lt (Nat.lt_of_lt_of_le lb (Nat.le_add_right _ _)) | exact Nat.ne_of_lt la | exact Nat.ne_of_lt lb | exact Nat.ne_of_lt (1:) | exact Nat.ne_of_gt (1:))
 refine⟨s1.heap.objs.size+4,[s1.heap.objs.size+4,s1.heap.objs.size+2,s1.heap.objs.size+3,s1.heap.objs.size,s1.heap.objs.size+1],_,_,H1,rfl,I1.kept (t':=s1.toks) kp,qec D,⟨z1,z2,⟨_,_,z3⟩,z4,z5⟩,λc hc=>?_,q⟩
 have:s1.heap.objs.size<=c:=by
  simp at hc;rcases hc with rfl | rfl | rfl | rfl | rfl
  ·exact Nat.le_add_right _ _
  ·exact Nat.le_add_right _ _
  ·exact Nat.le_add_right _ _
  ·exact Nat.le_refl _
  ·exact Nat.le_add_right _ _
 exact I1.fpOk this (I1.hok.fresh this)
end
end L2
namespace L2
open PySem PySem.Spec PyProof.Rows PySem.W PyProof
section
variable{X:Cx}
theorem qiv:SlR X (λx lo hi H Q=>∃z,x=.str z/\z.length<=sizeLine/\Q (.str (Txt.slice z lo hi)) H):=by
 intro pins s σ H x v vl vu lo hi sl Q I rx hs pl pu h;obtain⟨z,rfl,hz,q⟩:=h;obtain⟨t,rfl⟩:=rx;refine⟨"str",_,F.slot_str_getitem.lookup,typeIs_str _ _ _,?_⟩;obtain⟨o,e1,e2,e3⟩:=hs
 cases pl with
 |none=>
  cases pu with
  |none=>exact wpAny_getItem_str_slice (l:=none) (u:=none) (st:=none) ⟨o,e1,e2,e3⟩ rfl (post_val_or_str ⟨Nat.le_trans (Txt.slice_le z _ _) hz,λt' k=>⟨.str _,H,I.tok k,⟨t',rfl⟩,q⟩⟩)
  |int j uj=>exact wpAny_getItem_str_slice (l:=none) (u:=some (j,uj)) (st:=none) ⟨o,e1,e2,e3⟩ rfl (post_val_or_str ⟨Nat.le_trans (Txt.slice_le z _ _) hz,λt' k=>⟨.str _,H,I.tok k,⟨t',rfl⟩,q⟩⟩)
 |int i ui=>
  cases pu with
  |none=>exact wpAny_getItem_str_slice (l:=some (i,ui)) (u:=none) (st:=none) ⟨o,e1,e2,e3⟩ rfl (post_val_or_str ⟨Nat.le_trans (Txt.slice_le z _ _) hz,λt' k=>⟨.str _,H,I.tok k,⟨t',rfl⟩,q⟩⟩)
  |int j uj=>exact wpAny_getItem_str_slice (l:=some (i,ui)) (u:=some (j,uj)) (st:=none) ⟨o,e1,e2,e3⟩ rfl (post_val_or_str ⟨Nat.le_trans (Txt.slice_le z _ _) hz,λt' k=>⟨.str _,H,I.tok k,⟨t',rfl⟩,q⟩⟩)
end
end L2
namespace L2
open PySem PySem.Spec PyProof.Rows PySem.W
noncomputable def Ite(K:Frag)(a:Addr):It:=
 ⟨λi H=>∃xs x,SqL K H a xs/\xs[i]?=some x,
  λi H v H'=>∃T x,v=.ref T/\H T=none/\H'=upd H T (.tup [.int i,x])/\∀xs,SqL K H a xs->xs[i]?=some x,
  λi H=>∃xs,SqL K H a xs/\xs.length<=i⟩
noncomputable def ESt(e it a:Addr)(i:Nat)(h:Heap):Prop:=(∃old,IsEnum h e it ((i:Nat):Int) old)/\h.IsListIter it a i
theorem qcB{P:Program}{w:World}{K:Frag}{elts:List Expr}{kk:Nat}{pos:Pos}{e it a:Addr}(hne:e≠it) :
  Turn P w K (.Tuple elts kk pos) (Ite K a) [e,it] e (ESt e it a) where
 mem:=by simp
 obj:=λi h st c hc=>by
  obtain⟨⟨old,s1⟩,⟨o4,s4,_,d4⟩⟩:=st;simp at hc;rcases hc with rfl | rfl
  ·exact⟨_,s1,λv q=>by cases q⟩
  ·exact⟨_,s4,λv q=>by rw[d4] at q;cases q⟩
 keep:=λi h h' st k=>by obtain⟨⟨old,s1⟩,s4⟩:=st;exact⟨⟨old,k e (by simp) _ s1⟩,s4.at λo e=>k it (by simp) o e⟩
 item:=by
  intro X hP hw hK hc i pins s σ H E I hf st hg;subst hP hw hK;obtain⟨xs,x,qa,hx⟩:=hg;obtain⟨⟨old,s1⟩,s4⟩:=st;obtain⟨ia,ra,pa,za⟩:=I.list qa;obtain⟨ux,ex,rx⟩:=ra.get hx;refine wpAny_pyNext_enum_item s1 s4 pa.isList (x:=ux) (by simpa using ex) hne λh' a1 a2 a3 a4 kp=>?_;refine⟨_,rfl,wpAny_letOwnedTupleGo_enum (s:={ s with heap:=h',toks:=s.toks+1 }) a1 λh2 b1 b2=>?_⟩;have two:(2:Nat)<=sizeLine:=Nat.le_of_lt (Q9 (2:))
  have kp2:∀c o,c∉[e,it]->s.heap.get? c=some o->h2.get? c=some o:=λc o hc q=>by simp at hc;exact b2.extBut c o hc.1 (kp c o hc.1 hc.2 q)
  have hnew:s.heap.get? s.heap.objs.size=none:=by
   cases q:s.heap.get? s.heap.objs.size with
   |none=>rfl
   |some o=>exact absurd (Heap.lt_size q) (Nat.lt_irrefl _)
  have hH:H s.heap.objs.size=none:=I.hok.fresh (Nat.le_refl _);have hTe:s.heap.objs.size≠e:=Nat.ne_of_gt (Heap.lt_size s1);have hT2:IsPair h2 s.heap.objs.size (.int i s.toks) ux:=b2.extBut _ _ hTe a3;have I2:Inv X pins σ (upd H s.heap.objs.size (.tup [.int i,x])) { s with heap:=h2,toks:=s.toks+1 }:=I.turnedNew (t':=s.toks+1) kp2 hf hnew ⟨two,[.int i s.toks,ux],.cons ⟨_,rfl⟩ %[rx|0],_,hT2,rfl,0,rfl⟩;refine⟨.ref s.heap.objs.size,_,I2,rfl,⟨_,x,rfl,hH,rfl,λxs' h1=>?_⟩,?_,λc hc=>?_⟩
  ·rw[I.list_inj h1 qa];exact hx
  ·have e1:((i+1:Nat):Int)=(i:Int)+1:=by omega
   refine⟨⟨ux,?_⟩,a2.extBut b2.extBut (Ne.symm hne)⟩;rw[e1];exact b1
  ·have hc0:=(hf c hc).1;rw[qd]
   ·exact hc0
   ·intro q
    have e:∃o,s.heap.get? c=some o:=by
     simp at hc;rcases hc with rfl | rfl
     ·exact⟨_,s1⟩
     ·obtain⟨o,e,_⟩:=s4;exact⟨o,e⟩
    obtain⟨o,e⟩:=e;rw[q,hnew] at e;cases e
 done:=by intro X hP hw hK hc i pins s σ H E I hf st hg;subst hP hw hK;obtain⟨xs,qa,hend⟩:=hg;obtain⟨⟨old,s1⟩,s4⟩:=st;obtain⟨ia,ra,pa,za⟩:=I.list qa;have la:=ra.length;refine wpAny_pyNext_enum_end (I.ok.hd hc) s1 s4 pa.isList (by simp;omega) λh' kp=>⟨rfl,I.turnedAll (t':=s.toks) (λc o hc e=>?_) hf⟩;simp at hc;exact kp c o hc.2 e
 self:=λA i s Q E st h=>by obtain⟨⟨old,s1⟩,_⟩:=st;exact wpAny_pyIter_enum s1 h
noncomputable def qkY(K:Frag)(ta:TA):TI:=λσ H R=>ta σ H λvs H1=>∃a,vs=[.ref a]/\(∃xs,SqL K H1 a xs)/\R (Ite K a) H1
section
variable{X:Cx}
theorem qgt{ea:Expr}{elts:List Expr}{kk:Nat}{tpos p pos:Pos}{ta:TA}(hg:Gl X "enumerate")(hm:X.mg "enumerate" = none)(ha:PA X [ea] ta)(hs:starEach [ea] X.env=[(false,eval ea X.env)]:=by rfl) :
  PI X (.Tuple elts kk tpos) (.Call (.Name "enumerate" p) [ea] [] pos) (qkY X.K ta):=by
 intro pins s σ H R I h;refine Call_ (Jf I hg hm boot_enumerate (PyProof.Rows.callWith_type1 (thn (ha pos pins s σ H _ I h) λus s1 z=>?_) hs rfl));obtain⟨vs,H1,I1,r1,a,rfl,⟨xs,qa⟩,q⟩:=z;obtain⟨u,rfl,ru⟩:=Yu r1;cases ru;obtain⟨ia,ra,pa,za⟩:=I1.list qa;refine call_enumerate_list pa.isList λh' z1 z2 z3 kp=>wpAny_pyIter_enum z1 ?_;refine⟨s1.heap.objs.size+1,[s1.heap.objs.size+1,s1.heap.objs.size],_,_,H1,rfl,I1.kept (t':=s1.toks) kp,qcB (Nat.succ_ne_self _),⟨⟨_,z1⟩,z2⟩,λc hc=>?_,q⟩
 have:s1.heap.objs.size<=c:=by
  simp at hc;rcases hc with rfl | rfl
  ·exact Nat.le_add_right _ _
  ·exact Nat.le_refl _
 exact I1.fpOk this (I1.hok.fresh this)
end
end L2
namespace L2
open PySem PySem.Spec PyProof.Rows PySem.W
noncomputable def Itv(K:Frag)(a:Addr)(xs:List V):It:=
 ⟨λi H=>SqL K H a xs/\i < xs.length,λi H x H'=>H'=H/\xs[xs.length - 1 - i]?=some x,λi H=>SqL K H a xs/\xs.length=i⟩
theorem qed{P:Program}{w:World}{K:Frag}{tg:Expr}(a it:Addr)(xs:List V):Turn P w K tg (Itv K a xs) [it] it (λi h=>h.IsRevIter it a ((xs.length:Int) - 1 - i)) where
 mem:=by simp
 obj:=λi h st b hb=>by
  have e:b=it:=by simpa using hb
  subst e;obtain⟨o,e,c,d⟩:=st;exact⟨o,e,λv z=>by rw[d] at z;cases z⟩
 keep:=λi h h' st k=>st.at λo e=>k it (by simp) o e
 item:=by
  intro X hP hw hK hc i pins s σ H E I hf st hg;subst hP hw hK;obtain⟨hq,hi⟩:=hg;obtain⟨its,rv,p,hz⟩:=I.list hq;have hx:xs[xs.length - 1 - i]?=some xs[xs.length - 1 - i]:=List.getElem?_eq_getElem (1:);obtain⟨u,hu,ru⟩:=rv.get hx;obtain⟨f0,f1,f2,f3,f4,f5⟩:=hf it (by simp);have e1:(xs.length:Int) - 1 - i=((xs.length - 1 - i:Nat):Int):=by omega
  rw[e1] at st;refine wpAny_pyNext_rev_item st p.isList (x:=u) (by simpa using hu) λh' st' sb=>?_;have I1:Inv X pins σ H { s with heap:=h' }:=I.turned (t':=s.toks) (λb o hb e=>(sb.2 b hb).trans e) f0 f1 f3 f4 f5;have e2:((xs.length - 1 - i:Nat):Int) - 1=(xs.length:Int) - 1 - ((i+1:Nat):Int):=by omega
  rw[e2] at st';obtain⟨o,e,c,d⟩:=id st';exact⟨u,rfl,qb8 (s:={ s with heap:=h' }) e c d (2:) ⟨_,H,I1,ru,⟨rfl,hx⟩,st',λb hb=>(hf b hb).1⟩⟩
 done:=by
  intro X hP hw hK hc i pins s σ H E I hf st hg;subst hP hw hK;obtain⟨hq,hi⟩:=hg;obtain⟨f0,f1,f2,f3,f4,f5⟩:=hf it (by simp);have e1:(xs.length:Int) - 1 - i = -1:=by omega
  rw[e1] at st;exact wpAny_pyNext_rev_end (I.ok.hd hc) st λh' eb=>⟨rfl,I.turned (t':=s.toks) (λb o hb e=>eb b o hb e) f0 f1 f3 f4 f5⟩
 self:=λ_ _ _ _ _ st h=>wpAny_pyIter_revIter st h
noncomputable def qmu(K:Frag)(ta:TA):TI:=λσ H R=>ta σ H λvs H1=>∃a xs,vs=[.ref a]/\SqL K H1 a xs/\R (Itv K a xs) H1
section
variable{X:Cx}
theorem qiw{ea tg:Expr}{p pos:Pos}{ta:TA}(hg:Gl X "reversed")(hm:X.mg "reversed" = none)(ha:PA X [ea] ta)(hs:starEach [ea] X.env=[(false,eval ea X.env)]:=by rfl) :
  PI X tg (.Call (.Name "reversed" p) [ea] [] pos) (qmu X.K ta):=by
 intro pins s σ H R I h;refine Call_ (Jf I hg hm boot_reversed (PyProof.Rows.callWith_type1 (thn (ha pos pins s σ H _ I h) λus s1 z=>?_) hs rfl));obtain⟨vs,H1,I1,r1,a,xs,rfl,qa,q⟩:=z;obtain⟨u,rfl,ru⟩:=Yu r1;cases ru;obtain⟨ia,ra,pa,za⟩:=I1.list qa;have la:=ra.length;refine call_reversed_list pa.isList ?_;refine wpAny_pyIter_revIter ⟨_,Heap.get?_push_size _ rfl,rfl,rfl⟩ ?_;refine⟨s1.heap.objs.size,[s1.heap.objs.size],_,_,H1,rfl,I1.kept (t':=s1.toks) λb o e=>Heap.get?_push_of_some _ e,qed a _ xs,⟨_,Heap.get?_push_size _ rfl,rfl,?_⟩,λb hb=>?_,q⟩
 ·show Data.fields #[.ref a,rawInt ((ia.toArray.size:Int) - 1)]=_
  have:(ia.toArray.size:Int) - 1=(xs.length:Int) - 1 - ((0:Nat):Int):=by simp;omega
  rw[this]
 ·have e:b=s1.heap.objs.size:=by simpa using hb
  subst e;exact I1.fpOk (Nat.le_refl _) (I1.hok.fresh (Nat.le_refl _))
end
end L2
namespace L2
open PySem PySem.Spec PyProof.Rows
theorem qcC:∀{zs:List Str} {us:List Value},qz (zs.map V.str) us->StrsAre us zs
 |[],_,.nil=>.nil
 | z::zs,_,.cons r t=>by obtain⟨k,rfl⟩:=r;exact .cons z k (qcC t)
theorem Y9(k:Str):∀{vs:List Value} {ys:List Str},StrsAre vs ys->∀(j:Nat) (h1:j < vs.length) (h2:j < ys.length),isStrOf k vs[j]=(ys[j] == k)
 |_,_,.cons n t _,0,_,_=>rfl
 | _,_,.cons n t r,j+1,h1,h2=>Y9 k r j (Nat.lt_of_succ_lt_succ h1) (Nat.lt_of_succ_lt_succ h2)
theorem qfh{k:Str}:∀{ns:List Str} {j:Nat},j < ns.idxOf k->∀(h2:j < ns.length),(ns[j] == k)=false
 | n::r,0,h,_=>by
  by_cases e:n=k
  ·subst e;simp at h
  ·simpa using e
 | n::r,j+1,h,h2=>by
  by_cases e:n=k
  ·subst e;simp at h
  ·have hb:(n == k)=false:=by simpa using e
   have h':j < r.idxOf k:=by rw[List.idxOf_cons,hb] at h;exact Nat.lt_of_succ_lt_succ h
   exact qfh h' (Nat.lt_of_succ_lt_succ h2)
theorem qaN:∀{vs:List Value} {ys:List Str},StrsAre vs ys->vs.length=ys.length
 |_,_,.nil=>rfl
 |_,_,.cons _ _ r=>by rw[List.length_cons,List.length_cons,qaN r]
section
variable{X:Cx}
noncomputable def qix:V->List V->Hp->VK->Prop:=λx vs H Q=>∃(l:Addr) (zs:List Str) (k:Str),x=.ref l/\vs=[.str k]/\H l=some (.lst (zs.map V.str))/\k∈zs/\Q (.int (zs.idxOf k:Nat)) H
theorem qee:MtR X "list.index" qix:=by
 intro pins s σ H x vs v us Q I rx rv h;obtain⟨l,zs,k,rfl,rfl,hH,hk,q⟩:=h;cases rx;obtain⟨u,rfl,ru⟩:=rv.one;obtain⟨z,its,n,r,hl,e⟩:=I.lstM hH;obtain⟨t,rfl⟩:=ru;have hi:=qcC r;have hlen:=qaN hi;have hj:zs.idxOf k < zs.length:=List.idxOf_lt_length_iff.mpr hk;have hz:zs.length<=sizeLine:=by simpa using z
 have hs:sizeLine < 2 ^ 62:=by decide+kernel
 refine call_meets F.slot_list_index ⟨_,e,rfl⟩ F.entry_list_index (F.args_list_index_2 _ _) (SeqAt.list_indexAt l its.toArray n _ _ (.str k t) (isStrOf k) (zs.idxOf k) (by simpa [hlen] using hj) (1:) ?_ ?_) ⟨e,λy hy=>(eq_isStrOf k t hi y (by simpa using hy)).at _ _,?_⟩
 ·show isStrOf k its[zs.idxOf k]=true;rw[Y9 k hi _ (1:) hj]
  simpa using List.getElem_idxOf hj
 ·intro j hjs hlt;show isStrOf k its[j]=false;rw[Y9 k hi j (by simpa using hjs) (1:)];exact qfh hlt _
 ·exact⟨.int _,H,I.tok _,⟨_,rfl⟩,q⟩
end
end L2
namespace L2
open PySem PySem.Spec PyProof.Rows
def rsz(lo hi c:Int):Nat:=if lo < hi then ((hi - lo - 1) / c+1).toNat else 0
end L2
namespace TS
open PySem PyProof.Rows
section
variable{M:Model}{A:Around}{E:PQ}{s:Shared}{O:KeyOrd}{kf:Keyed->O.α}{κ:SortKind}{G:Keyed->Prop}{a0:Array Keyed}
noncomputable def Few(O:KeyOrd)(kf:Keyed->O.α)(a0:Array Keyed)(st:SortSt):Prop:=(arrOf st).Perm a0/\failedOf st=none/\pendingOf st=#[(0,a0.size,0)]/\Srt O kf (arrOf st) 0 a0.size
theorem qcD(L:qd7 M A E s O kf κ G)(h2:2<=a0.size)(h64:a0.size < 64)(h0:∀x∈a0.toList,G x){st:SortSt}{Q:Unit->SortSt->Prop}(hk:kindOf st=κ)(hf:failedOf st=none)(ha:arrOf st=a0)(hp:pendingOf st=#[])
  (h:∀st',(arrOf st').Perm a0->failedOf st'=none->Srt O kf (arrOf st') 0 a0.size->Q () st'):wpS M A E s sortRuns' Q st:=by
 rw[sortRuns'_eq];refine wpS_bind (wpS_get ?_);dsimp only
 have hmr:minRun' a0.size a0.size 0=a0.size:=by
  obtain⟨f,hf⟩:∃f,a0.size=f+1:=⟨a0.size - 1,by omega⟩
  have:minRun' (f+1) a0.size 0=a0.size:=by rw[minRun'_succ,if_pos h64];rfl
  rwa[<-hf] at this
 simp only[ha,hmr];have done:∀st',kindOf st'=κ->failedOf st'=none->pendingOf st'=#[]->(arrOf st').Perm a0->Srt O kf (arrOf st') 0 a0.size->Few O kf a0 (setPending st' ((pendingOf st').push (0,a0.size,0))):=λst' _ b c d e=>⟨d,b,by show(pendingOf st').push _=_;rw[c];rfl,e⟩
 refine wpS_bind (wpS_mono (wpS_forRange
  (I:=λx c st'=>(x=0/\c=(none,0)/\st'=st)\/(1<=x/\c=(none,a0.size)/\Few O kf a0 st'))
  (Q:=λc st'=>c=(none,a0.size)/\Few O kf a0 st') ?step ?fin (.inl ⟨rfl,rfl,rfl⟩)) ?post)
 case fin=>
  rintro c st' (⟨hx,_,_⟩ | ⟨_,hc,hD⟩)
  ·omega
  ·exact⟨hc,hD⟩
 case step=>
  rintro x c st' _ hx (⟨rfl,rfl,rfl⟩ | ⟨hx1,rfl,hD⟩)
  ·dsimp only;rw[if_neg (1:)];simp only[Nat.sub_zero,Nat.min_self,Nat.zero_add];refine wpS_bind (qkX L hk (by rw[ha];exact h0) (by rw[ha];omega) (1:) λm xs r m1 m2 im=>?_);dsimp only;rw[ha] at r;rw[Nat.zero_add] at im
   by_cases hlt:m < a0.size
   ·rw[if_pos hlt];refine wpS_bind (wpS_lift (wpAny_rule ⟨rfl,?_⟩));refine wpS_bind (qip L (st:=setArr st' xs) hk (r.mem h0) (by show 0+a0.size<=xs.size;rw[r.size];omega) (1:) (by rw[Nat.zero_add];exact im) λys r2 im2=>?_);simp only[Bool.not_true,Bool.false_eq_true,if_false];refine wpS_bind (wpS_get ?_);have hb:(pendingOf (setArr (setArr st' xs) ys)).back?=none:=by rw[show pendingOf (setArr (setArr st' xs) ys)=pendingOf st' from rfl,hp];rfl
    rw[hb];dsimp only;rw[Nat.zero_add] at im2;exact wpS_bind (wpS_modify (wpS_pure (.inr ⟨by omega,rfl,done _ hk hf hp (r2.perm.trans r.perm) im2.srt⟩)))
   ·rw[if_neg hlt];have hm:m=a0.size:=by omega
    subst hm;refine wpS_bind (wpS_get ?_);have hb:(pendingOf (setArr st' xs)).back?=none:=by rw[show pendingOf (setArr st' xs)=pendingOf st' from rfl,hp];rfl
    rw[hb];dsimp only;exact wpS_bind (wpS_modify (wpS_pure (.inr ⟨by omega,rfl,done _ hk hf hp r.perm im.srt⟩)))
  ·dsimp only;rw[if_pos (Nat.le_refl _)];exact wpS_pure ⟨rfl,hD⟩
 case post=>
  rintro c st' ⟨rfl,hD⟩;dsimp only;refine wpS_bind (wpS_mono (wpS_forRange (I:=λ_ c st''=>st''=st'/\c=(none,())) (Q:=λc st''=>st''=st'/\c=(none,())) ?_ (λ_ _ hh=>hh) ⟨rfl,rfl⟩) ?_)
  ·rintro x c st'' _ _ ⟨rfl,rfl⟩;refine wpS_bind (wpS_get ?_);rw[if_pos (by rw[hD.2.2.1];exact Nat.le_refl 1)];exact wpS_pure ⟨rfl,rfl⟩
  ·rintro c st'' ⟨rfl,rfl⟩;exact wpS_pure (h _ hD.1 hD.2.1 hD.2.2.2)
end
section
variable{prog:Program}{w:World}{A:Around}{E:PQ}{s:Shared}{O:KeyOrd}{kf:Keyed->O.α}{κ:SortKind}
theorem qcE{s0:Shared}{a:Addr}{vs:List Value}{n:Nat}{P:PySem.Fin->Shared->Prop}(S:Sorts prog w s0 vs O kf κ)(ho:s.heap.get? a=some (seqObj "list" vs.toArray n))(hsz:vs.length<=sizeLine)(h64:vs.length < 64)
  (hg:∀b o,s0.heap.get? b=some o->s.heap.get? b=some o/\b≠a)
  (h:∀st':SortSt,(arrOf st').Perm (pairsOf vs)->Srt O kf (arrOf st') 0 (pairsOf vs).size->P (.done (.ret .none)) { s with heap:=sortedHeap s.heap a vs ((arrOf st').map (·.2)) }) :
  wpAny (model prog w) A (Builtin.«list.sort» ⟨[.ref a],[]⟩) P E s:=by
 rw[list_sort_plain];have ha:a < s.heap.objs.size:=Heap.lt_size ho;have hv:vs.toArray.size=vs.length:=by simp
 refine wpAny_bind (listItems_at ho rfl (wpAny_bind (listUpdate_at ho rfl ?_ (by rw[hv];exact hsz) (Nat.zero_le _))));obtain⟨n1,ho1⟩:∃n1,(s.heap.update a (Obj.mapSeq λ_=>#[])).get? a=some (seqObj "list" #[] n1):=⟨_,get?_update_seq ho (λ_=>#[])⟩;refine wpAny_bind (seqEpoch_at ho1 rfl (wpAny_bind (wpAny_newTuple ?_ (by simpa using hsz))));refine wpAny_bind (wpAny_newList (wpAny_holding ?_) (Nat.zero_le _));generalize hh:(((s.heap.update a (Obj.mapSeq λ_=>#[])).push (seqObj "tuple" vs.toArray 0)).push (seqObj "list" #[] 0))=h6
 have ho6:h6.get? a=some (seqObj "list" #[] n1):=by rw[<-hh];exact Heap.get?_push_of_some _ (Heap.get?_push_of_some _ ho1)
 have grown:qct s0 { s with heap:=h6 }:=λb o e=>by obtain⟨e1,ne⟩:=hg b o e;show h6.get? b=some o;rw[<-hh];exact Heap.get?_push_of_some _ (Heap.get?_push_of_some _ (by rw[Heap.get?_update_ne _ _ _ _ ne];exact e1))
 have fin:∀st':SortSt,(arrOf st').Perm (pairsOf vs)->Srt O kf (arrOf st') 0 (pairsOf vs).size->P (.done (.ret .none)) { s with heap:=h6.update a (Obj.mapSeq λ_=>(arrOf st').map (·.2)) }:=λst' a1 a2=>by
  have:=h st' a1 a2
  unfold sortedHeap at this;rw[hh] at this;exact this
 have small:∀st':SortSt,(arrOf st').Perm (pairsOf vs)->((arrOf st').map (·.2)).size<=sizeLine+1:=λst' hp=>by rw[Array.size_map,hp.size_eq,pairsOf_size];omega
 show wpAny (model prog w) A _ P E { s with heap:=h6 };dsimp only
 by_cases h2:vs.toArray.size < 2
 ·rw[if_pos h2,if_pos h2];refine wpAny_bind (wpAny_pure ?_);rw[StateT.run_pure];refine wpAny_bind (wpAny_pure ?_);dsimp only;refine wpAny_bind (seqEpoch_at ho6 rfl ?_);refine wpAny_bind (listUpdate_at ho6 rfl ?_ (Nat.zero_le _) (small (SortSt.mk' general' (vs.toArray.zip vs.toArray) #[] 7 none) (Array.Perm.refl _)));simp only[bne_self_eq_false,Bool.false_eq_true,if_false];refine wpAny_pure (fin (SortSt.mk' general' (vs.toArray.zip vs.toArray) #[] 7 none) (Array.Perm.refl _) ?_);intro i j x y _ b c d e
  have:i=j:=by rw[pairsOf_size] at c;omega
  subst this;rw[d] at e;cases e;exact KeyOrd.kle_refl _
 ·rw[if_neg h2,if_neg h2];refine wpAny_bind (S.kind (1:) A E _ _ grown ?_)
  refine wpAny_bind (wpAny_mono (qcD (S.lt A E _ grown) (a0:=pairsOf vs) (by rw[pairsOf_size];omega) (by rw[pairsOf_size];exact h64) (st:=SortSt.mk' κ (vs.toArray.zip vs.toArray) #[] 7 none) (λx hx=>hx) rfl rfl rfl rfl
   (Q:=λ_ st'=>(arrOf st').Perm (pairsOf vs)/\failedOf st'=none/\Srt O kf (arrOf st') 0 (pairsOf vs).size) λst' a1 a2 a3=>⟨a1,a2,a3⟩) ?_ λ_ _ e=>e)
  rintro⟨⟨⟩,st'⟩ s' ⟨rfl,hp,hf,hs⟩;dsimp only;refine wpAny_bind (seqEpoch_at ho6 rfl (wpAny_bind (listUpdate_at ho6 rfl ?_ (Nat.zero_le _) (small st' hp))));rw[hf];simp only[bne_self_eq_false,Bool.false_eq_true,if_false];exact wpAny_pure (fin st' hp hs)
theorem Ze{l:Addr}{vs:List Value}{Q:PQ}(S:Sorts prog w s vs O kf κ)(hl:s.heap.IsList l vs.toArray)(hsz:vs.length<=sizeLine)(h64:vs.length < 64)
  (h:∀st':SortSt,(arrOf st').Perm (pairsOf vs)->Srt O kf (arrOf st') 0 (pairsOf vs).size->Q (.ref (s.heap.objs.size+1)) { s with heap:=sortedAll s.heap vs ((arrOf st').map (·.2)) }) :
  wpAny (model prog w) A (call (.builtin "sorted") [.ref l]) Q E s:=by
 refine Calls.call_function_entry kind_sorted plain_sorted entry_sorted (args_sorted1 _) ?_;unfold Builtin.«sorted»;refine wpAny_bind (m:=checkCount "sorted" 1 1 _) (wpAny_pure (wpAny_bind (collect_list hl ?_ hsz)));refine wpAny_bind (wpAny_newList ?_ hsz);have hz:((s.heap.push (seqObj "list" #[] 0)).update s.heap.objs.size (Obj.mapSeq (· ++ vs.toArray))).objs.size=s.heap.objs.size+1:=by rw[Heap.size_update,size_push']
 show wpAny _ _ _ _ _ { s with heap:=((s.heap.push (seqObj "list" #[] 0)).update s.heap.objs.size (Obj.mapSeq (· ++ vs.toArray))).push (seqObj "list" vs.toArray 0) };rw[hz];generalize hh:((s.heap.push (seqObj "list" #[] 0)).update s.heap.objs.size (Obj.mapSeq (· ++ vs.toArray))).push (seqObj "list" vs.toArray 0)=h6
 have hoL:h6.get? (s.heap.objs.size+1)=some (seqObj "list" vs.toArray 0):=by rw[<-hh,<-hz];exact Heap.get?_push_size _ rfl
 have old:∀b o,s.heap.get? b=some o->h6.get? b=some o/\b≠s.heap.objs.size+1:=λb o e=>by have hlt:b < s.heap.objs.size:=Heap.lt_size e;refine⟨?_,Nat.ne_of_lt (Nat.lt_succ_of_lt hlt)⟩;rw[<-hh];refine Heap.get?_push_of_some _ ?_;rw[Heap.get?_update_ne _ _ _ _ (Nat.ne_of_lt hlt)];exact Heap.get?_push_of_some _ e
 have hr:∀st':SortSt,(arrOf st').Perm (pairsOf vs)->Srt O kf (arrOf st') 0 (pairsOf vs).size->Q (.ref (s.heap.objs.size+1)) { s with heap:=sortedHeap h6 (s.heap.objs.size+1) vs ((arrOf st').map (·.2)) }:=λst' a1 a2=>by
  have:=h st' a1 a2
  unfold sortedAll at this;rw[hh] at this;exact this
 refine wpAny_bind (wpAny_holding (wpAny_call_entry slot_list_sort ⟨_,hoL,rfl⟩ entry_list_sort (qcE S hoL hsz h64 old λst' a1 a2=>⟨_,rfl,?_⟩) (args_list_sort _)));exact wpAny_pure ⟨_,rfl,hr st' a1 a2⟩
end
end TS
namespace L2
open PySem PySem.Spec PyProof.Rows
section
variable{X:Cx}
theorem Qa:zR X (.builtin "sorted") (λvs H Q=>∃p xs ps,vs=[.ref p]/\SqL X.K H p xs/\xs.length < 64/\Paired (P2 X.K H) xs ps/\
  ∀l ys qs,H l=none->Paired (P2 X.K H) ys qs->ys.Perm xs->qs.Perm ps->qs.Pairwise qcw->Q (.ref l) (upd H l (.lst ys))):=by
 intro pins s σ H xs us Q I r h;obtain⟨p,xs,ps,rfl,hq,h64,hp,q⟩:=h;obtain⟨u,rfl,rx⟩:=Yu r;cases rx;obtain⟨its,rv,pl,hz⟩:=I.list hq;have hlen:=rv.length
 have three:∀{xs:List V} {its:List Value} {ps:List (Int×Int)},qz xs its->Paired (P2 X.K H) xs ps->Paired (λ(z:V×(Int×Int)) u=>qK z.1 u/\P2 X.K H z.1 z.2/\TS.qaM s.heap u z.2) (xs.zip ps) its/\Paired (TS.qaM s.heap) its ps/\xs.length=ps.length:=by
  intro xs its ps a b
  induction a generalizing ps with
  |nil=>cases b;exact⟨.nil,.nil,rfl⟩
  |cons r rs ih=>
   cases b with
   |cons b bs=>obtain⟨i1,i2,i3⟩:=ih bs;have t:=P2.raw I b r;exact⟨.cons ⟨r,b,t⟩ i1,.cons t i2,by simp[i3]⟩
 obtain⟨t1,t2,t3⟩:=three rv hp;refine TS.Ze (TS.qcv t2) pl.isList (1:) (1:) λst' pm sr=>?_
 have hl:(arrOf st').toList.Perm (its.zip its):=by
  have:=Array.perm_iff_toList_perm.mp pm
  rwa[pairsOf_toList] at this
 have hout:((arrOf st').map (·.2)).toList.Perm its:=by
  rw[Array.toList_map]
  have:=hl.map (·.2)
  rwa[List.map_snd_zip (Nat.le_refl _)] at this
 obtain⟨zs,z1,z2⟩:=TS.Paired.perm hout t1
 have hys:(zs.map (·.1)).Perm xs:=by
  have:=z1.map (·.1)
  rwa[List.map_fst_zip (1:)] at this
 have hqs:(zs.map (·.2)).Perm ps:=by
  have:=z1.map (·.2)
  rwa[List.map_snd_zip (1:)] at this
 have hv:qz (zs.map (·.1)) ((arrOf st').map (·.2)).toList:=by
  clear z1 hys hqs;generalize ((arrOf st').map (·.2)).toList=ol at z2
  induction z2 with
  |nil=>exact .nil
  |cons r _ ih=>exact .cons r.1 ih
 have hP:Paired (P2 X.K H) (zs.map (·.1)) (zs.map (·.2)):=by
  clear z1 hys hqs hv;generalize ((arrOf st').map (·.2)).toList=ol at z2
  induction z2 with
  |nil=>exact .nil
  |cons r _ ih=>exact .cons r.2.1 ih
 have hkeys:((arrOf st').map (·.2)).toList.map (TS.j9 s.heap)=zs.map (·.2):=by
  clear z1 hys hqs hv hP;generalize ((arrOf st').map (·.2)).toList=ol at z2
  induction z2 with
  |nil=>rfl
  |cons r _ ih=>rw[List.map_cons,List.map_cons,ih,r.2.2.pair]
 have hsrt:(zs.map (·.2)).Pairwise qcw:=by
  rw[<-hkeys,Array.toList_map,List.map_map];have h0:(arrOf st').size=(pairsOf its).size:=pm.size_eq;rw[<-h0] at sr
  have:=sr.pw
  refine List.pairwise_map.mpr ?_;refine List.Pairwise.imp_of_mem (λ{a b} ha hb hab=>?_) this;have ea:=(mem_zip_self (hl.mem_iff.mp ha)).1;have eb:=(mem_zip_self (hl.mem_iff.mp hb)).1;have hab:TS.pO.blt (TS.j9 s.heap b.1) (TS.j9 s.heap a.1)=false:=hab;rw[ea,eb] at hab;unfold TS.pO at hab;simp at hab;show qcw (TS.j9 s.heap a.2) (TS.j9 s.heap b.2);unfold qcw;omega
 obtain⟨e,he⟩:=sortedAll_at s.heap its ((arrOf st').map (·.2));have hz2:(zs.map (·.1)).length<=sizeLine:=by rw[hys.length_eq];exact hz
 refine⟨.ref (s.heap.objs.size+1),_,I.laid (t':=s.toks) (λb o eb=>sortedAll_old eb) (Nat.le_succ _) (show zu X.prog X.w _ _ _ (.lst (zs.map (·.1))) from⟨hz2,_,e,hv,?_⟩),rfl,q _ _ _ (I.hok.fresh (Nat.le_succ _)) hP hys hqs hsrt⟩;rw[Array.toArray_toList];exact he
end
end L2
namespace DE
open PySem L2
inductive D where
 | non | bl (b:Bool) | int (n:Int) | str (s:Str) | lst (l:List D) | tup (l:List D) | ins (c:Str) (ns:List Str) (l:List D)
 deriving Inhabited
abbrev KC:=Str->Option Addr
mutual
noncomputable def Rep(κ:KC)(G:Hp):D->V->Prop
 |.non,v=>v=.non
 |.bl b,v=>v=.bl b
 |.int n,v=>v=.int n
 |.str s,v=>v=.str s
 |.lst ds,v=>∃a xs,v=.ref a/\G a=some (.lst xs)/\ql κ G ds xs
 |.tup ds,v=>∃a xs,v=.ref a/\G a=some (.tup xs)/\ql κ G ds xs
 |.ins c ns ds,v=>∃p dx C xs,κ c=some C/\v=.ref p/\G p=some (.ins C dx (ns.zip xs))/\xs.length=ns.length/\ql κ G ds xs
noncomputable def ql(κ:KC)(G:Hp):List D->List V->Prop
 |[],xs=>xs=[]
 | d::ds,xs=>∃x r,xs=x::r/\Rep κ G d x/\ql κ G ds r
end
mutual
theorem Rep.same{κ:KC}{G G':Hp}(e:qo G G'):∀{d:D} {v:V},Rep κ G d v->Rep κ G' d v
 |.non,v,h=>by simp only[Rep] at h ⊢;exact h
 |.bl b,v,h=>by simp only[Rep] at h ⊢;exact h
 |.int i,v,h=>by simp only[Rep] at h ⊢;exact h
 |.str x,v,h=>by simp only[Rep] at h ⊢;exact h
 |.lst ds,v,h=>by simp only[Rep] at h ⊢;obtain⟨a,xs,rfl,h1,h2⟩:=h;exact⟨a,xs,rfl,e _ _ h1,ql.same e h2⟩
 |.tup ds,v,h=>by simp only[Rep] at h ⊢;obtain⟨a,xs,rfl,h1,h2⟩:=h;exact⟨a,xs,rfl,e _ _ h1,ql.same e h2⟩
 |.ins c ns ds,v,h=>by simp only[Rep] at h ⊢;obtain⟨p,dx,C,xs,hc,rfl,h1,hl,h2⟩:=h;exact⟨p,dx,C,xs,hc,rfl,e _ _ h1,hl,ql.same e h2⟩
theorem ql.same{κ:KC}{G G':Hp}(e:qo G G'):∀{ds:List D} {vs:List V},ql κ G ds vs->ql κ G' ds vs
 |[],vs,h=>by simp only[ql] at h ⊢;exact h
 | d::ds,vs,h=>by simp only[ql] at h ⊢;obtain⟨x,r,rfl,h1,h2⟩:=h;exact⟨x,r,rfl,Rep.same e h1,ql.same e h2⟩
end
section
variable{κ:KC}{G G':Hp}
theorem ql.nil:ql κ G [] []:=by simp only[ql]
theorem ql.cons{d:D}{ds:List D}{v:V}{vs:List V}(h:Rep κ G d v)(t:ql κ G ds vs):ql κ G (d::ds) (v::vs):=by simp only[ql];exact⟨v,vs,rfl,h,t⟩
theorem ql.len:∀{ds:List D} {vs:List V},ql κ G ds vs->ds.length=vs.length
 |[],vs,h=>by simp only[ql] at h;subst h;rfl
 | d::ds,vs,h=>by simp only[ql] at h;obtain⟨x,r,rfl,h1,h2⟩:=h;simp[ql.len h2]
theorem ql.app:∀{ds es:List D} {vs us:List V},ql κ G ds vs->ql κ G es us->ql κ G (ds++es) (vs++us)
 | [],es,vs,us,h,h'=>by simp only[ql] at h;subst h;exact h'
 | d::ds,es,vs,us,h,h'=>by simp only[ql] at h;obtain⟨x,r,rfl,h1,h2⟩:=h;exact ql.cons h1 (ql.app h2 h')
theorem ql.snoc{ds:List D}{vs:List V}{d:D}{v:V}(h:ql κ G ds vs)(h':Rep κ G d v):ql κ G (ds++[d]) (vs++[v]):=h.app %[h'|0]
theorem ql.drop:∀(n:Nat) {ds:List D} {vs:List V},ql κ G ds vs->ql κ G (ds.drop n) (vs.drop n)
 |0,_,_,h=>h
 | n+1,[],vs,h=>by simp only[ql] at h;subst h;exact .nil
 | n+1,d::ds,vs,h=>by simp only[ql] at h;obtain⟨x,r,rfl,h1,h2⟩:=h;exact ql.drop n h2
theorem ql.take:∀(n:Nat) {ds:List D} {vs:List V},ql κ G ds vs->ql κ G (ds.take n) (vs.take n)
 |0,_,_,h=>by simpa using ql.nil
 | n+1,[],vs,h=>by simp only[ql] at h;subst h;exact .nil
 | n+1,d::ds,vs,h=>by simp only[ql] at h;obtain⟨x,r,rfl,h1,h2⟩:=h;exact ql.cons h1 (ql.take n h2)
theorem ql.atD:∀{ds:List D} {vs:List V} {i:Nat} {d:D},ql κ G ds vs->ds[i]?=some d->∃v,vs[i]?=some v/\Rep κ G d v
 |[],vs,i,d,h,e=>by simp at e
 | d::ds,vs,0,d',h,e=>by simp only[ql] at h;obtain⟨x,r,rfl,h1,h2⟩:=h;simp at e;subst e;exact⟨x,rfl,h1⟩
 | d::ds,vs,i+1,d',h,e=>by simp only[ql] at h;obtain⟨x,r,rfl,h1,h2⟩:=h;obtain⟨v',e1,e2⟩:=ql.atD (i:=i) h2 (by simpa using e);exact⟨v',by simpa using e1,e2⟩
theorem ql.set:∀{ds:List D} {vs:List V} (i:Nat) {d:D} {v:V},ql κ G ds vs->Rep κ G d v->ql κ G (ds.set i d) (vs.set i v)
 | [],vs,i,d,v,h,h'=>by simp only[ql] at h;subst h;exact .nil
 | d::ds,vs,0,d',v,h,h'=>by simp only[ql] at h;obtain⟨x,r,rfl,h1,h2⟩:=h;exact ql.cons h' h2
 | d::ds,vs,i+1,d',v,h,h'=>by simp only[ql] at h;obtain⟨x,r,rfl,h1,h2⟩:=h;exact ql.cons h1 (ql.set i h2 h')
end
inductive Sl where
 | no | val (d:D) | own (l:List D) | bor (l:List D) | scr (l:List D)
abbrev Env:=List Sl
noncomputable def SlR(κ:KC)(K:Frag)(G H Hv:Hp):Sl->Option (Option V)->Prop
 |.no,_=>True
 |.val d,o=>∃v,o=some (some v)/\Rep κ G d v
 |.own ds,o=>∃a xs,o=some (some (.ref a))/\H a=some (.lst xs)/\Hv a=none/\G a=none/\ql κ G ds xs
 |.bor ds,o=>∃a xs,o=some (some (.ref a))/\Hv a=some (.lst xs)/\ql κ G ds xs
 |.scr ds,o=>∃a xs,o=some (some (.ref a))/\SqL K Hv a xs/\ql κ G ds xs
noncomputable def qbA(ρ:Env)(σ:St)(a:Addr):Prop:=∃(i:Nat) (l:List D),ρ[i]?=some (.own l)/\σ[i]?=some (some (.ref a))
structure ER(κ:KC)(K:Frag)(Gv Hv G H:Hp)(ρ:Env)(σ:St):Prop where
 len:ρ.length=σ.length
 sub:qo G H
 base:qo Hv H
 g0:qo Gv G
 fresh:∀a o,G a=some o->(∃o',Gv a=some o')\/Hv a=none
 sl:∀(i:Nat) (s:Sl),ρ[i]?=some s->SlR κ K G H Hv s σ[i]?
 ap:∀(i j:Nat) (a:Addr) (l m:List D),ρ[i]?=some (.own l)->ρ[j]?=some (.own m)->σ[i]?=some (some (.ref a))->σ[j]?=some (some (.ref a))->i=j
structure Po(κ:KC)(K:Frag)(Gv Hv:Hp)(σ:St)(G H:Hp)(ρ:Env)(G' H':Hp)(ρ':Env):Prop where
 er:ER κ K Gv Hv G' H' ρ' σ
 hs:qo H H'
 gs:qo G G'
 new:∀a o,G' a=some o->(∃o',G a=some o')\/H a=none\/qbA ρ σ a
 fz:∀(i:Nat) (l:List D),ρ'[i]?=some (.own l)->ρ[i]?=some (.own l)
theorem qo.none{H H':Hp}(e:qo H H'){a:Addr}(h:H' a=none):H a=none:=by
 cases q:H a with
 |none=>rfl
 |some o=>rw[e a o q] at h;cases h
section
variable{κ:KC}{K:Frag}{Gv Hv G H G' H' G'' H'':Hp}{ρ ρ' ρ'':Env}{σ:St}
theorem Po.refl(h:ER κ K Gv Hv G H ρ σ):Po κ K Gv Hv σ G H ρ G H ρ:=⟨h,λ_ _ e=>e,λ_ _ e=>e,λ_ o e=>.inl ⟨o,e⟩,λ_ _ e=>e⟩
theorem Po.trans(a:Po κ K Gv Hv σ G H ρ G' H' ρ')(b:Po κ K Gv Hv σ G' H' ρ' G'' H'' ρ''):Po κ K Gv Hv σ G H ρ G'' H'' ρ'':=
 ⟨b.er,λc o e=>b.hs c o (a.hs c o e),λc o e=>b.gs c o (a.gs c o e),λc o e=>by
  rcases b.new c o e with ⟨o',z⟩ | z | ⟨i,l,z1,z2⟩
  ·exact a.new c o' z
  ·exact .inr (.inl (qo.none a.hs z))
  ·exact .inr (.inr ⟨i,l,a.fz i l z1,z2⟩),λi l e=>a.fz i l (b.fz i l e)⟩
theorem SlR.grow(hs:qo H H')(gs:qo G G')(nw:∀a xs,H a=some (.lst xs)->Hv a=none->G a=none->G' a=none){s:Sl}{o:Option (Option V)}(h:SlR κ K G H Hv s o):SlR κ K G' H' Hv s o:=by
 cases s with
 |no=>trivial
 |val d=>obtain⟨v,e,r⟩:=h;exact⟨v,e,r.same gs⟩
 |own ds=>obtain⟨a,xs,e,h1,h2,h3,h4⟩:=h;exact⟨a,xs,e,hs _ _ h1,h2,nw a xs h1 h2 h3,h4.same gs⟩
 |bor ds=>obtain⟨a,xs,e,h1,h4⟩:=h;exact⟨a,xs,e,h1,h4.same gs⟩
 |scr ds=>obtain⟨a,xs,e,h1,h4⟩:=h;exact⟨a,xs,e,h1,h4.same gs⟩
theorem Po.more(h:ER κ K Gv Hv G H ρ σ)(hs:qo H H')(gs:qo G G')(sub:qo G' H')(new:∀a o,G' a=some o->(∃o',G a=some o')\/H a=none):Po κ K Gv Hv σ G H ρ G' H' ρ:=by
 refine⟨⟨h.len,sub,λb o e=>hs b o (h.base b o e),λb o e=>gs b o (h.g0 b o e),λa o e=>?_,λi s e=>(h.sl i s e).grow hs gs λa xs h1 h2 h3=>?_,h.ap⟩,hs,gs,λa o e=>?_,λ_ _ e=>e⟩
 ·rcases new a o e with ⟨o',z⟩ | z
  ·exact h.fresh a o' z
  ·exact .inr (qo.none h.base z)
 ·cases q:G' a with
  |none=>rfl
  |some o=>
   rcases new a o q with ⟨o',z⟩ | z
   ·rw[h3] at z;cases z
   ·rw[h1] at z;cases z
 ·rcases new a o e with z | z
  ·exact .inl z
  ·exact .inr (.inl z)
theorem Po.room(h:ER κ K Gv Hv G H ρ σ)(hs:qo H H'):Po κ K Gv Hv σ G H ρ G H' ρ:=
 Po.more h hs (λ_ _ e=>e) (λb o e=>hs b o (h.sub b o e)) λ_ o e=>.inl ⟨o,e⟩
theorem Po.lay(h:ER κ K Gv Hv G H ρ σ){a:Addr}{o:HO}(ha:H a=none):Po κ K Gv Hv σ G H ρ (upd G a o) (upd H a o) ρ:=by
 have ga:G a=none:=qo.none h.sub ha;refine Po.more h (qo.upd ha) (qo.upd ga) (λb u e=>?_) λb u e=>?_
 ·by_cases hb:b=a
  ·subst hb;rw[qf] at e ⊢;exact e
  ·rw[qd hb] at e ⊢;exact h.sub b u e
 ·by_cases hb:b=a
  ·subst hb;exact .inr ha
  ·rw[qd hb] at e;exact .inl ⟨u,e⟩
end
inductive Rv where
 | val (d:D) | tmp (l:List D) | cell (l:List D) | scr (l:List D)
noncomputable def RvR(κ:KC)(K:Frag)(Hv Hb G H:Hp)(ρ:Env)(σ:St):Rv->V->Prop
 |.val d,v=>Rep κ G d v
 |.tmp ds,v=>∃a xs,v=.ref a/\H a=some (.lst xs)/\Hb a=none/\Hv a=none/\G a=none/\¬ qbA ρ σ a/\ql κ G ds xs
 |.cell ds,v=>∃a xs,v=.ref a/\H a=some (.lst xs)/\ql κ G ds xs
 |.scr ds,v=>∃a xs,v=.ref a/\SqL K H a xs/\ql κ G ds xs
section
variable{κ:KC}{K:Frag}{Gv Hv Hb G H G' H':Hp}{ρ ρ':Env}{σ:St}
theorem RvR.keep{r:Rv}{v:V}(h:RvR κ K Hv Hb G H ρ σ r v)(p:Po κ K Gv Hv σ G H ρ G' H' ρ'):RvR κ K Hv Hb G' H' ρ' σ r v:=by
 cases r with
 |val d=>exact Rep.same p.gs h
 |tmp ds=>
  obtain⟨a,xs,rfl,h1,h2,h3,h4,h5,h6⟩:=h;refine⟨a,xs,rfl,p.hs _ _ h1,h2,h3,?_,λ⟨i,l,z1,z2⟩=>h5 ⟨i,l,p.fz i l z1,z2⟩,h6.same p.gs⟩
  cases q:G' a with
  |none=>rfl
  |some o=>
   rcases p.new a o q with ⟨o',z⟩ | z | z
   ·rw[h4] at z;cases z
   ·rw[h1] at z;cases z
   ·exact absurd z h5
 |cell ds=>obtain⟨a,xs,rfl,h1,h6⟩:=h;exact⟨a,xs,rfl,p.hs _ _ h1,h6.same p.gs⟩
 |scr ds=>obtain⟨a,xs,rfl,h1,h6⟩:=h;exact⟨a,xs,rfl,p.hs.seq h1,h6.same p.gs⟩
theorem RvR.back{Hc:Hp}{r:Rv}{v:V}(h:RvR κ K Hv Hc G H ρ σ r v)(e:qo Hb Hc):RvR κ K Hv Hb G H ρ σ r v:=by
 cases r with
 |val d=>exact h
 |tmp ds=>obtain⟨a,xs,rfl,h1,h2,h3,h4,h5,h6⟩:=h;exact⟨a,xs,rfl,h1,qo.none e h2,h3,h4,h5,h6⟩
 |cell ds=>exact h
 |scr ds=>exact h
noncomputable def Rv.list?:Rv->Option (List D)
 |.val (.lst l)=>some l
 |.tmp l=>some l
 |.cell l=>some l
 |.scr l=>some l
 |_=>none
noncomputable def Rv.plain?:Rv->Option (List D)
 |.val (.lst l)=>some l
 |.tmp l=>some l
 |.cell l=>some l
 |_=>none
theorem RvR.plain(er:ER κ K Gv Hv G H ρ σ){r:Rv}{v:V}{l:List D}(h:RvR κ K Hv Hb G H ρ σ r v)(e:r.plain?=some l):∃a xs,v=.ref a/\H a=some (.lst xs)/\ql κ G l xs:=by
 cases r with
 |val d=>
  cases d<;>simp only[Rv.plain?] at e<;>try (cases e)
  simp only[RvR,Rep] at h;obtain⟨a,xs,rfl,h1,h2⟩:=h;exact⟨a,xs,rfl,er.sub _ _ h1,h2⟩
 |tmp ds=>simp only[Rv.plain?] at e;cases e;obtain⟨a,xs,rfl,h1,_,_,_,_,h6⟩:=h;exact⟨a,xs,rfl,h1,h6⟩
 |cell ds=>simp only[Rv.plain?] at e;cases e;exact h
 |scr ds=>simp only[Rv.plain?] at e;cases e
theorem RvR.list(er:ER κ K Gv Hv G H ρ σ){r:Rv}{v:V}{l:List D}(h:RvR κ K Hv Hb G H ρ σ r v)(e:r.list?=some l):∃a xs,v=.ref a/\SqL K H a xs/\ql κ G l xs:=by
 cases r with
 |scr ds=>simp only[Rv.list?] at e;cases e;exact h
 |val d=>
  have e':(Rv.val d).plain?=some l:=by cases d<;>simp only[Rv.list?] at e<;>first | (cases e;rfl) | cases e
  obtain⟨a,xs,h1,h2,h3⟩:=h.plain er e';exact⟨a,xs,h1,SqL.of h2,h3⟩
 |tmp ds=>obtain⟨a,xs,h1,h2,h3⟩:=h.plain er (l:=l) e;exact⟨a,xs,h1,SqL.of h2,h3⟩
 |cell ds=>obtain⟨a,xs,h1,h2,h3⟩:=h.plain er (l:=l) e;exact⟨a,xs,h1,SqL.of h2,h3⟩
theorem Po.freeze{a:Addr}{xs:List V}{G1 H1:Hp}{ρ1:Env}(p:Po κ K Gv Hv σ G H ρ G1 H1 ρ1)(h1:H1 a=some (.lst xs))(h2:H a=none)(h3:Hv a=none)(h4:G1 a=none)(h5:¬ qbA ρ1 σ a):Po κ K Gv Hv σ G H ρ (upd G1 a (.lst xs)) H1 ρ1:=by
 have gs:qo G1 (upd G1 a (.lst xs)):=qo.upd h4;have er:=p.er;refine⟨⟨er.len,λb u e=>?_,er.base,λb o e=>gs b o (er.g0 b o e),λb o e=>?_,λi s e=>?_,er.ap⟩,p.hs,λb o e=>gs b o (p.gs b o e),λb o e=>?_,p.fz⟩
 ·by_cases hb:b=a
  ·subst hb;rw[qf] at e;cases e;exact h1
  ·rw[qd hb] at e;exact er.sub b u e
 ·by_cases hb:b=a
  ·subst hb;exact .inr h3
  ·rw[qd hb] at e;exact er.fresh b o e
 ·have q:=er.sl i s e
  cases s with
  |no=>trivial
  |val d=>obtain⟨v,z,r⟩:=q;exact⟨v,z,r.same gs⟩
  |own ds=>obtain⟨b,ys,z,q1,q2,q3,q4⟩:=q;have hb:b≠a:=λw=>h5 ⟨i,ds,e,by rw[<-w];exact z⟩;exact⟨b,ys,z,q1,q2,by rw[qd hb];exact q3,q4.same gs⟩
  |bor ds=>obtain⟨b,ys,z,q1,q4⟩:=q;exact⟨b,ys,z,q1,q4.same gs⟩
  |scr ds=>obtain⟨b,ys,z,q1,q4⟩:=q;exact⟨b,ys,z,q1,q4.same gs⟩
 ·by_cases hb:b=a
  ·subst hb;exact .inr (.inl h2)
  ·rw[qd hb] at e;exact p.new b o e
theorem ER.froze{i:Nat}{l:List D}(h:ER κ K Gv Hv G H ρ σ)(e:ρ[i]?=some (.own l)):∃a xs,σ[i]?=some (some (.ref a))/\Po κ K Gv Hv σ G H ρ (upd G a (.lst xs)) H (ρ.set i (.val (.lst l)))/\Rep κ (upd G a (.lst xs)) (.lst l) (.ref a):=by
 obtain⟨a,xs,z,h1,h2,h3,h4⟩:=h.sl i _ e;have gs:qo G (upd G a (.lst xs)):=qo.upd h3;have hi:i < ρ.length:=(List.getElem?_eq_some_iff.mp e).1;have rp:Rep κ (upd G a (.lst xs)) (.lst l) (.ref a):=by simp only[Rep];exact⟨a,xs,rfl,qf,h4.same gs⟩
 refine⟨a,xs,z,⟨⟨by rw[List.length_set];exact h.len,λb u q=>?_,h.base,λb o q=>gs b o (h.g0 b o q),λb o q=>?_,λj s q=>?_,λj k b m n q1 q2=>?_⟩,λ_ _ q=>q,gs,λb o q=>?_,λj m q=>?_⟩,rp⟩
 ·by_cases hb:b=a
  ·subst hb;rw[qf] at q;cases q;exact h1
  ·rw[qd hb] at q;exact h.sub b u q
 ·by_cases hb:b=a
  ·subst hb;exact .inr h2
  ·rw[qd hb] at q;exact h.fresh b o q
 ·by_cases hj:i=j
  ·subst hj;rw[List.getElem?_set_self hi] at q;cases q;exact⟨_,z,rp⟩
  ·rw[List.getElem?_set_ne hj] at q;have w:=h.sl j s q
   cases s with
   |no=>trivial
   |val d=>obtain⟨v,z,r⟩:=w;exact⟨v,z,r.same gs⟩
   |own ds=>obtain⟨b,ys,z',q1,q2,q3,q4⟩:=w;have hb:b≠a:=λu=>hj (h.ap i j a l ds e q z (by rw[<-u];exact z'));exact⟨b,ys,z',q1,q2,by rw[qd hb];exact q3,q4.same gs⟩
   |bor ds=>obtain⟨b,ys,z,q1,q4⟩:=w;exact⟨b,ys,z,q1,q4.same gs⟩
   |scr ds=>obtain⟨b,ys,z,q1,q4⟩:=w;exact⟨b,ys,z,q1,q4.same gs⟩
 ·have f:∀{j:Nat} {m:List D},(ρ.set i (.val (.lst l)))[j]?=some (.own m)->ρ[j]?=some (.own m):=λ{j m} q=>by
   by_cases hj:i=j
   ·subst hj;rw[List.getElem?_set_self hi] at q;cases q
   ·rw[List.getElem?_set_ne hj] at q;exact q
  exact h.ap j k b m n (f q1) (f q2)
 ·by_cases hb:b=a
  ·subst hb;exact .inr (.inr ⟨i,l,e,z⟩)
  ·rw[qd hb] at q;exact .inl ⟨o,q⟩
 ·by_cases hj:i=j
  ·subst hj;rw[List.getElem?_set_self hi] at q;cases q
  ·rw[List.getElem?_set_ne hj] at q;exact q
theorem ER.setVal{i:Nat}{d:D}{v:V}(h:ER κ K Gv Hv G H ρ σ)(r:Rep κ G d v):ER κ K Gv Hv G H (ρ.set i (.val d)) (σ.set i (some v)):=by
 refine⟨by rw[List.length_set,List.length_set];exact h.len,h.sub,h.base,h.g0,h.fresh,λj s q=>?_,λj k b m n q1 q2 q3 q4=>?_⟩
 ·by_cases hj:i=j
  ·subst hj;have hi:i < ρ.length:=by simpa using (List.getElem?_eq_some_iff.mp q).1
   rw[List.getElem?_set_self hi] at q;cases q;exact⟨v,by rw[List.getElem?_set_self (by rw[<-h.len];exact hi)],r⟩
  ·rw[List.getElem?_set_ne hj] at q ⊢;exact h.sl j s q
 ·have f:∀{j:Nat} {m:List D},(ρ.set i (.val d))[j]?=some (.own m)->i≠j/\ρ[j]?=some (.own m):=λ{j m} q=>by
   by_cases hj:i=j
   ·subst hj;have hi:i < ρ.length:=by simpa using (List.getElem?_eq_some_iff.mp q).1
    rw[List.getElem?_set_self hi] at q;cases q
   ·rw[List.getElem?_set_ne hj] at q;exact⟨hj,q⟩
  obtain⟨n1,e1⟩:=f q1;obtain⟨n2,e2⟩:=f q2;rw[List.getElem?_set_ne n1] at q3;rw[List.getElem?_set_ne n2] at q4;exact h.ap j k b m n e1 e2 q3 q4
theorem ER.setOwn{i:Nat}{l:List D}{a:Addr}{xs:List V}(h:ER κ K Gv Hv G H ρ σ)(h1:H a=some (.lst xs))(h2:Hv a=none)(h3:G a=none)(h4:¬ qbA ρ σ a)(r:ql κ G l xs):ER κ K Gv Hv G H (ρ.set i (.own l)) (σ.set i (some (.ref a))):=by
 have f:∀{j:Nat} {m:List D},(ρ.set i (.own l))[j]?=some (.own m)->i≠j->ρ[j]?=some (.own m):=λ{j m} q hj=>by rw[List.getElem?_set_ne hj] at q;exact q
 refine⟨by rw[List.length_set,List.length_set];exact h.len,h.sub,h.base,h.g0,h.fresh,λj s q=>?_,λj k b m n q1 q2 q3 q4=>?_⟩
 ·by_cases hj:i=j
  ·subst hj;have hi:i < ρ.length:=by simpa using (List.getElem?_eq_some_iff.mp q).1
   rw[List.getElem?_set_self hi] at q;cases q;exact⟨a,xs,by rw[List.getElem?_set_self (by rw[<-h.len];exact hi)],h1,h2,h3,r⟩
  ·rw[List.getElem?_set_ne hj] at q ⊢;exact h.sl j s q
 ·by_cases hj:i=j
  ·by_cases hk:i=k
   ·omega
   ·subst hj;have hi:i < σ.length:=by simpa using (List.getElem?_eq_some_iff.mp q3).1
    rw[List.getElem?_set_self hi] at q3;rw[List.getElem?_set_ne hk] at q4;cases q3;exact absurd ⟨k,n,f q2 hk,q4⟩ h4
  ·by_cases hk:i=k
   ·subst hk;have hi:i < σ.length:=by simpa using (List.getElem?_eq_some_iff.mp q4).1
    rw[List.getElem?_set_self hi] at q4;rw[List.getElem?_set_ne hj] at q3;cases q4;exact absurd ⟨j,m,f q1 hj,q3⟩ h4
   ·rw[List.getElem?_set_ne hj] at q3;rw[List.getElem?_set_ne hk] at q4;exact h.ap j k b m n (f q1 hj) (f q2 hk) q3 q4
theorem ER.write{i:Nat}{l m:List D}{a:Addr}{ys:List V}(h:ER κ K Gv Hv G H ρ σ)(e:ρ[i]?=some (.own l))(z:σ[i]?=some (some (.ref a)))(r:ql κ G m ys):ER κ K Gv Hv G (upd H a (.lst ys)) (ρ.set i (.own m)) σ:=by
 obtain⟨a',xs,z',h1,h2,h3,h4⟩:=h.sl i _ e;have ea:a'=a:=by rw[z'] at z;injection z with z;injection z with z;injection z
 subst ea;have hi:i < ρ.length:=(List.getElem?_eq_some_iff.mp e).1;refine⟨by rw[List.length_set];exact h.len,λb u q=>?_,λb u q=>?_,h.g0,h.fresh,λj s q=>?_,λj k b m' n q1 q2=>?_⟩
 ·have hb:b≠a':=λw=>by rw[w,h3] at q;cases q
  rw[qd hb];exact h.sub b u q
 ·have hb:b≠a':=λw=>by rw[w,h2] at q;cases q
  rw[qd hb];exact h.base b u q
 ·by_cases hj:i=j
  ·subst hj;rw[List.getElem?_set_self hi] at q;cases q;exact⟨a',ys,z',qf,h2,h3,r⟩
  ·rw[List.getElem?_set_ne hj] at q;have w:=h.sl j s q
   cases s with
   |no=>trivial
   |val d=>exact w
   |own ds=>obtain⟨b,zs,z2,q1,q2,q3,q4⟩:=w;have hb:b≠a':=λu=>hj (h.ap i j a' l ds e q z' (by rw[<-u];exact z2));exact⟨b,zs,z2,by rw[qd hb];exact q1,q2,q3,q4⟩
   |bor ds=>exact w
   |scr ds=>exact w
 ·have f:∀{j:Nat} {n:List D},(ρ.set i (.own m))[j]?=some (.own n)->∃n',ρ[j]?=some (.own n'):=λ{j n} q=>by
   by_cases hj:i=j
   ·subst hj;exact⟨l,e⟩
   ·rw[List.getElem?_set_ne hj] at q;exact⟨n,q⟩
  obtain⟨_,e1⟩:=f q1;obtain⟨_,e2⟩:=f q2;exact h.ap j k b _ _ e1 e2
end
end DE
namespace DE
open PySem L2
inductive Sk where
 | lst | tup | str
def qef(s:Str):List D:=s.cps.toList.map λc=>D.str ⟨#[c]⟩
inductive R(α:Type) where
 | ok (a:α) | exc (c:Str) (l:List (Str×D)) | no
def R.th{α β:Type}:R α->(α->R β)->R β
 |.ok a,f=>f a
 |.exc c l,_=>.exc c l
 |.no,_=>.no
def R.of{α:Type}:Option α->R α
 |some a=>.ok a
 |none=>.no
mutual
noncomputable def toP:D->Option PyData
 |.non=>some .none
 |.bl b=>some (.bool b)
 |.int n=>some (.int n)
 |.str s=>some (.str s)
 |.lst l=>(qbZ l).map .list
 |.tup l=>(qbZ l).map .tuple
 |.ins ..=>none
noncomputable def qbZ:List D->Option (List PyData)
 |[]=>some []
 | d::l=>(toP d).bind λp=>(qbZ l).map (p :: ·)
end
def Rv.data:Rv->D
 |.val d=>d
 |.tmp l=>.lst l
 |.cell l=>.lst l
 |.scr l=>.lst l
inductive Ar where
 | val (d:D) | bor (l:List D) | scr (l:List D)
structure Cs where
 tab:List Str
 fld:Str->Str->Bool
 mt:Str->Str->Option Str
 sub:Str->Str->Option Bool
def Cs.non:Cs:=⟨[],λ_ _=>false,λ_ _=>none,λ_ _=>none⟩
structure Ct where
 N:List Str
 sc:Scope
 tab:List Str
 gl:Str->Option D
 cl:Str->List Ar->R Rv
 cs:Cs
 nw:Str->List Ar->R Rv
noncomputable def qb0:List Str->Str->Option Nat
 |[],_=>none
 | y::r,x=>if y=x then some 0 else (qb0 r x).map (· + 1)
noncomputable def qiy(sc:Scope)(x:Str):Bool:=match sc.names.lookup x with
 |some .local=>true
 |some .cell=>true
 |some .free=>true
 |_=>false
noncomputable def qiz(sc:Scope)(x:Str):Bool:=match sc.names.lookup x with
 |some .local=>true
 |some .cell=>true
 |_=>false
def glB(sc:Scope)(x:Str):Bool:=sc.names.lookup x == some .globalImplicit
noncomputable def jv(x:Str):Bool:=!(x == ("__debug__" : Str))&&!(x == ("__classdict__" : Str))&&!(x == ("__name__" : Str))
def oif{α:Type}(c:Bool)(a:Option α):Option α:=match c with
 |true=>a
 |false=>none
def qb1(Γ:Ct)(x:Str):Option Nat:=oif (jv x&&qiy Γ.sc x) (qb0 Γ.N x)
noncomputable def isF(Γ:Ct)(it:Expr):Option Nat:=match it with
 |.Name x _=>if x = "_law_found" then qb1 Γ x else none
 |_=>none
noncomputable def slC(ρ:Env)(i:Nat):R (List D):=match ρ[i]? with
 |some (.own l)=>.ok l
 |some (.val (.lst l))=>.ok l
 |some (.val (.tup l))=>.ok l
 |_=>.no
def Rv.int?:Rv->Option Int
 |.val (.int i)=>some i
 |_=>none
def Rv.str?:Rv->Option Str
 |.val (.str i)=>some i
 |_=>none
def Rv.bl?:Rv->Option Bool
 |.val (.bl i)=>some i
 |_=>none
def Rv.tup?:Rv->Option (List D)
 |.val (.tup i)=>some i
 |_=>none
noncomputable def QQ(i j:Int):Bool:=(decide (-(2 ^ 64) < i)&&decide (i < 2 ^ 64))||(decide (-(2 ^ 64) < j)&&decide (j < 2 ^ 64))
noncomputable def int2(x y:Rv)(f:Int->Int->R Rv):R Rv:=match x.int?,y.int? with
 |some i,some j=>f i j
 |_,_=>.no
noncomputable def qkZ(x y:Rv):R Rv:=match x.int?,y.int? with
 |some i,some j=>.ok (.val (.int (i+j)))
 |_,_=>match x.str?,y.str? with
  |some a,some b=>if a.length+b.length<=sizeLine then .ok (.val (.str (a++b))) else .no
  |_,_=>match x.plain?,y.plain? with
   |some l,some m=>if l.length+m.length<=sizeLine then .ok (.tmp (l++m)) else .no
   |_,_=>.no
noncomputable def qk0(x y:Rv):R Rv:=match x.int?,y.int? with
 |some i,some j=>if QQ i j=true then .ok (.val (.int (i * j))) else .no
 |none,some j=>(match x.plain? with
  |some l=>if (0<=j/\j < 1000)/\l.length * j.toNat<=sizeLine then .ok (.tmp (List.replicate j.toNat l).flatten) else .no
  |none=>.no)
 |_,_=>.no
noncomputable def qaa(op:Operator)(x y:Rv):R Rv:=match op with
 |.Add=>qkZ x y
 |.Sub=>int2 x y λi j=>.ok (.val (.int (i - j)))
 |.Mult=>qk0 x y
 |.FloorDiv=>int2 x y λi j=>if 0 < j/\j < 1073741824 then .ok (.val (.int (i / j))) else .no
 |.Mod=>int2 x y λi j=>if 0 < j then .ok (.val (.int (i % j))) else .no
 |.Pow=>int2 x y λi j=>if 0<=j/\j<=1000000/\i.natAbs < 2 ^ 64 then .ok (.val (.int (i ^ j.toNat))) else .no
 |_=>.no
noncomputable def eqD(x y:D):Option Bool:=match toP x,toP y with
 |some p,some q=>if SeqAt.shaped p&&SeqAt.shaped q then some (PyData.eqv p q) else none
 |_,_=>none
def Yw:D->Bool
 |.non=>true
 |.bl _=>true
 |.int _=>true
 |.str _=>true
 |_=>false
def seqD(r:Rv):Option (List D):=match r.tup? with
 |some l=>some l
 |none=>r.list?
def flV:D->V
 |.bl b=>.bl b
 |.int n=>.int n
 |.str s=>.str s
 |_=>.non
noncomputable def inD(x:D)(l:List D):Option Bool:=if (Yw x&&l.all Yw)=true then some (inV (flV x) (l.map flV)) else none
noncomputable def qhH(x y:Rv)(f:Int->Int->Bool):Option Bool:=match x.int?,y.int? with
 |some i,some j=>some (f i j)
 |_,_=>none
def Rv.non?:Rv->Bool
 |.val .non=>true
 |_=>false
def qhI(a b:Str):Bool:=!(Builtin.Str.occurrences b a 0 b.length 1).isEmpty
noncomputable def qb2(x y:Rv):Option Bool:=match x.str?,y.str? with
 |some a,some b=>some (qhI a b)
 |_,_=>(seqD y).bind (inD x.data)
noncomputable def JS(op:CmpOp)(x y:Rv):Option Bool:=match op with
 |.Eq=>eqD x.data y.data
 |.NotEq=>(eqD x.data y.data).map (!·)
 |.Lt=>qhH x y λi j=>decide (i < j)
 |.LtE=>qhH x y λi j=>decide (i<=j)
 |.Gt=>qhH x y λi j=>decide (j < i)
 |.GtE=>qhH x y λi j=>decide (j<=i)
 |.Is=>if y.non? then some x.non? else none
 |.IsNot=>if y.non? then some (!x.non?) else none
 |.In=>qb2 x y
 |.NotIn=>(qb2 x y).map (!·)
noncomputable def idxD(x y:Rv):R Rv:=match y.int? with
 |some i=>(match x.str? with
  |some z=>if z.length<=sizeLine then (match atI z.cps.toList i with |some c=>.ok (.val (.str ⟨#[c]⟩)) |none=>.no) else .no
  |none=>match seqD x with
   |some l=>(match atI l i with |some d=>.ok (.val d) |none=>.no)
   |none=>.no)
 |none=>.no
noncomputable def qbB(l:List D)(lo hi:Option Int):List D:=(l.drop (HT.sIx l.length 0 lo)).take (HT.sIx l.length l.length hi - HT.sIx l.length 0 lo)
noncomputable def sliceD(r:Rv)(lo hi:Option Int):R Rv:=match r.str? with
 |some z=>if z.length<=sizeLine then .ok (.val (.str (Txt.slice z lo hi))) else .no
 |none=>(R.of r.list?).th λl=>.ok (.tmp (qbB l lo hi))
noncomputable def truthD(r:Rv):Option Bool:=match r with
 |.val .non=>some false
 |.val (.bl b)=>some b
 |.val (.int i)=>some (i != 0)
 |.val (.str s)=>if s.length<=sizeLine then some ((s.length:Int) != 0) else none
 |r=>(seqD r).map λl=>!l.isEmpty
def qfi(cs:Cs)(r:Rv)(t:Str):Option Bool:=match r with
 |.val (.ins c _ _)=>cs.sub c t
 |_=>none
noncomputable def qcF(cs:Cs)(r:Rv)(x:Str):Option D:=match r with
 |.val (.ins c ns ds)=>if cs.fld c x then (ns.zip ds).lookup x else none
 |_=>none
noncomputable def mtD(cs:Cs)(r:Rv)(x:Str):Option Str:=match r with
 |.val (.ins c ns _)=>if ns.contains x then none else cs.mt c x
 |_=>none
def Qb:List D->Option (List Str)
 |[]=>some []
 | .str z::l=>(Qb l).map (z :: ·)
 |_=>none
noncomputable def ixM(r:Rv)(as:List Ar):R Rv:=match r.plain?,as with
 |some l,[.val (.str s)]=>(match Qb l with |some zs=>if zs.contains s then .ok (.val (.int (zs.idxOf s:Nat))) else .no |none=>.no)
 |_,_=>.no
def Ji:Expr->Bool
 |.Name ..=>true
 |.Subscript ..=>true
 |_=>false
noncomputable def lenD(r:Rv):R Rv:=match r.str? with
 |some s=>if s.length<=sizeLine then .ok (.val (.int s.length)) else .no
 |none=>match seqD r with
  |some l=>.ok (.val (.int l.length))
  |none=>.no
def listD(r:Rv):R Rv:=match seqD r with
 |some l=>.ok (.tmp l)
 |none=>.no
noncomputable def intD(r:Rv):R Rv:=match r.int? with
 |some i=>.ok (.val (.int i))
 |none=>match r.bl? with
  |some b=>.ok (.val (.int (if b then 1 else 0)))
  |none=>.no
def prD:D->Option (Int×Int)
 |.tup [.int a,.int b]=>some (a,b)
 |_=>none
noncomputable def qfj:List D->Option (List (Int×Int))
 |[]=>some []
 | d::l=>match prD d,qfj l with
  |some p,some ps=>some (p::ps)
  |_,_=>none
def pD(p:Int×Int):D:=.tup [.int p.1,.int p.2]
def Zf(p q:Int×Int):Bool:=decide (p.1 < q.1)||(decide (p.1=q.1)&&decide (p.2<=q.2))
def yC(ps:List (Int×Int)):List (Int×Int):=ps.mergeSort Zf
noncomputable def Qc(r:Rv):R Rv:=match r.list? with
 |some l=>(match qfj l with |some ps=>if ps.length < 64 then .ok (.tmp ((yC ps).map pD)) else .no |none=>.no)
 |none=>.no
def qcG:List D->Option (List Int)
 |[]=>some []
 | .int i::l=>(qcG l).map (i :: ·)
 |_=>none
noncomputable def qk1(r:Rv):R Rv:=match r.list? with
 |some l=>(match qcG l with |some ns=>.ok (.val (.int ns.sum)) |none=>.no)
 |none=>.no
def qC:Expr->Bool
 |.Starred ..=>true
 |_=>false
def qlC(r:Rv):R Rv:=.no
def kvD:D->Option (Str×Int)
 |.tup [.str s,.int n]=>some (s,n)
 |_=>none
noncomputable def qlD:List D->Option (List (Str×Int))
 |[]=>some []
 | d::l=>match kvD d,qlD l with
  |some p,some ps=>some (p::ps)
  |_,_=>none
def qmv(kvs:List (Str×Int))(k:Str):Option Int:=(kvs.find? λkv=>decide (kv.1=k)).map (·.2)
noncomputable def qk2(n:Int)(x y:Rv):R Rv:=match x.list?,y.str? with
 |some l,some k=>(match qlD l with |some kvs=>if (kvs.map (·.1)).Nodup then .ok (.val (.int ((qmv kvs k).getD n))) else .no |none=>.no)
 |_,_=>.no
def dgE(Γ:Ct)(o:Expr)(x:Str)(es:List Expr)(b:Bool):Option (Expr×Expr×Int):=none
def maxD(x y:Rv):R Rv:=int2 x y λi j=>.ok (.val (.int (if j > i then j else i)))
def minD(x y:Rv):R Rv:=int2 x y λi j=>.ok (.val (.int (if j < i then j else i)))
def Zg:Expr->Bool
 |.Set ..=>false
 |_=>true
noncomputable def zw:Expr->Option (List Str)
 |.Name x _=>some [x]
 |.Tuple es _ _=>es.foldr (λe r=>match e,r with |.Name x _,some l=>some (x::l) |_,_=>none) (some [])
 |_=>none
def qfk:Expr->Bool
 |.Tuple ..=>true
 |_=>false
def qhJ:Sl->Sl
 |.own l=>.bor l
 |s=>s
noncomputable def YG(N:List Str)(sc:Scope):List Nat:=(List.range N.length).filter λi=>sc.names.lookup (N.getD i "") == some .free
def JT(l:List D):List D:=(List.range l.length).zipWith (λ(i:Nat) d=>D.tup [.int i,d]) l
def QR(l m:List D):List D:=List.zipWith (λa b=>D.tup [a,b]) l m
def zx(lo hi:Int):List D:=(List.range (hi - lo).toNat).map λi:Nat=>D.int (lo+i)
def qgu(lo hi c:Int):List D:=(List.range (rsz lo hi c)).map λi:Nat=>D.int (lo+i * c)
noncomputable def rgB(i j c:Int):Bool:=decide (-(2 ^ 60)<=i)&&decide (i < 2 ^ 60)&&decide (-(2 ^ 60)<=j)&&decide (j < 2 ^ 60)&&decide (0 < c)&&decide (c < 2 ^ 30)
noncomputable def rg3(x y z:Rv):R (List D):=match x.int?,y.int?,z.int? with
 |some i,some j,some c=>if rgB i j c=true then .ok (qgu i j c) else .no
 |_,_,_=>.no
def qfl(i:Int):Bool:=decide (-(2 ^ 62)<=i)&&decide (i < 2 ^ 62)
def lrE(Γ:Ct)(f:Str)(a:Expr):Option (Expr×Expr):=none
noncomputable def lrD(x y:Rv):R Rv:=match x.int?,y.int? with
 |some i,some j=>if qfl i=true/\qfl j=true/\(j - i).toNat<=10000 then .ok (.tmp (zx i j)) else .no
 |_,_=>.no
def irE(Γ:Ct)(op:CmpOp)(b:Expr):Option Expr:=none
noncomputable def qmw(x y:Rv):R Rv:=match x.int?,y.int? with
 |some i,some j=>.ok (.val (.bl (!decide (0<=i/\i < j))))
 |_,_=>.no
def qw(i:Int):Bool:=decide (-(2 ^ 62)<=i)&&decide (i < 2 ^ 62)
noncomputable def qcH(asg:D->Env->R Env)(test:Env->R (Bool×Env))(elt:Env->R (D×Env)):List D->Env->List D->R (List D)
 |[],_,acc=>.ok acc
 | d::ds,ρ,acc=>(asg d ρ).th λρ1=>(test ρ1).th λbt=>if bt.1 then (elt bt.2).th λx=>if acc.length < sizeLine then qcH asg test elt ds x.2 (acc++[x.1]) else .no else qcH asg test elt ds bt.2 acc
inductive Fl where
 | next (ρ:Env) | ret (r:Rv)
def yk:Expr->Bool
 |.ListComp ..=>false
 |.SetComp ..=>false
 |.DictComp ..=>false
 |_=>true
def qcI:Expr->Bool
 |.Tuple ..=>false
 |_=>true
def Qd:Expr->Bool
 |.Slice ..=>false
 |_=>true
noncomputable def qks(step:D->Env->R Fl):List D->Env->R Fl
 |[],ρ=>.ok (.next ρ)
 | d::ds,ρ=>(step d ρ).th λf=>match f with
  |.next ρ1=>qks step ds ρ1
  |.ret r=>.ok (.ret r)
noncomputable def whL(test:Env->R (Bool×Env))(body:Env->R Fl):Nat->Env->R Fl
 |0,_=>.no
 | n+1,ρ=>(test ρ).th λb=>if b.1 then (body b.2).th λf=>(match f with
  |.next ρ1=>whL test body n ρ1
  |.ret r=>.ok (.ret r)) else .ok (.next b.2)
end DE
namespace DE
open PySem L2
inductive B1 where
 | len | list | int | srt | sum | all
inductive B2 where
 | max | min | get (n:Int) | rng | inr
inductive Ty where
 | int | bool | str | list | tuple
inductive Tg where
 | one (i:Nat) | many (l:List Nat)
structure Cl where
 f:Str->List Ar->R Rv
 cs:Cs
 nw:Str->List Ar->R Rv
instance:CoeFun Cl (λ_=>Str->List Ar->R Rv):=⟨Cl.f⟩
mutual
inductive E where
 | var (i:Nat) | con (d:D) | bin (op:Operator) (a b:E) | neg (a:E) | not (a:E) | one (a:E) | and (a b:E) | or (a b:E) | cmp (op:CmpOp) (a b:E) | ite (c:T) (a b:E)
 | idx (a i:E) | sli (a:E) (lo hi:O) | lst (l:Es) | tup (l:Es) | call (f:Str) (l:Es) | calF (f:Str) (l:Es) | b1 (f:B1) (a:E) | b2 (f:B2) (a b:E) | isi (t:Ty) (a:E) | isc (t:Str) (a:E) | fld (a:E) (x:Str) | met (a:E) (x:Str) (l:Es) | new (f:Str) (l:Es) | comp (x:E) (src:I) (tg:Tg) (c:F) (n:Nat) (fr:List Nat)
inductive Es where
 | nil | cons (a:E) (l:Es)
inductive T where
 | not (a:T) | one (a:T) | and (a b:T) | or (a b:T) | cmp (op:CmpOp) (a b:E) | chn (op op':CmpOp) (a b c:E) | val (a:E)
inductive O where
 | none | some (a:E)
inductive F where
 | yes | test (c:T)
inductive I where
 | nam (i:Nat) | seq (a:E) | rng (a:E) | rng2 (a b:E) | rng3 (a b c:E) | enum (a:E) | zip (a b:E) | rev (a:E)
end
noncomputable def slR(ρ:Env)(i:Nat):R Rv:=match ρ[i]? with
 |some (.val d)=>.ok (.val d)
 |some (.own l)=>.ok (.cell l)
 |some (.bor l)=>.ok (.cell l)
 |some (.scr l)=>.ok (.scr l)
 |_=>.no
noncomputable def slE(ρ:Env)(i:Nat):R (D×Env):=match ρ[i]? with
 |some (.val d)=>.ok (d,ρ)
 |some (.own l)=>.ok (.lst l,ρ.set i (.val (.lst l)))
 |_=>.no
noncomputable def slL(ρ:Env)(i:Nat):R ((Sk×List D)×Env):=match ρ[i]? with
 |some (.val (.lst l))=>.ok ((.lst,l),ρ)
 |some (.val (.tup l))=>.ok ((.tup,l),ρ)
 |some (.val (.str z))=>.ok ((.str,qef z),ρ)
 |some (.own l)=>.ok ((.lst,l),ρ.set i (.val (.lst l)))
 |some (.bor l)=>.ok ((.lst,l),ρ)
 |some (.scr l)=>.ok ((.lst,l),ρ)
 |_=>.no
noncomputable def slX(ρ:Env)(i:Nat):R Rv:=match ρ[i]? with
 |some (.val d)=>.ok (.val d)
 |some (.own l)=>.ok (.tmp l)
 |_=>.no
def B1.go:B1->Rv->R Rv
 |.len=>lenD
 |.list=>listD
 |.int=>intD
 |.srt=>Qc
 |.sum=>qk1
 |.all=>qlC
def B2.go:B2->Rv->Rv->R Rv
 |.max=>maxD
 |.min=>minD
 |.get n=>qk2 n
 |.rng=>lrD
 |.inr=>qmw
noncomputable def Ty.of:Ty->D->Option Bool
 |_,.ins ..=>none
 |.int,.int _=>some true
 |.int,.bl _=>some true
 |.bool,.bl _=>some true
 |.str,.str _=>some true
 |.list,.lst _=>some true
 |.tuple,.tup _=>some true
 |_,_=>some false
def Ty.go(t:Ty):Rv->Option Bool
 |.scr _=>none
 |r=>t.of r.data
noncomputable def Qe:List Nat->List D->Env->R Env
 |[],[],ρ=>.ok ρ
 | i::l,d::ds,ρ=>Qe l ds (ρ.set i (.val d))
 |_,_,_=>.no
noncomputable def Tg.go:Tg->D->Env->R Env
 |.one i,d,ρ=>.ok (ρ.set i (.val d))
 |.many l,.tup ds,ρ=>Qe l ds ρ
 |_,_,_=>.no
def toAr:Rv->Ar
 |.val d=>.val d
 |.tmp l=>.val (.lst l)
 |.cell l=>.bor l
 |.scr l=>.scr l
def Z3(n:Nat)(fr:List Nat)(ρ:Env):Env:=List.replicate n Sl.no++fr.map λi=>qhJ (ρ.getD i .no)
noncomputable def qeg(x:Rv×Env):R (D×Env):=match x.1 with
 |.val d=>.ok (d,x.2)
 |.tmp l=>.ok (.lst l,x.2)
 |_=>.no
noncomputable def qdQ(x:Rv×Env):R ((Sk×List D)×Env):=match x.1 with
 |.val (.lst l)=>.ok ((.lst,l),x.2)
 |.val (.tup l)=>.ok ((.tup,l),x.2)
 |.val (.str z)=>.ok ((.str,qef z),x.2)
 |.tmp l=>.ok ((.lst,l),x.2)
 |_=>.no
noncomputable def zK(e:E)(r:Env->R (Rv×Env))(ρ:Env):R (D×Env):=match e with
 |.var i=>slE ρ i
 |.con d=>.ok (d,ρ)
 |_=>(r ρ).th qeg
noncomputable def zY(e:E)(r:Env->R (Rv×Env))(ρ:Env):R ((Sk×List D)×Env):=match e with
 |.var i=>slL ρ i
 |_=>(r ρ).th qdQ
mutual
noncomputable def iR(cl:Cl):E->Env->R (Rv×Env)
 |.var i,ρ=>(slR ρ i).th λr=>.ok (r,ρ)
 |.con d,ρ=>.ok (.val d,ρ)
 |.bin op a b,ρ=>(iR cl a ρ).th λx=>(iR cl b x.2).th λy=>(qaa op x.1 y.1).th λr=>.ok (r,y.2)
 |.neg a,ρ=>(iR cl a ρ).th λx=>match x.1 with
  |.val (.int i)=>.ok (.val (.int (-i)),x.2)
  |_=>.no
 |.not a,ρ=>(iR cl a ρ).th λx=>match x.1 with
  |.val (.bl b)=>.ok (.val (.bl (!b)),x.2)
  |_=>.no
 |.one a,ρ=>iR cl a ρ
 |.and a b,ρ=>(iR cl a ρ).th λx=>match x.1 with
  |.val (.bl true)=>iR cl b x.2
  |.val (.bl false)=>.ok (.val (.bl false),x.2)
  |_=>.no
 |.or a b,ρ=>(iR cl a ρ).th λx=>match x.1 with
  |.val (.bl false)=>iR cl b x.2
  |.val (.bl true)=>.ok (.val (.bl true),x.2)
  |_=>.no
 |.cmp op a b,ρ=>(iR cl a ρ).th λx=>(iR cl b x.2).th λy=>(R.of (JS op x.1 y.1)).th λr=>.ok (.val (.bl r),y.2)
 |.ite c a b,ρ=>(iT cl c ρ).th λt=>if t.1 then iR cl a t.2 else iR cl b t.2
 |.idx a i,ρ=>(iR cl a ρ).th λx=>(iR cl i x.2).th λy=>(idxD x.1 y.1).th λr=>.ok (r,y.2)
 |.sli a lo hi,ρ=>(iR cl a ρ).th λx=>(iO cl lo x.2).th λl=>(iO cl hi l.2).th λh=>(sliceD x.1 l.1 h.1).th λr=>.ok (r,h.2)
 |.lst l,ρ=>(iEs cl l ρ).th λx=>if x.1.length<=sizeLine then .ok (.tmp x.1,x.2) else .no
 |.tup l,ρ=>(iEs cl l ρ).th λx=>if x.1.length<=sizeLine then .ok (.val (.tup x.1),x.2) else .no
 |.call f l,ρ=>(iAs cl l ρ).th λx=>(cl f x.1).th λr=>.ok (r,x.2)
 |.calF f l,ρ=>(iEs cl l ρ).th λx=>(cl f (x.1.map .val)).th λr=>.ok (r,x.2)
 |.b1 f a,ρ=>(iR cl a ρ).th λx=>(f.go x.1).th λr=>.ok (r,x.2)
 |.b2 f a b,ρ=>(iR cl a ρ).th λx=>(iR cl b x.2).th λy=>(f.go x.1 y.1).th λr=>.ok (r,y.2)
 |.isi t a,ρ=>(iR cl a ρ).th λx=>(R.of (t.go x.1)).th λb=>.ok (.val (.bl b),x.2)
 |.isc t a,ρ=>(iR cl a ρ).th λx=>(R.of (qfi cl.cs x.1 t)).th λb=>.ok (.val (.bl b),x.2)
 |.fld a x,ρ=>(iR cl a ρ).th λy=>(R.of (qcF cl.cs y.1 x)).th λd=>.ok (.val d,y.2)
 |.met a x l,ρ=>(iR cl a ρ).th λy=>match mtD cl.cs y.1 x with
  |some f=>(iAs cl l y.2).th λz=>(cl f (toAr y.1::z.1)).th λr=>.ok (r,z.2)
  |none=>if x = "index" then (iAs cl l y.2).th λz=>(ixM y.1 z.1).th λr=>.ok (r,z.2) else .no
 |.new f l,ρ=>(iAs cl l ρ).th λx=>(cl.nw f x.1).th λr=>.ok (r,x.2)
 |.comp e src tg c n fr,ρ=>(iI cl src ρ).th λx=>if x.1.length<=sizeLine then (qcH tg.go (λρ1=>iF cl c ρ1) (zK e (iR cl e)) x.1 (Z3 n fr x.2) []).th λl=>.ok (.tmp l,x.2) else .no
noncomputable def iT(cl:Cl):T->Env->R (Bool×Env)
 |.not a,ρ=>(iT cl a ρ).th λt=>.ok (!t.1,t.2)
 |.one a,ρ=>iT cl a ρ
 |.and a b,ρ=>(iT cl a ρ).th λt=>if t.1 then iT cl b t.2 else .ok (false,t.2)
 |.or a b,ρ=>(iT cl a ρ).th λt=>if t.1 then .ok (true,t.2) else iT cl b t.2
 |.cmp op a b,ρ=>(iR cl a ρ).th λx=>(iR cl b x.2).th λy=>(R.of (JS op x.1 y.1)).th λr=>.ok (r,y.2)
 | .chn op op' a b c,ρ=>(iR cl a ρ).th λx=>(iR cl b x.2).th λy=>(R.of (JS op x.1 y.1)).th λr=>if r=true then (iR cl c y.2).th λz=>(R.of (JS op' y.1 z.1)).th λr'=>.ok (r',z.2) else .ok (false,y.2)
 |.val a,ρ=>(iR cl a ρ).th λx=>(R.of (truthD x.1)).th λb=>.ok (b,x.2)
noncomputable def iEs(cl:Cl):Es->Env->R (List D×Env)
 |.nil,ρ=>.ok ([],ρ)
 |.cons e l,ρ=>(zK e (iR cl e) ρ).th λx=>(iEs cl l x.2).th λy=>.ok (x.1::y.1,y.2)
noncomputable def iAs(cl:Cl):Es->Env->R (List Ar×Env)
 |.nil,ρ=>.ok ([],ρ)
 |.cons e l,ρ=>(iR cl e ρ).th λx=>(iAs cl l x.2).th λy=>.ok (toAr x.1::y.1,y.2)
noncomputable def iO(cl:Cl):O->Env->R (Option Int×Env)
 |.none,ρ=>.ok (none,ρ)
 |.some e,ρ=>(iR cl e ρ).th λx=>match x.1 with
  |.val (.int i)=>.ok (some i,x.2)
  |_=>.no
noncomputable def iF(cl:Cl):F->Env->R (Bool×Env)
 |.yes,ρ=>.ok (true,ρ)
 |.test c,ρ=>iT cl c ρ
noncomputable def iI(cl:Cl):I->Env->R (List D×Env)
 |.nam i,ρ=>(slC ρ i).th λl=>.ok (l,ρ)
 |.seq a,ρ=>(zY a (iR cl a) ρ).th λx=>.ok (x.1.2,x.2)
 |.rng a,ρ=>(iR cl a ρ).th λx=>(match x.1.int? with
  |some n=>if qw n=true then .ok (zx 0 n,x.2) else .no
  |none=>.no)
 |.rng3 a b c,ρ=>(iR cl a ρ).th λx=>(iR cl b x.2).th λy=>(iR cl c y.2).th λz=>(rg3 x.1 y.1 z.1).th λl=>.ok (l,z.2)
 |.rng2 a b,ρ=>(iR cl a ρ).th λx=>(iR cl b x.2).th λy=>(match x.1.int?,y.1.int? with
  |some i,some j=>if qw i=true/\qw j=true then .ok (zx i j,y.2) else .no
  |_,_=>.no)
 |.enum a,ρ=>(zY a (iR cl a) ρ).th λx=>match x.1.1 with |.lst=>.ok (JT x.1.2,x.2) |_=>.no
 |.rev a,ρ=>(zY a (iR cl a) ρ).th λx=>match x.1.1 with |.lst=>.ok (x.1.2.reverse,x.2) |_=>.no
 |.zip a b,ρ=>(zY a (iR cl a) ρ).th λx=>(zY b (iR cl b) x.2).th λy=>match x.1.1,y.1.1 with |.lst,.lst=>.ok (QR x.1.2 y.1.2,y.2) |_,_=>.no
end
mutual
inductive S where
 | pass | expr (e:E) | app (i:Nat) (e:E) | ext (i:Nat) (e:E) | clr (i:Nat) | ret (e:E) | retN | set (i:Nat) (e:E) | setT (tg:Tg) (e:E) | setI (i:Nat) (x e:E) | ite (c:T) (a b:Ss) | for_ (tg:Tg) (src:I) (b:Ss) | whl (c:T) (b:Ss) | stuck
inductive Ss where
 | nil | cons (s:S) (l:Ss)
end
def zq(ρ:Env)(i:Nat):Option (List D):=match ρ[i]? with
 |some (.own l)=>some l
 |_=>none
noncomputable def Zh(e:E)(r:Env->R (Rv×Env))(ρ:Env):R Rv:=match e with
 |.var i=>slX ρ i
 |.con d=>.ok (.val d)
 |_=>(r ρ).th λx=>match x.1 with
  |.val d=>.ok (.val d)
  |.tmp l=>.ok (.tmp l)
  |_=>.no
noncomputable def JU(e:E)(r:Env->R (Rv×Env))(ρ:Env):R (Sl×Env):=match e with
 |.var i=>(slE ρ i).th λr=>.ok (.val r.1,r.2)
 |.con d=>.ok (.val d,ρ)
 |_=>(r ρ).th λx=>match x.1 with
  |.val d=>.ok (.val d,x.2)
  |.tmp l=>.ok (.own l,x.2)
  |_=>.no
mutual
noncomputable def iS(cl:Cl)(w:Nat):S->Env->R Fl
 |.pass,ρ=>.ok (.next ρ)
 |.expr e,ρ=>(iR cl e ρ).th λx=>.ok (.next x.2)
 |.app i e,ρ=>(match zq ρ i with
  |none=>.no
  |some _=>(zK e (iR cl e) ρ).th λy=>(match zq y.2 i with
   |some l=>if l.length < sizeLine then .ok (.next (y.2.set i (.own (l++[y.1])))) else .no
   |none=>.no))
 |.ext i e,ρ=>(match zq ρ i with
  |none=>.no
  |some _=>(iR cl e ρ).th λy=>(match zq y.2 i,y.1.plain? with
   |some l,some n=>if l.length+n.length<=sizeLine then .ok (.next (y.2.set i (.own (l++n)))) else .no
   |_,_=>.no))
 |.clr i,ρ=>(match zq ρ i with
  |some _=>.ok (.next (ρ.set i (.own [])))
  |none=>.no)
 |.ret e,ρ=>(Zh e (iR cl e) ρ).th λr=>.ok (.ret r)
 |.retN,ρ=>.ok (.ret (.val .non))
 |.set i e,ρ=>(JU e (iR cl e) ρ).th λs=>.ok (.next (s.2.set i s.1))
 |.setT tg e,ρ=>(zK e (iR cl e) ρ).th λx=>(tg.go x.1 x.2).th λρ1=>.ok (.next ρ1)
 |.setI i x e,ρ=>(zK e (iR cl e) ρ).th λy=>(match zq y.2 i with
  |none=>.no
  |some _=>(iR cl x y.2).th λz=>(match zq z.2 i,z.1.int? with
   |some l,some n=>(match ixN l.length n with
    |some k=>.ok (.next (z.2.set i (.own (l.set k y.1))))
    |none=>.no)
   |_,_=>.no))
 |.ite c a b,ρ=>(iT cl c ρ).th λt=>if t.1 then iSs cl w a t.2 else iSs cl w b t.2
 |.for_ tg src b,ρ=>(iI cl src ρ).th λx=>qks (λd ρ1=>(tg.go d ρ1).th λρ2=>iSs cl w b ρ2) x.1 x.2
 |.whl c b,ρ=>whL (λρ1=>iT cl c ρ1) (λρ1=>iSs cl w b ρ1) w ρ
 |.stuck,_=>.no
noncomputable def iSs(cl:Cl)(w:Nat):Ss->Env->R Fl
 |.nil,ρ=>.ok (.next ρ)
 |.cons s l,ρ=>(iS cl w s ρ).th λf=>match f with
  |.next ρ1=>iSs cl w l ρ1
  |.ret r=>.ok (.ret r)
end
end DE
namespace DE
open PySem L2
noncomputable def o2{α β γ:Type}(a:Option α)(b:Option β)(f:α->β->γ):Option γ:=match a,b with
 |some x,some y=>some (f x y)
 |_,_=>none
theorem qj{α β γ:Type}{a:Option α}{b:Option β}{f:α->β->γ}{z:γ}(h:o2 a b f=some z):∃x y,a=some x/\b=some y/\f x y=z:=by
 cases a with
 |none=>cases h
 |some x=>
  cases b with
  |none=>cases h
  |some y=>exact⟨x,y,rfl,rfl,Option.some.inj h⟩
theorem qk{α:Type}{c:Bool}{a:Option α}{z:α}(h:oif c a=some z):c=true/\a=some z:=by
 cases c with
 |true=>exact⟨rfl,h⟩
 |false=>cases h
def Ct.k(Γ:Ct):Cl:=⟨Γ.cl,Γ.cs,Γ.nw⟩
noncomputable def cC(Γ:Ct)(it:Expr)(r:Option I):Option I:=match isF Γ it with
 |some i=>some (.nam i)
 |none=>r
noncomputable def qab(Γ:Ct)(x:Str):Option E:=oif (jv x) (match qb0 Γ.N x with
 |some i=>oif (qiy Γ.sc x) (some (.var i))
 |none=>oif (glB Γ.sc x) ((Γ.gl x).map .con))
noncomputable def qfm:Const->Option E
 |.none=>some (.con .non)
 |.bool b=>some (.con (.bl b))
 |.int i=>some (.con (.int i))
 |.str s=>some (.con (.str s))
 |_=>none
noncomputable def qkt(t:Str):Option Ty:=if t = "int" then some .int else if t = "bool" then some .bool else if t = "str" then some .str else if t = "list" then some .list else if t = "tuple" then some .tuple else none
noncomputable def qk3(f:Str):Option B1:=if f = "len" then some .len else if f = "list" then some .list else if f = "int" then some .int else if f = "sorted" then some .srt else if f = "sum" then some .sum else if f = "all" then some .all else none
def qk4(f:Str):Option B2:=if f = "max" then some .max else if f = "min" then some .min else none
def qgv(Γ:Ct)(x:Str):Option Nat:=oif (qiz Γ.sc x&&jv x) (qb0 Γ.N x)
def qeh(Γ:Ct):List Str->Option (List Nat)
 |[]=>some []
 | x::l=>o2 (qgv Γ x) (qeh Γ l) (· :: ·)
noncomputable def cTg(Γ:Ct)(tg:Expr):Option Tg:=match tg with
 |.Name x _=>(qgv Γ x).map .one
 |.Tuple es j p=>oif (!es.any qC) (match zw (.Tuple es j p) with
  |some xs=>(qeh Γ xs).map .many
  |none=>none)
 |_=>none
def Zi:E->Option E
 |.var _=>none
 |e=>some e
mutual
noncomputable def cE:Nat->Ct->Expr->Option E
 |0,_,_=>none
 | m+1,Γ,e=>match e with
  |.Name x _=>qab Γ x
  |.Constant c _ _=>qfm c
  |.BinOp a op b _=>o2 (cE m Γ a) (cE m Γ b) (E.bin op)
  |.UnaryOp .USub a _=>(cE m Γ a).map .neg
  |.UnaryOp .Not a _=>(cE m Γ a).map .not
  |.BoolOp _ [a] _=>(cE m Γ a).map .one
  | .BoolOp .And (a::b::l) p=>o2 (cE m Γ a) (cE m Γ (.BoolOp .And (b::l) p)) .and
  | .BoolOp .Or (a::b::l) p=>none
  |.Compare a [op] [b] _=>oif (!behindInMarks op b) (o2 (cE m Γ a) (cE m Γ b) (E.cmp op))
  |.IfExp c a b _=>o2 (cT m Γ c) (o2 (cE m Γ a) (cE m Γ b) Prod.mk) λc p=>.ite c p.1 p.2
  |.Subscript a (.Slice lo hi none _) _=>o2 (cE m Γ a) (o2 (cO m Γ lo) (cO m Γ hi) Prod.mk) λa p=>.sli a p.1 p.2
  |.Subscript a (.Slice _ _ (some _) _) _=>none
  |.Subscript a i _=>o2 (cE m Γ a) (cE m Γ i) .idx
  |.List es _=>(cEs m Γ es).map .lst
  |.Tuple es _ _=>(cEs m Γ es).map .tup
  |.Call (.Name f p) es [] _=>oif (jv f&&glB Γ.sc f&&(qb0 Γ.N f).isNone) (
    if f = "isinstance" then (match es with
     |[a,b]=>(match b with
      |.Name t _=>oif (jv t&&glB Γ.sc t&&(qb0 Γ.N t).isNone&&!qC a) (match qkt t with |some y=>(cE m Γ a).map (.isi y) |none=>(cE m Γ a).map (.isc t))
      |_=>none)
     |_=>none)
    else if Γ.tab.contains f=true then (if f = "_law_let"/\es.length=2 then (cEs m Γ es).map (.calF f) else (cAs m Γ es).map (.call f))
    else if Γ.cs.tab.contains f=true then (cAs m Γ es).map (.new f)
    else match es with
     |[a]=>(match lrE Γ f a with
      |some t=>o2 (cE m Γ t.1) (cE m Γ t.2) (.b2 .rng)
      |none=>oif (!qC a) (o2 (qk3 f) (cE m Γ a) .b1))
     |[a,b]=>oif (!(qC a||qC b)) (o2 (qk4 f) (o2 (cE m Γ a) (cE m Γ b) Prod.mk) λf p=>.b2 f p.1 p.2)
     |_=>none)
  |.Attribute o x _=>oif (Ji o) ((cE m Γ o).map λa=>.fld a x)
  |.Call (.Attribute o x ap) es [] q=>if (Ji o&&(ap.endLine == q.line)&&decide (es.length < 30))=true then (o2 (cE m Γ o) (cAs m Γ es) λa l=>.met a x l)
   else match dgE Γ o x es (ap.endLine == q.line) with
    |some t=>o2 (cE m Γ t.1) (cE m Γ t.2.1) (.b2 (.get t.2.2))
    |none=>none
  |.ListComp elt [g] sc _=>oif (decide (g.is_async=0)) (match zw g.target with
   |some own=>oif (JB Γ.sc Γ.N (YG Γ.N sc) sc&&decide (own++(YG Γ.N sc).map λi=>Γ.N.getD i "").Nodup&&Zg g.iter)
     (o2 (o2 (cC Γ g.iter (cI m Γ (qfk g.target) g.iter)) (cTg { Γ with N:=own++(YG Γ.N sc).map λi=>Γ.N.getD i "",sc:=sc } g.target) Prod.mk)
      (o2 (cF m { Γ with N:=own++(YG Γ.N sc).map λi=>Γ.N.getD i "",sc:=sc } g.ifs) (cX m { Γ with N:=own++(YG Γ.N sc).map λi=>Γ.N.getD i "",sc:=sc } elt) Prod.mk)
      λp q=>.comp q.2 p.1 p.2 q.1 own.length (YG Γ.N sc))
   |none=>none)
  |_=>none
noncomputable def cX:Nat->Ct->Expr->Option E
 |0,_,_=>none
 | m+1,Γ,e=>match e with
  |.Name x _=>qab Γ x
  |e=>(cE m Γ e).bind Zi
noncomputable def cT:Nat->Ct->Expr->Option T
 |0,_,_=>none
 | m+1,Γ,e=>match e with
  |.UnaryOp .Not a _=>(cT m Γ a).map .not
  |.BoolOp _ [a] _=>(cT m Γ a).map .one
  | .BoolOp .And (a::b::l) p=>o2 (cT m Γ a) (cT m Γ (.BoolOp .And (b::l) p)) .and
  | .BoolOp .Or (a::b::l) p=>o2 (cT m Γ a) (cT m Γ (.BoolOp .Or (b::l) p)) .or
  |.BoolOp _ [] _=>none
  |.IfExp ..=>none
  |.Compare a [op] [b] _=>(match irE Γ op b with
   |some t=>o2 (cE m Γ a) (cE m Γ t) (λx y=>.val (.b2 .inr x y))
   |none=>oif (!behindInMarks op b) (o2 (cE m Γ a) (cE m Γ b) (T.cmp op)))
  |.Compare ..=>none
  |e=>(cE m Γ e).map .val
noncomputable def cEs:Nat->Ct->List Expr->Option Es
 |0,_,_=>none
 | m+1,Γ,es=>match es with
  |[]=>some .nil
  | e::l=>oif (!qC e) (o2 (cX m Γ e) (cEs m Γ l) .cons)
noncomputable def cAs:Nat->Ct->List Expr->Option Es
 |0,_,_=>none
 | m+1,Γ,es=>match es with
  |[]=>some .nil
  | e::l=>oif (!qC e) (o2 (cE m Γ e) (cAs m Γ l) .cons)
noncomputable def cO:Nat->Ct->Option Expr->Option O
 |0,_,_=>none
 | m+1,Γ,o=>match o with
  |none=>some .none
  |some e=>(cE m Γ e).map .some
noncomputable def cF:Nat->Ct->List Expr->Option F
 |0,_,_=>none
 | m+1,Γ,es=>match es with
  |[]=>some .yes
  |[c]=>(cT m Γ c).map .test
  |_=>none
noncomputable def cL:Nat->Ct->Expr->Option E
 |0,_,_=>none
 | m+1,Γ,e=>match e with
  |.Name x _=>(qb1 Γ x).map .var
  |e=>(cE m Γ e).bind Zi
noncomputable def cI:Nat->Ct->Bool->Expr->Option I
 |0,_,_,_=>none
 | m+1,Γ,tb,e=>match e with
  |.Call (.Name f p) es [] q=>if f = "range" || f = "enumerate" || f = "zip" || f = "reversed" then oif (jv f&&glB Γ.sc f&&(qb0 Γ.N f).isNone) (match es with
    |[a]=>oif (!qC a) (if f = "range" then (cE m Γ a).map .rng else if f = "enumerate" then oif tb ((cL m Γ a).map .enum) else if f = "reversed" then (cL m Γ a).map .rev else none)
    |[a,b]=>oif (!(qC a||qC b)) (if f = "range" then o2 (cE m Γ a) (cE m Γ b) .rng2 else if f = "zip" then oif tb (o2 (cL m Γ a) (cL m Γ b) .zip) else none)
    |_=>none)
   else (cL m Γ (.Call (.Name f p) es [] q)).map .seq
  |e=>(cL m Γ e).map .seq
end
def cV(m:Nat)(Γ:Ct)(e:Expr):Option E:=match e with
 |.Name x _=>qab Γ x
 |e=>(cE m Γ e).bind Zi
mutual
noncomputable def cS:Nat->Ct->Stmt->Option S
 |0,_,_=>none
 | m+1,Γ,st=>match st with
  |.Pass _=>some .pass
  |.Expr e _=>(match e with
   |.Call (.Attribute (.Name x _) meth ap) [a] [] cp=>oif (ap.endLine == cp.line&&!qC a) (
     if meth = "append" then o2 (qb1 Γ x) (cX m Γ a) .app
     else if meth = "extend" then o2 (qb1 Γ x) (cE m Γ a) .ext
     else none)
   |.Call (.Attribute (.Name x _) meth ap) [] [] cp=>none
   |e=>oif (yk e) ((cE m Γ e).map .expr))
  |.Return (some e) _=>(cV m Γ e).map .ret
  |.Return none _=>some .retN
  |.Assign [tg] e _=>(match tg with
   |.Name x _=>o2 (qgv Γ x) (cV m Γ e) .set
   |.Tuple es j p=>oif (yk e&&qcI e) (o2 (cTg Γ (.Tuple es j p)) (cX m Γ e) .setT)
   |.Subscript (.Name x _) i _=>oif (yk e&&Qd i) (o2 (qb1 Γ x) (o2 (cE m Γ i) (cX m Γ e) Prod.mk) λx p=>.setI x p.1 p.2)
   |_=>none)
  |.If c a b _=>o2 (cT m Γ c) (o2 (cSs m Γ a) (cSs m Γ b) Prod.mk) λc p=>.ite c p.1 p.2
  |.For tg it body [] _=>oif (Zg it) (o2 (o2 (cTg Γ tg) (cI m Γ (qfk tg) it) Prod.mk) (cSs m Γ body) λp b=>.for_ p.1 p.2 b)
  |.While c body [] _=>o2 (cT m Γ c) (cSs m Γ body) .whl
  |.Raise ..=>some .stuck
  |_=>none
noncomputable def cSs:Nat->Ct->List Stmt->Option Ss
 |0,_,_=>none
 | m+1,Γ,l=>match l with
  |[]=>some .nil
  | st::l=>o2 (cS m Γ st) (cSs m Γ l) .cons
end
theorem map_some{α β:Type}{o:Option α}{f:α->β}{z:β}(h:o.map f=some z):∃x,o=some x/\f x=z:=Option.map_eq_some_iff.mp h
theorem zZ{e z:E}(h:Zi e=some z):e=z/\∀i,z≠.var i:=by cases e<;>cases h<;>exact⟨rfl,λi z=>by cases z⟩
theorem qgw{z:E}(h:∀i,z≠.var i)(cl:Cl)(ρ:Env):zK z (iR cl z) ρ=(iR cl z ρ).th qeg:=by cases z<;>first | rfl | exact absurd rfl (h _)
theorem qgx{z:E}(h:∀i,z≠.var i)(cl:Cl)(ρ:Env):zY z (iR cl z) ρ=(iR cl z ρ).th qdQ:=by cases z<;>first | rfl | exact absurd rfl (h _)
theorem qgy{z:E}(h:∀i,z≠.var i)(cl:Cl)(ρ:Env):Zh z (iR cl z) ρ=(iR cl z ρ).th λx=>match x.1 with
  |.val d=>.ok (.val d)
  |.tmp l=>.ok (.tmp l)
  |_=>.no:=by
 cases z<;>first | rfl | exact absurd rfl (h _)
theorem qgz{z:E}(h:∀i,z≠.var i)(cl:Cl)(ρ:Env):JU z (iR cl z) ρ=(iR cl z ρ).th λx=>match x.1 with
  |.val d=>.ok (.val d,x.2)
  |.tmp l=>.ok (.own l,x.2)
  |_=>.no:=by
 cases z<;>first | rfl | exact absurd rfl (h _)
end DE
namespace DE
open PySem L2
def Wk{α:Type}(x:R α)(f:α->Prop):Prop:=match x with
 |.ok a=>f a
 |.exc _ _=>False
 |.no=>False
theorem Wk.th{α β:Type}{x:R α}{g:α->R β}{f:β->Prop}(h:Wk (x.th g) f):Wk x λa=>Wk (g a) f:=by cases x<;>exact h
theorem Wk.mono{α:Type}{x:R α}{f g:α->Prop}(h:Wk x f)(i:∀a,f a->g a):Wk x g:=by
 cases x with
 |ok a=>exact i a h
 |exc c l=>exact h
 |no=>exact h
theorem Wk.of{α:Type}{x:Option α}{f:α->Prop}(h:Wk (R.of x) f):∃a,x=some a/\f a:=by
 cases x with
 |none=>exact h.elim
 |some a=>exact⟨a,rfl,h⟩
theorem Wk.iff{α:Type}{c:Prop}[Decidable c]{x:R α}{f:α->Prop}(h:Wk (if c then x else .no) f):c/\Wk x f:=by
 by_cases hc:c
 ·rw[if_pos hc] at h;exact⟨hc,h⟩
 ·rw[if_neg hc] at h;exact h.elim
section
variable(κ:KC)(K:Frag)(Gv Hv:Hp)
noncomputable def tR(f:Env->R (Rv×Env)):TE:=λσ H Q=>∃ρ G,ER κ K Gv Hv G H ρ σ/\Wk (f ρ) λx=>∀v G' H',Po κ K Gv Hv σ G H ρ G' H' x.2->RvR κ K Hv H G' H' x.2 σ x.1 v->Q v H'
noncomputable def tE(f:Env->R (D×Env)):TE:=λσ H Q=>∃ρ G,ER κ K Gv Hv G H ρ σ/\Wk (f ρ) λx=>∀v G' H',Po κ K Gv Hv σ G H ρ G' H' x.2->Rep κ G' x.1 v->Q v H'
noncomputable def tT(f:Env->R (Bool×Env)):TT:=λσ H Q=>∃ρ G,ER κ K Gv Hv G H ρ σ/\Wk (f ρ) λx=>∀G' H',Po κ K Gv Hv σ G H ρ G' H' x.2->Q x.1 H'
noncomputable def tEs(f:Env->R (List D×Env)):TA:=λσ H Q=>∃ρ G,ER κ K Gv Hv G H ρ σ/\Wk (f ρ) λx=>∀vs G' H',Po κ K Gv Hv σ G H ρ G' H' x.2->ql κ G' x.1 vs->Q vs H'
noncomputable def ArR(G H:Hp):Ar->V->Prop
 |.val d,v=>Rep κ G d v
 |.bor ds,v=>∃a xs,v=.ref a/\H a=some (.lst xs)/\ql κ G ds xs
 |.scr ds,v=>∃a xs,v=.ref a/\SqL K H a xs/\ql κ G ds xs
noncomputable def Jj(G H:Hp):List Ar->List V->Prop
 |[],vs=>vs=[]
 | a::l,vs=>∃v r,vs=v::r/\ArR κ K G H a v/\Jj G H l r
noncomputable def tAs(f:Env->R (List Ar×Env)):TA:=λσ H Q=>∃ρ G,ER κ K Gv Hv G H ρ σ/\Wk (f ρ) λx=>∀vs G' H',Po κ K Gv Hv σ G H ρ G' H' x.2->Jj κ K G' H' x.1 vs->Q vs H'
noncomputable def tO(f:Env->R (Option Int×Env)):TO:=λσ H Q=>∃ρ G,ER κ K Gv Hv G H ρ σ/\Wk (f ρ) λx=>∀G' H',Po κ K Gv Hv σ G H ρ G' H' x.2->Q x.1 H'
noncomputable def SrR(G:Hp)(s:Sk×List D)(v:V):Prop:=match s.1 with
 |.str=>∃x,v=.str x/\s.2=qef x
 |.tup=>∃a xs,v=.ref a/\ql κ G s.2 xs/\G a=some (.tup xs)
 |.lst=>∃a xs,v=.ref a/\ql κ G s.2 xs/\(G a=some (.lst xs)\/SqL K Hv a xs)
noncomputable def tL(f:Env->R ((Sk×List D)×Env)):TE:=λσ H Q=>∃ρ G,ER κ K Gv Hv G H ρ σ/\Wk (f ρ) λx=>∀v G' H',Po κ K Gv Hv σ G H ρ G' H' x.2->SrR κ K Hv G' x.1 v->Q v H'
noncomputable def ItR(G₁:Hp)(J:It)(l:List D):Prop:=∀(i:Nat) (G H:Hp),qo G₁ G->qo Hv H->qo G H->
 (∀d,l[i]?=some d->J.go i H/\∀x H',J.yld i H x H'->∃G',qo H H'/\qo G G'/\qo G' H'/\(∀a o,G' a=some o->(∃o',G a=some o')\/H a=none)/\Rep κ G' d x)/\(l.length=i->J.stop i H)
noncomputable def tI(f:Env->R (List D×Env)):TI:=λσ H Q=>∃ρ G,ER κ K Gv Hv G H ρ σ/\Wk (f ρ) λx=>∀J G' H',Po κ K Gv Hv σ G H ρ G' H' x.2->ItR κ Hv G' J x.1->Q J H'
noncomputable def ReR(G' H' H:Hp):Rv->V->Prop
 |.val d,v=>Rep κ G' d v
 |.tmp ds,v=>∃a xs,v=.ref a/\H' a=some (.lst xs)/\H a=none/\G' a=none/\ql κ G' ds xs
 |_,_=>False
noncomputable def spF(cl:Str->List Ar->R Rv)(f:Str):Sp:=λvs H Q _=>∃G args,qo G H/\Jj κ K G H args vs/\
 Wk (cl f args) λr=>∀v G' H',qo H H'->qo G G'->qo G' H'->(∀a o,G' a=some o->(∃o',G a=some o')\/H a=none)->ReR κ G' H' H r v->Q v H'
end
noncomputable def qcJ:List Str:=["len","list","tuple","int","bool","str","max","min","isinstance","range","enumerate","zip","sorted","sum","reversed","all","dict"]
structure Gd(κ:KC)(K:Frag)(k:Nat)(X:Cx)(Γ:Ct):Prop where
 hN:X.N=Γ.N
 vis:∀x,qiy Γ.sc x=true->Vis X.env.scope x
 loc:∀x,qiz Γ.sc x=true->L2.Loc X.env.scope x/\(X.fn x=true\/X.env.scope.names.lookup x=some .local)
 glo:∀x,glB Γ.sc x=true->Gl X x
 cf:∀x,(Γ.sc.names.lookup x=some .cell\/Γ.sc.names.lookup x=some .free)->X.env.kindOf x=some .cell\/X.env.kindOf x=some .free
 nd:Γ.N.Nodup
 calm:X.calm=true
 hK:X.K=K
 room:Room k X.A
 fns:∀f,Γ.tab.contains f=true->∃fa fd ps,FnOk X.prog X.w X.K X.mg X.base CX0 k fa fd ps (spF κ K Γ.cl f)/\X.mg f=some (.ref fa)/\PySem.W.keepIn X.K (.ref fa)=true/\zj X.K fd ps []
 blt:∀f∈qcJ,X.mg f=none
 gl:∀x d,Γ.gl x=some d->∃v u,X.mg x=some u/\qK v u/\∀G,Rep κ G d v
 cls:∀c C,κ c=some C->Cls X.K C
 flds:∀c x C,Γ.cs.fld c x=true->κ c=some C->zv X.K C x
 mts:∀c x f,Γ.cs.mt c x=some f->∃C fa fd ps,κ c=some C/\Meth X.K C x fa/\FnOk X.prog X.w X.K X.mg X.base CX0 k fa fd ps (spF κ K Γ.cl f)/\zj X.K fd ps []
 mks:∀f,Γ.cs.tab.contains f=true->(∀args,Γ.nw f args=.no)\/∃C fa fd ps sp,Mk X.K C fa/\FnOk X.prog X.w X.K X.mg X.base CX0 (k - 1) fa fd ps sp/\X.mg f=some (.ref C)/\zj X.K fd ps []/\0 < k/\
  ∀vs H Q,spF κ K Γ.nw f vs H Q E0->∀x dx,H x=none->H dx=none->dx≠x->sp (.ref x::vs) (upd (upd H dx (.own x)) x (.ins C dx [])) (λv H2=>v=.non/\Q (.ref x) H2) E0
 subs:∀c t b,Γ.cs.sub c t=some b->∃C T,κ c=some C/\(∀H p dx fs,H p=some (HO.ins C dx fs)->TyOf X.K H (.ref p) (.ref C))/\X.mg t=some (.ref T)/\PySem.W.kitOne X.K (.ref C) (.ref T)=some b
theorem PE.imp{X:Cx}{e:Expr}{t t':TE}(h:PE X e t')(i:∀σ H Q,t σ H Q->t' σ H Q):PE X e t:=λpins s σ H Q I hw=>h pins s σ H Q I (i σ H Q hw)
theorem PT.imp{X:Cx}{e:Expr}{t t':TT}(h:PT X e t')(i:∀σ H Q,t σ H Q->t' σ H Q):PT X e t:=λpins s σ H Q I hw=>h pins s σ H Q I (i σ H Q hw)
theorem PA.imp{X:Cx}{es:List Expr}{t t':TA}(h:PA X es t')(i:∀σ H Q,t σ H Q->t' σ H Q):PA X es t:=λpos pins s σ H Q I hw=>h pos pins s σ H Q I (i σ H Q hw)
theorem PO.imp{X:Cx}{o:Option Expr}{t t':TO}(h:PO X o t')(i:∀σ H Q,t σ H Q->t' σ H Q):PO X o t:=λpins s σ H Q I hw=>h pins s σ H Q I (i σ H Q hw)
theorem PIf.imp{X:Cx}{es:List Expr}{t t':TT}(h:PIf X es t')(i:∀σ H Q,t σ H Q->t' σ H Q):PIf X es t:=λpins s σ H Q I hw=>h pins s σ H Q I (i σ H Q hw)
theorem PI.imp{X:Cx}{tg e:Expr}{t t':TI}(h:PI X tg e t')(i:∀σ H Q,t σ H Q->t' σ H Q):PI X tg e t:=λpins s σ H Q I hw=>h pins s σ H Q I (i σ H Q hw)
theorem Qf:∀{N:List Str} {x:Str} {i:Nat},qb0 N x=some i->N[i]?=some x
 |[],x,i,h=>by cases h
 | y::r,x,i,h=>by
  unfold qb0 at h
  by_cases e:y=x
  ·rw[if_pos e] at h;cases h;rw[e];rfl
  ·rw[if_neg e] at h
   cases q:qb0 r x with
   |none=>rw[q] at h;cases h
   |some j=>rw[q] at h;cases h;show(y::r)[j+1]?=some x;rw[List.getElem?_cons_succ];exact Qf q
theorem z7{x:Str}(h:jv x=true):(x == ("__debug__" : Str))=false/\(x == ("__classdict__" : Str))=false/\x≠"__name__":=by unfold jv at h;simp only[Bool.and_eq_true,Bool.not_eq_true'] at h;refine⟨h.1.1,h.1.2,λz=>?_⟩;rw[z] at h;exact absurd h.2 (2:)
theorem qfn{sc:Scope}{x:Str}(h:qiy sc x=true):Vis sc x:=by
 unfold qiy at h;unfold Vis
 split at h
 ·rename_i e;exact .inl e
 ·rename_i e;exact .inr (.inl e)
 ·rename_i e;exact .inr (.inr e)
 ·cases h
theorem qcK{sc:Scope}{x:Str}(h:qiz sc x=true):L2.Loc sc x:=by
 unfold qiz at h;unfold L2.Loc
 split at h
 ·rename_i e;exact .inl e
 ·rename_i e;exact .inr e
 ·cases h
theorem qe{e:Expr}{es:List Expr}{env:PySem.Env}(h:qC e=false):starEach (e::es) env=(false,eval e env)::starEach es env:=by cases e<;>first | rfl | (simp[qC] at h)
section
variable{κ:KC}{K:Frag}{Gv Hv:Hp}{k:Nat}{X:Cx}{Γ:Ct}
theorem ER.notOwn{G H:Hp}{ρ:Env}{σ:St}(er:ER κ K Gv Hv G H ρ σ){a:Addr}(h:H a=none):¬ qbA ρ σ a:=λ⟨i,l,e,z⟩=>by obtain⟨b,xs,z',h1,_⟩:=er.sl i _ e;rw[z] at z';injection z' with z';injection z' with z';injection z' with z';rw[<-z',h] at h1;cases h1
theorem ER.newList{G H:Hp}{ρ:Env}{σ:St}(er:ER κ K Gv Hv G H ρ σ){a:Addr}{xs:List V}{l:List D}(h:H a=none)(r:ql κ G l xs) :
  Po κ K Gv Hv σ G H ρ G (upd H a (.lst xs)) ρ/\RvR κ K Hv H G (upd H a (.lst xs)) ρ σ (.tmp l) (.ref a):=
 ⟨Po.room er (qo.upd h),a,xs,rfl,qf,h,qo.none er.base h,qo.none er.sub h,er.notOwn h,r⟩
theorem Zj(gd:Gd κ K k X Γ){x:Str}{i:Nat}(h:qb1 Γ x=some i)(pos:Pos):PE X (.Name x pos) (qko i):=by unfold qb1 at h;obtain⟨hc,h⟩:=qk h;rw[Bool.and_eq_true] at hc;obtain⟨n1,n2,n3⟩:=z7 hc.1;exact qb6 (i:=i) (by rw[gd.hN];exact Qf h) (gd.vis x hc.2) n1 n2
theorem Qg(gd:Gd κ K k X Γ){x:Str}{z:E}(h:qab Γ x=some z)(pos:Pos):(∃i,z=.var i/\PE X (.Name x pos) (qko i))\/∃d v,z=.con d/\(∀G,Rep κ G d v)/\PE X (.Name x pos) (tC v):=by
 unfold qab at h;obtain⟨hok,h⟩:=qk h;obtain⟨n1,n2,n3⟩:=z7 hok
 cases hi:qb0 Γ.N x with
 |some i=>rw[hi] at h;obtain⟨hv,h⟩:=qk h;cases h;exact .inl ⟨i,rfl,qb6 (i:=i) (by rw[gd.hN];exact Qf hi) (gd.vis x hv) n1 n2⟩
 |none=>rw[hi] at h;obtain⟨hg,h⟩:=qk h;obtain⟨d,hd,rfl⟩:=map_some h;obtain⟨v,u,e1,e2,e3⟩:=gd.gl x d hd;exact .inr ⟨d,v,rfl,e3,JH (gd.glo x hg) e1 e2 n1⟩
theorem qei(gd:Gd κ K k X Γ){x:Str}{z:E}(h:qab Γ x=some z)(pos:Pos):PE X (.Name x pos) (tR κ K Gv Hv (iR Γ.k z)):=by
 rcases Qg gd h pos with ⟨i,rfl,P⟩ | ⟨d,v,rfl,e3,P⟩
 ·refine PE.imp P λσ H Q hq1=>?_;obtain⟨ρ,G,er,h⟩:=hq1;have h:=Wk.th (x:=slR ρ i) h;unfold slR at h
  cases q:ρ[i]? with
  |none=>rw[q] at h;exact h.elim
  |some s=>
   rw[q] at h;have w:=er.sl i s q
   cases s with
   |no=>exact h.elim
   |val d=>obtain⟨v,z,r⟩:=w;exact⟨v,z,h v G H (Po.refl er) r⟩
   |own l=>obtain⟨a,xs,z,r1,r2,r3,r4⟩:=w;exact⟨_,z,h _ G H (Po.refl er) ⟨a,xs,rfl,r1,r4⟩⟩
   |bor l=>obtain⟨a,xs,z,r1,r4⟩:=w;exact⟨_,z,h _ G H (Po.refl er) ⟨a,xs,rfl,er.base _ _ r1,r4⟩⟩
   |scr l=>obtain⟨a,xs,z,r1,r4⟩:=w;exact⟨_,z,h _ G H (Po.refl er) ⟨a,xs,rfl,er.base.seq r1,r4⟩⟩
 ·exact PE.imp P λσ H Q ⟨ρ,G,er,h⟩=>h v G H (Po.refl er) (e3 G)
theorem qaO(gd:Gd κ K k X Γ){x:Str}{z:E}(h:qab Γ x=some z)(pos:Pos):PE X (.Name x pos) (tE κ K Gv Hv (zK z (iR Γ.k z))):=by
 rcases Qg gd h pos with ⟨i,rfl,P⟩ | ⟨d,v,rfl,e3,P⟩
 ·refine PE.imp P λσ H Q hq1=>?_;obtain⟨ρ,G,er,h⟩:=hq1;have h:Wk (slE ρ i) _:=h;unfold slE at h
  cases q:ρ[i]? with
  |none=>rw[q] at h;exact h.elim
  |some s=>
   rw[q] at h;have w:=er.sl i s q
   cases s with
   |val d=>obtain⟨v,z,r⟩:=w;exact⟨v,z,h v G H (Po.refl er) r⟩
   |own l=>obtain⟨a,xs,z,p,r⟩:=er.froze q;exact⟨_,z,h _ _ H p r⟩
   |_=>exact h.elim
 ·exact PE.imp P λσ H Q ⟨ρ,G,er,h⟩=>h v G H (Po.refl er) (e3 G)
end
end DE
namespace DE
open PySem L2
section
variable{κ:KC}{K:Frag}{Gv Hv Hb Hc G H:Hp}{ρ:Env}{σ:St}{r s:Rv}{x y:V}
theorem RvR.int{i:Int}(h:RvR κ K Hv Hb G H ρ σ r x)(e:r.int?=some i):x=.int i:=by
 cases r with
 |val d=>cases d<;>simp only[Rv.int?] at e<;>first | (cases e;simpa only[RvR,Rep] using h) | cases e
 |_=>cases e
theorem RvR.str{i:Str}(h:RvR κ K Hv Hb G H ρ σ r x)(e:r.str?=some i):x=.str i:=by
 cases r with
 |val d=>cases d<;>simp only[Rv.str?] at e<;>first | (cases e;simpa only[RvR,Rep] using h) | cases e
 |_=>cases e
theorem RvR.bl{i:Bool}(h:RvR κ K Hv Hb G H ρ σ r x)(e:r.bl?=some i):x=.bl i:=by
 cases r with
 |val d=>cases d<;>simp only[Rv.bl?] at e<;>first | (cases e;simpa only[RvR,Rep] using h) | cases e
 |_=>cases e
theorem RvR.tup{l:List D}(h:RvR κ K Hv Hb G H ρ σ r x)(e:r.tup?=some l):∃a xs,x=.ref a/\G a=some (.tup xs)/\ql κ G l xs:=by
 cases r with
 |val d=>cases d<;>simp only[Rv.tup?] at e<;>first | (cases e;simpa only[RvR,Rep] using h) | cases e
 |_=>cases e
theorem RvR.seq(er:ER κ K Gv Hv G H ρ σ){l:List D}(h:RvR κ K Hv Hb G H ρ σ r x)(e:seqD r=some l):∃a xs,x=.ref a/\(SqL K H a xs\/SqT K H a xs)/\ql κ G l xs:=by
 unfold seqD at e
 cases q:r.tup? with
 | some l'=>rw[q] at e;cases e;obtain⟨a,xs,e1,e2,e3⟩:=h.tup q;exact⟨a,xs,e1,.inr (SqT.of (er.sub _ _ e2)),e3⟩
 |none=>rw[q] at e;obtain⟨a,xs,e1,e2,e3⟩:=h.list er e;exact⟨a,xs,e1,.inl e2,e3⟩
theorem RvR.non(h:RvR κ K Hv Hb G H ρ σ r x):decide (x=.non)=r.non?:=by
 cases r with
 |val d=>
  cases d<;>simp only[RvR,Rep] at h<;>simp only[Rv.non?]
  ·subst h;rfl
  ·subst h;rfl
  ·subst h;rfl
  ·subst h;rfl
  ·obtain⟨a,xs,rfl,_⟩:=h;rfl
  ·obtain⟨a,xs,rfl,_⟩:=h;rfl
  ·obtain⟨p,dx,C,xs,_,rfl,_⟩:=h;rfl
 |tmp l=>obtain⟨a,xs,rfl,_⟩:=h;rfl
 |cell l=>obtain⟨a,xs,rfl,_⟩:=h;rfl
 |scr l=>obtain⟨a,xs,rfl,_⟩:=h;rfl
mutual
theorem Rep.dv(sub:qo G H):∀{d:D} {v:V} {p:PyData},Rep κ G d v->toP d=some p->DV K H p v
 |.non,v,p,h,e=>by simp only[toP] at e;cases e;simp only[Rep] at h;simp only[DV];exact h
 |.bl b,v,p,h,e=>by simp only[toP] at e;cases e;simp only[Rep] at h;simp only[DV];exact h
 |.int b,v,p,h,e=>by simp only[toP] at e;cases e;simp only[Rep] at h;simp only[DV];exact h
 |.str b,v,p,h,e=>by simp only[toP] at e;cases e;simp only[Rep] at h;simp only[DV];exact h
 |.lst l,v,p,h,e=>by simp only[toP] at e;obtain⟨ps,e1,rfl⟩:=Option.map_eq_some_iff.mp e;simp only[Rep] at h;obtain⟨a,xs,rfl,h1,h2⟩:=h;simp only[DV];exact⟨a,xs,rfl,SqL.of (sub _ _ h1),ql.dvs sub h2 e1⟩
 |.tup l,v,p,h,e=>by simp only[toP] at e;obtain⟨ps,e1,rfl⟩:=Option.map_eq_some_iff.mp e;simp only[Rep] at h;obtain⟨a,xs,rfl,h1,h2⟩:=h;simp only[DV];exact⟨a,xs,rfl,SqT.of (sub _ _ h1),ql.dvs sub h2 e1⟩
 |.ins c ns l,v,p,h,e=>by simp only[toP] at e;cases e
theorem ql.dvs(sub:qo G H):∀{ds:List D} {vs:List V} {ps:List PyData},ql κ G ds vs->qbZ ds=some ps->DVs K H ps vs
 |[],vs,ps,h,e=>by simp only[qbZ] at e;cases e;simp only[ql] at h;simp only[DVs];exact h
 | d::ds,vs,ps,h,e=>by simp only[qbZ] at e;obtain⟨p,e1,e2⟩:=Option.bind_eq_some_iff.mp e;obtain⟨qs,e3,rfl⟩:=Option.map_eq_some_iff.mp e2;simp only[ql] at h;obtain⟨x,r,rfl,h1,h2⟩:=h;simp only[DVs];exact⟨x,r,rfl,Rep.dv sub h1 e1,ql.dvs sub h2 e3⟩
end
theorem RvR.dv(er:ER κ K Gv Hv G H ρ σ){p:PyData}(h:RvR κ K Hv Hb G H ρ σ r x)(e:toP r.data=some p):DV K H p x:=by
 have lst:∀{l:List D} {a:Addr} {xs:List V},SqL K H a xs->ql κ G l xs->toP (.lst l)=some p->DV K H p (.ref a):=λ{l a xs} hq hr e=>by simp only[toP] at e;obtain⟨ps,e1,rfl⟩:=Option.map_eq_some_iff.mp e;simp only[DV];exact⟨a,xs,rfl,hq,ql.dvs er.sub hr e1⟩
 cases r with
 |val d=>exact Rep.dv er.sub h e
 |tmp l=>obtain⟨a,xs,rfl,h1,_,_,_,_,h6⟩:=h;exact lst (SqL.of h1) h6 e
 |cell l=>obtain⟨a,xs,rfl,h1,h6⟩:=h;exact lst (SqL.of h1) h6 e
 |scr l=>obtain⟨a,xs,rfl,h1,h6⟩:=h;exact lst h1 h6 e
theorem qaP{d:D}{v:V}(h:Rep κ G d v)(f:Yw d=true):v=flV d/\JN v=true:=by
 cases d<;>simp only[Yw] at f<;>try (exact absurd f (2:))
 all_goals (simp only[Rep] at h;subst h;exact⟨rfl,rfl⟩)
theorem Zk:∀{l:List D} {vs:List V},ql κ G l vs->l.all Yw=true->vs=l.map flV/\vs.all JN=true
 |[],vs,h,f=>by simp only[ql] at h;subst h;exact⟨rfl,rfl⟩
 | d::l,vs,h,f=>by simp only[ql] at h;obtain⟨x,r,rfl,h1,h2⟩:=h;simp only[List.all_cons,Bool.and_eq_true] at f;obtain⟨e1,e2⟩:=qaP h1 f.1;obtain⟨e3,e4⟩:=Zk h2 f.2;subst e1 e3;exact⟨rfl,by simp only[List.all_cons,e2,e4,Bool.and_self]⟩
theorem qgA(h:RvR κ K Hv Hb G H ρ σ r x)(f:Yw r.data=true):x=flV r.data/\JN x=true:=by
 cases r with
 |val d=>exact qaP h f
 |_=>simp only[Rv.data,Yw] at f;exact absurd f (2:)
theorem qac{f:Int->Int->R Rv}{F:Rv->Prop}(h:Wk (int2 r s f) F):∃i j,r.int?=some i/\s.int?=some j/\Wk (f i j) F:=by
 unfold int2 at h
 cases e1:r.int? with
 |none=>rw[e1] at h;exact h.elim
 |some i=>
  cases e2:s.int? with
  |none=>rw[e1,e2] at h;exact h.elim
  |some j=>rw[e1,e2] at h;exact⟨i,j,rfl,rfl,h⟩
theorem qej{l:List D}{xs:List V}{i:Int}{d:D}(h:ql κ G l xs)(e:atI l i=some d):∃v,atI xs i=some v/\Rep κ G d v:=by unfold atI at e ⊢;rw[<-h.len];obtain⟨j,e1,e2⟩:=Option.bind_eq_some_iff.mp e;obtain⟨v,e3,e4⟩:=h.atD e2;exact⟨v,by rw[e1];exact e3,e4⟩
theorem qek{l:List D}{xs:List V}{lo hi:Option Int}(h:ql κ G l xs):ql κ G (qbB l lo hi) (qhG xs lo hi):=by unfold qbB qhG;rw[h.len];exact(h.drop _).take _
end
section
variable(κ:KC)(K:Frag)(Gv Hv:Hp)
noncomputable def qku(op:Operator):R2:=λx y H Q=>∃(ρ:Env) (σ:St) (G Hb Hc:Hp) (r s:Rv),ER κ K Gv Hv G H ρ σ/\RvR κ K Hv Hb G H ρ σ r x/\RvR κ K Hv Hc G H ρ σ s y/\
 Wk (qaa op r s) λz=>∀v G' H',Po κ K Gv Hv σ G H ρ G' H' ρ->RvR κ K Hv H G' H' ρ σ z v->Q v H'
noncomputable def qk5(op:CmpOp):R2:=λx y H Q=>∃(ρ:Env) (σ:St) (G Hb Hc:Hp) (r s:Rv) (b:Bool),ER κ K Gv Hv G H ρ σ/\RvR κ K Hv Hb G H ρ σ r x/\RvR κ K Hv Hc G H ρ σ s y/\JS op r s=some b/\Q (.bl b) H
noncomputable def qmx:R2:=λx y H Q=>∃(ρ:Env) (σ:St) (G Hb Hc:Hp) (r s:Rv),ER κ K Gv Hv G H ρ σ/\RvR κ K Hv Hb G H ρ σ r x/\RvR κ K Hv Hc G H ρ σ s y/\
 Wk (idxD r s) λz=>∀v G' H',Po κ K Gv Hv σ G H ρ G' H' ρ->RvR κ K Hv H G' H' ρ σ z v->Q v H'
noncomputable def qmy:V->Option Int->Option Int->Hp->VK->Prop:=λx lo hi H Q=>∃(ρ:Env) (σ:St) (G Hb:Hp) (r:Rv),ER κ K Gv Hv G H ρ σ/\RvR κ K Hv Hb G H ρ σ r x/\
 Wk (sliceD r lo hi) λz=>∀v G' H',Po κ K Gv Hv σ G H ρ G' H' ρ->RvR κ K Hv H G' H' ρ σ z v->Q v H'
noncomputable def rC1(f:Rv->R Rv):List V->Hp->VK->Prop:=λxs H Q=>∃(ρ:Env) (σ:St) (G Hb:Hp) (r:Rv) (x:V),xs=[x]/\ER κ K Gv Hv G H ρ σ/\RvR κ K Hv Hb G H ρ σ r x/\
 Wk (f r) λz=>∀v G' H',Po κ K Gv Hv σ G H ρ G' H' ρ->RvR κ K Hv H G' H' ρ σ z v->Q v H'
noncomputable def rC2(f:Rv->Rv->R Rv):List V->Hp->VK->Prop:=λxs H Q=>∃(ρ:Env) (σ:St) (G Hb Hc:Hp) (r s:Rv) (x y:V),xs=[x,y]/\ER κ K Gv Hv G H ρ σ/\RvR κ K Hv Hb G H ρ σ r x/\RvR κ K Hv Hc G H ρ σ s y/\
 Wk (f r s) λz=>∀v G' H',Po κ K Gv Hv σ G H ρ G' H' ρ->RvR κ K Hv H G' H' ρ σ z v->Q v H'
end
section
variable{κ:KC}{K:Frag}{Gv Hv:Hp}{k:Nat}{X:Cx}{Γ:Ct}
theorem Qh(op:Operator){f:Int->Int->R Rv}{C:Int->Int->Prop}{g:Int->Int->Int}(hop:OpR X (binaryOp op) (rI C λi j=>.int (g i j)))(hf:∀r s,qaa op r s=int2 r s f)(hw:∀i j F,Wk (f i j) F->C i j/\F (.val (.int (g i j)))) :
  OpR X (binaryOp op) (qku κ K Gv Hv op):=by
 rintro pins st σ' H x y v u Q I rx ry ⟨ρ,σ,G,Hb,Hc,r,s,er,h1,h2,h⟩;rw[hf] at h;obtain⟨i,j,e1,e2,h⟩:=qac h;obtain⟨hc,h⟩:=hw i j _ h;exact hop pins st σ' H x y v u Q I rx ry ⟨i,j,h1.int e1,h2.int e2,hc,h _ G H (Po.refl er) (by simp only[RvR,Rep])⟩
theorem qk6{f:Value->Value->Sem Value}{g:Int->Int->V}(h:OpR X f (rI0 g)):OpR X f (rI (λ_ _=>True) g):=λpins st σ' H x y v u Q I rx ry ⟨i,j,e1,e2,_,q⟩=>h pins st σ' H x y v u Q I rx ry ⟨i,j,e1,e2,q⟩
theorem qiA:OpR X (binaryOp .Add) (qku κ K Gv Hv .Add):=by
 rintro pins st σ' H x y v u Q I rx ry ⟨ρ,σ,G,Hb,Hc,r,s,er,h1,h2,h⟩;have h:Wk (qkZ r s) _:=h;unfold qkZ at h
 have cat:Wk (match r.plain?,s.plain? with
   |some l,some m=>if l.length+m.length<=sizeLine then R.ok (Rv.tmp (l++m)) else .no
   |_,_=>.no) (λz=>∀v G' H',Po κ K Gv Hv σ G H ρ G' H' ρ->RvR κ K Hv H G' H' ρ σ z v->Q v H')->wpAny (model X.prog X.w) X.A (binaryOp .Add v u) (EP X pins σ' Q) X.xe st:=λh=>by
  cases e1:r.plain? with
  |none=>rw[e1] at h;exact h.elim
  |some l=>
   cases e2:s.plain? with
   |none=>rw[e1,e2] at h;exact h.elim
   |some m=>rw[e1,e2] at h;obtain⟨hz,h⟩:=Wk.iff h;obtain⟨a,xs,q1,q2,q3⟩:=h1.plain er e1;obtain⟨b,ys,p1,p2,p3⟩:=h2.plain er e2;refine qim pins st σ' H x y v u Q I rx ry ⟨a,b,xs,ys,q1,p1,q2,p2,by rw[<-q3.len,<-p3.len];exact hz,λp hp=>?_⟩;obtain⟨z1,z2⟩:=er.newList hp (q3.app p3);exact h _ _ _ z1 z2
 have txt:Wk (match r.str?,s.str? with
   |some a,some b=>if a.length+b.length<=sizeLine then R.ok (Rv.val (.str (a++b))) else .no
   |_,_=>match r.plain?,s.plain? with
    |some l,some m=>if l.length+m.length<=sizeLine then R.ok (Rv.tmp (l++m)) else .no
    |_,_=>.no) (λz=>∀v G' H',Po κ K Gv Hv σ G H ρ G' H' ρ->RvR κ K Hv H G' H' ρ σ z v->Q v H')->wpAny (model X.prog X.w) X.A (binaryOp .Add v u) (EP X pins σ' Q) X.xe st:=λh=>by
  cases e1:r.str? with
  |none=>rw[e1] at h;exact cat h
  |some l=>
   cases e2:s.str? with
   |none=>rw[e1,e2] at h;exact cat h
   |some m=>rw[e1,e2] at h;obtain⟨hz,h⟩:=Wk.iff h;exact qbs pins st σ' H x y v u Q I rx ry ⟨l,m,h1.str e1,h2.str e2,hz,h _ G H (Po.refl er) (by simp only[RvR,Rep])⟩
 cases e1:r.int? with
 |none=>rw[e1] at h;exact txt h
 |some i=>
  cases e2:s.int? with
  |none=>rw[e1,e2] at h;exact txt h
  |some j=>rw[e1,e2] at h;exact qh7 pins st σ' H x y v u Q I rx ry ⟨i,j,h1.int e1,h2.int e2,h _ G H (Po.refl er) (by simp only[RvR,Rep])⟩
theorem qgB{i j:Int}(h:QQ i j=true):qkq i j:=by unfold QQ at h;simp only[Bool.or_eq_true,Bool.and_eq_true,decide_eq_true_eq] at h;exact h
theorem ql.rep{G:Hp}{ds:List D}{vs:List V}(h:ql κ G ds vs):∀n:Nat,ql κ G (List.replicate n ds).flatten (List.replicate n vs).flatten
 |0=>.nil
 | n+1=>h.app (ql.rep h n)
theorem qiB:OpR X (binaryOp .Mult) (qku κ K Gv Hv .Mult):=by
 rintro pins st σ' H x y v u Q I rx ry ⟨ρ,σ,G,Hb,Hc,r,s,er,h1,h2,h⟩;have h:Wk (qk0 r s) _:=h;unfold qk0 at h
 cases e2:s.int? with
 |none=>cases e1:r.int?<;>rw[e1,e2] at h<;>exact h.elim
 |some j=>
  cases e1:r.int? with
  |some i=>rw[e1,e2] at h;obtain⟨hm,h⟩:=Wk.iff h;exact qh9 pins st σ' H x y v u Q I rx ry ⟨i,j,h1.int e1,h2.int e2,qgB hm,h _ G H (Po.refl er) (by simp only[RvR,Rep])⟩
  |none=>
   rw[e1,e2] at h;dsimp only at h
   cases e3:r.plain? with
   |none=>rw[e3] at h;exact h.elim
   |some l=>rw[e3] at h;obtain⟨hz,h⟩:=Wk.iff h;obtain⟨a,xs,q1,q2,q3⟩:=h1.plain er e3;refine qin pins st σ' H x y v u Q I rx ry ⟨a,j,xs,q1,h2.int e2,q2,by omega,by omega,by rw[<-q3.len];exact hz.2,λp hp=>?_⟩;obtain⟨z1,z2⟩:=er.newList hp (q3.rep _);exact h _ _ _ z1 z2
theorem qiC(op:Operator):OpR X (binaryOp op) (qku κ K Gv Hv op):=by
 cases op with
 |Add=>exact qiA
 |Sub=>exact Qh .Sub (qk6 qh8) (λ_ _=>rfl) λi j F h=>⟨trivial,h⟩
 |Mult=>exact qiB
 |FloorDiv=>exact Qh .FloorDiv qf1 (λ_ _=>rfl) λi j F h=>⟨(Wk.iff h).1,(Wk.iff h).2⟩
 |Mod=>exact Qh .Mod qia (λ_ _=>rfl) λi j F h=>⟨(Wk.iff h).1,(Wk.iff h).2⟩
 |Pow=>exact Qh .Pow qib (λ_ _=>rfl) λi j F h=>⟨(Wk.iff h).1,(Wk.iff h).2⟩
 |_=>exactλ_ _ _ _ _ _ _ _ _ _ _ _ h=>Exists.elim h λ_ h=>Exists.elim h λ_ h=>Exists.elim h λ_ h=>Exists.elim h λ_ h=>Exists.elim h λ_ h=>Exists.elim h λ_ h=>Exists.elim h λ_ h=>h.2.2.2.elim
theorem Qi(op:CmpOp){g:Int->Int->Bool}(hop:OpR X (compareOp op) (rI0 λi j=>.bl (g i j)))(hf:∀r s,JS op r s=qhH r s g):OpR X (compareOp op) (qk5 κ K Gv Hv op):=by
 rintro pins st σ' H x y v u Q I rx ry ⟨ρ,σ,G,Hb,Hc,r,s,b,er,h1,h2,h,q⟩;rw[hf] at h;unfold qhH at h
 cases e1:r.int? with
 |none=>rw[e1] at h;cases h
 |some i=>
  cases e2:s.int? with
  |none=>rw[e1,e2] at h;cases h
  |some j=>rw[e1,e2] at h;cases h;exact hop pins st σ' H x y v u Q I rx ry ⟨i,j,h1.int e1,h2.int e2,q⟩
theorem qfo{x y:D}{b:Bool}(h:eqD x y=some b):∃p q,toP x=some p/\toP y=some q/\SeqAt.shaped p=true/\SeqAt.shaped q=true/\b=PyData.eqv p q:=by
 unfold eqD at h
 cases e1:toP x with
 |none=>rw[e1] at h;cases h
 |some p=>
  cases e2:toP y with
  |none=>rw[e1,e2] at h;cases h
  |some q=>
   rw[e1,e2] at h;dsimp only at h
   by_cases hs:(SeqAt.shaped p&&SeqAt.shaped q)=true
   ·rw[if_pos hs] at h;cases h;rw[Bool.and_eq_true] at hs;exact⟨p,q,rfl,rfl,hs.1,hs.2,rfl⟩
   ·rw[if_neg hs] at h;cases h
theorem qfp(gd:Gd κ K k X Γ)(neg:Bool)(op:CmpOp)(hs:OpR X (compareOp op) (λx y H Q=>∃i j,x=.str i/\y=.str j/\Q (.bl (if neg then !qhI i j else qhI i j)) H))(hl:OpR X (compareOp op) (rIn X.K neg))
  (hf:∀r s,JS op r s=(qb2 r s).map λb=>if neg then !b else b):OpR X (compareOp op) (qk5 κ K Gv Hv op):=by
 rintro pins st σ' H x y v u Q I rx ry ⟨ρ,σ,G,Hb,Hc,r,s,b,er,h1,h2,h,q⟩;rw[hf] at h;obtain⟨b',hb',rfl⟩:=Option.map_eq_some_iff.mp h
 replace h:=hb'
 unfold qb2 at h
 have sq:(seqD s).bind (inD r.data)=some b'->wpAny (model X.prog X.w) X.A (compareOp op v u) (EP X pins σ' Q) X.xe st:=λh=>by
  obtain⟨l,e1,e2⟩:=Option.bind_eq_some_iff.mp h;unfold inD at e2
  by_cases hc:(Yw r.data&&l.all Yw)=true
  ·rw[if_pos hc] at e2;cases e2;rw[Bool.and_eq_true] at hc;obtain⟨a,xs,p1,p2,p3⟩:=h2.seq er e1;obtain⟨f1,f2⟩:=qgA h1 hc.1;obtain⟨f3,f4⟩:=Zk p3 hc.2;refine hl pins st σ' H x y v u Q I rx ry ⟨a,xs,p1,by rw[gd.hK];exact p2,f2,f4,?_⟩;rw[f1,f3];exact q
  ·rw[if_neg hc] at e2;cases e2
 cases e1:r.str? with
 |none=>rw[e1] at h;exact sq h
 |some i=>
  cases e2:s.str? with
  |none=>rw[e1,e2] at h;exact sq h
  |some j=>rw[e1,e2] at h;cases h;exact hs pins st σ' H x y v u Q I rx ry ⟨i,j,h1.str e1,h2.str e2,q⟩
theorem qfq(gd:Gd κ K k X Γ)(op:CmpOp):OpR X (compareOp op) (qk5 κ K Gv Hv op):=by
 have hu:X.A.units+64 < cLine:=by have:=gd.room.un;omega
 cases op with
 |Eq=>rintro pins st σ' H x y v u Q I rx ry ⟨ρ,σ,G,Hb,Hc,r,s,b,er,h1,h2,h,q⟩;obtain⟨p,p',e1,e2,e3,e4,rfl⟩:=qfo h;exact qis hu pins st σ' H x y v u Q I rx ry ⟨p,p',by rw[gd.hK];exact h1.dv er e1,by rw[gd.hK];exact h2.dv er e2,e3,e4,q⟩
 |NotEq=>rintro pins st σ' H x y v u Q I rx ry ⟨ρ,σ,G,Hb,Hc,r,s,b,er,h1,h2,h,q⟩;obtain⟨b',h',rfl⟩:=Option.map_eq_some_iff.mp h;obtain⟨p,p',e1,e2,e3,e4,rfl⟩:=qfo h';exact qit hu pins st σ' H x y v u Q I rx ry ⟨p,p',by rw[gd.hK];exact h1.dv er e1,by rw[gd.hK];exact h2.dv er e2,e3,e4,q⟩
 |Lt=>exact Qi .Lt qkM λ_ _=>rfl
 |LtE=>exact Qi .LtE qkN λ_ _=>rfl
 |Gt=>exact Qi .Gt qkO λ_ _=>rfl
 |GtE=>exact Qi .GtE qkP λ_ _=>rfl
 |Is=>
  rintro pins st σ' H x y v u Q I rx ry ⟨ρ,σ,G,Hb,Hc,r,s,b,er,h1,h2,h,q⟩;have h:(if s.non?=true then some r.non? else none)=some b:=h
  by_cases hn:s.non?=true
  ·rw[if_pos hn] at h;cases h;refine qid pins st σ' H x y v u Q I rx ry ⟨of_decide_eq_true (h2.non.trans hn),?_⟩;rw[h1.non];exact q
  ·rw[if_neg hn] at h;cases h
 |IsNot=>
  rintro pins st σ' H x y v u Q I rx ry ⟨ρ,σ,G,Hb,Hc,r,s,b,er,h1,h2,h,q⟩;have h:(if s.non?=true then some (!r.non?) else none)=some b:=h
  by_cases hn:s.non?=true
  ·rw[if_pos hn] at h;cases h;refine qf2 pins st σ' H x y v u Q I rx ry ⟨of_decide_eq_true (h2.non.trans hn),?_⟩;rw[h1.non];exact q
  ·rw[if_neg hn] at h;cases h
 |In=>exact qfp gd false .In qcd qcm λr s=>by show qb2 r s=_;cases qb2 r s<;>rfl
 |NotIn=>exact qfp gd true .NotIn QW Q5 λr s=>rfl
theorem qiD(gd:Gd κ K k X Γ):IxR X (qmx κ K Gv Hv):=by
 rintro value slice pins st σ' H x y v u Q I rx ry ⟨ρ,σ,G,Hb,Hc,r,s,er,h1,h2,h⟩ hs;unfold idxD at h
 cases e1:s.int? with
 |none=>rw[e1] at h;exact h.elim
 |some i=>
  rw[e1] at h;dsimp only at h
  cases e2:r.str? with
  |some z=>
   rw[e2] at h;dsimp only at h;obtain⟨hz,h⟩:=Wk.iff h
   cases e3:atI z.cps.toList i with
   |none=>rw[e3] at h;exact h.elim
   |some c=>rw[e3] at h;exact qij value slice pins st σ' H x y v u Q I rx ry ⟨z,i,c,h1.str e2,h2.int e1,hz,e3,h _ G H (Po.refl er) (by simp only[RvR,Rep])⟩ hs
  |none=>
   rw[e2] at h;dsimp only at h
   cases e3:seqD r with
   |none=>rw[e3] at h;exact h.elim
   |some l=>
    rw[e3] at h;dsimp only at h
    cases e4:atI l i with
    |none=>rw[e4] at h;exact h.elim
    |some d=>
     rw[e4] at h;obtain⟨a,xs,p1,p2,p3⟩:=h1.seq er e3;obtain⟨w,p4,p5⟩:=qej p3 e4;rcases p2 with p2 | p2
     ·exact qgg value slice pins st σ' H x y v u Q I rx ry ⟨a,xs,i,w,p1,h2.int e1,by rw[gd.hK];exact p2,p4,h w G H (Po.refl er) p5⟩ hs
     ·exact qii value slice pins st σ' H x y v u Q I rx ry ⟨a,xs,i,w,p1,h2.int e1,by rw[gd.hK];exact p2,p4,h w G H (Po.refl er) p5⟩ hs
theorem qiE(gd:Gd κ K k X Γ):L2.SlR X (qmy κ K Gv Hv):=by
 rintro pins st σ' H x v vl vu lo hi sl Q I rx hs pl pu ⟨ρ,σ,G,Hb,r,er,h1,h⟩;unfold sliceD at h
 cases e2:r.str? with
 |some z=>rw[e2] at h;dsimp only at h;obtain⟨hz,h⟩:=Wk.iff h;exact qiv pins st σ' H x v vl vu lo hi sl Q I rx hs pl pu ⟨z,h1.str e2,hz,h _ G H (Po.refl er) (by simp only[RvR,Rep])⟩
 |none=>rw[e2] at h;dsimp only at h;obtain⟨l,e1,h⟩:=Wk.of (Wk.th h);obtain⟨a,xs,p1,p2,p3⟩:=h1.list er e1;refine qgh pins st σ' H x v vl vu lo hi sl Q I rx hs pl pu ⟨a,xs,p1,by rw[gd.hK];exact p2,λp hp=>?_⟩;obtain⟨z1,z2⟩:=er.newList hp (qek (lo:=lo) (hi:=hi) p3);exact h _ _ _ z1 z2
theorem qiF(gd:Gd κ K k X Γ):zR X (.builtin "len") (rC1 κ K Gv Hv lenD):=by
 rintro pins st σ' H xs us Q I rs ⟨ρ,σ,G,Hb,r,x,hx,er,h1,h⟩;unfold lenD at h
 cases e2:r.str? with
 |some z=>rw[e2] at h;dsimp only at h;obtain⟨hz,h⟩:=Wk.iff h;exact Q6 pins st σ' H xs us Q I rs ⟨z,by rw[hx,h1.str e2],hz,h _ G H (Po.refl er) (by simp only[RvR,Rep])⟩
 |none=>
  rw[e2] at h;dsimp only at h
  cases e3:seqD r with
  |none=>rw[e3] at h;exact h.elim
  |some l=>rw[e3] at h;obtain⟨a,ys,p1,p2,p3⟩:=h1.seq er e3;refine Jg pins st σ' H xs us Q I rs ⟨a,ys,by rw[hx,p1],by rw[gd.hK];exact p2,?_⟩;rw[<-p3.len];exact h _ G H (Po.refl er) (by simp only[RvR,Rep])
theorem qgC(gd:Gd κ K k X Γ):zR X (.type "list") (rC1 κ K Gv Hv listD):=by
 rintro pins st σ' H xs us Q I rs ⟨ρ,σ,G,Hb,r,x,hx,er,h1,h⟩;unfold listD at h
 cases e3:seqD r with
 |none=>rw[e3] at h;exact h.elim
 |some l=>rw[e3] at h;obtain⟨a,ys,p1,p2,p3⟩:=h1.seq er e3;refine jI pins st σ' H xs us Q I rs ⟨a,ys,by rw[hx,p1],by rw[gd.hK];exact p2,λp hp=>?_⟩;obtain⟨z1,z2⟩:=er.newList hp p3;exact h _ _ _ z1 z2
theorem qbC(a b c:Int×Int)(h1:Zf a b=true)(h2:Zf b c=true):Zf a c=true:=by simp only[Zf,Bool.or_eq_true,Bool.and_eq_true,decide_eq_true_eq] at *;omega
theorem qbD(a b:Int×Int):(Zf a b||Zf b a)=true:=by simp only[Zf,Bool.or_eq_true,Bool.and_eq_true,decide_eq_true_eq] at *;omega
theorem qel{ps qs:List (Int×Int)}(p:qs.Perm ps)(s:qs.Pairwise qcw):yC ps=qs:=by
 have s1:(yC ps).Pairwise λa b=>Zf a b=true:=List.pairwise_mergeSort qbC qbD ps
 have s2:qs.Pairwise λa b=>Zf a b=true:=s.imp λ{a b} h=>by simp only[Zf,Bool.or_eq_true,Bool.and_eq_true,decide_eq_true_eq];exact h
 refine List.Perm.eq_of_pairwise (λa b _ _ h1 h2=>?_) s1 s2 ((List.mergeSort_perm ps Zf).trans p.symm);simp only[Zf,Bool.or_eq_true,Bool.and_eq_true,decide_eq_true_eq] at h1 h2;exact Prod.ext (1:) (1:)
theorem qaQ{G:Hp}:∀{l:List D} {xs:List V} {ps:List (Int×Int)},ql κ G l xs->qfj l=some ps->Paired (λx (p:Int×Int)=>∃a,x=V.ref a/\G a=some (.tup [.int p.1,.int p.2])) xs ps
 |[],xs,ps,r,h=>by simp only[ql] at r;subst r;cases h;exact .nil
 | d::l,xs,ps,r,h=>by
  simp only[ql] at r;obtain⟨x,us,rfl,r1,r2⟩:=r;unfold qfj at h
  cases e1:prD d with
  |none=>rw[e1] at h;cases h
  |some p=>
   cases e2:qfj l with
   |none=>rw[e1,e2] at h;cases h
   |some qs=>
    rw[e1,e2] at h;cases h;refine .cons ?_ (qaQ r2 e2);unfold prD at e1
    split at e1
    ·cases e1;simp only[Rep,ql] at r1;obtain⟨a,ys,rfl,h1,x1,z1,rfl,rfl,x2,z2,rfl,rfl,rfl⟩:=r1;exact⟨a,rfl,h1⟩
    ·cases e1
theorem Paired.memL{α β:Type}{R:α->β->Prop}:∀{l:List α} {m:List β},Paired R l m->∀a∈l,∃b,R a b
 |_,_,.nil,a,h=>by cases h
 |_,_,.cons r rs,a,h=>by
  cases h with
  |head=>exact⟨_,r⟩
  |tail _ h=>exact Paired.memL rs a h
theorem qbE{G H:Hp}(sub:qo G H){xs:List V}(f:∀x∈xs,∃p:Int×Int,∃a,x=V.ref a/\G a=some (.tup [.int p.1,.int p.2])){ys:List V}{qs:List (Int×Int)}(hm:∀y∈ys,y∈xs)(h:Paired (P2 K H) ys qs):ql κ G (qs.map pD) ys:=by
 induction h with
 |nil=>exact .nil
 |cons r rs ih=>refine .cons ?_ (ih λz hz=>hm z (List.mem_cons_of_mem _ hz));obtain⟨p,a,rfl,ga⟩:=f _ (hm _ (List.mem_cons_self ..));obtain⟨b,eb,hb⟩:=r;cases eb;rw[sub _ _ ga] at hb;rw[hb] at ga;simp only[pD,Rep,ql];exact⟨a,_,rfl,ga,_,_,rfl,rfl,_,_,rfl,rfl,rfl⟩
theorem qcL(gd:Gd κ K k X Γ):zR X (.builtin "sorted") (rC1 κ K Gv Hv Qc):=by
 rintro pins st σ' H xs us Q I rs ⟨ρ,σ,G,Hb,r,x,hx,er,h1,h⟩;unfold Qc at h
 cases e3:r.list? with
 |none=>rw[e3] at h;exact h.elim
 |some l=>
  rw[e3] at h;dsimp only at h
  cases e4:qfj l with
  |none=>rw[e4] at h;exact h.elim
  |some ps=>
   rw[e4] at h;dsimp only at h;obtain⟨h64,h⟩:=Wk.iff h;obtain⟨a,ys,p1,p2,p3⟩:=h1.list er e3;have pr:=qaQ p3 e4
   have hlen:ys.length < 64:=by
    have:∀{xs:List V} {ps:List (Int×Int)} {R:V->Int×Int->Prop},Paired R xs ps->xs.length=ps.length:=by
     intro xs ps R q
     induction q with
     |nil=>rfl
     |cons _ _ ih=>simp[ih]
    rw[this pr];exact h64
   have pr2:Paired (P2 X.K H) ys ps:=by
    have:∀{ys:List V} {ps:List (Int×Int)},Paired (λx (p:Int×Int)=>∃a,x=V.ref a/\G a=some (.tup [.int p.1,.int p.2])) ys ps->Paired (P2 X.K H) ys ps:=by
     intro ys ps q
     induction q with
     |nil=>exact .nil
     |cons r rs ih=>obtain⟨a,e,ga⟩:=r;exact .cons ⟨a,e,er.sub _ _ ga⟩ ih
    exact this pr
   refine Qa pins st σ' H xs us Q I rs ⟨a,ys,ps,by rw[hx,p1],by rw[gd.hK];exact p2,hlen,pr2,λp zs qs hp z1 z2 z3 z4=>?_⟩;have e5:yC ps=qs:=qel z3 z4
   have rr:ql κ G ((yC ps).map pD) zs:=by rw[e5];refine qbE (K:=X.K) er.sub (λx hx=>?_) (λy hy=>z2.mem_iff.mp hy) z1;obtain⟨p,hp⟩:=Paired.memL pr x hx;exact⟨p,hp⟩
   obtain⟨w1,w2⟩:=er.newList hp rr;exact h _ _ _ w1 w2
theorem qcM{G:Hp}:∀{l:List D} {xs:List V} {ns:List Int},ql κ G l xs->qcG l=some ns->xs=ns.map V.int
 |[],xs,ns,r,h=>by simp only[ql] at r;subst r;cases h;rfl
 | d::l,xs,ns,r,h=>by
  simp only[ql] at r;obtain⟨x,us,rfl,r1,r2⟩:=r
  cases d with
  |int i=>unfold qcG at h;obtain⟨ms,e1,rfl⟩:=Option.map_eq_some_iff.mp h;simp only[Rep] at r1;rw[r1,qcM r2 e1];rfl
  |_=>cases h
theorem qiG(gd:Gd κ K k X Γ):zR X (.builtin "sum") (rC1 κ K Gv Hv qk1):=by
 rintro pins st σ' H xs us Q I rs ⟨ρ,σ,G,Hb,r,x,hx,er,h1,h⟩;unfold qk1 at h
 cases e3:r.list? with
 |none=>rw[e3] at h;exact h.elim
 |some l=>
  rw[e3] at h;dsimp only at h
  cases e4:qcG l with
  |none=>rw[e4] at h;exact h.elim
  |some ns=>rw[e4] at h;obtain⟨a,ys,p1,p2,p3⟩:=h1.list er e3;rw[qcM p3 e4] at p2;exact qcA gd.calm pins st σ' H xs us Q I rs ⟨a,ns,by rw[hx,p1],by rw[gd.hK];exact p2,h _ G H (Po.refl er) (by simp only[RvR,Rep])⟩
theorem qiH(gd:Gd κ K k X Γ):zR X (.builtin "all") (rC1 κ K Gv Hv qlC):=by rintro pins st σ' H xs us Q I rs ⟨ρ,σ,G,Hb,r,x,hx,er,h1,h⟩;exact h.elim
theorem qiI:zR X (.type "int") (rC1 κ K Gv Hv intD):=by
 rintro pins st σ' H xs us Q I rs ⟨ρ,σ,G,Hb,r,x,hx,er,h1,h⟩;unfold intD at h
 cases e3:r.int? with
 |some i=>rw[e3] at h;exact QX pins st σ' H xs us Q I rs (.inl ⟨i,by rw[hx,h1.int e3],h _ G H (Po.refl er) (by simp only[RvR,Rep])⟩)
 |none=>
  rw[e3] at h;dsimp only at h
  cases e4:r.bl? with
  |none=>rw[e4] at h;exact h.elim
  |some b=>rw[e4] at h;exact QX pins st σ' H xs us Q I rs (.inr ⟨b,by rw[hx,h1.bl e4],h _ G H (Po.refl er) (by simp only[RvR,Rep])⟩)
theorem qiJ(gd:Gd κ K k X Γ):zR X (.builtin "max") (rC2 κ K Gv Hv maxD):=by rintro pins st σ' H xs us Q I rs ⟨ρ,σ,G,Hb,Hc,r,s,x,y,hx,er,h1,h2,h⟩;obtain⟨i,j,e1,e2,h⟩:=qac h;exact qce gd.calm pins st σ' H xs us Q I rs ⟨i,j,by rw[hx,h1.int e1,h2.int e2],h _ G H (Po.refl er) (by simp only[RvR,Rep])⟩
theorem qiK(gd:Gd κ K k X Γ):zR X (.builtin "min") (rC2 κ K Gv Hv minD):=by rintro pins st σ' H xs us Q I rs ⟨ρ,σ,G,Hb,Hc,r,s,x,y,hx,er,h1,h2,h⟩;obtain⟨i,j,e1,e2,h⟩:=qac h;exact qcf gd.calm pins st σ' H xs us Q I rs ⟨i,j,by rw[hx,h1.int e1,h2.int e2],h _ G H (Po.refl er) (by simp only[RvR,Rep])⟩
theorem qem(gd:Gd κ K k X Γ){G H Hb:Hp}{ρ:Env}{σ:St}{r:Rv}{x:V}{b:Bool}(er:ER κ K Gv Hv G H ρ σ)(h:RvR κ K Hv Hb G H ρ σ r x)(e:truthD r=some b):qkr X.K x H b:=by
 have sq:∀{r:Rv},RvR κ K Hv Hb G H ρ σ r x->(seqD r).map (λl=>!l.isEmpty)=some b->qkr X.K x H b:=λ{r} h e=>by
  obtain⟨l,e1,rfl⟩:=Option.map_eq_some_iff.mp e;obtain⟨a,xs,rfl,p2,p3⟩:=h.seq er e1
  have hl:(!l.isEmpty) = !xs.isEmpty:=by
   have:=p3.len
   cases l<;>cases xs<;>simp_all
  rw[hl,gd.hK];rcases p2 with p2 | p2
  ·exact .inl ⟨xs,p2,rfl⟩
  ·exact .inr (.inl ⟨xs,p2,rfl⟩)
 cases r with
 |val d=>
  cases d with
  |non=>simp only[RvR,Rep] at h;subst h;simp only[truthD] at e;cases e;exact rfl
  |bl c=>simp only[RvR,Rep] at h;subst h;simp only[truthD] at e;cases e;exact rfl
  |int c=>simp only[RvR,Rep] at h;subst h;simp only[truthD] at e;cases e;exact rfl
  |str c=>
   simp only[RvR,Rep] at h;subst h;simp only[truthD] at e
   by_cases hz:c.length<=sizeLine
   ·rw[if_pos hz] at e;cases e;exact⟨hz,rfl⟩
   ·rw[if_neg hz] at e;cases e
  |lst l=>exact sq h e
  |tup l=>exact sq h e
  |ins c ns l=>exact sq h e
 |tmp l=>exact sq h e
 |cell l=>exact sq h e
 |scr l=>exact sq h e
end
end DE
namespace DE
open PySem PySem.Spec PyProof.Rows L2
structure All(κ:KC)(K:Frag)(k:Nat)(X:Cx)(Γ:Ct)(m:Nat):Prop where
 r:∀Gv Hv e x,cE m Γ e=some x->PE X e (tR κ K Gv Hv (iR Γ.k x))
 e:∀Gv Hv e x,cX m Γ e=some x->PE X e (tE κ K Gv Hv (zK x (iR Γ.k x)))
 t:∀Gv Hv e x,cT m Γ e=some x->PT X e (tT κ K Gv Hv (iT Γ.k x))
 es:∀Gv Hv e x,cEs m Γ e=some x->PA X e (tEs κ K Gv Hv (iEs Γ.k x))
 as:∀Gv Hv e x,cAs m Γ e=some x->PA X e (tAs κ K Gv Hv (iAs Γ.k x))
 o:∀Gv Hv e x,cO m Γ e=some x->PO X e (tO κ K Gv Hv (iO Γ.k x))
 f:∀Gv Hv e x,cF m Γ e=some x->PIf X e (tT κ K Gv Hv (iF Γ.k x))
 l:∀Gv Hv e x,cL m Γ e=some x->PE X e (tL κ K Gv Hv (zY x (iR Γ.k x)))
 i:∀Gv Hv tg e x,cI m Γ (qfk tg) e=some x->PI X tg e (tI κ K Gv Hv (iI Γ.k x))
section
variable{κ:KC}{K:Frag}{Gv Hv:Hp}{k m:Nat}{X:Cx}{Γ:Ct}{x:E}
theorem qmz:All κ K k X Γ 0:={ r:=(λ_ _ _ _ h=>nomatch h),e:=(λ_ _ _ _ h=>nomatch h),t:=(λ_ _ _ _ h=>nomatch h),es:=(λ_ _ _ _ h=>nomatch h),as:=(λ_ _ _ _ h=>nomatch h),o:=(λ_ _ _ _ h=>nomatch h),f:=(λ_ _ _ _ h=>nomatch h),l:=(λ_ _ _ _ h=>nomatch h),i:=(λ_ _ _ _ _ h=>nomatch h) }
theorem qen(c:Const)(j:Nat)(pos:Pos)(h:qfm c=some x):PE X (.Constant c j pos) (tR κ K Gv Hv (iR Γ.k x)):=by
 cases c with
 |none=>cases h;exact PE.imp qhV λσ H Q ⟨ρ,G,er,h⟩=>h _ G H (Po.refl er) (by simp only[RvR,Rep])
 |bool b=>cases h;exact PE.imp qkz λσ H Q ⟨ρ,G,er,h⟩=>h _ G H (Po.refl er) (by simp only[RvR,Rep])
 |int b=>cases h;exact PE.imp QT λσ H Q ⟨ρ,G,er,h⟩=>h _ G H (Po.refl er) (by simp only[RvR,Rep])
 |str b=>cases h;exact PE.imp qhW λσ H Q ⟨ρ,G,er,h⟩=>h _ G H (Po.refl er) (by simp only[RvR,Rep])
 |_=>cases h
theorem qeo(A:All κ K k X Γ m)(a b:Expr)(op:Operator)(pos:Pos)(h:cE (m+1) Γ (.BinOp a op b pos)=some x):PE X (.BinOp a op b pos) (tR κ K Gv Hv (iR Γ.k x)):=by obtain⟨a',b',h1,h2,rfl⟩:=qj h;refine PE.imp (qkK (qiC (κ:=κ) (K:=K) (Gv:=Gv) (Hv:=Hv) op) (A.r Gv Hv _ _ h1) (A.r Gv Hv _ _ h2)) λσ H Q hq1=>?_;obtain⟨ρ,G,er,h⟩:=hq1;refine⟨ρ,G,er,Wk.mono (Wk.th (x:=iR Γ.k a' ρ) h) λx h v G1 H1 p1 r1=>⟨x.2,G1,p1.er,Wk.mono (Wk.th (x:=iR Γ.k b' x.2) h) λy h w G2 H2 p2 r2=>?_⟩⟩;exact⟨y.2,σ,G2,H,H1,x.1,y.1,p2.er,r1.keep p2,r2,Wk.mono (Wk.th h) λz h u G3 H3 p3 r3=>h u G3 H3 (p1.trans (p2.trans p3)) (r3.back (p1.trans p2).hs)⟩
theorem qiL(A:All κ K k X Γ m)(a:Expr)(pos:Pos)(h:cE (m+1) Γ (.UnaryOp .USub a pos)=some x):PE X (.UnaryOp .USub a pos) (tR κ K Gv Hv (iR Γ.k x)):=by
 obtain⟨a',h1,rfl⟩:=map_some h;refine PE.imp (qkL qic (A.r Gv Hv _ _ h1)) λσ H Q hq1=>?_;obtain⟨ρ,G,er,h⟩:=hq1;refine⟨ρ,G,er,Wk.mono (Wk.th (x:=iR Γ.k a' ρ) h) λx h v G1 H1 p1 r1=>?_⟩;obtain⟨rv,ρ1⟩:=x
 cases rv with
 |val d=>
  cases d with
  |int i=>exact⟨i,by simpa only[RvR,Rep] using r1,h _ G1 H1 p1 (by simp only[RvR,Rep])⟩
  |_=>exact False.elim h
 |_=>exact False.elim h
theorem qgD(A:All κ K k X Γ m)(a:Expr)(pos:Pos)(h:cE (m+1) Γ (.UnaryOp .Not a pos)=some x):PE X (.UnaryOp .Not a pos) (tR κ K Gv Hv (iR Γ.k x)):=by
 obtain⟨a',h1,rfl⟩:=map_some h;refine PE.imp (qh0 (A.r Gv Hv _ _ h1)) λσ H Q hq1=>?_;obtain⟨ρ,G,er,h⟩:=hq1;refine⟨ρ,G,er,Wk.mono (Wk.th (x:=iR Γ.k a' ρ) h) λx h v G1 H1 p1 r1=>?_⟩;obtain⟨rv,ρ1⟩:=x
 cases rv with
 |val d=>
  cases d with
  |bl i=>exact⟨i,by simpa only[RvR,Rep] using r1,h _ G1 H1 p1 (by simp only[RvR,Rep])⟩
  |_=>exact False.elim h
 |_=>exact False.elim h
theorem qgE(gd:Gd κ K k X Γ)(A:All κ K k X Γ m)(a b:Expr)(op:CmpOp)(pos:Pos)(h:cE (m+1) Γ (.Compare a [op] [b] pos)=some x):PE X (.Compare a [op] [b] pos) (tR κ K Gv Hv (iR Γ.k x)):=by obtain⟨hm,h⟩:=qk h;obtain⟨a',b',h1,h2,rfl⟩:=qj h;refine PE.imp (qf3 (qfq (Gv:=Gv) (Hv:=Hv) gd op) (A.r Gv Hv _ _ h1) (A.r Gv Hv _ _ h2) (by simpa using hm)) λσ H Q hq1=>?_;obtain⟨ρ,G,er,h⟩:=hq1;refine⟨ρ,G,er,Wk.mono (Wk.th (x:=iR Γ.k a' ρ) h) λx h v G1 H1 p1 r1=>⟨x.2,G1,p1.er,Wk.mono (Wk.th (x:=iR Γ.k b' x.2) h) λy h w G2 H2 p2 r2=>?_⟩⟩;obtain⟨c,e,h⟩:=Wk.of (Wk.th h);exact⟨y.2,σ,G2,H,H1,x.1,y.1,c,p2.er,r1.keep p2,r2,e,h _ G2 H2 (p1.trans p2) (by simp only[RvR,Rep])⟩
theorem qgF(gd:Gd κ K k X Γ)(A:All κ K k X Γ m)(a b:Expr)(op:CmpOp)(pos:Pos){x:T}(h:cT (m+1) Γ (.Compare a [op] [b] pos)=some x):PT X (.Compare a [op] [b] pos) (tT κ K Gv Hv (iT Γ.k x)):=by obtain⟨hm,h⟩:=qk h;obtain⟨a',b',h1,h2,rfl⟩:=qj h;refine PT.imp (qf4 (qfq (Gv:=Gv) (Hv:=Hv) gd op) (A.r Gv Hv _ _ h1) (A.r Gv Hv _ _ h2) (by simpa using hm)) λσ H Q hq1=>?_;obtain⟨ρ,G,er,h⟩:=hq1;refine⟨ρ,G,er,Wk.mono (Wk.th (x:=iR Γ.k a' ρ) h) λx h v G1 H1 p1 r1=>⟨x.2,G1,p1.er,Wk.mono (Wk.th (x:=iR Γ.k b' x.2) h) λy h w G2 H2 p2 r2=>?_⟩⟩;obtain⟨c,e,h⟩:=Wk.of (Wk.th h);exact⟨y.2,σ,G2,H,H1,x.1,y.1,c,p2.er,r1.keep p2,r2,e,c,rfl,h G2 H2 (p1.trans p2)⟩
theorem qiM(A:All κ K k X Γ m)(a b:Expr)(l:List Expr)(pos:Pos)(h:cE (m+1) Γ (.BoolOp .And (a::b::l) pos)=some x):PE X (.BoolOp .And (a::b::l) pos) (tR κ K Gv Hv (iR Γ.k x)):=by
 obtain⟨a',b',h1,h2,rfl⟩:=qj h;refine PE.imp (qhZ (A.r Gv Hv _ _ h1) (A.r Gv Hv _ _ h2)) λσ H Q hq1=>?_;obtain⟨ρ,G,er,h⟩:=hq1;refine⟨ρ,G,er,Wk.mono (Wk.th (x:=iR Γ.k a' ρ) h) λx h v G1 H1 p1 r1=>?_⟩;obtain⟨rv,ρ1⟩:=x
 cases rv with
 |val d=>
  cases d with
  |bl c=>
   refine⟨c,by simpa only[RvR,Rep] using r1,?_⟩
   cases c with
   |true=>rw[if_pos rfl];exact⟨ρ1,G1,p1.er,Wk.mono h λy h w G2 H2 p2 r2=>h w G2 H2 (p1.trans p2) (r2.back p1.hs)⟩
   |false=>rw[if_neg (λz=>by cases z)];exact h _ G1 H1 p1 (by simp only[RvR,Rep])
  |_=>exact False.elim h
 |_=>exact False.elim h
theorem qiN(A:All κ K k X Γ m)(c a b:Expr)(pos:Pos)(h:cE (m+1) Γ (.IfExp c a b pos)=some x):PE X (.IfExp c a b pos) (tR κ K Gv Hv (iR Γ.k x)):=by
 obtain⟨c',q,h1,h2,rfl⟩:=qj h;obtain⟨a',b',h3,h4,rfl⟩:=qj h2;refine PE.imp (qdT (A.t Gv Hv _ _ h1) (A.r Gv Hv _ _ h3) (A.r Gv Hv _ _ h4)) λσ H Q hq1=>?_;obtain⟨ρ,G,er,h⟩:=hq1;refine⟨ρ,G,er,Wk.mono (Wk.th (x:=iT Γ.k c' ρ) h) λx h G1 H1 p1=>?_⟩;obtain⟨d,ρ1⟩:=x
 cases d with
 |true=>rw[if_pos rfl];exact⟨ρ1,G1,p1.er,Wk.mono h λy h w G2 H2 p2 r2=>h w G2 H2 (p1.trans p2) (r2.back p1.hs)⟩
 |false=>rw[if_neg (λz=>by cases z)];exact⟨ρ1,G1,p1.er,Wk.mono h λy h w G2 H2 p2 r2=>h w G2 H2 (p1.trans p2) (r2.back p1.hs)⟩
theorem qbF{b:Expr}(h:∀lo hi st p,b≠.Slice lo hi st p):qcl b:=λo i=>by cases b<;>first | rfl | exact absurd rfl (h _ _ _ _)
theorem qiO(gd:Gd κ K k X Γ)(A:All κ K k X Γ m)(a b:Expr)(pos:Pos)(h:cE (m+1) Γ (.Subscript a b pos)=some x):PE X (.Subscript a b pos) (tR κ K Gv Hv (iR Γ.k x)):=by
 have gen:(∀lo hi st p,b≠.Slice lo hi st p)->o2 (cE m Γ a) (cE m Γ b) .idx=some x->PE X (.Subscript a b pos) (tR κ K Gv Hv (iR Γ.k x)):=λhb h=>by obtain⟨a',b',h1,h2,rfl⟩:=qj h;refine PE.imp (qkT (qiD (Gv:=Gv) (Hv:=Hv) gd) (A.r Gv Hv _ _ h1) (A.r Gv Hv _ _ h2) (qbF hb)) λσ H Q hq1=>?_;obtain⟨ρ,G,er,h⟩:=hq1;refine⟨ρ,G,er,Wk.mono (Wk.th (x:=iR Γ.k a' ρ) h) λx h v G1 H1 p1 r1=>⟨x.2,G1,p1.er,Wk.mono (Wk.th (x:=iR Γ.k b' x.2) h) λy h w G2 H2 p2 r2=>?_⟩⟩;exact⟨y.2,σ,G2,H,H1,x.1,y.1,p2.er,r1.keep p2,r2,Wk.mono (Wk.th h) λz h u G3 H3 p3 r3=>h u G3 H3 (p1.trans (p2.trans p3)) (r3.back (p1.trans p2).hs)⟩
 cases b with
 |Slice lo hi st p=>
  cases st with
  |some st=>cases h
  |none=>obtain⟨a',q,h1,h2,rfl⟩:=qj h;obtain⟨l',u',h3,h4,rfl⟩:=qj h2;refine PE.imp (qd3 (qiE (Gv:=Gv) (Hv:=Hv) gd) (A.r Gv Hv _ _ h1) (A.o Gv Hv _ _ h3) (A.o Gv Hv _ _ h4)) λσ H Q hq1=>?_;obtain⟨ρ,G,er,h⟩:=hq1;refine⟨ρ,G,er,Wk.mono (Wk.th (x:=iR Γ.k a' ρ) h) λx h v G1 H1 p1 r1=>⟨x.2,G1,p1.er,Wk.mono (Wk.th (x:=iO Γ.k l' x.2) h) λy h G2 H2 p2=>⟨y.2,G2,p2.er,Wk.mono (Wk.th (x:=iO Γ.k u' y.2) h) λz h G3 H3 p3=>?_⟩⟩⟩;exact⟨z.2,σ,G3,H,x.1,p3.er,(r1.keep p2).keep p3,Wk.mono (Wk.th h) λu h w G4 H4 p4 r4=>h w G4 H4 (p1.trans (p2.trans (p3.trans p4))) (r4.back (p1.trans (p2.trans p3)).hs)⟩
 |_=>exact gen (λ_ _ _ _ z=>by cases z) h
theorem qiP(A:All κ K k X Γ m)(es:List Expr)(pos:Pos)(h:cE (m+1) Γ (.List es pos)=some x):PE X (.List es pos) (tR κ K Gv Hv (iR Γ.k x)):=by obtain⟨l,h1,rfl⟩:=map_some h;refine PE.imp (qih (A.es Gv Hv _ _ h1)) λσ H Q hq1=>?_;obtain⟨ρ,G,er,h⟩:=hq1;refine⟨ρ,G,er,Wk.mono (Wk.th (x:=iEs Γ.k l ρ) h) λx h vs G1 H1 p1 r1=>?_⟩;obtain⟨hz,h⟩:=Wk.iff h;refine⟨by rw[<-r1.len];exact hz,λp hp=>?_⟩;obtain⟨z1,z2⟩:=p1.er.newList hp r1;exact h _ _ _ (p1.trans z1) (z2.back p1.hs)
theorem qiQ(A:All κ K k X Γ m)(es:List Expr)(j:Nat)(pos:Pos)(h:cE (m+1) Γ (.Tuple es j pos)=some x):PE X (.Tuple es j pos) (tR κ K Gv Hv (iR Γ.k x)):=by obtain⟨l,h1,rfl⟩:=map_some h;refine PE.imp (qig (A.es Gv Hv _ _ h1)) λσ H Q hq1=>?_;obtain⟨ρ,G,er,h⟩:=hq1;refine⟨ρ,G,er,Wk.mono (Wk.th (x:=iEs Γ.k l ρ) h) λx h vs G1 H1 p1 r1=>?_⟩;obtain⟨hz,h⟩:=Wk.iff h;refine⟨by rw[<-r1.len];exact hz,λp hp=>?_⟩;have z1:=Po.lay (o:=.tup vs) p1.er hp;refine h _ _ _ (p1.trans z1) ?_;simp only[RvR,Rep];exact⟨p,vs,rfl,qf,r1.same z1.gs⟩
theorem qmA(gd:Gd κ K k X Γ)(A:All κ K k X Γ m)(e:Expr)(x:E)(h:cX (m+1) Γ e=some x):PE X e (tE κ K Gv Hv (zK x (iR Γ.k x))):=by
 have gen:(cE m Γ e).bind Zi=some x->PE X e (tE κ K Gv Hv (zK x (iR Γ.k x))):=λh=>by
  obtain⟨y,h1,h2⟩:=Option.bind_eq_some_iff.mp h;obtain⟨rfl,hv⟩:=zZ h2;refine PE.imp (A.r Gv Hv _ _ h1) λσ H Q hq1=>?_;obtain⟨ρ,G,er,h⟩:=hq1;rw[qgw hv] at h;refine⟨ρ,G,er,Wk.mono (Wk.th h) λx h v G1 H1 p1 r1=>?_⟩;obtain⟨rv,ρ1⟩:=x
  cases rv with
  |val d=>exact h v G1 H1 p1 r1
  |tmp l=>obtain⟨a,xs,rfl,h1,h2,h3,h4,h5,h6⟩:=r1;have p2:=p1.freeze h1 h2 h3 h4 h5;refine h _ _ H1 p2 ?_;simp only[Rep];exact⟨a,xs,rfl,qf,h6.same (qo.upd h4)⟩
  |_=>exact False.elim h
 cases e with
 |Name x pos=>exact qaO gd h pos
 |_=>exact gen h
theorem qk7(A:All κ K k X Γ m):∀es x,cEs (m+1) Γ es=some x->PA X es (tEs κ K Gv Hv (iEs Γ.k x))
 |[],_,h=>by cases h;exact PA.imp qx λσ H Q ⟨ρ,G,er,h⟩=>h [] G H (Po.refl er) .nil
 | e::l,_,h=>by obtain⟨hs,h⟩:=qk h;obtain⟨a',l',h1,h2,rfl⟩:=qj h;refine PA.imp (qg (A.e Gv Hv _ _ h1) (A.es Gv Hv _ _ h2) (qe (by simpa using hs))) λσ H Q hq1=>?_;obtain⟨ρ,G,er,h⟩:=hq1;refine⟨ρ,G,er,Wk.mono (Wk.th (x:=zK a' (iR Γ.k a') ρ) h) λx h v G1 H1 p1 r1=>⟨x.2,G1,p1.er,Wk.mono (Wk.th (x:=iEs Γ.k l' x.2) h) λy h vs G2 H2 p2 r2=>?_⟩⟩;exact h _ G2 H2 (p1.trans p2) (.cons (r1.same p2.gs) r2)
theorem qk8(A:All κ K k X Γ m):∀es x,cAs (m+1) Γ es=some x->PA X es (tAs κ K Gv Hv (iAs Γ.k x))
 |[],_,h=>by cases h;exact PA.imp qx λσ H Q ⟨ρ,G,er,h⟩=>h [] G H (Po.refl er) rfl
 | e::l,_,h=>by
  obtain⟨hs,h⟩:=qk h;obtain⟨a',l',h1,h2,rfl⟩:=qj h;refine PA.imp (qg (A.r Gv Hv _ _ h1) (A.as Gv Hv _ _ h2) (qe (by simpa using hs))) λσ H Q hq1=>?_;obtain⟨ρ,G,er,h⟩:=hq1;refine⟨ρ,G,er,Wk.mono (Wk.th (x:=iR Γ.k a' ρ) h) λx h v G1 H1 p1 r1=>?_⟩;have h:=Wk.th (x:=iAs Γ.k l' x.2) h;obtain⟨rv,ρ1⟩:=x
  cases rv with
  |val d=>exact⟨ρ1,G1,p1.er,Wk.mono h λy h vs G2 H2 p2 r2=>h _ G2 H2 (p1.trans p2) ⟨v,vs,rfl,Rep.same p2.gs r1,r2⟩⟩
  |tmp ds=>obtain⟨a,xs,rfl,h1,h2,h3,h4,h5,h6⟩:=r1;have p1':=p1.freeze h1 h2 h3 h4 h5;refine⟨ρ1,_,p1'.er,Wk.mono h λy h vs G2 H2 p2 r2=>h _ G2 H2 (p1'.trans p2) ⟨_,vs,rfl,?_,r2⟩⟩;show Rep κ G2 (.lst ds) (.ref a);simp only[Rep];exact⟨a,xs,rfl,p2.gs _ _ qf,(h6.same (qo.upd h4)).same p2.gs⟩
  |cell ds=>obtain⟨a,xs,rfl,h1,h6⟩:=r1;exact⟨ρ1,G1,p1.er,Wk.mono h λy h vs G2 H2 p2 r2=>h _ G2 H2 (p1.trans p2) ⟨_,vs,rfl,⟨a,xs,rfl,p2.hs _ _ h1,h6.same p2.gs⟩,r2⟩⟩
  |scr ds=>obtain⟨a,xs,rfl,h1,h6⟩:=r1;exact⟨ρ1,G1,p1.er,Wk.mono h λy h vs G2 H2 p2 r2=>h _ G2 H2 (p1.trans p2) ⟨_,vs,rfl,⟨a,xs,rfl,p2.hs.seq h1,h6.same p2.gs⟩,r2⟩⟩
theorem qmB(A:All κ K k X Γ m):∀o x,cO (m+1) Γ o=some x->PO X o (tO κ K Gv Hv (iO Γ.k x))
 |none,_,h=>by cases h;exact PO.imp qge λσ H Q ⟨ρ,G,er,h⟩=>h G H (Po.refl er)
 |some e,_,h=>by
  obtain⟨a',h1,rfl⟩:=map_some h;refine PO.imp (qgf (A.r Gv Hv _ _ h1)) λσ H Q hq1=>?_;obtain⟨ρ,G,er,h⟩:=hq1;refine⟨ρ,G,er,Wk.mono (Wk.th (x:=iR Γ.k a' ρ) h) λx h v G1 H1 p1 r1=>?_⟩;obtain⟨rv,ρ1⟩:=x
  cases rv with
  |val d=>
   cases d with
   |int i=>exact⟨i,by simpa only[RvR,Rep] using r1,h G1 H1 p1⟩
   |_=>exact False.elim h
  |_=>exact False.elim h
theorem qmC(A:All κ K k X Γ m):∀es x,cF (m+1) Γ es=some x->PIf X es (tT κ K Gv Hv (iF Γ.k x))
 |[],_,h=>by cases h;exact PIf.imp qgn λσ H Q ⟨ρ,G,er,h⟩=>h G H (Po.refl er)
 |[c],_,h=>by obtain⟨a',h1,rfl⟩:=map_some h;exact qgo (A.t Gv Hv _ _ h1)
 | _::_::_,_,h=>by cases h
noncomputable def qfr:Expr->Bool
 |.UnaryOp .Not _ _=>false
 |.BoolOp ..=>false
 |.IfExp ..=>false
 |.Compare ..=>false
 |_=>true
theorem qcN{e:Expr}(h:qfr e=true)(env:PySem.Env):∀whole,isTrue e env whole=(do let v<-whole;standAt e.pos;holding [v] (truthy v)):=by
 intro whole
 cases e with
 |UnaryOp op a pos=>cases op<;>first | rfl | cases h
 |BoolOp=>cases h
 |IfExp=>cases h
 |Compare=>cases h
 |_=>rfl
theorem qmD(gd:Gd κ K k X Γ)(A:All κ K k X Γ m)(e:Expr)(x:T)(h:cT (m+1) Γ e=some x):PT X e (tT κ K Gv Hv (iT Γ.k x)):=by
 have gen:qfr e=true->(cE m Γ e).map .val=some x->PT X e (tT κ K Gv Hv (iT Γ.k x)):=λhp h=>by obtain⟨a',h1,rfl⟩:=map_some h;refine PT.imp (qdX (A.r Gv Hv _ _ h1) (qcN hp X.env)) λσ H Q hq1=>?_;obtain⟨ρ,G,er,h⟩:=hq1;refine⟨ρ,G,er,Wk.mono (Wk.th (x:=iR Γ.k a' ρ) h) λx h v G1 H1 p1 r1=>?_⟩;obtain⟨b,e1,h⟩:=Wk.of (Wk.th h);exact⟨b,qem gd p1.er r1 e1,h G1 H1 p1⟩
 cases e with
 |UnaryOp op a pos=>
  cases op with
  |Not=>obtain⟨a',h1,rfl⟩:=map_some h;refine PT.imp (YB (A.t Gv Hv _ _ h1)) λσ H Q hq1=>?_;obtain⟨ρ,G,er,h⟩:=hq1;exact⟨ρ,G,er,Wk.mono (Wk.th (x:=iT Γ.k a' ρ) h) λx h G1 H1 p1=>h G1 H1 p1⟩
  |_=>exact gen rfl h
 |BoolOp op vs pos=>
  cases vs with
  |nil=>cases op<;>cases h
  |cons a vs=>
   cases vs with
   |nil=>
    cases op with
    |And=>obtain⟨a',h1,rfl⟩:=map_some h;exact PT.imp (PW.pt (qfW (A.t Gv Hv _ _ h1))) λσ H Q h=>h
    |Or=>obtain⟨a',h1,rfl⟩:=map_some h;exact PT.imp (PW.pt (qhX (A.t Gv Hv _ _ h1))) λσ H Q h=>h
   |cons b l=>
    cases op with
    |And=>
     obtain⟨a',b',h1,h2,rfl⟩:=qj h;intro pins s σ H Q I hw;obtain⟨ρ,G,er,h⟩:=hw;refine isTrue_and (thn (A.t Gv Hv _ _ h1 pins s σ H (λc H1=>if c=true then tT κ K Gv Hv (iT Γ.k b') σ H1 Q else Q false H1) I ?_) λc s1 ⟨H1,I1,q1⟩=>?_)
     ·refine⟨ρ,G,er,Wk.mono (Wk.th (x:=iT Γ.k a' ρ) h) λx h G1 H1 p1=>?_⟩;obtain⟨d,ρ1⟩:=x
      cases d with
      |true=>rw[if_pos rfl];exact⟨ρ1,G1,p1.er,Wk.mono h λy h G2 H2 p2=>h G2 H2 (p1.trans p2)⟩
      |false=>rw[if_neg (λz=>by cases z)];exact h G1 H1 p1
     ·cases c with
      |true=>exact A.t Gv Hv _ _ h2 pins s1 σ H1 Q I1 q1
      |false=>exact⟨H1,I1,q1⟩
    |Or=>
     obtain⟨a',b',h1,h2,rfl⟩:=qj h;intro pins s σ H Q I hw;obtain⟨ρ,G,er,h⟩:=hw;refine isTrue_or (thn (A.t Gv Hv _ _ h1 pins s σ H (λc H1=>if c=true then Q true H1 else tT κ K Gv Hv (iT Γ.k b') σ H1 Q) I ?_) λc s1 ⟨H1,I1,q1⟩=>?_)
     ·refine⟨ρ,G,er,Wk.mono (Wk.th (x:=iT Γ.k a' ρ) h) λx h G1 H1 p1=>?_⟩;obtain⟨d,ρ1⟩:=x
      cases d with
      |false=>rw[if_neg (λz=>by cases z)];exact⟨ρ1,G1,p1.er,Wk.mono h λy h G2 H2 p2=>h G2 H2 (p1.trans p2)⟩
      |true=>rw[if_pos rfl];exact h G1 H1 p1
     ·cases c with
      |true=>exact⟨H1,I1,q1⟩
      |false=>exact A.t Gv Hv _ _ h2 pins s1 σ H1 Q I1 q1
 |IfExp c a b pos=>cases h
 |Compare a ops bs pos=>
  match ops,bs,h with
  |[op],[b],h=>exact qgF gd A a b op pos h
  |[_,_],[_,_],h=>cases h
  |[],[],h=>cases h
  | [],_::_,h=>cases h
  |[_],[],h=>cases h
  | [_],_::_::_,h=>cases h
  |[_,_],[],h=>cases h
  |[_,_],[_],h=>cases h
  | [_,_],_::_::_::_,h=>cases h
  | _::_::_::_,_,h=>cases h
 |_=>exact gen rfl h
end
end DE
namespace DE
open PySem PySem.Spec PyProof.Rows L2
section
variable{κ:KC}{K:Frag}{Gv Hv:Hp}{k m:Nat}{X:Cx}{Γ:Ct}
theorem qfs{tg l:Expr}{tl:TE}(hl:PE X l tl):PI X tg l (λσ H R=>tl σ H λx H1=>(∃a,x=.ref a/\(((∃xs,SqL X.K H1 a xs)/\R (Itl X.K a) H1)\/((∃xs,SqT X.K H1 a xs)/\R (Itt X.K a) H1)))\/∃z,x=.str z/\R (Its z) H1):=by
 intro pins s σ H R I h;refine thn (hl pins s σ H _ I h) λv s1 hq1=>?_;obtain⟨x,H1,I1,r1,q1⟩:=hq1;rcases q1 with ⟨a,e,q⟩ | ⟨x,rfl,q⟩
 ·subst e;cases r1;rcases q with ⟨⟨xs,hq⟩,q⟩ | ⟨⟨xs,hq⟩,q⟩
  ·obtain⟨its,rv,p,hz⟩:=I1.list hq;refine wpAny_pyIter_list p.isList ?_;refine⟨s1.heap.objs.size,[s1.heap.objs.size],_,_,H1,rfl,I1.kept (t':=s1.toks) λb o e=>Heap.get?_push_of_some _ e,qb9 a _,⟨_,Heap.get?_push_size _ rfl,rfl,rfl⟩,λb hb=>?_,q⟩;have e:b=s1.heap.objs.size:=by simpa using hb
   subst e;exact I1.fpOk (Nat.le_refl _) (I1.hok.fresh (Nat.le_refl _))
  ·obtain⟨its,rv,p,hz⟩:=I1.tuple hq;refine wpAny_pyIter_tuple (show s1.heap.IsTuple a its.toArray from p) ?_;refine⟨s1.heap.objs.size,[s1.heap.objs.size],_,_,H1,rfl,I1.kept (t':=s1.toks) λb o e=>Heap.get?_push_of_some _ e,qbp a _,⟨_,Heap.get?_push_size _ rfl,rfl,rfl⟩,λb hb=>?_,q⟩;have e:b=s1.heap.objs.size:=by simpa using hb
   subst e;exact I1.fpOk (Nat.le_refl _) (I1.hok.fresh (Nat.le_refl _))
 ·obtain⟨t,rfl⟩:=r1
  have fin:∀(T:String) (o:Obj),(T = "str_ascii_iterator"\/T = "str_iterator")->(∀A':Around,A'.handled=none->Walks X.prog X.w A' s1.heap.objs.size [s1.heap.objs.size] [s1.heap.objs.size] x.cps.size (SignAt x) (λi h=>h.IsStrIter s1.heap.objs.size T x t i))->
    (s1.heap.push o).IsStrIter s1.heap.objs.size T x t 0->PIE X pins σ tg R (.ref s1.heap.objs.size) { s1 with heap:=s1.heap.push o }:=λT o hT W st=>by
   refine⟨s1.heap.objs.size,[s1.heap.objs.size],_,_,H1,rfl,I1.kept (t':=s1.toks) λb o e=>Heap.get?_push_of_some _ e,qeb hT W,st,λb hb=>?_,q⟩;have e:b=s1.heap.objs.size:=by simpa using hb
   subst e;exact I1.fpOk (Nat.le_refl _) (I1.hok.fresh (Nat.le_refl _))
  cases ha:x.cps.all (· < 128)
  ·exact wpAny_pyIter_wide ha (fin _ _ (.inr rfl) (λA' hA=>Walks.strWide hA _ x t) ⟨_,Heap.get?_push_size _ rfl,rfl,rfl⟩)
  ·exact wpAny_pyIter_ascii ha (fin _ _ (.inl rfl) (λA' hA=>Walks.strAscii hA _ x t) ⟨_,Heap.get?_push_size _ rfl,rfl,rfl⟩)
theorem qep(gd:Gd κ K k X Γ){x:Str}{i:Nat}(hi:qb1 Γ x=some i)(pos:Pos):PE X (.Name x pos) (tL κ K Gv Hv (zY (.var i) (iR Γ.k (.var i)))):=by
 refine PE.imp (Zj gd hi pos) λσ H Q hq1=>?_;obtain⟨ρ,G,er,h⟩:=hq1;have h:Wk (slL ρ i) _:=h;unfold slL at h
 cases q:ρ[i]? with
 |none=>rw[q] at h;exact False.elim h
 |some s=>
  rw[q] at h;have w:=er.sl i s q
  cases s with
  |no=>exact False.elim h
  |val d=>
   obtain⟨v,z,r⟩:=w
   cases d with
   |lst l=>simp only[Rep] at r;obtain⟨a,xs,rfl,r1,r2⟩:=r;exact⟨_,z,h _ G H (Po.refl er) ⟨a,xs,rfl,r2,.inl r1⟩⟩
   |str y=>simp only[Rep] at r;subst r;exact⟨_,z,h _ G H (Po.refl er) ⟨y,rfl,rfl⟩⟩
   |tup l=>simp only[Rep] at r;obtain⟨a,xs,rfl,r1,r2⟩:=r;exact⟨_,z,h _ G H (Po.refl er) ⟨a,xs,rfl,r2,r1⟩⟩
   |_=>exact False.elim h
  |own l=>obtain⟨a,xs,z,p,r⟩:=er.froze q;simp only[Rep] at r;obtain⟨a',xs',e,r1,r2⟩:=r;cases e;exact⟨_,z,h _ _ H p ⟨a,xs',rfl,r2,.inl r1⟩⟩
  |bor l=>obtain⟨a,xs,z,r1,r4⟩:=w;exact⟨_,z,h _ G H (Po.refl er) ⟨a,xs,rfl,r4,.inr (SqL.of r1)⟩⟩
  |scr l=>obtain⟨a,xs,z,r1,r4⟩:=w;exact⟨_,z,h _ G H (Po.refl er) ⟨a,xs,rfl,r4,.inr r1⟩⟩
theorem qmE(gd:Gd κ K k X Γ)(A:All κ K k X Γ m)(e:Expr)(x:E)(h:cL (m+1) Γ e=some x):PE X e (tL κ K Gv Hv (zY x (iR Γ.k x))):=by
 have gen:(cE m Γ e).bind Zi=some x->PE X e (tL κ K Gv Hv (zY x (iR Γ.k x))):=λh=>by
  obtain⟨y,h1,h2⟩:=Option.bind_eq_some_iff.mp h;obtain⟨rfl,hv⟩:=zZ h2;refine PE.imp (A.r Gv Hv _ _ h1) λσ H Q hq1=>?_;obtain⟨ρ,G,er,h⟩:=hq1;rw[qgx hv] at h;refine⟨ρ,G,er,Wk.mono (Wk.th h) λx h v G1 H1 p1 r1=>?_⟩;obtain⟨rv,ρ1⟩:=x
  cases rv with
  |val d=>
   cases d with
   |lst l=>simp only[RvR,Rep] at r1;obtain⟨a,xs,rfl,q1,q2⟩:=r1;exact h _ G1 H1 p1 ⟨a,xs,rfl,q2,.inl q1⟩
   |str y=>simp only[RvR,Rep] at r1;subst r1;exact h _ G1 H1 p1 ⟨y,rfl,rfl⟩
   |tup l=>simp only[RvR,Rep] at r1;obtain⟨a,xs,rfl,q1,q2⟩:=r1;exact h _ G1 H1 p1 ⟨a,xs,rfl,q2,q1⟩
   |_=>exact False.elim h
  |tmp l=>obtain⟨a,xs,rfl,h1,h2,h3,h4,h5,h6⟩:=r1;exact h _ _ H1 (p1.freeze h1 h2 h3 h4 h5) ⟨a,xs,rfl,h6.same (qo.upd h4),.inl qf⟩
  |_=>exact False.elim h
 cases e with
 |Name x pos=>obtain⟨i,h1,rfl⟩:=map_some h;exact qep gd h1 pos
 |_=>exact gen h
theorem qcO{G:Hp}{a:Addr}{xs:List V}{l:List D}(h:G a=some (.lst xs)\/SqL K Hv a xs)(r:ql κ G l xs):ItR κ Hv G (Itl K a) l:=by
 intro i G1 H1 s1 s2 s3;have hq:SqL K H1 a xs:=h.elim (λz=>SqL.of (s3 _ _ (s1 _ _ z))) λz=>s2.seq z;refine⟨λd e=>?_,λe=>⟨xs,hq,by rw[<-r.len];omega⟩⟩;obtain⟨v,e1,e2⟩:=r.atD e;refine⟨⟨xs,v,hq,e1⟩,λx H' ⟨z1,z2⟩=>⟨G1,by rw[z1];exactλ_ _ q=>q,λ_ _ q=>q,by rw[z1];exact s3,λ_ o q=>.inl ⟨o,q⟩,?_⟩⟩
 have:=z2 xs hq
 rw[e1] at this;cases this;exact e2.same s1
theorem qiR{G:Hp}{a:Addr}{xs:List V}{l:List D}(h:G a=some (.lst xs)\/SqL K Hv a xs)(r:ql κ G l xs):ItR κ Hv G (Itv K a xs) l.reverse:=by
 intro i G1 H1 s1 s2 s3;have hq:SqL K H1 a xs:=h.elim (λz=>SqL.of (s3 _ _ (s1 _ _ z))) λz=>s2.seq z;have hl:=r.len;refine⟨λd e=>?_,λe=>⟨hq,by simp at e;omega⟩⟩;have hi:i < l.length:=by simpa using (List.getElem?_eq_some_iff.mp e).1
 rw[List.getElem?_reverse hi] at e;obtain⟨v,e1,e2⟩:=r.atD e;refine⟨⟨hq,by omega⟩,λx H' ⟨z1,z2⟩=>⟨G1,by rw[z1];exactλ_ _ q=>q,λ_ _ q=>q,by rw[z1];exact s3,λ_ o q=>.inl ⟨o,q⟩,?_⟩⟩;rw[<-hl,e1] at z2;cases z2;exact e2.same s1
theorem qft{G:Hp}{a:Addr}{xs:List V}{l:List D}(h:G a=some (.tup xs))(r:ql κ G l xs):ItR κ Hv G (Itt K a) l:=by
 intro i G1 H1 s1 s2 s3;have hq:SqT K H1 a xs:=SqT.of (s3 _ _ (s1 _ _ h));refine⟨λd e=>?_,λe=>⟨xs,hq,by rw[<-r.len];omega⟩⟩;obtain⟨v,e1,e2⟩:=r.atD e;refine⟨⟨xs,v,hq,e1⟩,λx H' ⟨z1,z2⟩=>⟨G1,by rw[z1];exactλ_ _ q=>q,λ_ _ q=>q,by rw[z1];exact s3,λ_ o q=>.inl ⟨o,q⟩,?_⟩⟩
 have:=z2 xs hq
 rw[e1] at this;cases this;exact e2.same s1
theorem qiS{G:Hp}{x:Str}:ItR κ Hv G (Its x) (qef x):=by
 intro i G1 H1 s1 s2 s3;have hl:(qef x).length=x.cps.size:=by simp[qef]
 refine⟨λd e=>?_,λe=>by rw[<-e,hl];rfl⟩;unfold qef at e;rw[List.getElem?_map] at e;obtain⟨c,e1,rfl⟩:=Option.map_eq_some_iff.mp e;rw[Array.getElem?_toList] at e1;refine⟨(Array.getElem?_eq_some_iff.mp e1).1,λv H' ⟨z1,c',z2,z3⟩=>⟨G1,by rw[z1];exactλ_ _ q=>q,λ_ _ q=>q,by rw[z1];exact s3,λ_ o q=>.inl ⟨o,q⟩,?_⟩⟩;rw[e1] at z2;cases z2;rw[z3];simp only[Rep]
theorem qfu{G:Hp}{lo hi:Int}:ItR κ Hv G (Itr lo (hi - lo).toNat) (zx lo hi):=by
 intro i G1 H1 s1 s2 s3;refine⟨λd e=>?_,λe=>?_⟩
 ·unfold zx at e;rw[List.getElem?_map] at e;obtain⟨j,e1,rfl⟩:=Option.map_eq_some_iff.mp e;obtain⟨h1,h2⟩:=List.getElem?_eq_some_iff.mp e1;have hi':i < (hi - lo).toNat:=by simpa using h1
  have hj:j=i:=by rw[<-h2];simp
  subst hj;refine⟨hi',λx H' ⟨z1,z2⟩=>⟨G1,by rw[z1];exactλ_ _ q=>q,λ_ _ q=>q,by rw[z1];exact s3,λ_ o q=>.inl ⟨o,q⟩,?_⟩⟩;rw[z2];simp only[Rep]
 ·have hl:(zx lo hi).length=(hi - lo).toNat:=by simp only[zx,List.length_map,List.length_range]
  show(hi - lo).toNat<=i;omega
theorem qcP{G H:Hp}{T:Addr}{x y:V}{d e:D}(sub:qo G H)(hT:H T=none)(hx:Rep κ G d x)(hy:Rep κ G e y) :
  ∃G',qo H (upd H T (.tup [x,y]))/\qo G G'/\qo G' (upd H T (.tup [x,y]))/\(∀a o,G' a=some o->(∃o',G a=some o')\/H a=none)/\Rep κ G' (.tup [d,e]) (.ref T):=by
 have gT:G T=none:=qo.none sub hT;have gs:qo G (upd G T (.tup [x,y])):=qo.upd gT;refine⟨upd G T (.tup [x,y]),qo.upd hT,gs,λb u q=>?_,λb u q=>?_,?_⟩
 ·by_cases hb:b=T
  ·subst hb;rw[qf] at q ⊢;exact q
  ·rw[qd hb] at q ⊢;exact sub b u q
 ·by_cases hb:b=T
  ·subst hb;exact .inr hT
  ·rw[qd hb] at q;exact .inl ⟨u,q⟩
 ·simp only[Rep];exact⟨T,_,rfl,qf,.cons (hx.same gs) %[hy.same gs|0]⟩
theorem qiT{G:Hp}{a:Addr}{xs:List V}{l:List D}(h:G a=some (.lst xs)\/SqL K Hv a xs)(r:ql κ G l xs):ItR κ Hv G (Ite K a) (JT l):=by
 intro i G1 H1 s1 s2 s3;have hq:SqL K H1 a xs:=h.elim (λz=>SqL.of (s3 _ _ (s1 _ _ z))) λz=>s2.seq z;have hlen:(JT l).length=l.length:=by simp[JT]
 refine⟨λd e=>?_,λe=>⟨xs,hq,by rw[<-r.len];omega⟩⟩;have hi:i < l.length:=by rw[<-hlen];exact(List.getElem?_eq_some_iff.mp e).1
 have e0:(JT l)[i]?=some (.tup [.int i,l[i]]):=by unfold JT;rw[List.getElem?_zipWith];simp[hi]
 rw[e0] at e;cases e;obtain⟨v,e1,e2⟩:=r.atD (List.getElem?_eq_getElem hi);refine⟨⟨xs,v,hq,e1⟩,λx H' z=>?_⟩;obtain⟨T,x',rfl,hT,rfl,z2⟩:=z
 have:=z2 xs hq
 rw[e1] at this;cases this;exact qcP s3 hT (by simp only[Rep]) (e2.same s1)
theorem qiU{G:Hp}{a b:Addr}{xs ys:List V}{l n:List D}(h:G a=some (.lst xs)\/SqL K Hv a xs)(r:ql κ G l xs)(h':G b=some (.lst ys)\/SqL K Hv b ys)(r':ql κ G n ys):ItR κ Hv G (Itz K a b) (QR l n):=by
 intro i G1 H1 s1 s2 s3;have hq:SqL K H1 a xs:=h.elim (λz=>SqL.of (s3 _ _ (s1 _ _ z))) λz=>s2.seq z;have hq':SqL K H1 b ys:=h'.elim (λz=>SqL.of (s3 _ _ (s1 _ _ z))) λz=>s2.seq z;have hlen:(QR l n).length=min l.length n.length:=by simp[QR]
 have l1:=r.len;have l2:=r'.len;refine⟨λd e=>?_,λe=>⟨xs,ys,hq,hq',by omega⟩⟩;have hi:i < min l.length n.length:=by rw[<-hlen];exact(List.getElem?_eq_some_iff.mp e).1
 have i1:i < l.length:=by omega
 have i2:i < n.length:=by omega
 have e0:(QR l n)[i]?=some (.tup [l[i],n[i]]):=by unfold QR;rw[List.getElem?_zipWith];simp[i1,i2]
 rw[e0] at e;cases e;obtain⟨v,e1,e2⟩:=r.atD (List.getElem?_eq_getElem i1);obtain⟨w,e3,e4⟩:=r'.atD (List.getElem?_eq_getElem i2);refine⟨⟨xs,ys,v,w,hq,hq',e1,e3⟩,λx H' z=>?_⟩;obtain⟨T,x',y',rfl,hT,rfl,z2⟩:=z;obtain⟨z3,z4⟩:=z2 xs ys hq hq';rw[e1] at z3;rw[e3] at z4;cases z3;cases z4;exact qcP s3 hT (e2.same s1) (e4.same s1)
theorem JV{i:Int}(h:qw i=true):-(2 ^ 62)<=i/\i < 2 ^ 62:=by
 unfold qw at h
 simpa [Bool.and_eq_true] using h
theorem qeq(gd:Gd κ K k X Γ)(A:All κ K k X Γ m)(tg e:Expr)(x:I)(h:(cL m Γ e).map .seq=some x):PI X tg e (tI κ K Gv Hv (iI Γ.k x)):=by
 obtain⟨a',h1,rfl⟩:=map_some h;refine PI.imp (qfs (A.l Gv Hv _ _ h1)) λσ H Q hq1=>?_;obtain⟨ρ,G,er,h⟩:=hq1;refine⟨ρ,G,er,Wk.mono (Wk.th (x:=zY a' (iR Γ.k a') ρ) h) λx h v G1 H1 p1 r1=>?_⟩;obtain⟨⟨b,l⟩,ρ1⟩:=x
 cases b with
 |str=>obtain⟨y,rfl,rfl⟩:=r1;exact .inr ⟨y,rfl,h _ G1 H1 p1 qiS⟩
 |tup=>obtain⟨a,xs,rfl,r2,r3⟩:=r1;exact .inl ⟨a,rfl,.inr ⟨⟨xs,SqT.of (p1.er.sub _ _ r3)⟩,h _ G1 H1 p1 (by rw[gd.hK];exact qft r3 r2)⟩⟩
 |lst=>obtain⟨a,xs,rfl,r2,r3⟩:=r1;refine .inl ⟨a,rfl,.inl ⟨⟨xs,?_⟩,h _ G1 H1 p1 (by rw[gd.hK];exact qcO r3 r2)⟩⟩;rw[gd.hK];exact r3.elim (λz=>SqL.of (p1.er.sub _ _ z)) λz=>p1.er.base.seq z
theorem qaR{a b:Expr}{env:PySem.Env}(h1:qC a=false)(h2:qC b=false):starEach [a,b] env=[(false,eval a env),(false,eval b env)]:=by rw[qe h1,qe h2];rfl
theorem qcQ{G H:Hp}{ρ:Env}{σ:L2.St}{a:Addr}{xs:List V}(gd:Gd κ K k X Γ)(er:ER κ K Gv Hv G H ρ σ)(r:G a=some (.lst xs)\/SqL K Hv a xs):∃xs,SqL X.K H a xs:=by rw[gd.hK];exact⟨xs,r.elim (λz=>SqL.of (er.sub _ _ z)) λz=>er.base.seq z⟩
theorem qgG(gd:Gd κ K k X Γ)(A:All κ K k X Γ m)(tg a:Expr)(f:Str)(p q:Pos)(x:I)(hg:Gl X f)(h:oif (!qC a) (if f = "range" then (cE m Γ a).map .rng else if f = "enumerate" then oif (qfk tg) ((cL m Γ a).map .enum) else if f = "reversed" then (cL m Γ a).map .rev else none)=some x) :
  PI X tg (.Call (.Name f p) [a] [] q) (tI κ K Gv Hv (iI Γ.k x)):=by
 obtain⟨hs,h⟩:=qk h;have hs:qC a=false:=by simpa using hs
 by_cases h1:f = "range"
 ·subst h1;rw[if_pos rfl] at h;obtain⟨a',h1,rfl⟩:=map_some h;refine PI.imp (qca hg (gd.blt _ (2:)) (qg (A.r Gv Hv _ _ h1) qx (qe hs)) (qe hs)) λσ H Q hq1=>?_;obtain⟨ρ,G,er,h⟩:=hq1;refine⟨ρ,G,er,Wk.mono (Wk.th (x:=iR Γ.k a' ρ) h) λx h v G1 H1 p1 r1=>?_⟩
  cases e1:x.1.int? with
  |none=>rw[e1] at h;exact False.elim h
  |some n=>
   rw[e1] at h;obtain⟨hz,h⟩:=Wk.iff h;obtain⟨z1,z2⟩:=JV hz;refine⟨n,by rw[r1.int e1],z1,z2,h _ G1 H1 p1 ?_⟩
   have:=qfu (κ:=κ) (Hv:=Hv) (G:=G1) (lo:=0) (hi:=n)
   rw[Int.sub_zero] at this;exact this
 rw[if_neg h1] at h
 by_cases h2:f = "enumerate"
 ·subst h2;rw[if_pos rfl] at h;obtain⟨ht,h⟩:=qk h;obtain⟨a',h1,rfl⟩:=map_some h
  cases tg with
  |Tuple es j tp=>
   refine PI.imp (qgt hg (gd.blt _ (2:)) (qg (A.l Gv Hv _ _ h1) qx (qe hs)) (qe hs)) λσ H Q hq1=>?_;obtain⟨ρ,G,er,h⟩:=hq1;refine⟨ρ,G,er,Wk.mono (Wk.th (x:=zY a' (iR Γ.k a') ρ) h) λx h v G1 H1 p1 r1=>?_⟩;obtain⟨⟨b,l⟩,ρ1⟩:=x
   cases b with
   |lst=>obtain⟨c,xs,rfl,r2,r3⟩:=r1;exact⟨c,rfl,qcQ gd p1.er r3,h _ G1 H1 p1 (by rw[gd.hK];exact qiT r3 r2)⟩
   |_=>exact False.elim h
  |_=>cases ht
 rw[if_neg h2] at h
 by_cases h3:f = "reversed"
 ·subst h3;rw[if_pos rfl] at h;obtain⟨a',h1,rfl⟩:=map_some h;refine PI.imp (qiw hg (gd.blt _ (2:)) (qg (A.l Gv Hv _ _ h1) qx (qe hs)) (qe hs)) λσ H Q hq1=>?_;obtain⟨ρ,G,er,h⟩:=hq1;refine⟨ρ,G,er,Wk.mono (Wk.th (x:=zY a' (iR Γ.k a') ρ) h) λx h v G1 H1 p1 r1=>?_⟩;obtain⟨⟨b,l⟩,ρ1⟩:=x
  cases b with
  |lst=>obtain⟨c,xs,rfl,r2,r3⟩:=r1;refine⟨c,xs,rfl,?_,h _ G1 H1 p1 (by rw[gd.hK];exact qiR r3 r2)⟩;rw[gd.hK];exact r3.elim (λz=>SqL.of (p1.er.sub _ _ z)) λz=>p1.er.base.seq z
  |_=>exact False.elim h
 rw[if_neg h3] at h;cases h
theorem qgH(gd:Gd κ K k X Γ)(A:All κ K k X Γ m)(tg a b:Expr)(f:Str)(p q:Pos)(x:I)(hg:Gl X f)(h:oif (!(qC a||qC b)) (if f = "range" then o2 (cE m Γ a) (cE m Γ b) .rng2 else if f = "zip" then oif (qfk tg) (o2 (cL m Γ a) (cL m Γ b) .zip) else none)=some x) :
  PI X tg (.Call (.Name f p) [a,b] [] q) (tI κ K Gv Hv (iI Γ.k x)):=by
 obtain⟨hs,h⟩:=qk h;have hs:(qC a||qC b)=false:=by simpa using hs
 rw[Bool.or_eq_false_iff] at hs;obtain⟨s1,s2⟩:=hs
 by_cases h1:f = "range"
 ·subst h1;rw[if_pos rfl] at h;obtain⟨a',b',h1,h2,rfl⟩:=qj h;refine PI.imp (qcb hg (gd.blt _ (2:)) (qg (A.r Gv Hv _ _ h1) (qg (A.r Gv Hv _ _ h2) qx (qe s2)) (qe s1)) (qaR s1 s2) (qe s2)) λσ H Q hq1=>?_;obtain⟨ρ,G,er,h⟩:=hq1;refine⟨ρ,G,er,Wk.mono (Wk.th (x:=iR Γ.k a' ρ) h) λx h v G1 H1 p1 r1=>⟨x.2,G1,p1.er,Wk.mono (Wk.th (x:=iR Γ.k b' x.2) h) λy h w G2 H2 p2 r2=>?_⟩⟩
  cases e1:x.1.int? with
  |none=>rw[e1] at h;exact False.elim h
  |some i=>
   cases e2:y.1.int? with
   |none=>rw[e1,e2] at h;exact False.elim h
   |some j=>rw[e1,e2] at h;obtain⟨hz,h⟩:=Wk.iff h;obtain⟨z1,z2⟩:=JV hz.1;obtain⟨z3,z4⟩:=JV hz.2;exact⟨i,j,by rw[r1.int e1,r2.int e2],⟨z1,z2,z3,z4⟩,h _ G2 H2 (p1.trans p2) qfu⟩
 rw[if_neg h1] at h
 by_cases h2:f = "zip"
 ·subst h2;rw[if_pos rfl] at h;obtain⟨ht,h⟩:=qk h;obtain⟨a',b',h1,h2,rfl⟩:=qj h
  cases tg with
  |Tuple es j tp=>
   refine PI.imp (qiu hg (gd.blt _ (2:)) (qg (A.l Gv Hv _ _ h1) (qg (A.l Gv Hv _ _ h2) qx (qe s2)) (qe s1)) (qaR s1 s2) (qe s2)) λσ H Q hq1=>?_;obtain⟨ρ,G,er,h⟩:=hq1;refine⟨ρ,G,er,Wk.mono (Wk.th (x:=zY a' (iR Γ.k a') ρ) h) λx h v G1 H1 p1 r1=>⟨x.2,G1,p1.er,Wk.mono (Wk.th (x:=zY b' (iR Γ.k b') x.2) h) λy h w G2 H2 p2 r2=>?_⟩⟩;obtain⟨⟨bx,l⟩,ρ1⟩:=x;obtain⟨⟨by',n⟩,ρ2⟩:=y
   cases bx with
   |lst=>
    cases by' with
    |lst=>obtain⟨c,xs,rfl,r3,r4⟩:=r1;obtain⟨d,ys,rfl,r5,r6⟩:=r2;have r4':G2 c=some (.lst xs)\/SqL K Hv c xs:=r4.imp (λz=>p2.gs _ _ z) id;exact⟨c,d,rfl,qcQ gd p2.er r4',qcQ gd p2.er r6,h _ G2 H2 (p1.trans p2) (by rw[gd.hK];exact qiU r4' (r3.same p2.gs) r6 r5)⟩
    |_=>exact False.elim h
   |_=>exact False.elim h
  |_=>cases ht
 rw[if_neg h2] at h;cases h
theorem qmF(gd:Gd κ K k X Γ)(A:All κ K k X Γ m)(tg e:Expr)(x:I)(h:cI (m+1) Γ (qfk tg) e=some x):PI X tg e (tI κ K Gv Hv (iI Γ.k x)):=by
 cases e with
 |Call fn es kws q=>
  cases fn with
  |Name f p=>
   cases kws with
   |nil=>
    have h:(if (decide (f = "range")||decide (f = "enumerate")||decide (f = "zip")||decide (f = "reversed"))=true then _ else _)=some x:=h
    by_cases hf:(decide (f = "range")||decide (f = "enumerate")||decide (f = "zip")||decide (f = "reversed"))=true
    ·rw[if_pos hf] at h;obtain⟨hn,h⟩:=qk h;simp only[Bool.and_eq_true] at hn;have hg:=gd.glo _ hn.1.2
     match es,h with
     |[a],h=>exact qgG gd A tg a f p q x hg h
     |[a,b],h=>exact qgH gd A tg a b f p q x hg h
     |[_,_,_],h=>cases h
     |[],h=>cases h
     | _::_::_::_::_,h=>cases h
    ·rw[if_neg hf] at h;exact qeq gd A tg _ x h
   |cons kw kws=>exact qeq gd A tg _ x h
  |_=>exact qeq gd A tg _ x h
 |_=>exact qeq gd A tg _ x h
end
end DE
namespace DE
open PySem PySem.Spec PyProof.Rows L2
section
variable{κ:KC}{K:Frag}{Gv Hv:Hp}{k m:Nat}{X:Cx}{Γ:Ct}{x:E}
theorem Zl:∀{m:Nat} {es:List Expr} {l:Es},cAs m Γ es=some l->es.any qC=false
 |0,_,_,h=>nomatch h
 | m+1,[],_,_=>rfl
 | m+1,e::es,_,h=>by
  obtain⟨hs,h⟩:=qk h;obtain⟨a,b,_,h2,_⟩:=qj h;rw[List.any_cons,Zl h2,Bool.or_false]
  simpa using hs
theorem Qj{m:Nat}{l:Es}(h:cAs m Γ []=some l):l=.nil:=by
 cases m<;>cases h
 rfl
theorem zo{env:PySem.Env}{pos:Pos}:∀{es:List Expr},es.any qC=false->(backTo pos (starEach es env)).any (·.1)=false
 |[],_=>rfl
 | e::l,h=>by simp only[List.any_cons,Bool.or_eq_false_iff] at h;rw[qe h.1];show(false||(backTo pos (starEach l env)).any (·.1))=false;rw[zo h.2];rfl
theorem ReR.rv{G H G1 H1 G2 H2:Hp}{ρ ρ1:Env}{σ:L2.St}{r:Rv}{v:V}(p:Po κ K Gv Hv σ G H ρ G1 H1 ρ1)(hs:qo H1 H2)(gs:qo G1 G2)(sub:qo G2 H2)(new:∀a o,G2 a=some o->(∃o',G1 a=some o')\/H1 a=none)(h:ReR κ G2 H2 H1 r v) :
  Po κ K Gv Hv σ G H ρ G2 H2 ρ1/\RvR κ K Hv H G2 H2 ρ1 σ r v:=by
 refine⟨p.trans (Po.more p.er hs gs sub new),?_⟩
 cases r with
 |val d=>exact h
 |tmp ds=>obtain⟨a,xs,rfl,h1,h2,h3,h4⟩:=h;exact⟨a,xs,rfl,h1,qo.none p.hs h2,qo.none p.er.base h2,h3,p.er.notOwn h2,h4⟩
 |cell ds=>exact False.elim h
 |scr ds=>exact False.elim h
theorem qer(gd:Gd κ K k X Γ)(A:All κ K k X Γ m)(f:Str)(es:List Expr)(p q:Pos)(hok:jv f=true)(hgl:glB Γ.sc f=true)(ht:Γ.tab.contains f=true)(h:(cAs m Γ es).map (.call f)=some x):PE X (.Call (.Name f p) es [] q) (tR κ K Gv Hv (iR Γ.k x)):=by
 obtain⟨l',h1,rfl⟩:=map_some h;have hs:=Zl h1;obtain⟨fa,fd,ps,F,hm,hk,hb⟩:=gd.fns f ht;obtain⟨n1,n2,n3⟩:=z7 hok
 have key:∀σ H Q,tR κ K Gv Hv (iR Γ.k (.call f l')) σ H Q->qci (spF κ K Γ.cl f) [] E0 (tAs κ K Gv Hv (iAs Γ.k l')) σ H Q:=λσ H Q ⟨ρ,G,er,h⟩=>by refine⟨ρ,G,er,Wk.mono (Wk.th (x:=iAs Γ.k l' ρ) h) λx h vs G1 H1 p1 r1=>?_⟩;show spF κ K Γ.cl f (vs++[]) H1 Q E0;rw[List.append_nil];refine⟨G1,x.1,p1.er.sub,r1,Wk.mono (Wk.th h) λr h v G2 H2 hs gs sub new rr=>?_⟩;obtain⟨z1,z2⟩:=ReR.rv p1 hs gs sub new rr;exact h v G2 H2 z1 z2
 cases es with
 |nil=>obtain rfl:=Qj h1;refine PE.imp (qaG F gd.room (gd.glo f hgl) hm hk hb .nil jJ n1) λσ H Q h=>?_;obtain⟨ρ,G,er,h⟩:=key σ H Q h;exact h [] G H (Po.refl er) rfl
 |cons e l=>simp only[List.any_cons,Bool.or_eq_false_iff] at hs;exact PE.imp (jG F gd.room (gd.glo f hgl) hm hk hb .nil jJ (A.as Gv Hv _ _ h1) n1 (qe hs.1) (zo hs.2)) key
theorem qcR:∀{m:Nat} {es:List Expr} {l:Es},cEs m Γ es=some l->es.any qC=false
 |0,_,_,h=>nomatch h
 | m+1,[],_,_=>rfl
 | m+1,e::es,_,h=>by
  obtain⟨hs,h⟩:=qk h;obtain⟨a,b,_,h2,_⟩:=qj h;rw[List.any_cons,qcR h2,Bool.or_false]
  simpa using hs
theorem qcS{G H:Hp}:∀{ds:List D} {vs:List V},ql κ G ds vs->Jj κ K G H (ds.map .val) vs
 |[],vs,h=>by
  show vs=[]
  simpa only[ql] using h
 | d::ds,vs,h=>by simp only[ql] at h;obtain⟨v,r,rfl,h1,h2⟩:=h;exact⟨v,r,rfl,h1,qcS h2⟩
theorem qes(gd:Gd κ K k X Γ)(A:All κ K k X Γ m)(f:Str)(es:List Expr)(p q:Pos)(hok:jv f=true)(hgl:glB Γ.sc f=true)(ht:Γ.tab.contains f=true)(h:(cEs m Γ es).map (.calF f)=some x):PE X (.Call (.Name f p) es [] q) (tR κ K Gv Hv (iR Γ.k x)):=by
 obtain⟨l',h1,rfl⟩:=map_some h;have hs:=qcR h1;obtain⟨fa,fd,ps,F,hm,hk,hb⟩:=gd.fns f ht;obtain⟨n1,n2,n3⟩:=z7 hok
 have key:∀σ H Q,tR κ K Gv Hv (iR Γ.k (.calF f l')) σ H Q->qci (spF κ K Γ.cl f) [] E0 (tEs κ K Gv Hv (iEs Γ.k l')) σ H Q:=λσ H Q ⟨ρ,G,er,h⟩=>by refine⟨ρ,G,er,Wk.mono (Wk.th (x:=iEs Γ.k l' ρ) h) λx h vs G1 H1 p1 r1=>?_⟩;show spF κ K Γ.cl f (vs++[]) H1 Q E0;rw[List.append_nil];refine⟨G1,x.1.map .val,p1.er.sub,qcS r1,Wk.mono (Wk.th h) λr h v G2 H2 hs gs sub new rr=>?_⟩;obtain⟨z1,z2⟩:=ReR.rv p1 hs gs sub new rr;exact h v G2 H2 z1 z2
 cases es with
 |nil=>
  have e:l'=.nil:=by cases m<;>cases h1;rfl
  subst e;refine PE.imp (qaG F gd.room (gd.glo f hgl) hm hk hb .nil jJ n1) λσ H Q h=>?_;obtain⟨ρ,G,er,h⟩:=key σ H Q h;exact h [] G H (Po.refl er) .nil
 |cons e l=>simp only[List.any_cons,Bool.or_eq_false_iff] at hs;exact PE.imp (jG F gd.room (gd.glo f hgl) hm hk hb .nil jJ (A.es Gv Hv _ _ h1) n1 (qe hs.1) (zo hs.2)) key
theorem qet(gd:Gd κ K k X Γ)(A:All κ K k X Γ m)(f:Str)(a:Expr)(p q:Pos)(hgl:glB Γ.sc f=true)(h:oif (!qC a) (o2 (qk3 f) (cE m Γ a) E.b1)=some x):PE X (.Call (.Name f p) [a] [] q) (tR κ K Gv Hv (iR Γ.k x)):=by
 obtain⟨hs,h⟩:=qk h;have s1:qC a=false:=by simpa using hs
 obtain⟨y,a',h1,h2,rfl⟩:=qj h
 have key:∀σ H Q,tR κ K Gv Hv (iR Γ.k (.b1 y a')) σ H Q->tCB (rC1 κ K Gv Hv y.go) (qd0 (tR κ K Gv Hv (iR Γ.k a')) qhF) σ H Q:=λσ H Q ⟨ρ,G,er,h⟩=>⟨ρ,G,er,Wk.mono (Wk.th (x:=iR Γ.k a' ρ) h) λx h v G1 H1 p1 r1=>⟨x.2,σ,G1,H,x.1,v,rfl,p1.er,r1,Wk.mono (Wk.th h) λz h u G2 H2 p2 r2=>h u G2 H2 (p1.trans p2) (r2.back p1.hs)⟩⟩
 have pa:=qg (A.r Gv Hv _ _ h2) qx (qe s1);unfold qk3 at h1
 split at h1
 ·rename_i e;cases h1;subst e;exact PE.imp (zk (qiF (Gv:=Gv) (Hv:=Hv) gd) (gd.glo _ hgl) (gd.blt _ (2:)) PySem.boot_len pa (2:) (2:) (qe s1) rfl) key
 split at h1
 ·rename_i e;cases h1;subst e;exact PE.imp (jH (qgC (Gv:=Gv) (Hv:=Hv) gd) (gd.glo _ hgl) (gd.blt _ (2:)) PyProof.Rows.boot_list pa (2:) (2:) (qe s1) rfl) key
 split at h1
 ·rename_i e;cases h1;subst e;exact PE.imp (jH (qiI (κ:=κ) (K:=K) (Gv:=Gv) (Hv:=Hv)) (gd.glo _ hgl) (gd.blt _ (2:)) PyProof.Rows.boot_int pa (2:) (2:) (qe s1) rfl) key
 split at h1
 ·rename_i e;cases h1;subst e;exact PE.imp (zk (qcL (Gv:=Gv) (Hv:=Hv) gd) (gd.glo _ hgl) (gd.blt _ (2:)) PyProof.Rows.boot_sorted pa (2:) (2:) (qe s1) rfl) key
 split at h1
 ·rename_i e;cases h1;subst e;exact PE.imp (zk (qiG (Gv:=Gv) (Hv:=Hv) gd) (gd.glo _ hgl) (gd.blt _ (2:)) PyProof.Rows.boot_sum pa (2:) (2:) (qe s1) rfl) key
 split at h1
 ·rename_i e;cases h1;subst e;exact PE.imp (zk (qiH (Gv:=Gv) (Hv:=Hv) gd) (gd.glo _ hgl) (gd.blt _ (2:)) PyProof.Rows.boot_all pa (2:) (2:) (qe s1) rfl) key
 cases h1
theorem qeu(gd:Gd κ K k X Γ)(A:All κ K k X Γ m)(f:Str)(a b:Expr)(p q:Pos)(hgl:glB Γ.sc f=true)(h:oif (!(qC a||qC b)) (o2 (qk4 f) (o2 (cE m Γ a) (cE m Γ b) Prod.mk) λf p=>E.b2 f p.1 p.2)=some x):PE X (.Call (.Name f p) [a,b] [] q) (tR κ K Gv Hv (iR Γ.k x)):=by
 obtain⟨hs,h⟩:=qk h;have hs:(qC a||qC b)=false:=by simpa using hs
 rw[Bool.or_eq_false_iff] at hs;obtain⟨s1,s2⟩:=hs;obtain⟨y,z,h1,h2,rfl⟩:=qj h;obtain⟨a',b',h3,h4,rfl⟩:=qj h2
 have key:∀σ H Q,tR κ K Gv Hv (iR Γ.k (.b2 y a' b')) σ H Q->tCB (rC2 κ K Gv Hv y.go) (qd0 (tR κ K Gv Hv (iR Γ.k a')) (qd0 (tR κ K Gv Hv (iR Γ.k b')) qhF)) σ H Q:=λσ H Q ⟨ρ,G,er,h⟩=>⟨ρ,G,er,Wk.mono (Wk.th (x:=iR Γ.k a' ρ) h) λx h v G1 H1 p1 r1=>⟨x.2,G1,p1.er,Wk.mono (Wk.th (x:=iR Γ.k b' x.2) h) λy h w G2 H2 p2 r2=>⟨y.2,σ,G2,H,H1,x.1,y.1,v,w,rfl,p2.er,r1.keep p2,r2,Wk.mono (Wk.th h) λz h u G3 H3 p3 r3=>h u G3 H3 (p1.trans (p2.trans p3)) (r3.back (p1.trans p2).hs)⟩⟩⟩
 have sa:(backTo q (starEach [b] X.env)).any (·.1)=false:=zo (by simp[s2]);have pa:=qg (A.r Gv Hv _ _ h3) (qg (A.r Gv Hv _ _ h4) qx (qe s2)) (qe s1);unfold qk4 at h1
 split at h1
 ·rename_i e;cases h1;subst e;exact PE.imp (zk (qiJ (Gv:=Gv) (Hv:=Hv) gd) (gd.glo _ hgl) (gd.blt _ (2:)) PyProof.Rows.boot_max pa (2:) (2:) (qe s1) sa) key
 split at h1
 ·rename_i e;cases h1;subst e;exact PE.imp (zk (qiK (Gv:=Gv) (Hv:=Hv) gd) (gd.glo _ hgl) (gd.blt _ (2:)) PyProof.Rows.boot_min pa (2:) (2:) (qe s1) sa) key
 cases h1
noncomputable def tyN:D->String
 |.non=>"NoneType" |.bl _=>"bool" |.int _=>"int" |.str _=>"str" |.lst _=>"list" |.tup _=>"tuple" |.ins ..=>"object"
def Ty.nm:Ty->String
 |.int=>"int" |.bool=>"bool" |.str=>"str" |.list=>"list" |.tuple=>"tuple"
theorem qk9{G H Hb:Hp}{ρ:Env}{σ:L2.St}{r:Rv}{x:V}{t:Ty}{b:Bool}(er:ER κ K Gv Hv G H ρ σ)(h:RvR κ K Hv Hb G H ρ σ r x)(e:t.go r=some b):TyOf K H x (.type (tyN r.data)):=by
 cases r with
 |val d=>
  cases d<;>simp only[RvR,Rep] at h
  ·subst h;exact .non
  ·subst h;exact .bl _
  ·subst h;exact .int _
  ·subst h;exact .str _
  ·obtain⟨a,xs,rfl,h1,_⟩:=h;exact .lst (er.sub _ _ h1)
  ·obtain⟨a,xs,rfl,h1,_⟩:=h;exact .tup (er.sub _ _ h1)
  ·cases t<;>cases e
 |tmp l=>obtain⟨a,xs,rfl,h1,_⟩:=h;exact .lst h1
 |cell l=>obtain⟨a,xs,rfl,h1,_⟩:=h;exact .lst h1
 |scr l=>cases e
theorem qiV{r:Rv}{t:Ty}{b:Bool}(e:t.go r=some b):PySem.W.kitOne K (.type (tyN r.data)) (.type t.nm)=some b:=by
 have main:∀d:D,t.of d=some b->PySem.W.kitOne K (.type (tyN d)) (.type t.nm)=some b:=λd e=>by cases t<;>cases d<;>cases e<;>rfl
 cases r with
 |val d=>exact main d e
 |tmp l=>exact main (.lst l) e
 |cell l=>exact main (.lst l) e
 |scr l=>cases e
theorem qcT{X:Cx}:zR X (.builtin "isinstance") (λvs H Q=>∃x c t cv b,vs=[x,c]/\TyOf X.K H x t/\qK c cv/\(∀u,qK c u->u=cv)/\PySem.W.kitOne X.K t cv=some b/\Q (.bl b) H):=by intro pins s σ H xs us Q I r h;obtain⟨x,c,t,cv,b,rfl,ty,rc,uq,e,q⟩:=h;obtain⟨u,v,rfl,ru,rv⟩:=qbt r;obtain rfl:v=cv:=uq v rv;exact QY I ru ty e λtk=>⟨.bl b,H,I.tok tk,rfl,q⟩
theorem qiW(gd:Gd κ K k X Γ)(A:All κ K k X Γ m)(a:Expr)(t:Str)(p tp q:Pos)(hgl:glB Γ.sc "isinstance" = true)
  (h:oif (jv t&&glB Γ.sc t&&(qb0 Γ.N t).isNone&&!qC a) (match qkt t with |some y=>(cE m Γ a).map (E.isi y) |none=>(cE m Γ a).map (.isc t))=some x):PE X (.Call (.Name "isinstance" p) [a,.Name t tp] [] q) (tR κ K Gv Hv (iR Γ.k x)):=by
 obtain⟨hc,h⟩:=qk h;simp only[Bool.and_eq_true,Bool.not_eq_true'] at hc;obtain⟨⟨⟨c1,c2⟩,c3⟩,s1⟩:=hc
 cases hy:qkt t with
 |some y=>
  rw[hy] at h;obtain⟨a',h1,rfl⟩:=map_some h
  have hb:PE X (.Name t tp) (tC (.ty y.nm)):=by
   unfold qkt at hy
   split at hy
   ·rename_i e;cases hy;subst e;exact JI (gd.glo _ c2) (gd.blt _ (2:)) PyProof.Rows.boot_int rfl
   split at hy
   ·rename_i e;cases hy;subst e;exact JI (gd.glo _ c2) (gd.blt _ (2:)) PyProof.Rows.boot_bool rfl
   split at hy
   ·rename_i e;cases hy;subst e;exact JI (gd.glo _ c2) (gd.blt _ (2:)) PyProof.Rows.boot_str rfl
   split at hy
   ·rename_i e;cases hy;subst e;exact JI (gd.glo _ c2) (gd.blt _ (2:)) PyProof.Rows.boot_list rfl
   split at hy
   ·rename_i e;cases hy;subst e;exact JI (gd.glo _ c2) (gd.blt _ (2:)) PyProof.Rows.boot_tuple rfl
   cases hy
  refine PE.imp (zk qd9 (gd.glo _ hgl) (gd.blt _ (2:)) PyProof.Rows.boot_isinstance (qg (A.r Gv Hv _ _ h1) (qg hb qx rfl) (qe s1)) (2:) (2:) (qe s1) rfl) λσ H Q hq1=>?_;obtain⟨ρ,G,er,h⟩:=hq1;refine⟨ρ,G,er,Wk.mono (Wk.th (x:=iR Γ.k a' ρ) h) λx h v G1 H1 p1 r1=>?_⟩;obtain⟨b,e1,h⟩:=Wk.of (Wk.th h);exact⟨v,y.nm,_,b,rfl,by rw[gd.hK];exact qk9 p1.er r1 e1,by rw[gd.hK];exact qiV e1,h _ G1 H1 p1 (by simp only[RvR,Rep])⟩
 |none=>
  rw[hy] at h;obtain⟨a',h1,rfl⟩:=map_some h;rintro pins s σ H Q I ⟨ρ,G,er,h⟩;have h2:=Wk.th (x:=iR Γ.k a' ρ) h
  cases e1:iR Γ.k a' ρ with
  |exc c l=>rw[e1] at h2;exact h2.elim
  |no=>rw[e1] at h2;exact h2.elim
  |ok x=>
   rw[e1] at h2;obtain⟨b,e2,h3⟩:=Wk.of (Wk.th (x:=R.of (qfi Γ.cs x.1 t)) h2)
   obtain⟨c,ns,ds,ex,e2⟩:∃c ns ds,x.1=.val (.ins c ns ds)/\Γ.cs.sub c t=some b:=by
    obtain⟨r,env⟩:=x
    cases r with
    |val d=>
     cases d with
     |ins c ns ds=>exact⟨c,ns,ds,rfl,e2⟩
     |_=>cases e2
    |_=>cases e2
   obtain⟨C,T,hC,hty,hT,kt⟩:=gd.subs c t b e2;refine(zk qcT (gd.glo _ hgl) (gd.blt _ (2:)) PyProof.Rows.boot_isinstance (qg (A.r Gv Hv _ _ h1) (qg (JH (v:=.ref T) (gd.glo _ c2) hT rfl (z7 c1).1) qx rfl) (qe s1)) (2:) (2:) (qe s1) rfl) pins s σ H Q I ⟨ρ,G,er,?_⟩;rw[e1];intro v G1 H1 p1 r1;rw[ex] at r1;simp only[RvR,Rep] at r1;obtain⟨p',dx,C',xs,hc',rfl,h4,hl,h5⟩:=r1;rw[hC] at hc';cases hc';exact⟨.ref p',.ref T,.ref C,.ref T,b,rfl,hty _ _ _ _ (p1.er.sub _ _ h4),rfl,λu hu=>hu,kt,h3 _ G1 H1 p1 (by simp only[RvR,Rep])⟩
theorem qad{o:Expr}(h:Ji o=true)(x:Str)(env:PySem.Env):attributeBase o x env (eval o env)=eval o env:=by cases o<;>first | rfl | (simp[Ji] at h)
theorem qgI{cs:Cs}{r:Rv}{x:Str}{d:D}(h:qcF cs r x=some d):∃c ns ds,r=.val (.ins c ns ds)/\cs.fld c x=true/\(ns.zip ds).lookup x=some d:=by
 cases r with
 |val e=>
  cases e with
  |ins c ns ds=>
   have h:(if cs.fld c x=true then (ns.zip ds).lookup x else none)=some d:=h
   by_cases hf:cs.fld c x=true
   ·rw[if_pos hf] at h;exact⟨c,ns,ds,rfl,hf,h⟩
   ·rw[if_neg hf] at h;cases h
  |_=>cases h
 |_=>cases h
theorem qiX{cs:Cs}{r:Rv}{x f:Str}(h:mtD cs r x=some f):∃c ns ds,r=.val (.ins c ns ds)/\ns.contains x=false/\cs.mt c x=some f:=by
 cases r with
 |val e=>
  cases e with
  |ins c ns ds=>
   have h:(if ns.contains x=true then none else cs.mt c x)=some f:=h
   by_cases hf:ns.contains x=true
   ·rw[if_pos hf] at h;cases h
   ·rw[if_neg hf] at h;exact⟨c,ns,ds,rfl,by simpa using hf,h⟩
  |_=>cases h
 |_=>cases h
theorem qaS{G:Hp}{x:Str}{d:D}:∀{ns:List Str} {ds:List D} {xs:List V},ql κ G ds xs->(ns.zip ds).lookup x=some d->∃v,(ns.zip xs).lookup x=some v/\Rep κ G d v
 |[],_,_,_,h=>by simp at h
 | n::ns,[],_,_,h=>by simp at h
 | n::ns,e::ds,xs,r,h=>by
  simp only[ql] at r;obtain⟨v,us,rfl,r1,r2⟩:=r;rw[List.zip_cons_cons,List.lookup_cons] at h
  cases hx:(x == n) with
  |true=>rw[hx] at h;cases h;exact⟨v,by rw[List.zip_cons_cons,List.lookup_cons,hx],r1⟩
  |false=>rw[hx] at h;obtain⟨u,z1,z2⟩:=qaS r2 h;exact⟨u,by rw[List.zip_cons_cons,List.lookup_cons,hx];exact z1,z2⟩
theorem qaT{x:Str}:∀{ns:List Str} {xs:List V},ns.contains x=false->(ns.zip xs).lookup x=none
 |[],_,_=>by simp
 | n::ns,[],_=>by simp
 | n::ns,v::xs,h=>by simp only[List.contains_cons,Bool.or_eq_false_iff] at h;rw[List.zip_cons_cons,List.lookup_cons,h.1];exact qaT h.2
theorem qiY(gd:Gd κ K k X Γ)(A:All κ K k X Γ m)(o:Expr)(y:Str)(pos:Pos)(h:cE (m+1) Γ (.Attribute o y pos)=some x):PE X (.Attribute o y pos) (tR κ K Gv Hv (iR Γ.k x)):=by obtain⟨ho,h⟩:=qk h;obtain⟨a',h1,rfl⟩:=map_some h;refine PE.imp (qif (A.r Gv Hv _ _ h1) (qad ho y X.env)) λσ H Q hq1=>?_;obtain⟨ρ,G,er,h⟩:=hq1;refine⟨ρ,G,er,Wk.mono (Wk.th (x:=iR Γ.k a' ρ) h) λz h v G1 H1 p1 r1=>?_⟩;obtain⟨d,e1,h⟩:=Wk.of (Wk.th h);obtain⟨c,ns,ds,e2,e3,e4⟩:=qgI e1;rw[e2] at r1;simp only[RvR,Rep] at r1;obtain⟨p,dx,C,xs,hc,rfl,h1,hl,h2⟩:=r1;obtain⟨u,e5,ru⟩:=qaS h2 e4;exact⟨p,C,dx,_,u,rfl,p1.er.sub _ _ h1,gd.cls c C hc,gd.flds c y C e3 hc,e5,h u G1 H1 p1 ru⟩
theorem Zm{o:Expr}{x:Str}{ap q:Pos}{es:List Expr}{env:PySem.Env}(ho:Ji o=true)(hs:es.any qC=false)(hl:es.length < 30)(hp:(ap.endLine == q.line)=true) :
  eval (.Call (.Attribute o x ap) es [] q) env=(do
   let ov<-eval o env
   standAt ap.atName
   let (f,first)<-holding [ov] (getMethod ov x (do return (<-importBound o env).getD true))
   callWith q f first (backTo q (starEach es env)) (backToKw q (keywordEach [] env))):=by
 have hm:methodCallForm (es.length+([]:List Keyword).length) (backTo q (starEach es env)) (backToKw q (keywordEach [] env))=true:=by
  have e:=zo (pos:=q) (env:=env) hs;unfold methodCallForm;simp only[Bool.and_eq_true,decide_eq_true_eq];refine⟨⟨?_,rfl⟩,?_⟩
  ·rw[List.all_eq_true];intro y hy
   have:=List.any_eq_false.mp e y hy
   simpa using this
  ·show es.length+0+0 < 30;omega
 show(do
  let ov<-attributeBase o x env (eval o env)
  standAt ap.atName
  methodCall o x ap q env ov (es.length+([]:List Keyword).length) (backTo q (starEach es env)) (backToKw q (keywordEach [] env)))=_
 rw[qad ho];unfold methodCall;simp only[hm,calleeOf,methodCallPos,if_true,hp,Bool.not_true,Bool.false_or];rfl
theorem Zn{G:Hp}:∀{l:List D} {xs:List V} {zs:List Str},ql κ G l xs->Qb l=some zs->xs=zs.map V.str
 |[],xs,zs,h,e=>by simp only[ql] at h;cases e;exact h
 | d::l,xs,zs,h,e=>by
  simp only[ql] at h;obtain⟨v,r,rfl,h1,h2⟩:=h
  cases d with
  |str z=>
   simp only[Rep] at h1;subst h1;have e:(Qb l).map (z :: ·)=some zs:=e
   cases q:Qb l with
   |none=>rw[q] at e;cases e
   |some ys=>rw[q] at e;cases e;rw[Zn h2 q];rfl
  |_=>cases e
theorem qiZ{r:Rv}{as:List Ar}{x:Rv}(h:ixM r as=.ok x):∃l zs s,r.plain?=some l/\as=[.val (.str s)]/\Qb l=some zs/\s∈zs/\x=.val (.int (zs.idxOf s:Nat)):=by
 unfold ixM at h
 split at h
 ·rename_i l s e
  cases q:Qb l with
  |none=>rw[q] at h;cases h
  |some zs=>
   rw[q] at h;dsimp only at h
   split at h
   ·rename_i hc;cases h;exact⟨l,zs,s,e,rfl,q,by simpa using hc,rfl⟩
   ·cases h
 ·cases h
theorem qi0{r:Rv}(as:List Ar)(h:r.plain?=none):ixM r as=.no:=by unfold ixM;rw[h]
theorem qev{pins:PP}{s:Shared}{σ:L2.St}{H G:Hp}{Q:VK}{ρ:Env}{y:Rv×Env}{o:Expr}{ap q:Pos}{es:List Expr}{a':E}{l':Es}(A:All κ K k X Γ m)(ho:Ji o=true)(hp:(ap.endLine == q.line)=true)(hl:es.length < 30)(h1:cE m Γ o=some a')(h2:cAs m Γ es=some l')
  (er:ER κ K Gv Hv G H ρ σ) (e1:iR Γ.k a' ρ=.ok y) (h:Wk (iAs Γ.k l' y.2) (λz=>Wk ((ixM y.1 z.1).th λr=>R.ok (r,z.2)) (λx=>∀v G' H',Po κ K Gv Hv σ G H ρ G' H' x.2->RvR κ K Hv H G' H' x.2 σ x.1 v->Q v H'))) (I:Inv X pins σ H s) :
  wpAny (model X.prog X.w) X.A (eval (.Call (.Attribute o "index" ap) es [] q) X.env) (EP X pins σ Q) X.xe s:=by
 cases e3:y.1.plain? with
 |none=>
  refine False.elim ?_
  cases e4:iAs Γ.k l' y.2 with
  |ok z=>rw[e4] at h;have h:Wk ((ixM y.1 z.1).th λr=>R.ok (r,z.2)) _:=h;rw[qi0 z.1 e3] at h;exact h
  |exc c l=>rw[e4] at h;exact h
  |no=>rw[e4] at h;exact h
 |some l0=>
  have hs:=Zl h2
  cases es with
  |nil=>
   refine False.elim ?_;obtain rfl:=Qj h2;have h:Wk ((ixM y.1 []).th λr=>R.ok (r,y.2)) _:=h
   have:ixM y.1 []=.no:=by unfold ixM;rw[e3]
   rw[this] at h;exact h
  |cons e l=>
   have hs':=hs;simp only[List.any_cons,Bool.or_eq_false_iff] at hs
   have few:((backTo q (starEach (e::l) X.env)).all (λx=>!x.1)&&(backToKw q (keywordEach [] X.env)).all (λx=>x.1.isSome)&&decide ((e::l).length+([]:List Keyword).length+(if ([]:List Keyword).isEmpty then 0 else 1) < 30))=true:=by
    have e:=zo (pos:=q) (env:=X.env) hs';simp only[Bool.and_eq_true,decide_eq_true_eq];refine⟨⟨?_,rfl⟩,?_⟩
    ·rw[List.all_eq_true];intro y hy
     have:=List.any_eq_false.mp e y hy
     simpa using this
    ·show _+0+0 < 30;omega
   refine qgi PySem.F.plainAttrs_list PySem.F.slot_list_index PySem.F.type_list_index qee (A.r Gv Hv _ _ h1) (A.as Gv Hv _ _ h2) (qad ho _ _) few hp (qe hs.1) (zo hs.2) pins s σ H Q I ?_;refine⟨ρ,G,er,?_⟩;rw[e1];intro v G1 H1 p1 r1;obtain⟨a,xs,rfl,h1,h2⟩:=r1.plain p1.er e3;refine⟨.inl ⟨rfl,xs,SqL.of h1⟩,y.2,G1,p1.er,Wk.mono h λz h vs G2 H2 p2 r2=>?_⟩
   cases e5:ixM y.1 z.1 with
   |ok x=>
    rw[e5] at h;obtain⟨l1,zs,s1,q1,q2,q3,q4,rfl⟩:=qiZ e5;rw[e3] at q1;cases q1;rw[q2] at r2;obtain⟨u,r,rfl,ru,rfl⟩:=r2;have ru:u=.str s1:=by simpa only[ArR,Rep] using ru
    subst ru;refine⟨a,zs,s1,rfl,rfl,?_,q4,?_⟩
    ·rw[<-Zn h2 q3];exact p2.hs _ _ h1
    ·exact h _ G2 H2 (p1.trans p2) (by simp only[RvR,Rep])
   |exc c l=>rw[e5] at h;exact False.elim h
   |no=>rw[e5] at h;exact False.elim h
theorem qgJ(gd:Gd κ K k X Γ)(A:All κ K k X Γ m)(o:Expr)(y:Str)(ap:Pos)(es:List Expr)(q:Pos)(h:cE (m+1) Γ (.Call (.Attribute o y ap) es [] q)=some x):PE X (.Call (.Attribute o y ap) es [] q) (tR κ K Gv Hv (iR Γ.k x)):=by
 have h:(if (Ji o&&(ap.endLine == q.line)&&decide (es.length < 30))=true then _ else none)=_:=h
 by_cases hc:(Ji o&&(ap.endLine == q.line)&&decide (es.length < 30))=true
 case neg=>rw[if_neg hc] at h;cases h
 rw[if_pos hc] at h;obtain⟨a',l',h1,h2,rfl⟩:=qj h;rintro pins s σ H Q I ⟨ρ,G,er,h⟩;have h:=Wk.th (x:=iR Γ.k a' ρ) h;simp only[Bool.and_eq_true,decide_eq_true_eq] at hc;obtain⟨⟨ho,hp⟩,hl⟩:=hc
 cases e1:iR Γ.k a' ρ with
 |exc c l=>rw[e1] at h;exact h.elim
 |no=>rw[e1] at h;exact h.elim
 |ok w=>
  rw[e1] at h
  have h:Wk (match mtD Γ.cs w.1 y with
   |some f=>(iAs Γ.k l' w.2).th λz=>(Γ.cl f (toAr w.1::z.1)).th λr=>R.ok (r,z.2)
   |none=>if y = "index" then (iAs Γ.k l' w.2).th λz=>(ixM w.1 z.1).th λr=>R.ok (r,z.2) else R.no) _:=h
  cases e2:mtD Γ.cs w.1 y with
  |none=>rw[e2] at h;obtain⟨hx,h⟩:=Wk.iff h;subst hx;exact qev A ho hp hl h1 h2 er e1 (Wk.th h) I
  |some f=>
  rw[e2] at h;obtain⟨c,ns,ds,e3,e4,e5⟩:=qiX e2;obtain⟨C,fa,fd,ps,hC,M,F,B⟩:=gd.mts c y f e5;have h:=Wk.th (x:=iAs Γ.k l' w.2) h;have hs:=Zl h2;have hs0:=hs
  have all:qf8 C y (spF κ K Γ.cl f) [] E0 (tR κ K Gv Hv (iR Γ.k a')) (tAs κ K Gv Hv (iAs Γ.k l')) σ H Q:=by
   refine⟨ρ,G,er,?_⟩;rw[e1];intro v G1 H1 p1 r1;have r1':=r1;rw[e3] at r1';simp only[RvR,Rep] at r1';obtain⟨p',dx,C',xs,hc',rfl,h4,hl,h5⟩:=r1';rw[hC] at hc';cases hc';refine⟨p',dx,_,rfl,p1.er.sub _ _ h4,qaT e4,w.2,G1,p1.er,Wk.mono h λz h vs G2 H2 p2 r2=>?_⟩;show spF κ K Γ.cl f (V.ref p'::(vs++[])) H2 Q E0;rw[List.append_nil];refine⟨G2,toAr w.1::z.1,p2.er.sub,⟨_,_,rfl,?_,r2⟩,Wk.mono (Wk.th h) λr h v G3 H3 hs gs sub new rr=>?_⟩
   ·rw[e3] at r1 ⊢;exact Rep.same p2.gs r1
   ·obtain⟨z1,z2⟩:=ReR.rv (p1.trans p2) hs gs sub new rr;exact h v G3 H3 z1 z2
  cases es with
  |nil=>obtain rfl:=Qj h2;refine qd1 (A.r Gv Hv _ _ h1) (gd.cls c C hC) M F gd.room B .nil jJ (ht:=Zm ho hs0 hl hp) pins s σ H Q I ?_;obtain⟨ρ',G',er',z⟩:=all;refine⟨ρ',G',er',Wk.mono z λx z v G1 H1 p1 r1=>?_⟩;obtain⟨a,dx,fs,z1,z2,z3,ρ2,G2,er2,z⟩:=z v G1 H1 p1 r1;exact⟨a,dx,fs,z1,z2,z3,z [] G2 H1 (Po.refl er2) rfl⟩
  |cons e l=>simp only[List.any_cons,Bool.or_eq_false_iff] at hs;exact qga (A.r Gv Hv _ _ h1) (gd.cls c C hC) M F gd.room B .nil jJ (A.as Gv Hv _ _ h2) (qe hs.1) (zo hs.2) (ht:=Zm ho hs0 hl hp) pins s σ H Q I all
theorem qgK(gd:Gd κ K k X Γ)(A:All κ K k X Γ m)(f:Str)(es:List Expr)(p q:Pos)(hok:jv f=true)(hgl:glB Γ.sc f=true)(ht:Γ.cs.tab.contains f=true)(h:(cAs m Γ es).map (.new f)=some x):PE X (.Call (.Name f p) es [] q) (tR κ K Gv Hv (iR Γ.k x)):=by
 obtain⟨l',h1,rfl⟩:=map_some h;have hs:=Zl h1;rcases gd.mks f ht with hno | ⟨C,fa,fd,ps,sp,M,F,hm,hb,hk,hsp⟩
 ·rintro pins s σ H Q I ⟨ρ,G,er,h⟩;have h:=Wk.th (x:=iAs Γ.k l' ρ) h
  cases e1:iAs Γ.k l' ρ with
  |ok x=>rw[e1] at h;have h:Wk ((Γ.nw f x.1).th _) _:=h;rw[hno] at h;exact h.elim
  |exc c l=>rw[e1] at h;exact h.elim
  |no=>rw[e1] at h;exact h.elim
 obtain⟨n1,n2,n3⟩:=z7 hok
 have rm:Room (k - 1+1) X.A:=by rw[show k - 1+1=k by omega];exact gd.room
 have key:∀σ H Q,tR κ K Gv Hv (iR Γ.k (.new f l')) σ H Q->qf9 C sp [] E0 (tAs κ K Gv Hv (iAs Γ.k l')) σ H Q:=λσ H Q ⟨ρ,G,er,h⟩=>by refine⟨ρ,G,er,Wk.mono (Wk.th (x:=iAs Γ.k l' ρ) h) λx h vs G1 H1 p1 r1=>?_⟩;show∀x dx,H1 x=none->H1 dx=none->dx≠x->sp (.ref x::(vs++[])) _ _ E0;rw[List.append_nil];refine hsp vs H1 Q ⟨G1,x.1,p1.er.sub,r1,Wk.mono (Wk.th h) λr h v G2 H2 hs gs sub new rr=>?_⟩;obtain⟨z1,z2⟩:=ReR.rv p1 hs gs sub new rr;exact h v G2 H2 z1 z2
 cases es with
 |nil=>obtain rfl:=Qj h1;refine PE.imp (qd2 M F rm (gd.glo f hgl) hm hb .nil jJ n1) λσ H Q h=>?_;obtain⟨ρ,G,er,h⟩:=key σ H Q h;exact h [] G H (Po.refl er) rfl
 |cons e l=>simp only[List.any_cons,Bool.or_eq_false_iff] at hs;exact PE.imp (qgb M F rm (gd.glo f hgl) hm hb .nil jJ (A.as Gv Hv _ _ h1) n1 (qe hs.1) (zo hs.2)) key
end
end DE
namespace DE
open PySem PySem.Spec PyProof.Rows L2
noncomputable def gT(κ:KC)(K:Frag)(t:Tg):TG:=λv σ H Q=>∃(Gv Hv:Hp) (ρ:Env) (G:Hp) (d:D),ER κ K Gv Hv G H ρ σ/\Rep κ G d v/\Wk (t.go d ρ) λρ'=>∀σ',ER κ K Gv Hv G H ρ' σ'->Q σ' H
noncomputable def gNs(κ:KC)(K:Frag)(l:List Nat):TGs:=λvs σ H Q=>∃(Gv Hv:Hp) (ρ:Env) (G:Hp) (ds:List D),ER κ K Gv Hv G H ρ σ/\ql κ G ds vs/\Wk (Qe l ds ρ) λρ'=>∀σ',ER κ K Gv Hv G H ρ' σ'->Q σ' H
theorem PG.imp{X:Cx}{tg:Expr}{t t':TG}(h:PG X tg t')(i:∀v σ H Q,t v σ H Q->t' v σ H Q):PG X tg t:=λpins s σ H v u Q I r hw=>h pins s σ H v u Q I r (i v σ H Q hw)
theorem PGs.imp{X:Cx}{tg:List Expr}{t t':TGs}(h:PGs X tg t')(i:∀v σ H Q,t v σ H Q->t' v σ H Q):PGs X tg t:=λpins s σ H v u Q I r hw=>h pins s σ H v u Q I r (i v σ H Q hw)
section
variable{κ:KC}{K:Frag}{Gv Hv:Hp}{k m:Nat}{X:Cx}{Γ:Ct}{x:E}
theorem qfv(gd:Gd κ K k X Γ){y:Str}{i:Nat}(h:qgv Γ y=some i):L2.Loc X.env.scope y/\(X.fn y=true\/X.env.scope.names.lookup y=some .local)/\X.N.Nodup/\X.N[i]?=some y:=by unfold qgv at h;obtain⟨hc,h⟩:=qk h;rw[Bool.and_eq_true] at hc;obtain⟨l1,l2⟩:=gd.loc y hc.1;exact⟨l1,l2,by rw[gd.hN];exact gd.nd,by rw[gd.hN];exact Qf h⟩
theorem qi1(gd:Gd κ K k X Γ){y:Str}{i:Nat}(h:qgv Γ y=some i)(pos:Pos):PG X (.Name y pos) (gT κ K (.one i)):=by obtain⟨l1,l2,l3,l4⟩:=qfv gd h;refine PG.imp (qfZ (i:=i) l3 l4 l1 l2) λv σ H Q hq1=>?_;obtain⟨Gv,Hv,ρ,G,d,er,r,h⟩:=hq1;exact h _ (er.setVal r)
theorem qaU{e:Expr}{es:List Expr}{j:Nat}{p:Pos}{xs:List Str}(h:zw (.Tuple (e::es) j p)=some xs):∃x pos r,e=.Name x pos/\xs=x::r/\zw (.Tuple es j p)=some r:=by
 have q0:zw (.Tuple es j p)=(es.foldr (λe r=>match e,r with |.Name x _,some l=>some (x::l) |_,_=>none) (some []):Option (List Str)):=rfl
 cases e with
 |Name x pos=>
  cases q:(es.foldr (λe r=>match e,r with |.Name x _,some l=>some (x::l) |_,_=>none) (some []):Option (List Str)) with
  |none=>have h':(match (Expr.Name x pos:Expr),(es.foldr (λe r=>match e,r with |.Name x _,some l=>some (x::l) |_,_=>none) (some []):Option (List Str)) with |.Name x _,some l=>some (x::l) |_,_=>none)=some xs:=h;rw[q] at h';cases h'
  |some l=>have h':(match (Expr.Name x pos:Expr),(es.foldr (λe r=>match e,r with |.Name x _,some l=>some (x::l) |_,_=>none) (some []):Option (List Str)) with |.Name x _,some l=>some (x::l) |_,_=>none)=some xs:=h;rw[q] at h';cases h';exact⟨x,pos,l,rfl,rfl,q0.trans q⟩
 |_=>cases h
theorem qfw(gd:Gd κ K k X Γ){j:Nat}{p:Pos}:∀{es:List Expr} {xs:List Str} {l:List Nat},zw (.Tuple es j p)=some xs->qeh Γ xs=some l->PGs X es (gNs κ K l)
 | [],xs,l,h,h'=>by
  have e:xs=[]:=by unfold zw at h;cases h;rfl
  subst e;cases h';refine PGs.imp qf0 λvs σ H Q hq1=>?_;obtain⟨Gv,Hv,ρ,G,ds,er,r,h⟩:=hq1
  cases ds with
  |nil=>simp only[ql] at r;exact⟨r,h σ er⟩
  |cons d ds=>exact False.elim h
 | e::es,xs,l,h,h'=>by
  obtain⟨x,pos,r,rfl,rfl,h0⟩:=qaU h;obtain⟨i,l,h1,h2,rfl⟩:=qj h';refine PGs.imp (qdV (qi1 gd h1 pos) (qfw gd h0 h2)) λvs σ H Q hq1=>?_;obtain⟨Gv,Hv,ρ,G,ds,er,rr,h⟩:=hq1
  cases ds with
  |nil=>exact False.elim h
  |cons d ds=>simp only[ql] at rr;obtain⟨v,vr,rfl,r1,r2⟩:=rr;exact⟨v,vr,rfl,Gv,Hv,ρ,G,d,er,r1,λσ1 er1=>⟨Gv,Hv,_,G,ds,er1,r2,h⟩⟩
theorem Zo{env:PySem.Env}{j:Nat}{p:Pos}:∀{es:List Expr} {xs:List Str} {l:List Nat},zw (.Tuple es j p)=some xs->qeh Γ xs=some l->(assignEach es env).length=l.length/\(assignEach es env).findIdx? (·.1)=none
 | [],xs,l,h,h'=>by unfold zw at h;cases h;cases h';exact⟨rfl,rfl⟩
 | e::es,xs,l,h,h'=>by obtain⟨x,pos,r,rfl,rfl,h0⟩:=qaU h;obtain⟨i,l,h1,h2,rfl⟩:=qj h';obtain⟨h1,h2⟩:=Zo (env:=env) h0 h2;have e:assignEach (.Name x pos::es) env=(false,assign (.Name x pos) env)::assignEach es env:=rfl;rw[e];refine⟨by simp[h1],?_⟩;rw[List.findIdx?_cons];simp[h2]
theorem Zp:∀{l:List Nat} {ds:List D} {ρ:Env} {F:Env->Prop},Wk (Qe l ds ρ) F->ds.length=l.length
 |[],[],_,_,_=>rfl
 | [],_::_,_,_,h=>False.elim h
 | _::_,[],_,_,h=>False.elim h
 | i::l,d::ds,ρ,F,h=>congrArg (· + 1) (Zp (l:=l) (ds:=ds) (ρ:=ρ.set i (.val d)) h)
theorem qew(gd:Gd κ K k X Γ)(tg:Expr){t:Tg}(h:cTg Γ tg=some t):PG X tg (gT κ K t):=by
 cases tg with
 |Name x pos=>obtain⟨i,h1,rfl⟩:=map_some h;exact qi1 gd h1 pos
 |Tuple es j p=>
  obtain⟨hs,h⟩:=qk h
  cases hx:zw (.Tuple es j p) with
  |none=>rw[hx] at h;cases h
  |some xs=>
   rw[hx] at h;obtain⟨l,h2,rfl⟩:=map_some h;obtain⟨t1,t2⟩:=Zo (env:=X.env) hx h2;refine PG.imp (qh3 (n:=l.length) gd.calm (qfw gd hx h2) t1 t2) λv σ H Q hq1=>?_;obtain⟨Gv,Hv,ρ,G,d,er,r,h⟩:=hq1
   cases d with
   |tup ds=>have h:Wk (Qe l ds ρ) _:=h;simp only[Rep] at r;obtain⟨a,ys,rfl,r1,r2⟩:=r;exact⟨a,ys,rfl,SqT.of (er.sub _ _ r1),by rw[<-r2.len];exact Zp h,Gv,Hv,ρ,G,ds,er,r2,h⟩
   |_=>exact False.elim h
 |_=>cases h
theorem qfx{env:PySem.Env}:∀{names:List (Str×NameKind)} {x:Str},names.lookup x=some .globalImplicit->
  (names.map λ(n,k)=>if (k == NameKind.free&&env.scope.kind == .function&&env.kindOf n == some .cell) then (n,NameKind.cell) else (n,k)).lookup x=some .globalImplicit
 |[],_,h=>by simp at h
 | (n,k)::r,x,h=>by
  simp only[List.map_cons]
  by_cases hx:x=n
  ·subst hx;simp[List.lookup_cons] at h;subst h;rw[if_neg (by simp)];simp[List.lookup_cons]
  ·have hb:(x == n)=false:=by simpa using hx
   rw[List.lookup_cons,hb] at h;have ih:=qfx (env:=env) h
   by_cases hc:(k == NameKind.free&&env.scope.kind == .function&&env.kindOf n == some .cell)=true
   ·rw[if_pos hc];simp only[List.lookup_cons,hb];exact ih
   ·rw[if_neg hc];simp only[List.lookup_cons,hb];exact ih
theorem Zq(gd:Gd κ K k X Γ){own:List Str}{fr:List Nat}{sc:Scope}(h:JB Γ.sc Γ.N fr sc=true):BlkScope X own fr sc:=by
 unfold JB at h;simp only[Bool.and_eq_true,List.all_eq_true] at h;obtain⟨⟨hk,hn⟩,hf⟩:=h;refine⟨by simpa using hk,λx hx=>by simpa using (hn x hx).1.1,λx hx e=>?_,λx hx e=>?_,λi hi=>?_⟩
 ·have:=(hn x hx).1.2
  simpa [e] using this
 ·have:=(hn x hx).2
  exact gd.cf x.1 (by simpa [e] using this)
 ·rw[gd.hN]
  simpa using hf i hi
theorem YH(gd:Gd κ K k X Γ){own:List Str}{fr:List Nat}{sc:Scope}(B:BlkScope X own fr sc)(hnd:(own++fr.map λi=>Γ.N.getD i "").Nodup)(cl:List (Str×Addr))(C:Addr)(fp:List Addr)(s2:Shared)(H2:Hp) :
  Gd κ K k (blk X (Jh X own fr) sc cl C fp s2 H2) { Γ with N:=own++fr.map λi=>Γ.N.getD i "",sc:=sc } where
 hN:=by show Jh X own fr=_;unfold Jh;rw[gd.hN]
 vis:=λx h=>by
  have h:=qfn h;rcases h with h | h | h
  ·exact .inl (lookup_relabel_local h)
  ·exact absurd rfl (B.nocell _ (PySem.mem_of_lookup h))
  ·rcases JA (env:=X.env) h with z | z
   ·exact .inr (.inl z)
   ·exact .inr (.inr z)
 loc:=λx h=>by
  have h:=qcK h;rcases h with h | h
  ·have z:(relabel sc X.env).names.lookup x=some .local:=lookup_relabel_local h;exact⟨.inl z,.inr z⟩
  ·exact absurd rfl (B.nocell _ (PySem.mem_of_lookup h))
 glo:=λx h=>by unfold glB at h;exact qfx (env:=X.env) (by simpa using h)
 cf:=λx h=>by
  rcases h with h | h
  ·exact absurd rfl (B.nocell _ (PySem.mem_of_lookup h))
  ·exact JA (env:=X.env) h
 nd:=hnd
 calm:=gd.calm
 hK:=gd.hK
 room:=gd.room
 fns:=gd.fns
 blt:=gd.blt
 gl:=gd.gl
 cls:=gd.cls
 flds:=gd.flds
 mts:=gd.mts
 mks:=gd.mks
 subs:=gd.subs
theorem qi2{G H:Hp}{ρ:Env}{σ:L2.St}(er:ER κ K Gv Hv G H ρ σ)(own:List Str)(fr:List Nat):ER κ K G H G H (Z3 own.length fr ρ) (Yv own fr σ):=by
 refine⟨by simp[Z3,Yv],er.sub,λ_ _ e=>e,λ_ _ e=>e,λa o e=>.inl ⟨o,e⟩,λi s e=>?_,λi j a l n e1=>?_⟩
 ·unfold Z3 at e;unfold Yv
  by_cases hi:i < own.length
  ·rw[List.getElem?_append_left (by simpa using hi)] at e;obtain rfl:=List.eq_of_mem_replicate (List.mem_of_getElem? e);trivial
  ·rw[List.getElem?_append_right (by simpa using hi)] at e ⊢;simp only[List.length_map,List.length_replicate] at e ⊢;rw[List.getElem?_map] at e ⊢;obtain⟨j,e1,rfl⟩:=Option.map_eq_some_iff.mp e;rw[e1];show SlR κ K G H H (qhJ (ρ.getD j .no)) (some (σ[j]?).join)
   cases q:ρ[j]? with
   |none=>rw[List.getD_eq_getElem?_getD,q];trivial
   |some s=>
    rw[List.getD_eq_getElem?_getD,q];have w:=er.sl j s q
    cases s with
    |no=>trivial
    |val d=>obtain⟨v,z,r⟩:=w;exact⟨v,by rw[z];rfl,r⟩
    |own l=>obtain⟨a,xs,z,r1,r2,r3,r4⟩:=w;exact⟨a,xs,by rw[z];rfl,r1,r4⟩
    |bor l=>obtain⟨a,xs,z,r1,r4⟩:=w;exact⟨a,xs,by rw[z];rfl,er.base _ _ r1,r4⟩
    |scr l=>obtain⟨a,xs,z,r1,r4⟩:=w;exact⟨a,xs,by rw[z];rfl,er.base.seq r1,r4⟩
 ·exfalso;unfold Z3 at e1
  by_cases hi:i < own.length
  ·rw[List.getElem?_append_left (by simpa using hi)] at e1
   cases List.eq_of_mem_replicate (List.mem_of_getElem? e1)
  ·rw[List.getElem?_append_right (by simpa using hi),List.getElem?_map] at e1;obtain⟨j,_,z⟩:=Option.map_eq_some_iff.mp e1
   cases q:ρ.getD j .no<;>rw[q] at z<;>cases z
theorem qae{it:Expr}(h:Zg it=true)(env:PySem.Env):∀x,foldedSetIterable it env x=pure x:=by
 intro x
 cases it<;>first | rfl | (simp[Zg] at h)
theorem qi3(A:All κ K k X Γ m)(e:Expr){x:E}(hx:cX m Γ e=some x):PE X e (λσ H Q=>∃Gv Hv,tE κ K Gv Hv (zK x (iR Γ.k x)) σ H Q):=λpins s σ H Q I ⟨Gv,Hv,h⟩=>A.e Gv Hv e x hx pins s σ H Q I h
theorem qfy(A:All κ K k X Γ m)(es:List Expr){x:F}(hx:cF m Γ es=some x):PIf X es (λσ H Q=>∃Gv Hv,tT κ K Gv Hv (iF Γ.k x) σ H Q):=λpins s σ H Q I ⟨Gv,Hv,h⟩=>A.f Gv Hv es x hx pins s σ H Q I h
structure CompS(Γ:Ct)(m:Nat)(elt tg it:Expr)(ifs:List Expr)(sc:Scope)(own:List Str)(el:E)(src:I)(t:Tg)(c:F):Prop where
 chk:JB Γ.sc Γ.N (YG Γ.N sc) sc=true
 nd:(own++(YG Γ.N sc).map λi=>Γ.N.getD i "").Nodup
 fold:Zg it=true
 src:cC Γ it (cI m Γ (qfk tg) it)=some src
 tg:cTg { Γ with N:=own++(YG Γ.N sc).map λi=>Γ.N.getD i "",sc:=sc } tg=some t
 c:cF m { Γ with N:=own++(YG Γ.N sc).map λi=>Γ.N.getD i "",sc:=sc } ifs=some c
 el:cX m { Γ with N:=own++(YG Γ.N sc).map λi=>Γ.N.getD i "",sc:=sc } elt=some el
theorem qi4{elt:Expr}{gs:List Comprehension}{sc:Scope}{pos:Pos}(h:cE (m+1) Γ (.ListComp elt gs sc pos)=some x):∃tg it ifs own el src t c,gs=[⟨tg,it,ifs,0⟩]/\CompS Γ m elt tg it ifs sc own el src t c/\x=.comp el src t c own.length (YG Γ.N sc):=by
 match gs,h with
 |[⟨tg,it,ifs,as⟩],h=>
  obtain⟨ha,h⟩:=qk h;obtain rfl:as=0:=of_decide_eq_true ha;dsimp only at h
  cases hx:zw tg with
  |none=>rw[hx] at h;cases h
  |some own=>rw[hx] at h;obtain⟨hc,h⟩:=qk h;obtain⟨p1,p2,h1,h2,rfl⟩:=qj h;obtain⟨src,t,h3,h4,rfl⟩:=qj h1;obtain⟨c,el,h5,h6,rfl⟩:=qj h2;simp only[Bool.and_eq_true] at hc;exact⟨tg,it,ifs,own,el,src,t,c,rfl,⟨hc.1.1,of_decide_eq_true hc.1.2,hc.2,h3,h4,h5,h6⟩,rfl⟩
 |[],h=>cases h
 | _::_::_,h=>cases h
theorem qi5{it:Expr}{i:Nat}(h:isF Γ it=some i):∃x p,it=.Name x p/\qb1 Γ x=some i:=by
 unfold isF at h
 split at h
 ·split at h
  ·exact⟨_,_,rfl,h⟩
  ·cases h
 ·cases h
noncomputable def tC(κ:KC)(K:Frag)(Gv Hv:Hp)(f:Env->R (List D×Env)):TI:=λσ H Q=>∃ρ G,ER κ K Gv Hv G H ρ σ/\Wk (f ρ) λx=>∀J G' H',Po κ K Gv Hv σ G H ρ G' H' x.2->ItR κ H' G' J x.1->Q J H'
theorem qlE(gd:Gd κ K k X Γ)(A:All κ K k X Γ m)(tg it:Expr){src:I}(hs:cC Γ it (cI m Γ (qfk tg) it)=some src):PI X tg it (tC κ K Gv Hv (iI Γ.k src)):=by
 rintro pins s σ H Q I ⟨ρ,G,er,h⟩;unfold cC at hs
 cases hf:isF Γ it with
 |none=>rw[hf] at hs;exact A.i Gv Hv tg it src hs pins s σ H Q I ⟨ρ,G,er,Wk.mono h λx h J G' H' p it1=>h J G' H' p λi G2 H2 g hh sub=>it1 i G2 H2 g (λb o e=>hh b o (p.er.base b o e)) sub⟩
 |some i=>
  rw[hf] at hs;cases hs;obtain⟨x,p,rfl,hi⟩:=qi5 hf;refine qfs (Zj gd hi p) pins s σ H Q I ?_;have h:=Wk.th (x:=slC ρ i) h;unfold slC at h
  cases q:ρ[i]? with
  |none=>rw[q] at h;exact False.elim h
  |some sl=>
   rw[q] at h;have w:=er.sl i sl q
   cases sl with
   |own l=>obtain⟨a,xs,z,h1,h2,h3,h4⟩:=w;exact⟨_,z,.inl ⟨a,rfl,.inl ⟨⟨xs,SqL.of h1⟩,h _ G H (Po.refl er) (by rw[gd.hK];exact qcO (.inr (SqL.of h1)) h4)⟩⟩⟩
   |val d=>
    obtain⟨v,z,r⟩:=w
    cases d with
    |lst l=>simp only[Rep] at r;obtain⟨a,xs,rfl,r1,r2⟩:=r;exact⟨_,z,.inl ⟨a,rfl,.inl ⟨⟨xs,SqL.of (er.sub _ _ r1)⟩,h _ G H (Po.refl er) (by rw[gd.hK];exact qcO (.inl r1) r2)⟩⟩⟩
    |tup l=>simp only[Rep] at r;obtain⟨a,xs,rfl,r1,r2⟩:=r;exact⟨_,z,.inl ⟨a,rfl,.inr ⟨⟨xs,SqT.of (er.sub _ _ r1)⟩,h _ G H (Po.refl er) (by rw[gd.hK];exact qft r1 r2)⟩⟩⟩
    |_=>exact False.elim h
   |_=>exact False.elim h
theorem qaV{elt tg it:Expr}{ifs:List Expr}{sc:Scope}{own:List Str}{el:E}{src:I}{t:Tg}{c:F}(S:CompS Γ m elt tg it ifs sc own el src t c):∀σ H Q,tR κ K Gv Hv (iR Γ.k (.comp el src t c own.length (YG Γ.N sc))) σ H Q->
  qgp own (YG Γ.N sc) (tC κ K Gv Hv (iI Γ.k src)) (gT κ K t) (λσ H Q=>∃Gv Hv,tT κ K Gv Hv (iF Γ.k c) σ H Q) (λσ H Q=>∃Gv Hv,tE κ K Gv Hv (zK el (iR Γ.k el)) σ H Q) σ H Q:=λσ H Q ⟨ρ,G,er,h⟩=>by
 refine⟨ρ,G,er,Wk.mono (Wk.th (x:=iI Γ.k src ρ) h) λx h J G1 H1 p1 it1=>?_⟩;obtain⟨hz,h⟩:=Wk.iff h;have h:=Wk.th h
 refine⟨λi mm ys σ' H'=>mm=x.1.length - i/\i<=x.1.length/\∃ρb Gb ds,ER κ K G1 H1 Gb H' ρb σ'/\ql κ Gb ds ys/\ds.length<=i/\
   Wk (qcH t.go (λρ1=>iF Γ.k c ρ1) (zK el (iR Γ.k el)) (x.1.drop i) ρb ds)
    (λl=>∀v G' H',Po κ K Gv Hv σ G H ρ G' H' x.2->RvR κ K Hv H G' H' x.2 σ (.tmp l) v->Q v H'),
  ⟨x.1.length,by simp,Nat.zero_le _,Z3 own.length (YG Γ.N sc) x.2,G1,[],qi2 p1.er own (YG Γ.N sc),.nil,Nat.le_refl _,?_⟩,?_⟩
 ·rw[List.drop_zero];exact h
 rintro i mm ys σ' H' ⟨rfl,hi,ρb,Gb,ds,erb,rds,hdl,hw⟩;have it2:=it1 i Gb H' erb.g0 erb.base erb.sub
 by_cases hlt:i < x.1.length
 ·obtain⟨go,yl⟩:=it2.1 x.1[i] (List.getElem?_eq_getElem hlt);have hyl:=rds.len;refine .inr ⟨go,by omega,_,λys' σ2 H2 w=>⟨x.1.length - (i+1),by omega,w⟩,λv H2 hy=>?_⟩;obtain⟨G',hs,gs,sub,new,rep⟩:=yl v H2 hy;have p2:=Po.more erb hs gs sub new;rw[List.drop_eq_getElem_cons hlt] at hw;refine⟨G1,H1,ρb,G',x.1[i],p2.er,rep,Wk.mono (Wk.th hw) λρ1 hw σ1 er1=>⟨G1,H1,ρ1,G',er1,Wk.mono (Wk.th hw) λbt hw G2 H3 p3=>?_⟩⟩;obtain⟨b,ρ2⟩:=bt
  cases b with
  |true=>rw[if_pos rfl];refine⟨G1,H1,ρ2,G2,p3.er,Wk.mono (Wk.th hw) λy hw w G3 H4 p4 rep4=>⟨rfl,hlt,y.2,G3,ds++[y.1],p4.er,?_,by simp;omega,(Wk.iff hw).2⟩⟩;exact(((rds.same gs).same p3.gs).same p4.gs).snoc rep4
  |false=>rw[if_neg (λz=>by cases z)];exact⟨rfl,hlt,ρ2,G2,ds,p3.er,(rds.same gs).same p3.gs,by omega,hw⟩
 ·have e:i=x.1.length:=by omega
  subst e;refine .inl ⟨it2.2 rfl,λp hp=>?_⟩;rw[List.drop_length] at hw;have p2:=p1.trans (Po.more p1.er erb.base erb.g0 erb.sub erb.fresh);obtain⟨z1,z2⟩:=p2.er.newList hp rds;exact hw _ _ _ (p2.trans z1) (z2.back p2.hs)
theorem qgL(gd:Gd κ K k X Γ)(A:All κ K k X Γ m)(ih:∀X' Γ',Gd κ K k X' Γ'->All κ K k X' Γ' m)(elt:Expr)(gs:List Comprehension)(sc:Scope)(pos:Pos)(h:cE (m+1) Γ (.ListComp elt gs sc pos)=some x):PE X (.ListComp elt gs sc pos) (tR κ K Gv Hv (iR Γ.k x)):=by
 obtain⟨tg,it,ifs,own,el,src,t,c,rfl,S,rfl⟩:=qi4 h;have B:BlkScope X own (YG Γ.N sc) sc:=Zq gd S.chk
 exact PE.imp (qgr own (YG Γ.N sc) gd.calm B (qlE (Gv:=Gv) (Hv:=Hv) gd A tg it S.src) (λcl C fp s2 H2=>qew (YH gd B S.nd cl C fp s2 H2) tg S.tg) (λcl C fp s2 H2=>qfy (ih _ _ (YH gd B S.nd cl C fp s2 H2)) ifs S.c)
  (λcl C fp s2 H2=>qi3 (ih _ _ (YH gd B S.nd cl C fp s2 H2)) elt S.el) (qae S.fold X.env)) (qaV S)
theorem qgM(gd:Gd κ K k X Γ)(A:All κ K k X Γ m)(f:Str)(es:List Expr)(p q:Pos)(h:cE (m+1) Γ (.Call (.Name f p) es [] q)=some x):PE X (.Call (.Name f p) es [] q) (tR κ K Gv Hv (iR Γ.k x)):=by
 obtain⟨hn,h⟩:=qk h;simp only[Bool.and_eq_true] at hn;obtain⟨⟨h1,h2⟩,h3⟩:=hn
 by_cases hi:f = "isinstance"
 ·subst hi;rw[if_pos rfl] at h
  match es,h with
  |[a,b],h=>
   cases b with
   |Name t tp=>exact qiW gd A a t p tp q h2 h
   |_=>cases h
  |[],h=>cases h
  |[_],h=>cases h
  | _::_::_::_,h=>cases h
 rw[if_neg hi] at h
 by_cases ht:Γ.tab.contains f=true
 ·rw[if_pos ht] at h
  by_cases hf:f = "_law_let"/\es.length=2
  ·rw[if_pos hf] at h;exact qes gd A f es p q h1 h2 ht h
  ·rw[if_neg hf] at h;exact qer gd A f es p q h1 h2 ht h
 rw[if_neg ht] at h
 by_cases hk:Γ.cs.tab.contains f=true
 ·rw[if_pos hk] at h;exact qgK gd A f es p q h1 h2 hk h
 rw[if_neg hk] at h
 match es,h with
 |[a],h=>exact qet gd A f a p q h2 h
 |[a,b],h=>exact qeu gd A f a b p q h2 h
 |[],h=>cases h
 | _::_::_::_,h=>cases h
theorem qmG(gd:Gd κ K k X Γ)(A:All κ K k X Γ m)(ih:∀X' Γ',Gd κ K k X' Γ'->All κ K k X' Γ' m)(e:Expr)(x:E)(h:cE (m+1) Γ e=some x):PE X e (tR κ K Gv Hv (iR Γ.k x)):=by
 cases e with
 |Name x pos=>exact qei gd h pos
 |Constant c j pos=>exact qen c j pos h
 |BinOp a op b pos=>exact qeo A a b op pos h
 |UnaryOp op a pos=>
  cases op with
  |USub=>exact qiL A a pos h
  |Not=>exact qgD A a pos h
  |_=>cases h
 |BoolOp op vs pos=>
  match vs,h with
  |[],h=>cases op<;>cases h
  |[a],h=>cases op<;>(obtain⟨a',h1,rfl⟩:=map_some h;exact PE.imp (qhY (A.r Gv Hv _ _ h1)) λσ H Q h=>h)
  | a::b::l,h=>
   cases op with
   |And=>exact qiM A a b l pos h
   |Or=>cases h
 |Compare a ops bs pos=>
  match ops,bs,h with
  |[op],[b],h=>exact qgE gd A a b op pos h
  |[],_,h=>cases h
  |[_],[],h=>cases h
  | [_],_::_::_,h=>cases h
  | _::_::_,_,h=>cases h
 |IfExp c a b pos=>exact qiN A c a b pos h
 |Subscript a b pos=>exact qiO gd A a b pos h
 |List es pos=>exact qiP A es pos h
 |Tuple es j pos=>exact qiQ A es j pos h
 |Call fn es kws q=>
  cases fn with
  |Name f p=>
   cases kws with
   |nil=>exact qgM gd A f es p q h
   |cons kw kws=>cases h
  |Attribute o x ap=>
   cases kws with
   |nil=>exact qgJ gd A o x ap es q h
   |cons kw kws=>cases h
  |_=>cases h
 |Attribute o x pos=>exact qiY gd A o x pos h
 |ListComp elt gens sc pos=>exact qgL gd A ih elt gens sc pos h
 |_=>cases h
theorem all:∀(m:Nat) (X:Cx) (Γ:Ct),Gd κ K k X Γ->All κ K k X Γ m
 |0,_,_,_=>qmz
 | m+1,X,Γ,gd=>
  have A:=all m X Γ gd
  ⟨λGv Hv=>qmG gd A (all m),λGv Hv=>qmA gd A,λGv Hv=>qmD gd A,λGv Hv=>qk7 A,λGv Hv=>qk8 A,λGv Hv=>qmB A,λGv Hv=>qmC A,λGv Hv=>qmE gd A,λGv Hv=>qmF gd A⟩
end
end DE
namespace DE
open PySem PySem.Spec PyProof.Rows L2
section
variable(κ:KC)(K:Frag)(Gv Hv:Hp)
noncomputable def FlP(G:Hp)(D:Ends):Fl->Prop
 | .next ρ'=>∀σ' G' H',ER κ K Gv Hv G' H' ρ' σ'->qo G G'->D.nx σ' H'
 |.ret r=>∀v G' H',qo Hv H'->qo Gv G'->qo G' H'->(∀a o,G' a=some o->(∃o',Gv a=some o')\/Hv a=none)->ReR κ G' H' Hv r v->D.rt v H'
def tS(f:Env->R Fl):TS:=λD σ H=>∃ρ G,ER κ K Gv Hv G H ρ σ/\Wk (f ρ) (FlP κ K Gv Hv G D)
end
structure Gs(κ:KC)(K:Frag)(k:Nat)(X:Cx)(Γ:Ct):Prop extends Gd κ K k X Γ where
 own:PassesOwn (model X.prog X.w) X.A X.env X.xe
 sceq:X.env.scope=Γ.sc
 fnk:Γ.sc.kind=.function
theorem PS.imp{X:Cx}{st:Stmt}{t t':TS}(h:PS X st t')(i:∀D σ H,t D σ H->t' D σ H):PS X st t:=λpins s σ H D I hw=>h pins s σ H D I (i D σ H hw)
theorem PSs.imp{X:Cx}{st:List Stmt}{t t':TS}(h:PSs X st t')(i:∀D σ H,t D σ H->t' D σ H):PSs X st t:=λpins s σ H D I hw=>h pins s σ H D I (i D σ H hw)
theorem qaW{e:Expr}(h:yk e=true)(t:Option Expr)(l:Nat)(env:PySem.Env):swapsWith e t l env=pure false:=by cases e<;>first | rfl | (simp[yk] at h)
section
variable{κ:KC}{K:Frag}{Gv Hv:Hp}{k m w:Nat}{X:Cx}{Γ:Ct}
theorem jm{ρ:Env}{i:Nat}{l:List D}(h:zq ρ i=some l):ρ[i]?=some (.own l):=by
 unfold zq at h
 split at h
 ·rename_i e;cases h;exact e
 ·cases h
theorem ER.ownSlot{G H:Hp}{ρ:Env}{σ:L2.St}{i:Nat}{l:List D}(er:ER κ K Gv Hv G H ρ σ)(e:ρ[i]?=some (.own l)):∃a xs,σ[i]?=some (some (.ref a))/\H a=some (.lst xs)/\ql κ G l xs:=by obtain⟨a,xs,z,h1,h2,h3,h4⟩:=er.sl i _ e;exact⟨a,xs,z,h1,h4⟩
theorem qcU(gd:Gd κ K k X Γ)(A:All κ K k X Γ m)(x:Str)(a:Expr)(xp ap cp p:Pos){i:Nat}{a':E}(hl:(ap.endLine == cp.line)=true)(s1:qC a=false)(hi:qb1 Γ x=some i)(ha:cX m Γ a=some a') :
  PS X (.Expr (.Call (.Attribute (.Name x xp) "append" ap) [a] [] cp) p) (tS κ K Gv Hv (iS Γ.k w (.app i a'))):=by
 have few:((backTo cp (starEach [a] X.env)).all (λx=>!x.1)&&(backToKw cp (keywordEach [] X.env)).all (λx=>x.1.isSome)&&decide (([a]:List Expr).length+([]:List Keyword).length+(if ([]:List Keyword).isEmpty then 0 else 1) < 30))=true:=by rw[qe s1];rfl
 refine PS.imp (yj (qgi PySem.F.plainAttrs_list PySem.F.slot_list_append PySem.F.type_list_append qcn (Zj gd hi xp) (qg (A.e Gv Hv _ _ ha) qx (qe s1)) rfl few hl (qe s1) rfl) rfl) λD σ H hq1=>?_;obtain⟨ρ,G,er,h⟩:=hq1;have h:Wk (α:=Fl) (match zq ρ i with |none=>R.no |some _=>(zK a' (iR Γ.k a') ρ).th λy=>match zq y.2 i with |some l=>if l.length < sizeLine then .ok (.next (y.2.set i (.own (l++[y.1])))) else .no |none=>.no) _:=h
 cases e1:zq ρ i with
 |none=>rw[e1] at h;exact False.elim h
 |some l0=>
  rw[e1] at h;obtain⟨b,xs,z,h1,h2⟩:=er.ownSlot (jm e1);refine⟨_,z,.inl ⟨rfl,xs,SqL.of h1⟩,ρ,G,er,Wk.mono (Wk.th h) λy h v G1 H1 p1 r1=>?_⟩
  cases e2:zq y.2 i with
  |none=>rw[e2] at h;exact False.elim h
  |some l=>rw[e2] at h;obtain⟨hz,h⟩:=Wk.iff h;obtain⟨b',ys,z',h3,h4⟩:=p1.er.ownSlot (jm e2);rw[z] at z';cases z';refine⟨b,ys,v,rfl,rfl,h3,by rw[<-h4.len];exact hz,?_⟩;exact h σ G1 _ (p1.er.write (jm e2) z (h4.snoc r1)) p1.gs
theorem qcV(gd:Gd κ K k X Γ)(A:All κ K k X Γ m)(x:Str)(a:Expr)(xp ap cp p:Pos){i:Nat}{a':E}(hl:(ap.endLine == cp.line)=true)(s1:qC a=false)(hi:qb1 Γ x=some i)(ha:cE m Γ a=some a') :
  PS X (.Expr (.Call (.Attribute (.Name x xp) "extend" ap) [a] [] cp) p) (tS κ K Gv Hv (iS Γ.k w (.ext i a'))):=by
 have few:((backTo cp (starEach [a] X.env)).all (λx=>!x.1)&&(backToKw cp (keywordEach [] X.env)).all (λx=>x.1.isSome)&&decide (([a]:List Expr).length+([]:List Keyword).length+(if ([]:List Keyword).isEmpty then 0 else 1) < 30))=true:=by rw[qe s1];rfl
 refine PS.imp (yj (qgi PySem.F.plainAttrs_list PySem.F.slot_list_extend PySem.F.type_list_extend qco (Zj gd hi xp) (qg (A.r Gv Hv _ _ ha) qx (qe s1)) rfl few hl (qe s1) rfl) rfl) λD σ H hq1=>?_;obtain⟨ρ,G,er,h⟩:=hq1;have h:Wk (α:=Fl) (match zq ρ i with |none=>R.no |some _=>(iR Γ.k a' ρ).th λy=>match zq y.2 i,y.1.plain? with |some l,some n=>if l.length+n.length<=sizeLine then .ok (.next (y.2.set i (.own (l++n)))) else .no |_,_=>.no) _:=h
 cases e1:zq ρ i with
 |none=>rw[e1] at h;exact False.elim h
 |some l0=>
  rw[e1] at h;obtain⟨b,xs,z,h1,h2⟩:=er.ownSlot (jm e1);refine⟨_,z,.inl ⟨rfl,xs,SqL.of h1⟩,ρ,G,er,Wk.mono (Wk.th h) λy h v G1 H1 p1 r1=>?_⟩
  cases e2:zq y.2 i with
  |none=>rw[e2] at h;exact False.elim h
  |some l=>
   cases e3:y.1.plain? with
   |none=>rw[e2,e3] at h;exact False.elim h
   |some n=>rw[e2,e3] at h;obtain⟨hz,h⟩:=Wk.iff h;obtain⟨b',ys,z',h3,h4⟩:=p1.er.ownSlot (jm e2);obtain⟨c,zs,rfl,h5,h6⟩:=r1.plain p1.er e3;rw[z] at z';cases z';refine⟨b,c,ys,zs,rfl,rfl,h3,h5,by rw[<-h4.len,<-h6.len];exact hz,?_⟩;exact h σ G1 _ (p1.er.write (jm e2) z (h4.app h6)) p1.gs
theorem qi6(gd:Gd κ K k X Γ)(A:All κ K k X Γ m)(e:Expr)(p:Pos){z:E}(h:cV m Γ e=some z):PS X (.Return (some e) p) (tS κ K Gv Hv (iS Γ.k w (.ret z))):=by
 have gen:(cE m Γ e).bind Zi=some z->PS X (.Return (some e) p) (tS κ K Gv Hv (iS Γ.k w (.ret z))):=λh=>by
  obtain⟨y,h1,h2⟩:=Option.bind_eq_some_iff.mp h;obtain⟨rfl,hv⟩:=zZ h2;refine PS.imp (qb7 (A.r Gv Hv _ _ h1)) λD σ H hq1=>?_;obtain⟨ρ,G,er,h⟩:=hq1;have h:=Wk.th (x:=Zh y (iR Γ.k y) ρ) h;rw[qgy hv] at h;refine⟨ρ,G,er,Wk.mono (Wk.th h) λx h v G1 H1 p1 r1=>?_⟩;obtain⟨rv,ρ1⟩:=x
  cases rv with
  |val d=>exact h v G1 H1 p1.er.base p1.er.g0 p1.er.sub p1.er.fresh r1
  |tmp l=>obtain⟨a,xs,rfl,h1,h2,h3,h4,h5,h6⟩:=r1;exact h _ G1 H1 p1.er.base p1.er.g0 p1.er.sub p1.er.fresh ⟨a,xs,rfl,h1,h3,h4,h6⟩
  |_=>exact False.elim h
 cases e with
 |Name x pos=>
  rcases Qg gd h pos with ⟨i,rfl,P⟩ | ⟨d,v,rfl,e3,P⟩
  ·refine PS.imp (qb7 P) λD σ H hq1=>?_;obtain⟨ρ,G,er,h⟩:=hq1;have h:=Wk.th (x:=slX ρ i) h;unfold slX at h
   cases q:ρ[i]? with
   |none=>rw[q] at h;exact False.elim h
   |some s=>
    rw[q] at h;have w:=er.sl i s q
    cases s with
    |val d=>obtain⟨v,z,r⟩:=w;exact⟨v,z,h v G H er.base er.g0 er.sub er.fresh r⟩
    |own l=>obtain⟨a,xs,z,r1,r2,r3,r4⟩:=w;exact⟨_,z,h _ G H er.base er.g0 er.sub er.fresh ⟨a,xs,rfl,r1,r2,r3,r4⟩⟩
    |_=>exact False.elim h
  ·exact PS.imp (qb7 P) λD σ H ⟨ρ,G,er,h⟩=>h v G H er.base er.g0 er.sub er.fresh (e3 G)
 |_=>exact gen h
noncomputable def AsR(κ:KC)(K:Frag)(Hv G H:Hp)(ρ:Env)(σ:L2.St):Sl->V->Prop
 |.val d,v=>Rep κ G d v
 |.own l,v=>∃a xs,v=.ref a/\H a=some (.lst xs)/\Hv a=none/\G a=none/\¬ qbA ρ σ a/\ql κ G l xs
 |_,_=>False
noncomputable def tA(κ:KC)(K:Frag)(Gv Hv:Hp)(f:Env->R (Sl×Env)):TE:=λσ H Q=>∃ρ G,ER κ K Gv Hv G H ρ σ/\Wk (f ρ) λs=>∀v G' H',Po κ K Gv Hv σ G H ρ G' H' s.2->AsR κ K Hv G' H' s.2 σ s.1 v->Q v H'
theorem qgN{G H:Hp}{ρ:Env}{σ:L2.St}{s:Sl}{v:V}{i:Nat}(er:ER κ K Gv Hv G H ρ σ)(h:AsR κ K Hv G H ρ σ s v):ER κ K Gv Hv G H (ρ.set i s) (σ.set i (some v)):=by
 cases s with
 |val d=>exact er.setVal h
 |own l=>obtain⟨a,xs,rfl,h1,h2,h3,h4,h5⟩:=h;exact er.setOwn h1 h2 h3 h4 h5
 |_=>exact False.elim h
theorem qlF{z:E}(hv:∀i,z≠.var i)(σ:L2.St)(H:Hp)(Q:VK)(h:tA κ K Gv Hv (JU z (iR Γ.k z)) σ H Q):tR κ K Gv Hv (iR Γ.k z) σ H Q:=by
 obtain⟨ρ,G,er,h⟩:=h;rw[qgz hv] at h;refine⟨ρ,G,er,Wk.mono (Wk.th h) λx h v G1 H1 p1 r1=>?_⟩;obtain⟨rv,ρ1⟩:=x
 cases rv with
 |val d=>exact h v G1 H1 p1 r1
 |tmp l=>obtain⟨a,xs,rfl,h1,h2,h3,h4,h5,h6⟩:=r1;exact h _ G1 H1 p1 ⟨a,xs,rfl,h1,h3,h4,h5,h6⟩
 |_=>exact False.elim h
theorem qlG(gd:Gd κ K k X Γ)(A:All κ K k X Γ m)(e:Expr){z:E}(h:cV m Γ e=some z):PE X e (tA κ K Gv Hv (JU z (iR Γ.k z))):=by
 have gen:(cE m Γ e).bind Zi=some z->PE X e (tA κ K Gv Hv (JU z (iR Γ.k z))):=λh=>by obtain⟨y,h1,h2⟩:=Option.bind_eq_some_iff.mp h;obtain⟨rfl,hv⟩:=zZ h2;exact PE.imp (A.r Gv Hv _ _ h1) (qlF hv)
 cases e with
 |Name x pos=>
  have P:=qaO (Gv:=Gv) (Hv:=Hv) gd h pos;rcases Qg gd h pos with ⟨i,rfl,_⟩ | ⟨d,v,rfl,_,_⟩
  ·refine PE.imp P λσ H Q hq1=>?_;obtain⟨ρ,G,er,h⟩:=hq1;exact⟨ρ,G,er,Wk.mono (Wk.th (x:=slE ρ i) h) λy h v G1 H1 p1 r1=>h v G1 H1 p1 r1⟩
  ·exact PE.imp P λσ H Q ⟨ρ,G,er,h⟩=>⟨ρ,G,er,h⟩
 |_=>exact gen h
theorem qi7(gs:Gs κ K k X Γ)(A:All κ K k X Γ m)(x:Str)(e:Expr)(xp p:Pos){i:Nat}{z:E}(hi:qgv Γ x=some i)(hz:cV m Γ e=some z):PS X (.Assign [.Name x xp] e p) (tS κ K Gv Hv (iS Γ.k w (.set i z))):=by
 have gd:=gs.toGd;obtain⟨l1,l2,hN,hxi⟩:=qfv gd hi
 have fin:∀(D:Ends) (σ:L2.St) (H:Hp),tS κ K Gv Hv (iS Γ.k w (.set i z)) D σ H->tA κ K Gv Hv (JU z (iR Γ.k z)) σ H (λy H1=>qdU i y σ H1 D.nx):=λD σ H ⟨ρ,G,er,h⟩=>⟨ρ,G,er,Wk.mono (Wk.th (x:=JU z (iR Γ.k z) ρ) h) λs h v G1 H1 p1 r1=>h _ G1 H1 (qgN p1.er r1) p1.gs⟩
 by_cases hn:yk e=true
 ·exact PS.imp (qe9 (i:=i) hN hxi l1 (qlG gd A e hz) (qaW hn _ _ _) l2) fin
 cases e with
 |ListComp elt gens sc cp=>
  have hsw:∀b:Bool,(X.env.blockKind == .function&&X.env.kindOf x == some .local&&xp.line == cp.line&&!(sc.names.any λ(n,k)=>n == x&&(k == .local||k == .cell)))=b->swapsWith (.ListComp elt gens sc cp) (some (.Name x xp)) p.line X.env=pure b:=λb hb=>by rw[<-hb];rfl
  cases hb:(X.env.blockKind == .function&&X.env.kindOf x == some .local&&xp.line == cp.line&&!(sc.names.any λ(n,k)=>n == x&&(k == .local||k == .cell))) with
  |false=>exact PS.imp (qe9 (i:=i) hN hxi l1 (qlG gd A _ hz) (hsw false hb) l2) fin
  |true=>
   have hloc:X.env.scope.names.lookup x=some .local:=by
    simp only[Bool.and_eq_true] at hb
    have:=hb.1.1.2
    unfold PySem.Env.kindOf at this
    simpa using this
   obtain⟨y,h1,h2⟩:=Option.bind_eq_some_iff.mp hz;obtain⟨rfl,hv⟩:=zZ h2
   cases m with
   |zero=>cases h1
   |succ m=>
    obtain⟨tg,it,ifs,own,el,src,t,c,rfl,S,rfl⟩:=qi4 h1;have B:BlkScope X own (YG Γ.N sc) sc:=Zq gd S.chk
    exact PS.imp (qgs (i:=i) own (YG Γ.N sc) hN hxi hloc gd.calm B (qlE (Gv:=Gv) (Hv:=Hv) gd (all m X Γ gd) tg it S.src) (λcl C fp s2 H2=>qew (YH gd B S.nd cl C fp s2 H2) tg S.tg) (λcl C fp s2 H2=>qfy (all m _ _ (YH gd B S.nd cl C fp s2 H2)) ifs S.c)
     (λcl C fp s2 H2=>qi3 (all m _ _ (YH gd B S.nd cl C fp s2 H2)) elt S.el) (hsw true hb) (qae S.fold X.env)) λD σ H h=>qaV S σ H _ (qlF hv σ H _ (fin D σ H h))
 |SetComp=>cases m<;>cases hz
 |DictComp=>cases m<;>cases hz
 |_=>exact absurd rfl hn
end
end DE
namespace DE
open PySem PySem.Spec PyProof.Rows L2
structure AllS(κ:KC)(K:Frag)(X:Cx)(Γ:Ct)(m w:Nat):Prop where
 s:∀Gv Hv st x,cS m Γ st=some x->PS X st (tS κ K Gv Hv (iS Γ.k w x))
 ss:∀Gv Hv l x,cSs m Γ l=some x->PSs X l (tS κ K Gv Hv (iSs Γ.k w x))
section
variable{κ:KC}{K:Frag}{Gv Hv:Hp}{k m w:Nat}{X:Cx}{Γ:Ct}
theorem FlP.back{G G1:Hp}{D:Ends}{f:Fl}(h:FlP κ K Gv Hv G D f)(g:qo G G1):FlP κ K Gv Hv G1 D f:=by
 cases f with
 |next ρ=>exactλσ' G' H' er g'=>h σ' G' H' er λb o e=>g' b o (g b o e)
 |ret r=>exact h
theorem qex{e:Expr}(h:qcI e=true)(es:List Expr)(j:Nat)(p:Pos)(env:PySem.Env):swappedStores [.Tuple es j p] e env=pure none:=by cases e<;>first | rfl | (simp[qcI] at h)
theorem qcW(gd:Gd κ K k X Γ)(A:All κ K k X Γ m)(es:List Expr)(j:Nat)(tp:Pos)(e:Expr)(p:Pos){x:S}(h:cS (m+1) Γ (.Assign [.Tuple es j tp] e p)=some x):PS X (.Assign [.Tuple es j tp] e p) (tS κ K Gv Hv (iS Γ.k w x)):=by obtain⟨hc,h⟩:=qk h;obtain⟨t,a',h1,h2,rfl⟩:=qj h;rw[Bool.and_eq_true] at hc;refine PS.imp (qe8 (A.e Gv Hv _ _ h2) (qew gd (.Tuple es j tp) h1) (show swapsWithSole [.Tuple es j tp] e p.line X.env=pure false from qaW hc.1 (some (.Tuple es j tp)) p.line X.env) (qex hc.2 es j tp _) rfl) λD σ H hq1=>?_;obtain⟨ρ,G,er,h⟩:=hq1;refine⟨ρ,G,er,Wk.mono (Wk.th (x:=zK a' (iR Γ.k a') ρ) h) λx h v G1 H1 p1 r1=>?_⟩;exact⟨Gv,Hv,x.2,G1,x.1,p1.er,r1,Wk.mono (Wk.th h) λρ1 h σ1 er1=>h σ1 G1 H1 er1 p1.gs⟩
noncomputable def qla(r:Env->R (Rv×Env))(i:Nat)(d:D)(ρ:Env):R Fl:=match zq ρ i with
 |none=>.no
 |some _=>(r ρ).th λz=>match zq z.2 i,z.1.int? with
  |some l,some n=>(match ixN l.length n with
   |some k=>.ok (.next (z.2.set i (.own (l.set k d))))
   |none=>.no)
  |_,_=>.no
noncomputable def gS(κ:KC)(K:Frag)(Gv Hv:Hp)(r:Env->R (Rv×Env))(i:Nat):TG:=λv σ H Q=>∃(ρ:Env) (G:Hp) (d:D) (D:Ends),ER κ K Gv Hv G H ρ σ/\Rep κ G d v/\Wk (qla r i d ρ) (FlP κ K Gv Hv G D)/\∀H',D.nx σ H'->Q σ H'
theorem qlb(gd:Gd κ K k X Γ)(A:All κ K k X Γ m)(x:Str)(i:Expr)(xp p:Pos)(hs:Qd i=true){j:Nat}{i':E}(hj:qb1 Γ x=some j)(hi:cE m Γ i=some i'):PG X (.Subscript (.Name x xp) i p) (gS κ K Gv Hv (iR Γ.k i') j):=by
 refine PG.imp (qh4 (Zj gd hj xp) (A.r Gv Hv _ _ hi) qd5 (λv=>by cases i<;>first | rfl |(simp[Qd] at hs))) λv σ H Q hq1=>?_;obtain⟨ρ,G,d,D,er,r,h,hQ⟩:=hq1;unfold qla at h
 cases e1:zq ρ j with
 |none=>rw[e1] at h;exact False.elim h
 |some l0=>
  rw[e1] at h;obtain⟨b,xs,z,h1,h2⟩:=er.ownSlot (jm e1);refine⟨_,z,ρ,G,er,Wk.mono (Wk.th h) λy h u G1 H1 p1 r1=>?_⟩
  cases e2:zq y.2 j with
  |none=>rw[e2] at h;exact False.elim h
  |some l=>
   cases e3:y.1.int? with
   |none=>rw[e2,e3] at h;exact False.elim h
   |some n=>
    rw[e2,e3] at h;dsimp only at h
    cases e4:ixN l.length n with
    |none=>rw[e4] at h;exact False.elim h
    |some c=>rw[e4] at h;obtain⟨b',ys,z',h3,h4⟩:=p1.er.ownSlot (jm e2);rw[z] at z';cases z';refine⟨b,ys,n,c,rfl,r1.int e3,h3,by rw[<-h4.len];exact e4,hQ _ ?_⟩;exact h σ G1 _ (p1.er.write (jm e2) z (h4.set c (r.same p1.gs))) p1.gs
theorem qcX(gd:Gd κ K k X Γ)(A:All κ K k X Γ m)(x:Str)(i e:Expr)(xp sp p:Pos){y:S}(h:cS (m+1) Γ (.Assign [.Subscript (.Name x xp) i sp] e p)=some y):PS X (.Assign [.Subscript (.Name x xp) i sp] e p) (tS κ K Gv Hv (iS Γ.k w y)):=by obtain⟨hc,h⟩:=qk h;obtain⟨j,q,h1,h2,rfl⟩:=qj h;obtain⟨i',a',h3,h4,rfl⟩:=qj h2;rw[Bool.and_eq_true] at hc;refine PS.imp (qe8 (A.e Gv Hv _ _ h4) (qlb (Gv:=Gv) (Hv:=Hv) gd A x i xp sp hc.2 h1 h3) (show swapsWithSole [.Subscript (.Name x xp) i sp] e p.line X.env=pure false from qaW hc.1 (some (.Subscript (.Name x xp) i sp)) p.line X.env) rfl rfl) λD σ H hq1=>?_;obtain⟨ρ,G,er,h⟩:=hq1;exact⟨ρ,G,er,Wk.mono (Wk.th (x:=zK a' (iR Γ.k a') ρ) h) λy h v G1 H1 p1 r1=>⟨y.2,G1,y.1,D,p1.er,r1,Wk.mono (show Wk (qla (iR Γ.k i') j y.1 y.2) _ from h) λf hf=>hf.back p1.gs,λ_ h=>h⟩⟩
theorem qlc(A:All κ K k X Γ m)(S:AllS κ K X Γ m w)(c:Expr)(a b:List Stmt)(p:Pos){x:DE.S}(h:cS (m+1) Γ (.If c a b p)=some x):PS X (.If c a b p) (tS κ K Gv Hv (iS Γ.k w x)):=by
 obtain⟨c',q,h1,h2,rfl⟩:=qj h;obtain⟨a',b',h3,h4,rfl⟩:=qj h2;refine PS.imp (qbn (A.t Gv Hv _ _ h1) (S.ss Gv Hv _ _ h3) (S.ss Gv Hv _ _ h4)) λD σ H hq1=>?_;obtain⟨ρ,G,er,h⟩:=hq1;refine⟨ρ,G,er,Wk.mono (Wk.th (x:=iT Γ.k c' ρ) h) λt h G1 H1 p1=>?_⟩;obtain⟨d,ρ1⟩:=t
 cases d with
 |true=>rw[if_pos rfl];exact⟨ρ1,G1,p1.er,Wk.mono h λf hf=>hf.back p1.gs⟩
 |false=>rw[if_neg (λz=>by cases z)];exact⟨ρ1,G1,p1.er,Wk.mono h λf hf=>hf.back p1.gs⟩
theorem qi8(gs:Gs κ K k X Γ)(A:All κ K k X Γ m)(S:AllS κ K X Γ m w)(tg it:Expr)(body:List Stmt)(p:Pos){x:DE.S}(h:cS (m+1) Γ (.For tg it body [] p)=some x):PS X (.For tg it body [] p) (tS κ K Gv Hv (iS Γ.k w x)):=by
 obtain⟨hf,h⟩:=qk h;obtain⟨q,b',h1,h2,rfl⟩:=qj h;obtain⟨t,src,h3,h4,rfl⟩:=qj h1;refine PS.imp (qh6 gs.own gs.calm (A.i Gv Hv _ _ _ h4) (qew gs.toGd tg h3) (S.ss Gv Hv _ _ h2) (qae hf X.env)) λD σ H hq1=>?_;obtain⟨ρ,G,er,h⟩:=hq1;refine⟨ρ,G,er,Wk.mono (Wk.th (x:=iI Γ.k src ρ) h) λx h J G1 H1 p1 it1=>?_⟩
 refine⟨λi mm σ' H'=>mm=x.1.length - i/\i<=x.1.length/\∃ρb Gb,ER κ K Gv Hv Gb H' ρb σ'/\qo G1 Gb/\Wk (qks (λd ρ1=>(t.go d ρ1).th λρ2=>iSs Γ.k w b' ρ2) (x.1.drop i) ρb) (FlP κ K Gv Hv G D),
  ⟨x.1.length,by simp,Nat.zero_le _,x.2,G1,p1.er,λ_ _ e=>e,by rw[List.drop_zero];exact h⟩,?_⟩
 rintro i mm σ' H' ⟨rfl,hi,ρb,Gb,erb,g1,hw⟩;have it2:=it1 i Gb H' g1 erb.base erb.sub
 by_cases hlt:i < x.1.length
 ·obtain⟨go,yl⟩:=it2.1 x.1[i] (List.getElem?_eq_getElem hlt);refine .inr ⟨go,_,λσ2 H2 w=>⟨x.1.length - (i+1),by omega,w⟩,λv H2 hy=>?_⟩;obtain⟨G',hs,gss,sub,new,rep⟩:=yl v H2 hy;have p2:=Po.more erb hs gss sub new;rw[List.drop_eq_getElem_cons hlt] at hw;refine⟨Gv,Hv,ρb,G',x.1[i],p2.er,rep,Wk.mono (Wk.th (Wk.th hw)) λρ2 hw σ2 er2=>⟨ρ2,G',er2,Wk.mono hw λf hf=>?_⟩⟩
  cases f with
  |next ρ3=>exactλσ3 G3 H3 er3 g3=>⟨rfl,hlt,ρ3,G3,er3,λb o e=>g3 b o (gss b o (g1 b o e)),hf⟩
  |ret r=>exact hf
 ·have e:i=x.1.length:=by omega
  subst e;rw[List.drop_length] at hw;exact .inl ⟨it2.2 rfl,hw σ' Gb H' erb λb o e=>g1 b o (p1.gs b o e)⟩
theorem qey(gs:Gs κ K k X Γ)(A:All κ K k X Γ m)(S:AllS κ K X Γ m w)(c:Expr)(body:List Stmt)(p:Pos){x:DE.S}(h:cS (m+1) Γ (.While c body [] p)=some x):PS X (.While c body [] p) (tS κ K Gv Hv (iS Γ.k w x)):=by
 obtain⟨c',b',h1,h2,rfl⟩:=qj h;refine PS.imp (qdW gs.own (A.t Gv Hv _ _ h1) (S.ss Gv Hv _ _ h2)) λD σ H hq1=>?_;obtain⟨ρ,G,er,h⟩:=hq1;refine⟨λn σ' H'=>∃ρb Gb,ER κ K Gv Hv Gb H' ρb σ'/\qo G Gb/\Wk (whL (λρ1=>iT Γ.k c' ρ1) (λρ1=>iSs Γ.k w b' ρ1) n ρb) (FlP κ K Gv Hv G D),⟨w,ρ,G,er,λ_ _ e=>e,h⟩,?_⟩;rintro n σ' H' ⟨ρb,Gb,erb,g1,hw⟩
 cases n with
 |zero=>exact False.elim hw
 |succ n=>
  refine⟨ρb,Gb,erb,Wk.mono (Wk.th (x:=iT Γ.k c' ρb) hw) λb hw G2 H2 p2=>?_⟩;obtain⟨d,ρ2⟩:=b
  cases d with
  |false=>rw[if_neg (λz=>by cases z)];exact hw σ' G2 H2 p2.er λb o e=>p2.gs b o (g1 b o e)
  |true=>
   rw[if_pos rfl];refine⟨_,λσ3 H3 w=>⟨n,Nat.lt_succ_self n,w⟩,ρ2,G2,p2.er,Wk.mono (Wk.th hw) λf hf=>?_⟩
   cases f with
   |next ρ3=>exactλσ3 G3 H3 er3 g3=>⟨ρ3,G3,er3,λb o e=>g3 b o (p2.gs b o (g1 b o e)),hf⟩
   |ret r=>exact hf
theorem qgO(gd:Gd κ K k X Γ)(A:All κ K k X Γ m)(e:Expr)(p:Pos){x:S}(h:cS (m+1) Γ (.Expr e p)=some x):PS X (.Expr e p) (tS κ K Gv Hv (iS Γ.k w x)):=by
 have gen:oif (yk e) ((cE m Γ e).map .expr)=some x->PS X (.Expr e p) (tS κ K Gv Hv (iS Γ.k w x)):=λh=>by obtain⟨hn,h⟩:=qk h;obtain⟨a',h1,rfl⟩:=map_some h;refine PS.imp (yj (A.r Gv Hv _ _ h1) (qaW hn _ _ _)) λD σ H hq1=>?_;obtain⟨ρ,G,er,h⟩:=hq1;exact⟨ρ,G,er,Wk.mono (Wk.th (x:=iR Γ.k a' ρ) h) λx h v G1 H1 p1 r1=>h σ G1 H1 p1.er p1.gs⟩
 cases e with
 |Call fn es kws cp=>
  cases fn with
  |Attribute o meth ap=>
   cases o with
   |Name y yp=>
    cases kws with
    |cons kw kws=>exact match es,h,gen with |[],h,gen=>gen h |[_],h,gen=>gen h | _::_::_,h,gen=>gen h
    |nil=>
     match es,h,gen with
     |[a],h,gen=>
      obtain⟨hc,h⟩:=qk h;rw[Bool.and_eq_true] at hc;have hs:qC a=false:=by simpa using hc.2
      by_cases h1:meth = "append"
      ·subst h1;rw[if_pos rfl] at h;obtain⟨i,a',h2,h3,rfl⟩:=qj h;exact qcU gd A y a yp ap cp p hc.1 hs h2 h3
      rw[if_neg h1] at h
      by_cases h2:meth = "extend"
      ·subst h2;rw[if_pos rfl] at h;obtain⟨i,a',h2,h3,rfl⟩:=qj h;exact qcV gd A y a yp ap cp p hc.1 hs h2 h3
      rw[if_neg h2] at h;cases h
     |[],h,gen=>cases h
     | _::_::_,h,gen=>exact gen h
   |_=>exact gen h
  |_=>exact gen h
 |_=>exact gen h
theorem qmH(gs:Gs κ K k X Γ)(A:All κ K k X Γ m)(S:AllS κ K X Γ m w)(st:Stmt)(x:DE.S)(h:cS (m+1) Γ st=some x):PS X st (tS κ K Gv Hv (iS Γ.k w x)):=by
 cases st with
 |Pass p=>cases h;exact PS.imp qfX λD σ H ⟨ρ,G,er,h⟩=>h σ G H er λ_ _ e=>e
 |Raise a b c=>cases h;exactλpins s σ H D I ⟨ρ,G,er,h⟩=>h.elim
 |Expr e p=>exact qgO gs.toGd A e p h
 |Return o p=>
  cases o with
  |some e=>obtain⟨y,h1,rfl⟩:=map_some h;exact qi6 gs.toGd A e p h1
  |none=>cases h;exact PS.imp qfY λD σ H ⟨ρ,G,er,h⟩=>h .non G H er.base er.g0 er.sub er.fresh (by simp only[ReR,Rep])
 |Assign tgs e p=>
  match tgs,h with
  |[],h=>cases h
  | _::_::_,h=>cases h
  |[tg],h=>
   cases tg with
   |Name x xp=>obtain⟨i,z,h1,h2,rfl⟩:=qj h;exact qi7 gs A x e xp p h1 h2
   |Tuple es j tp=>exact qcW gs.toGd A es j tp e p h
   |Subscript o i sp=>
    cases o with
    |Name x xp=>exact qcX gs.toGd A x i e xp sp p h
    |_=>cases h
   |_=>cases h
 |If c a b p=>exact qlc A S c a b p h
 |For tg it body orelse p=>
  cases orelse with
  |nil=>exact qi8 gs A S tg it body p h
  |cons s l=>cases h
 |While c body orelse p=>
  cases orelse with
  |nil=>exact qey gs A S c body p h
  |cons s l=>cases h
 |_=>cases h
theorem qld(S:AllS κ K X Γ m w):∀l x,cSs (m+1) Γ l=some x->PSs X l (tS κ K Gv Hv (iSs Γ.k w x))
 |[],_,h=>by cases h;exact PSs.imp y0 λD σ H ⟨ρ,G,er,h⟩=>h σ G H er λ_ _ e=>e
 | st::l,_,h=>by
  obtain⟨s',l',h1,h2,rfl⟩:=qj h;refine PSs.imp (qL (S.s Gv Hv _ _ h1) (S.ss Gv Hv _ _ h2)) λD σ H hq1=>?_;obtain⟨ρ,G,er,h⟩:=hq1;refine⟨ρ,G,er,Wk.mono (Wk.th (x:=iS Γ.k w s' ρ) h) λf hf=>?_⟩
  cases f with
  |next ρ1=>exactλσ1 G1 H1 er1 g1=>⟨ρ1,G1,er1,Wk.mono hf λf hf=>hf.back g1⟩
  |ret r=>exact hf
theorem qlH(gs:Gs κ K k X Γ):∀m,AllS κ K X Γ m w
 |0=>⟨(λ_ _ _ _ h=>nomatch h),(λ_ _ _ _ h=>nomatch h)⟩
 | m+1=>
  have S:=qlH gs m
  ⟨λGv Hv=>qmH gs (all m X Γ gs.toGd) S,λGv Hv=>qld S⟩
end
end DE
namespace DE
open PySem PySem.Spec PyProof.Rows L2
def YI(st:Stmt):List Str:=(qQ st).args.map (·.arg)
noncomputable def fnN(st:Stmt):List Str:=YI st++(qi st).names.filterMap λx=>if ((x.2 == .local||x.2 == .cell)&&!(YI st).contains x.1)=true then some x.1 else none
noncomputable def jK(st:Stmt):Bool:=(qi st).kind == .function&&!(qi st).isCoroutine&&!(qi st).isGenerator&&decide (fnN st).Nodup&&(YI st).all (qiz (qi st))&&(qi st).names.all λy=>y.2 != .free
def toSl:Ar->Sl
 |.val d=>.val d
 |.bor l=>.bor l
 |.scr l=>.scr l
def y1(N:List Str)(args:List Ar):Env:=args.map toSl++List.replicate (N.length - args.length) .no
structure Pg where
 defs:List (Str×Stmt)
 gl:Str->Option D
 m:Nat
 w:Nat
 meths:List (Str×Stmt):=[]
 cs:Cs:=Cs.non
 nw:Nat->Str->List Ar->R Rv:=λ_ _ _=>.no
noncomputable def Pg.ct(pg:Pg)(k:Nat)(cl:Str->List Ar->R Rv)(st:Stmt):Ct:=⟨fnN st,qi st,pg.defs.map (·.1),pg.gl,cl,pg.cs,pg.nw k⟩
def flR:Fl->R Rv
 |.next _=>.ok (.val .non)
 |.ret r=>.ok r
noncomputable def evF(pg:Pg)(k:Nat)(cl:Str->List Ar->R Rv)(st:Stmt)(args:List Ar):R Rv:=
 if (jK st&&args.length == (YI st).length)=true then (match cSs pg.m (pg.ct k cl st) (qB st) with
  |some b=>(iSs (pg.ct k cl st).k pg.w b (y1 (fnN st) args)).th flR
  |none=>.no) else .no
noncomputable def clK(pg:Pg):Nat->Str->List Ar->R Rv
 |0,_,_=>.no
 | k+1,f,args=>match (pg.defs++pg.meths).lookup f with
  |some st=>evF pg k (clK pg k) st args
  |none=>.no
noncomputable def FnF(K:Frag)(mg:PR)(f:Str)(st:Stmt):Prop:=∃fa fd,Fun K f f st fa fd/\mg f=some (.ref fa)/\zj K fd (YI st) []
inductive AllF(K:Frag)(mg:PR):List (Str×Stmt)->Prop where
 | nil:AllF K mg []
 | cons {f:Str} {st:Stmt} {l:List (Str×Stmt)} (h:FnF K mg f st) (t:AllF K mg l):AllF K mg ((f,st)::l)
theorem AllF.mem{K:Frag}{mg:PR}:∀{l:List (Str×Stmt)} {f:Str} {st:Stmt},AllF K mg l->(f,st)∈l->FnF K mg f st
 |_,_,_,.nil,h=>by cases h
 |_,_,_,.cons h t,m=>by
  cases m with
  |head=>exact h
  |tail _ m=>exact t.mem m
noncomputable def qb3(P:Program)(wd:World)(κ:KC)(K:Frag)(mg:PR)(base:Heap)(pg:Pg)(k:Nat):Prop:=
 (∀(f:Str) (st:Stmt),pg.defs.lookup f=some st->∃fa fd,FnOk P wd K mg base CX0 k fa fd (YI st) (spF κ K (clK pg k) f)/\mg f=some (.ref fa)/\PySem.W.keepIn K (.ref fa)=true/\zj K fd (YI st) [])/\
 ∀(f:Str) (st:Stmt),pg.meths.lookup f=some st->pg.defs.lookup f=none->∀nm fa fd,Fun K nm f st fa fd->FnOk P wd K mg base CX0 k fa fd (YI st) (spF κ K (clK pg k) f)
structure PgOk(κ:KC)(K:Frag)(mg:PR)(pg:Pg):Prop where
 fn:AllF K mg pg.defs
 blt:∀f∈qcJ,mg f=none
 gl:∀x d,pg.gl x=some d->∃v u,mg x=some u/\qK v u/\∀G,Rep κ G d v
 cls:∀c C,κ c=some C->Cls K C
 flds:∀c x C,pg.cs.fld c x=true->κ c=some C->zv K C x
 mts:∀c x f,pg.cs.mt c x=some f->∃C fa fd st nm,κ c=some C/\Meth K C x fa/\pg.meths.lookup f=some st/\pg.defs.lookup f=none/\Fun K nm f st fa fd/\zj K fd (YI st) []
 mks:∀P wd base k,(∀j,j < k->qb3 P wd κ K mg base pg j)->∀f,pg.cs.tab.contains f=true->(∀args,pg.nw k f args=.no)\/∃C fa fd ps sp,Mk K C fa/\FnOk P wd K mg base CX0 (k - 1) fa fd ps sp/\mg f=some (.ref C)/\zj K fd ps []/\0 < k/\
  ∀vs H Q,spF κ K (pg.nw k) f vs H Q E0->∀x dx,H x=none->H dx=none->dx≠x->sp (.ref x::vs) (upd (upd H dx (.own x)) x (.ins C dx [])) (λv H2=>v=.non/\Q (.ref x) H2) E0
 subs:∀c t b,pg.cs.sub c t=some b->∃C T,κ c=some C/\(∀H p dx fs,H p=some (HO.ins C dx fs)->TyOf K H (.ref p) (.ref C))/\mg t=some (.ref T)/\PySem.W.kitOne K (.ref C) (.ref T)=some b
section
variable{P:Program}{wd:World}{κ:KC}{K:Frag}{mg:PR}{base:Heap}{pg:Pg}
theorem Jj.len{G H:Hp}:∀{args:List Ar} {vs:List V},Jj κ K G H args vs->args.length=vs.length
 |[],vs,h=>by simp only[Jj] at h;subst h;rfl
 | a::l,vs,h=>by simp only[Jj] at h;obtain⟨v,r,rfl,_,h2⟩:=h;simp[Jj.len h2]
theorem Jj.at{G H:Hp}:∀{args:List Ar} {vs:List V} {i:Nat} {a:Ar},Jj κ K G H args vs->args[i]?=some a->∃v,vs[i]?=some v/\ArR κ K G H a v
 |[],vs,i,a,h,e=>by simp at e
 | b::l,vs,0,a,h,e=>by simp only[Jj] at h;obtain⟨v,r,rfl,h1,h2⟩:=h;simp at e;subst e;exact⟨v,rfl,h1⟩
 | b::l,vs,i+1,a,h,e=>by simp only[Jj] at h;obtain⟨v,r,rfl,h1,h2⟩:=h;obtain⟨v',e1,e2⟩:=Jj.at (i:=i) h2 (by simpa using e);exact⟨v',by simpa using e1,e2⟩
theorem qez{G H:Hp}{args:List Ar}{vs:List V}{N:List Str}(sub:qo G H)(h:Jj κ K G H args vs):ER κ K G H G H (y1 N args) (L2.qr N vs):=by
 have hl:=h.len;refine⟨by simp[y1,L2.qr,hl],sub,λ_ _ e=>e,λ_ _ e=>e,λa o e=>.inl ⟨o,e⟩,λi s e=>?_,λi j a l n e1=>?_⟩
 ·unfold y1 at e;unfold L2.qr
  by_cases hi:i < args.length
  ·rw[List.getElem?_append_left (by simpa using hi),List.getElem?_map] at e;obtain⟨b,e1,rfl⟩:=Option.map_eq_some_iff.mp e;obtain⟨v,e2,e3⟩:=h.at e1;rw[List.getElem?_append_left (by rw[List.length_map,<-hl];exact hi),List.getElem?_map,e2]
   cases b with
   |val d=>exact⟨v,rfl,e3⟩
   |bor l=>obtain⟨a,xs,rfl,h1,h2⟩:=e3;exact⟨a,xs,rfl,h1,h2⟩
   |scr l=>obtain⟨a,xs,rfl,h1,h2⟩:=e3;exact⟨a,xs,rfl,h1,h2⟩
  ·rw[List.getElem?_append_right (by simpa using hi)] at e
   have:s=.no:=by
    have:=List.mem_of_getElem? e
    exact List.eq_of_mem_replicate this
   subst this;trivial
 ·exfalso;unfold y1 at e1
  by_cases hi:i < args.length
  ·rw[List.getElem?_append_left (by simpa using hi),List.getElem?_map] at e1;obtain⟨b,_,z⟩:=Option.map_eq_some_iff.mp e1
   cases b<;>cases z
  ·rw[List.getElem?_append_right (by simpa using hi)] at e1
   have:=List.eq_of_mem_replicate (List.mem_of_getElem? e1)
   cases this
theorem YJ{st:Stmt}(h:jK st=true):FnScope (fnN st) (YI st) (qi st):=by unfold jK at h;simp only[Bool.and_eq_true,Bool.not_eq_true',List.all_eq_true] at h;obtain⟨⟨⟨⟨⟨h1,h2⟩,h3⟩,h4⟩,h5⟩,h6⟩:=h;refine⟨by simpa using h1,h2,h3,of_decide_eq_true h4,by simp[fnN],λx hx=>qcK (h5 x hx),λy hy=>by simpa using h6 y hy⟩
theorem JC{k:Nat}{f:Str}{st:Stmt}{args:List Ar}(h:(pg.defs++pg.meths).lookup f=some st):clK pg (k+1) f args=evF pg k (clK pg k) st args:=by show(match (pg.defs++pg.meths).lookup f with |some st=>evF pg k (clK pg k) st args |none=>.no)=_;rw[h]
theorem qcY{f:Str}{st:Stmt}:∀{l m:List (Str×Stmt)},l.lookup f=some st->(l++m).lookup f=some st
 |[],m,h=>by cases h
 | (g,s)::l,m,h=>by
  rw[List.lookup_cons] at h;rw[List.cons_append,List.lookup_cons]
  cases e:(f == g) with
  |true=>rw[e] at h;exact h
  |false=>rw[e] at h;exact qcY h
theorem qfz{f:Str}:∀{l m:List (Str×Stmt)},l.lookup f=none->(l++m).lookup f=m.lookup f
 |[],m,h=>rfl
 | (g,s)::l,m,h=>by
  rw[List.lookup_cons] at h;rw[List.cons_append,List.lookup_cons]
  cases e:(f == g) with
  |true=>rw[e] at h;cases h
  |false=>rw[e] at h;exact qfz h
theorem Zr{f:Str}:∀{l:List (Str×Stmt)},(l.map (·.1)).contains f=true->∃st,l.lookup f=some st
 |[],h=>by simp at h
 | (g,st)::l,h=>by
  by_cases e:f=g
  ·subst e;exact⟨st,by simp[List.lookup_cons]⟩
  ·have hb:(f == g)=false:=by simpa using e
   obtain⟨s,hs⟩:=Zr (l:=l) (f:=f) (by simp only[List.map_cons,List.contains_cons,hb,Bool.false_or] at h;exact h)
   exact⟨s,by rw[List.lookup_cons,hb];exact hs⟩
theorem qaf(ok:PgOk κ K mg pg){k:Nat}(ih:∀j,j<=k->qb3 P wd κ K mg base pg j){nm f:Str}{st:Stmt}{fa:Addr}{fd:FuncData}(F:Fun K nm f st fa fd)(h:(pg.defs++pg.meths).lookup f=some st):FnOk P wd K mg base CX0 (k+1) fa fd (YI st) (spF κ K (clK pg (k+1)) f):=by
  by_cases hc:jK st=true
  case neg=>
   have no:∀{vs:List V} {H:Hp} {Q:VK} {E:XK},spF κ K (clK pg (k+1)) f vs H Q E->False:=λ{vs H Q E} ⟨G,args,_,_,z⟩=>by
    rw[JC h] at z
    have:=(Wk.iff (show Wk (if (jK st&&args.length == (YI st).length)=true then _ else R.no) _ from z)).1
    rw[Bool.and_eq_true] at this;exact hc this.1
   exact⟨λvs H Q E z=>(no z).elim,λA outer s H args us vs Q E _ _ _ _ z=>(no z).elim⟩
  refine F.ok (YJ hc) (λvs H Q E z=>?_) (λcdv A outer s H vs Q E hr z=>?_)
  ·obtain⟨G,args,_,ha,z⟩:=z;rw[JC h] at z
   have:=(Wk.iff (show Wk (if (jK st&&args.length == (YI st).length)=true then _ else R.no) _ from z)).1
   rw[Bool.and_eq_true] at this;rw[<-ha.len]
   simpa using this.2
  ·obtain⟨G,args,sub,ha,z⟩:=z;rw[JC h] at z;have z:=(Wk.iff (show Wk (if (jK st&&args.length == (YI st).length)=true then _ else R.no) _ from z)).2;have S:=YJ hc
   have gs:Gs κ K k (qgc CX0 P wd K mg base (fnN st) f (qi st) fa cdv A outer s H E).nox (pg.ct k (clK pg k) st):=
    {hN:=rfl
     vis:=λx h=>qfn h
     loc:=λx h=>⟨qcK h,.inl rfl⟩
     glo:=λx h=>by have h:((qi st).names.lookup x == some NameKind.globalImplicit)=true:=h;exact(by simpa using h:(qi st).names.lookup x=some .globalImplicit)
     cf:=λx h=>h
     nd:=S.nd
     calm:=rfl
     hK:=rfl
     room:=hr
     fns:=λg hg=>by obtain⟨st',hl⟩:=Zr (l:=pg.defs) hg;obtain⟨ga,gd,G1,G2,G3,G4⟩:=(ih k (Nat.le_refl k)).1 g st' hl;exact⟨ga,gd,YI st',G1,G2,G3,G4⟩
     blt:=ok.blt
     gl:=ok.gl
     cls:=ok.cls
     flds:=ok.flds
     mts:=λc x f h=>by obtain⟨C,fa,fd,st',nm,m1,m2,m3,m4,m5,m6⟩:=ok.mts c x f h;exact⟨C,fa,fd,_,m1,m2,(ih k (Nat.le_refl k)).2 f st' m3 m4 nm fa fd m5,m6⟩
     mks:=ok.mks P wd base k λj hj=>ih j (Nat.le_of_lt hj)
     subs:=ok.subs
     own:=PassesOwn.never
     sceq:=rfl
     fnk:=S.kind }
   cases hb:cSs pg.m (pg.ct k (clK pg k) st) (qB st) with
   |none=>rw[hb] at z;exact z.elim
   |some b=>
   rw[hb] at z;refine⟨_,(qlH gs (w:=pg.w) pg.m).ss G H (qB st) b hb,y1 (fnN st) args,G,qez sub ha,Wk.mono (Wk.th z) λfl hf=>?_⟩
   cases fl with
   |next ρ=>exactλσ' G' H' er g'=>hf .non G' H' er.base er.g0 er.sub er.fresh (by simp only[ReR,Rep])
   |ret r=>exact hf
theorem qi9(ok:PgOk κ K mg pg):∀k j:Nat,j<=k->qb3 P wd κ K mg base pg j:=by
 have zero:qb3 P wd κ K mg base pg 0:=by refine⟨λf st h=>?_,λf st h _ nm fa fd F=>⟨λvs H Q E ⟨G,args,_,_,z⟩=>False.elim z,λA outer s H args us vs Q E _ _ _ _ ⟨G,args',_,_,z⟩=>False.elim z⟩⟩;obtain⟨fa,fd,F,hm,hb⟩:=ok.fn.mem (PySem.mem_of_lookup h);exact⟨fa,fd,⟨λvs H Q E ⟨G,args,_,_,z⟩=>False.elim z,λA outer s H args us vs Q E _ _ _ _ ⟨G,args',_,_,z⟩=>False.elim z⟩,hm,F.kp,hb⟩
 intro k
 induction k with
 |zero=>intro j hj;rw[Nat.le_zero.mp hj];exact zero
 |succ k ih=>
  intro j hj;rcases Nat.lt_or_ge j (k+1) with h | h
  ·exact ih j (Nat.le_of_lt_succ h)
  ·obtain rfl:j=k+1:=Nat.le_antisymm hj h;refine⟨λf st h=>?_,λf st h h0 nm fa fd F=>?_⟩
   ·obtain⟨fa,fd,F,hm,hb⟩:=ok.fn.mem (PySem.mem_of_lookup h);exact⟨fa,fd,qaf ok ih F (qcY h),hm,F.kp,hb⟩
   ·exact qaf ok ih F ((qfz h0).trans h)
theorem Zs(G:Hp):∀ns:List Int,ql κ G (ns.map D.int) (ns.map V.int)
 |[]=>.nil
 | n::ns=>.cons (by simp only[Rep]) (Zs G ns)
theorem qja{st:Stmt}{k:Nat}{fa:Addr}{fd:FuncData}(ok:PgOk κ K mg pg)(F:Fun K "law" "law" st fa fd)(hl:pg.defs.lookup ("law" : Str)=some st)(hp:YI st=(["_law_script"]:List Str)) :
  FnOk P wd K mg base CX0 (k+1) fa fd (["_law_script"]:List Str) (spF κ K (clK pg (k+1)) "law"):=by
 have:=qaf (P:=P) (wd:=wd) (base:=base) ok (qi9 ok k) F (qcY hl)
 rw[hp] at this;exact this
theorem qjb{k:Nat}{H:Hp}{a:Addr}{ns:List Int}(hq:SqL K H a (ns.map V.int))(h:clK pg k "law" [.scr (ns.map D.int)]=.ok (.val (.bl true))):spF κ K (clK pg k) "law" [.ref a] H (λv _=>v=.bl true) λ_ _ _=>False:=by
 refine⟨λ_=>none,[.scr (ns.map D.int)],λ_ _ e=>(by cases e),⟨_,_,rfl,⟨a,_,rfl,hq,Zs _ ns⟩,rfl⟩,?_⟩;rw[h];intro v G' H' _ _ _ _ r
 simpa only[ReR,Rep] using r
end
noncomputable def qmI(pg:Pg)(k:Nat)(cl:Str->List Ar->R Rv)(st:Stmt):Option (Nat×Nat×Ss):=oif (jK st) ((cSs pg.m (pg.ct k cl st) (qB st)).map λb=>((YI st).length,(fnN st).length,b))
def slN(n:Nat)(args:List Ar):Env:=args.map toSl++List.replicate (n - args.length) .no
noncomputable def runD(cl:Cl)(w:Nat)(c:Nat×Nat×Ss)(args:List Ar):R Rv:=if args.length=c.1 then (iSs cl w c.2.2 (slN c.2.1 args)).th flR else .no
def Pg.kk(pg:Pg)(k:Nat):Cl:=⟨clK pg k,pg.cs,pg.nw k⟩
theorem qm{pg:Pg}{f:Str}{st:Stmt}{c:Nat×Nat×Ss}(hl:(pg.defs++pg.meths).lookup f=some st)(hc:∀k cl,qmI pg k cl st=some c)(k:Nat)(args:List Ar):clK pg (k+1) f args=runD (pg.kk k) pg.w c args:=by
 obtain⟨h1,h2⟩:=qk (hc k (clK pg k));obtain⟨b,h3,rfl⟩:=map_some h2;rw[JC hl];unfold evF runD
 by_cases hn:args.length=(YI st).length
 ·rw[if_pos (by rw[h1,hn];simp),if_pos hn];rw[h3];rfl
 ·rw[if_neg (by simp[hn]),if_neg hn]
end DE
namespace DE
open PySem L2
variable{cl:Cl}{w:Nat}
theorem th_ok{α β:Type}(a:α)(f:α->R β):(R.ok a).th f=f a:=(rfl)
theorem of_some{α:Type}(a:α):R.of (some a)=.ok a:=(rfl)
noncomputable def jF(cl:Cl)(w:Nat)(tg:Tg)(b:Ss)(l:List D)(ρ:Env):R Fl:=qks (λd ρ1=>(tg.go d ρ1).th λρ2=>iSs cl w b ρ2) l ρ
noncomputable def whD(cl:Cl)(w:Nat)(c:T)(b:Ss)(n:Nat)(ρ:Env):R Fl:=whL (λρ1=>iT cl c ρ1) (λρ1=>iSs cl w b ρ1) n ρ
noncomputable def zS(cl:Cl)(e:E)(tg:Tg)(c:F)(l:List D)(ρ:Env)(acc:List D):R (List D):=qcH tg.go (λρ1=>iF cl c ρ1) (zK e (iR cl e)) l ρ acc
def qbG(f:Fl)(g:Env->R Fl):R Fl:=match f with
 |.next ρ1=>g ρ1
 |.ret r=>.ok (.ret r)
section
variable(cl:Cl)(w:Nat)(ρ:Env)
theorem qM(tg:Tg)(b:Ss):jF cl w tg b [] ρ=.ok (.next ρ):=(rfl)
theorem qcZ(tg:Tg)(b:Ss)(d:D)(l:List D):jF cl w tg b (d::l) ρ=((tg.go d ρ).th λρ2=>iSs cl w b ρ2).th λf=>qbG f λρ1=>jF cl w tg b l ρ1:=(rfl)
theorem qeA(c:T)(b:Ss)(n:Nat):whD cl w c b (n+1) ρ=(iT cl c ρ).th λt=>if t.1=true then (iSs cl w b t.2).th λf=>qbG f λρ1=>whD cl w c b n ρ1 else .ok (.next t.2):=(rfl)
theorem qW(e:E)(tg:Tg)(c:F)(acc:List D):zS cl e tg c [] ρ acc=.ok acc:=(rfl)
theorem qbH(e:E)(tg:Tg)(c:F)(d:D)(l acc:List D):zS cl e tg c (d::l) ρ acc=(tg.go d ρ).th λρ1=>(iF cl c ρ1).th λbt=>if bt.1=true then (zK e (iR cl e) bt.2).th λx=>if acc.length < sizeLine then zS cl e tg c l x.2 (acc++[x.1]) else .no else zS cl e tg c l bt.2 acc:=(rfl)
theorem qgP(e:E):iS cl w (.expr e) ρ=(iR cl e ρ).th λx=>.ok (.next x.2):=(rfl)
theorem qjc(i:Nat)(e:E):iS cl w (.app i e) ρ=(match zq ρ i with
  |none=>.no
  |some _=>(zK e (iR cl e) ρ).th λy=>(match zq y.2 i with
   |some l=>if l.length < sizeLine then .ok (.next (y.2.set i (.own (l++[y.1])))) else .no
   |none=>.no)):=(rfl)
theorem qjd(i:Nat)(e:E):iS cl w (.ext i e) ρ=(match zq ρ i with
  |none=>.no
  |some _=>(iR cl e ρ).th λy=>(match zq y.2 i,y.1.plain? with
   |some l,some n=>if l.length+n.length<=sizeLine then .ok (.next (y.2.set i (.own (l++n)))) else .no
   |_,_=>.no)):=(rfl)
theorem qje(e:E):iS cl w (.ret e) ρ=(Zh e (iR cl e) ρ).th λr=>.ok (.ret r):=(rfl)
theorem qjf(i:Nat)(e:E):iS cl w (.set i e) ρ=(JU e (iR cl e) ρ).th λs=>.ok (.next (s.2.set i s.1)):=(rfl)
theorem qgQ(tg:Tg)(e:E):iS cl w (.setT tg e) ρ=(zK e (iR cl e) ρ).th λx=>(tg.go x.1 x.2).th λρ1=>.ok (.next ρ1):=(rfl)
theorem qgR(i:Nat)(x e:E):iS cl w (.setI i x e) ρ=(zK e (iR cl e) ρ).th λy=>(match zq y.2 i with
  |none=>.no
  |some _=>(iR cl x y.2).th λz=>(match zq z.2 i,z.1.int? with
   |some l,some n=>(match ixN l.length n with
    |some k=>.ok (.next (z.2.set i (.own (l.set k y.1))))
    |none=>.no)
   |_,_=>.no)):=(rfl)
theorem qjg(c:T)(a b:Ss):iS cl w (.ite c a b) ρ=(iT cl c ρ).th λt=>if t.1=true then iSs cl w a t.2 else iSs cl w b t.2:=(rfl)
theorem qjh(tg:Tg)(src:I)(b:Ss):iS cl w (.for_ tg src b) ρ=(iI cl src ρ).th λx=>jF cl w tg b x.1 x.2:=(rfl)
theorem qeB(s:S)(l:Ss):iSs cl w (.cons s l) ρ=(iS cl w s ρ).th λf=>qbG f λρ1=>iSs cl w l ρ1:=(rfl)
theorem qji(op:Operator)(a b:E):iR cl (.bin op a b) ρ=(iR cl a ρ).th λx=>(iR cl b x.2).th λy=>(qaa op x.1 y.1).th λr=>.ok (r,y.2):=(rfl)
theorem qjj(a:E):iR cl (.neg a) ρ=(iR cl a ρ).th λx=>match x.1 with
  |.val (.int i)=>.ok (.val (.int (-i)),x.2)
  |_=>.no:=(rfl)
theorem qjk(a:E):iR cl (.not a) ρ=(iR cl a ρ).th λx=>match x.1 with
  |.val (.bl b)=>.ok (.val (.bl (!b)),x.2)
  |_=>.no:=(rfl)
theorem qjl(a b:E):iR cl (.and a b) ρ=(iR cl a ρ).th λx=>match x.1 with
  |.val (.bl true)=>iR cl b x.2
  |.val (.bl false)=>.ok (.val (.bl false),x.2)
  |_=>.no:=(rfl)
theorem qjm(op:CmpOp)(a b:E):iR cl (.cmp op a b) ρ=(iR cl a ρ).th λx=>(iR cl b x.2).th λy=>(R.of (JS op x.1 y.1)).th λr=>.ok (.val (.bl r),y.2):=(rfl)
theorem qjn(c:T)(a b:E):iR cl (.ite c a b) ρ=(iT cl c ρ).th λt=>if t.1=true then iR cl a t.2 else iR cl b t.2:=(rfl)
theorem qjo(a i:E):iR cl (.idx a i) ρ=(iR cl a ρ).th λx=>(iR cl i x.2).th λy=>(idxD x.1 y.1).th λr=>.ok (r,y.2):=(rfl)
theorem qjp(a:E)(lo hi:O):iR cl (.sli a lo hi) ρ=(iR cl a ρ).th λx=>(iO cl lo x.2).th λl=>(iO cl hi l.2).th λh=>(sliceD x.1 l.1 h.1).th λr=>.ok (r,h.2):=(rfl)
theorem qjq(l:Es):iR cl (.lst l) ρ=(iEs cl l ρ).th λx=>if x.1.length<=sizeLine then .ok (.tmp x.1,x.2) else .no:=(rfl)
theorem qjr(l:Es):iR cl (.tup l) ρ=(iEs cl l ρ).th λx=>if x.1.length<=sizeLine then .ok (.val (.tup x.1),x.2) else .no:=(rfl)
theorem qgS(f:Str)(l:Es):iR cl (.calF f l) ρ=(iEs cl l ρ).th λx=>(cl f (x.1.map .val)).th λr=>.ok (r,x.2):=(rfl)
theorem qgT(f:Str)(l:Es):iR cl (.call f l) ρ=(iAs cl l ρ).th λx=>(cl f x.1).th λr=>.ok (r,x.2):=(rfl)
theorem qle(f:B1)(a:E):iR cl (.b1 f a) ρ=(iR cl a ρ).th λx=>(f.go x.1).th λr=>.ok (r,x.2):=(rfl)
theorem qlf(f:B2)(a b:E):iR cl (.b2 f a b) ρ=(iR cl a ρ).th λx=>(iR cl b x.2).th λy=>(f.go x.1 y.1).th λr=>.ok (r,y.2):=(rfl)
theorem qjs(t:Ty)(a:E):iR cl (.isi t a) ρ=(iR cl a ρ).th λx=>(R.of (t.go x.1)).th λb=>.ok (.val (.bl b),x.2):=(rfl)
theorem qjt(t:Str)(a:E):iR cl (.isc t a) ρ=(iR cl a ρ).th λx=>(R.of (qfi cl.cs x.1 t)).th λb=>.ok (.val (.bl b),x.2):=(rfl)
theorem qju(a:E)(x:Str):iR cl (.fld a x) ρ=(iR cl a ρ).th λy=>(R.of (qcF cl.cs y.1 x)).th λd=>.ok (.val d,y.2):=(rfl)
noncomputable def goM(cl:Cl)(x:Str)(l:Es)(v:Rv)(ρ:Env):Option Str->R (Rv×Env)
 |some f=>(iAs cl l ρ).th λz=>(cl f (toAr v::z.1)).th λr=>.ok (r,z.2)
 |none=>if x = "index" then (iAs cl l ρ).th λz=>(ixM v z.1).th λr=>.ok (r,z.2) else .no
theorem qjv(a:E)(x:Str)(l:Es):iR cl (.met a x l) ρ=(iR cl a ρ).th λy=>goM cl x l y.1 y.2 (mtD cl.cs y.1 x):=by
 show(iR cl a ρ).th _=_
 congr 1
theorem qjw(f:Str)(l:Es):iR cl (.new f l) ρ=(iAs cl l ρ).th λx=>(cl.nw f x.1).th λr=>.ok (r,x.2):=(rfl)
theorem qgU(e:E)(src:I)(tg:Tg)(c:F)(n:Nat)(fr:List Nat):iR cl (.comp e src tg c n fr) ρ=(iI cl src ρ).th λx=>if x.1.length<=sizeLine then (zS cl e tg c x.1 (Z3 n fr x.2) []).th λl=>.ok (.tmp l,x.2) else .no:=(rfl)
theorem qjx(a:T):iT cl (.not a) ρ=(iT cl a ρ).th λt=>.ok (!t.1,t.2):=(rfl)
theorem qjy(a b:T):iT cl (.and a b) ρ=(iT cl a ρ).th λt=>if t.1=true then iT cl b t.2 else .ok (false,t.2):=(rfl)
theorem qlg(a b:T):iT cl (.or a b) ρ=(iT cl a ρ).th λt=>if t.1=true then .ok (true,t.2) else iT cl b t.2:=(rfl)
theorem qjz(op:CmpOp)(a b:E):iT cl (.cmp op a b) ρ=(iR cl a ρ).th λx=>(iR cl b x.2).th λy=>(R.of (JS op x.1 y.1)).th λr=>.ok (r,y.2):=(rfl)
theorem qjA(a:E):iT cl (.val a) ρ=(iR cl a ρ).th λx=>(R.of (truthD x.1)).th λb=>.ok (b,x.2):=(rfl)
theorem qeC(e:E)(l:Es):iEs cl (.cons e l) ρ=(zK e (iR cl e) ρ).th λx=>(iEs cl l x.2).th λy=>.ok (x.1::y.1,y.2):=(rfl)
theorem qeD(e:E)(l:Es):iAs cl (.cons e l) ρ=(iR cl e ρ).th λx=>(iAs cl l x.2).th λy=>.ok (toAr x.1::y.1,y.2):=(rfl)
theorem qgV(e:E):iO cl (.some e) ρ=(iR cl e ρ).th λx=>match x.1 with
  |.val (.int i)=>.ok (some i,x.2)
  |_=>.no:=(rfl)
theorem qjB(a:E):iI cl (.seq a) ρ=(zY a (iR cl a) ρ).th λx=>.ok (x.1.2,x.2):=(rfl)
theorem qjC(a:E):iI cl (.rng a) ρ=(iR cl a ρ).th λx=>(match x.1.int? with
  |some n=>if qw n=true then .ok (zx 0 n,x.2) else .no
  |none=>.no):=(rfl)
theorem qgW(a b:E):iI cl (.rng2 a b) ρ=(iR cl a ρ).th λx=>(iR cl b x.2).th λy=>(match x.1.int?,y.1.int? with
  |some i,some j=>if qw i=true/\qw j=true then .ok (zx i j,y.2) else .no
  |_,_=>.no):=(rfl)
theorem qgX(a:E):iI cl (.enum a) ρ=(zY a (iR cl a) ρ).th λx=>match x.1.1 with |.lst=>.ok (JT x.1.2,x.2) |_=>.no:=(rfl)
theorem qjD(a:E):iI cl (.rev a) ρ=(zY a (iR cl a) ρ).th λx=>match x.1.1 with |.lst=>.ok (x.1.2.reverse,x.2) |_=>.no:=(rfl)
theorem qjE(a b:E):iI cl (.zip a b) ρ=(zY a (iR cl a) ρ).th λx=>(zY b (iR cl b) x.2).th λy=>match x.1.1,y.1.1 with |.lst,.lst=>.ok (QR x.1.2 y.1.2,y.2) |_,_=>.no:=(rfl)
variable(s:Sl)(i:Nat)(d:D)(l:List D)
theorem slR_s:slR (s::ρ) (i+1)=slR ρ i:=(rfl)
theorem slR_v:slR (.val d::ρ) 0=.ok (.val d):=(rfl)
theorem slR_o:slR (.own l::ρ) 0=.ok (.cell l):=(rfl)
theorem slR_b:slR (.bor l::ρ) 0=.ok (.cell l):=(rfl)
theorem slR_c:slR (.scr l::ρ) 0=.ok (.scr l):=(rfl)
theorem slX_s:slX (s::ρ) (i+1)=slX ρ i:=(rfl)
theorem slX_v:slX (.val d::ρ) 0=.ok (.val d):=(rfl)
theorem slX_o:slX (.own l::ρ) 0=.ok (.tmp l):=(rfl)
theorem qlh:slE (s::ρ) (i+1)=(slE ρ i).th λx=>.ok (x.1,s::x.2):=by
 show(match ρ[i]? with |some (.val d)=>_ |some (.own l)=>_ |_=>_)=R.th (match ρ[i]? with |some (.val d)=>_ |some (.own l)=>_ |_=>_) _
 cases ρ[i]? with
 |none=>rfl
 |some z=>cases z<;>rfl
theorem qli:slL (s::ρ) (i+1)=(slL ρ i).th λx=>.ok (x.1,s::x.2):=by
 show(match ρ[i]? with |some (.val (.lst l))=>_ |some (.val (.tup l))=>_ |some (.val (.str z))=>_ |some (.own l)=>_ |some (.bor l)=>_ |some (.scr l)=>_ |_=>_)=R.th (match ρ[i]? with |some (.val (.lst l))=>_ |some (.val (.tup l))=>_ |some (.val (.str z))=>_ |some (.own l)=>_ |some (.bor l)=>_ |some (.scr l)=>_ |_=>_) _
 cases ρ[i]? with
 |none=>rfl
 |some z=>
  cases z with
  |val d=>cases d<;>rfl
  |_=>rfl
theorem ownI_s:zq (s::ρ) (i+1)=zq ρ i:=(rfl)
theorem ownI_o:zq (.own l::ρ) 0=some l:=(rfl)
end
mutual
noncomputable def okD:D->Bool
 |.str s=>PyData.strOk s
 |.lst l=>qaX l
 |.tup l=>qaX l
 |.ins ..=>false
 |.non=>true
 |.bl _=>true
 |.int _=>true
noncomputable def qaX:List D->Bool
 |[]=>true
 | d::l=>okD d&&qaX l
end
mutual
noncomputable def dpD:D->Nat
 |.lst l=>qag l+1
 |.tup l=>qag l+1
 |.str _=>0
 |.ins ..=>0
 |.non=>0
 |.bl _=>0
 |.int _=>0
noncomputable def qag:List D->Nat
 |[]=>0
 | d::l=>max (dpD d) (qag l)
end
mutual
theorem qfA:∀d:D,okD d=true->∃p,toP d=some p/\p.canLay0=true/\p.depth=dpD d/\PyData.eqv p p=true
 |.non,_=>⟨_,by rw[toP],by rw[PyData.canLay0],by rw[PyData.depth,dpD],by rw[PyData.eqv]⟩
 |.bl b,_=>⟨_,by rw[toP],by rw[PyData.canLay0],by rw[PyData.depth,dpD],by rw[PyData.eqv];simp⟩
 |.int n,_=>⟨_,by rw[toP],by rw[PyData.canLay0],by rw[PyData.depth,dpD],by rw[PyData.eqv];simp⟩
 |.str s,h=>⟨_,by rw[toP],by rw[PyData.canLay0];rw[okD] at h;exact h,by rw[PyData.depth,dpD],by rw[PyData.eqv];simp⟩
 |.lst l,h=>by rw[okD] at h;obtain⟨p,h1,h2,h3,h4⟩:=qah l h;exact⟨.list p,by rw[toP,h1];rfl,by rw[PyData.canLay0];exact h2,by rw[PyData.depth,dpD,h3],by rw[PyData.eqv];exact h4⟩
 |.tup l,h=>by rw[okD] at h;obtain⟨p,h1,h2,h3,h4⟩:=qah l h;exact⟨.tuple p,by rw[toP,h1];rfl,by rw[PyData.canLay0];exact h2,by rw[PyData.depth,dpD,h3],by rw[PyData.eqv];exact h4⟩
 |.ins ..,h=>by rw[okD] at h;cases h
theorem qah:∀l:List D,qaX l=true->∃p,qbZ l=some p/\PyData.canLayAll0 p=true/\PyData.depthAll p=qag l/\PyData.eqvAll p p=true
 |[],_=>⟨[],by rw[qbZ],by rw[PyData.canLayAll0],by rw[PyData.depthAll,qag],by rw[PyData.eqvAll]⟩
 | d::l,h=>by rw[qaX,Bool.and_eq_true] at h;obtain⟨p,h1,h2,h3,h4⟩:=qfA d h.1;obtain⟨q,h5,h6,h7,h8⟩:=qah l h.2;exact⟨p::q,by rw[qbZ,h1,h5];rfl,by rw[PyData.canLayAll0,h2,h6];rfl,by rw[PyData.depthAll,qag,h3,h7],by rw[PyData.eqvAll,h4,h8];rfl⟩
end
theorem qfB{d:D}(h:okD d=true)(hd:dpD d<=64):∃p,toP d=some p/\SeqAt.shaped p=true/\PyData.eqv p p=true:=by obtain⟨p,h1,h2,h3,h4⟩:=qfA d h;exact⟨p,h1,by unfold SeqAt.shaped;rw[h2,h3];simpa using hd,h4⟩
theorem qaY{d:D}(h:okD d=true)(hd:dpD d<=64):eqD d d=some true:=by obtain⟨p,h1,h2,h3⟩:=qfB h hd;unfold eqD;rw[h1];dsimp only;rw[h2,h3];rfl
theorem y2{a b:Str}(ha:PyData.strOk a=true)(hb:PyData.strOk b=true):eqD (.str a) (.str b)=some (a == b):=by unfold eqD;simp only[toP];rw[show SeqAt.shaped (.str a)=true by unfold SeqAt.shaped;simp[PyData.canLay0,PyData.depth,ha],show SeqAt.shaped (.str b)=true by unfold SeqAt.shaped;simp[PyData.canLay0,PyData.depth,hb]];simp[PyData.eqv]
theorem qjF:SeqAt.shaped .none=true:=by unfold SeqAt.shaped;simp[PyData.canLay0,PyData.depth]
theorem qjG(n:Int):SeqAt.shaped (.int n)=true:=by unfold SeqAt.shaped;simp[PyData.canLay0,PyData.depth]
theorem qjH{a:Str}(ha:PyData.strOk a=true):SeqAt.shaped (.str a)=true:=by unfold SeqAt.shaped;simp[PyData.canLay0,PyData.depth,ha]
theorem qF(a b:Int):eqD (.int a) (.int b)=some (a == b):=by unfold eqD;simp only[toP,qjG,Bool.and_self,if_true,PyData.eqv]
theorem qjI{a:Str}(ha:PyData.strOk a=true):eqD (.str a) .non=some false:=by unfold eqD;simp only[toP,qjF,qjH ha,Bool.and_self,if_true,PyData.eqv]
theorem qgY{l:List D}(h:qaX l=true)(hd:qag l<=63):eqD (.lst l) (.lst [])=some l.isEmpty:=by
 obtain⟨p,h1,h2,h3⟩:=qfB (d:=.lst l) (by rw[okD];exact h) (by rw[dpD];omega);unfold eqD;have e:toP (.lst [])=some (.list []):=by simp[toP,qbZ]
 rw[h1,e];dsimp only;rw[h2,show SeqAt.shaped (.list [])=true by unfold SeqAt.shaped;simp[PyData.canLay0,PyData.canLayAll0,PyData.depth,PyData.depthAll]];rw[toP] at h1;obtain⟨q,h4,rfl⟩:=Option.map_eq_some_iff.mp h1
 cases l with
 |nil=>rw[qbZ] at h4;cases h4;simp[PyData.eqv,PyData.eqvAll]
 |cons d l=>rw[qbZ] at h4;obtain⟨x,h5,h6⟩:=Option.bind_eq_some_iff.mp h4;obtain⟨y,h7,rfl⟩:=Option.map_eq_some_iff.mp h6;simp[PyData.eqv,PyData.eqvAll]
theorem Qk{α:Type}{l:List α}{i:Int}{j:Nat}(h:i=(j:Int))(hj:j < l.length):atI l i=some l[j]:=by subst h;unfold atI ixN;rw[if_pos (1:),if_pos (1:)];simp[hj]
theorem qeE{n:Nat}:ixN (n+1) (-1)=some n:=by unfold ixN;rw[if_neg (1:),if_pos (1:),show((-1:Int)+((n+1:Nat):Int)).toNat=n by omega]
theorem kk_f(pg:Pg)(k:Nat)(f:Str)(args:List Ar):(pg.kk k).f f args=clK pg k f args:=(rfl)
theorem kk_cs(pg:Pg)(k:Nat):(pg.kk k).cs=pg.cs:=(rfl)
theorem kk_nw(pg:Pg)(k:Nat)(f:Str)(args:List Ar):(pg.kk k).nw f args=pg.nw k f args:=(rfl)
end DE
namespace DE
open PySem L2
theorem at_0{α:Type}(a:α)(l:List α):atI (a::l) 0=some a:=by exact Qk (i:=0) (j:=0) rfl (by simp)
theorem at_1{α:Type}(a b:α)(l:List α):atI (a::b::l) 1=some b:=by exact Qk (i:=1) (j:=1) rfl (by simp)
theorem at_2{α:Type}(a b c:α)(l:List α):atI (a::b::c::l) 2=some c:=by exact Qk (i:=2) (j:=2) rfl (by simp)
theorem qjJ{α:Type}{l:List α}{j:Nat}{x:α}(h:l[j]?=some x):atI l (j:Int)=some x:=by obtain⟨h1,h2⟩:=List.getElem?_eq_some_iff.mp h;rw[Qk rfl h1,h2]
def enF(i:Nat):List D->List D
 |[]=>[]
 | d::l=>.tup [.int i,d]::enF (i+1) l
theorem qfC:∀(l:List D) (i:Nat),(List.range' i l.length).zipWith (λ(i:Nat) d=>D.tup [.int i,d]) l=enF i l
 |[],i=>rfl
 | d::l,i=>by rw[List.length_cons,List.range'_succ,List.zipWith_cons_cons,qfC l (i+1)];rfl
theorem zL(l:List D):JT l=enF 0 l:=by unfold JT;rw[List.range_eq_range',qfC]
def rgF(i:Int):Nat->List D
 |0=>[]
 | n+1=>.int i::rgF (i+1) n
theorem qfD:∀(n:Nat) (lo:Int) (s:Nat),(List.range' s n).map (λi:Nat=>D.int (lo+i))=rgF (lo+s) n
 |0,_,_=>rfl
 | n+1,lo,s=>by rw[List.range'_succ,List.map_cons,qfD n lo (s+1)];show _=D.int (lo+s)::rgF (lo+s+1) n;rw[show lo+((s+1:Nat):Int)=lo+s+1 by omega]
theorem zy(lo hi:Int):zx lo hi=rgF lo (hi - lo).toNat:=by
 unfold zx;rw[List.range_eq_range',qfD]
 congr 1
 omega
theorem ixN_app{α:Type}(l:List α)(x:α):ixN (l++[x]).length (-1)=some l.length:=by rw[List.length_append];exact qeE
theorem set_app{α:Type}(l:List α)(x y:α):(l++[x]).set l.length y=l++[y]:=by simp
theorem emp_app{α:Type}(l:List α)(x:α):(l++[x]).isEmpty=false:=by cases l<;>rfl
end DE
namespace DE
open PySem L2
theorem qc{α β γ:Type}(x:R α)(f:α->R β)(g:β->R γ):(x.th f).th g=x.th λa=>(f a).th g:=by cases x<;>rfl
theorem qh{α:Type}(x:R α):x.th R.ok=x:=by cases x<;>rfl
section
variable{β:Type}(cl:Cl)(w:Nat)
def Yr(ρ:Env)(K:Rv×Env->R β)(r:Rv):R β:=K (r,ρ)
def kBl(ρ:Env)(K:Rv×Env->R β)(b:Bool):R β:=K (.val (.bl b),ρ)
def kBo(ρ:Env)(K:Bool×Env->R β)(b:Bool):R β:=K (b,ρ)
def qlj(ρ:Env)(K:Rv×Env->R β)(l:List D):R β:=K (.tmp l,ρ)
def kB2(op:Operator)(u:Rv)(K:Rv×Env->R β)(y:Rv×Env):R β:=(qaa op u y.1).th (Yr y.2 K)
def kB1(op:Operator)(b:E)(K:Rv×Env->R β)(x:Rv×Env):R β:=(iR cl b x.2).th (kB2 op x.1 K)
noncomputable def qlI(K:Rv×Env->R β)(x:Rv×Env):R β:=R.th (match x.1 with
  |.val (.int i)=>.ok (.val (.int (-i)),x.2)
  |_=>.no) K
noncomputable def qlJ(K:Rv×Env->R β)(x:Rv×Env):R β:=R.th (match x.1 with
  |.val (.bl b)=>.ok (.val (.bl (!b)),x.2)
  |_=>.no) K
noncomputable def qlK(b:E)(K:Rv×Env->R β)(x:Rv×Env):R β:=R.th (match x.1 with
  |.val (.bl true)=>iR cl b x.2
  |.val (.bl false)=>.ok (.val (.bl false),x.2)
  |_=>.no) K
def kC2(op:CmpOp)(u:Rv)(K:Rv×Env->R β)(y:Rv×Env):R β:=(R.of (JS op u y.1)).th (kBl y.2 K)
def kC1(op:CmpOp)(b:E)(K:Rv×Env->R β)(x:Rv×Env):R β:=(iR cl b x.2).th (kC2 op x.1 K)
noncomputable def kIf(a b:E)(K:Rv×Env->R β)(t:Bool×Env):R β:=if t.1=true then (iR cl a t.2).th K else (iR cl b t.2).th K
def kI2(u:Rv)(K:Rv×Env->R β)(y:Rv×Env):R β:=(idxD u y.1).th (Yr y.2 K)
def kI1(b:E)(K:Rv×Env->R β)(x:Rv×Env):R β:=(iR cl b x.2).th (kI2 x.1 K)
noncomputable def kS3(v:Rv)(l:Option Int)(K:Rv×Env->R β)(h:Option Int×Env):R β:=(sliceD v l h.1).th (Yr h.2 K)
def kS2(v:Rv)(hi:O)(K:Rv×Env->R β)(l:Option Int×Env):R β:=(iO cl hi l.2).th (kS3 v l.1 K)
def kS1(lo hi:O)(K:Rv×Env->R β)(x:Rv×Env):R β:=(iO cl lo x.2).th (kS2 cl x.1 hi K)
def qlL(K:Rv×Env->R β)(x:List D×Env):R β:=if x.1.length<=sizeLine then K (.tmp x.1,x.2) else .no
noncomputable def qlM(K:Rv×Env->R β)(x:List D×Env):R β:=if x.1.length<=sizeLine then K (.val (.tup x.1),x.2) else .no
def qjK(f:Str)(K:Rv×Env->R β)(x:List D×Env):R β:=(cl f (x.1.map .val)).th (Yr x.2 K)
def qjL(f:Str)(K:Rv×Env->R β)(x:List Ar×Env):R β:=(cl f x.1).th (Yr x.2 K)
def kF1(f:B1)(K:Rv×Env->R β)(x:Rv×Env):R β:=(f.go x.1).th (Yr x.2 K)
def kG2(f:B2)(u:Rv)(K:Rv×Env->R β)(y:Rv×Env):R β:=(f.go u y.1).th (Yr y.2 K)
def kG1(f:B2)(b:E)(K:Rv×Env->R β)(x:Rv×Env):R β:=(iR cl b x.2).th (kG2 f x.1 K)
def qlN(t:Str)(K:Rv×Env->R β)(x:Rv×Env):R β:=(R.of (qfi cl.cs x.1 t)).th (kBl x.2 K)
def qlk(ρ:Env)(K:Rv×Env->R β)(d:D):R β:=K (.val d,ρ)
def qlO(x:Str)(K:Rv×Env->R β)(y:Rv×Env):R β:=(R.of (qcF cl.cs y.1 x)).th (qlk y.2 K)
def qll(f:Str)(v:Rv)(K:Rv×Env->R β)(z:List Ar×Env):R β:=(cl f (toAr v::z.1)).th (Yr z.2 K)
def qlm(v:Rv)(l:Es)(ρ:Env)(K:Rv×Env->R β)(f:Str):R β:=(iAs cl l ρ).th (qll cl f v K)
def qln(v:Rv)(K:Rv×Env->R β)(z:List Ar×Env):R β:=(ixM v z.1).th (Yr z.2 K)
noncomputable def qjM(x:Str)(v:Rv)(l:Es)(ρ:Env)(K:Rv×Env->R β)(o:Option Str):R β:=match o with
 |some f=>qlm cl v l ρ K f
 |none=>if x = "index" then (iAs cl l ρ).th (qln v K) else .no
def qlo(x:Str)(l:Es)(K:Rv×Env->R β)(y:Rv×Env):R β:=qjM cl x y.1 l y.2 K (mtD cl.cs y.1 x)
def qlP(f:Str)(K:Rv×Env->R β)(x:List Ar×Env):R β:=(cl.nw f x.1).th (Yr x.2 K)
def qlQ(t:Ty)(K:Rv×Env->R β)(x:Rv×Env):R β:=(R.of (t.go x.1)).th (kBl x.2 K)
noncomputable def qjN(e:E)(tg:Tg)(c:F)(n:Nat)(fr:List Nat)(K:Rv×Env->R β)(x:List D×Env):R β:=if x.1.length<=sizeLine then (zS cl e tg c x.1 (Z3 n fr x.2) []).th (qlj x.2 K) else .no
def kTn(K:Bool×Env->R β)(t:Bool×Env):R β:=K (!t.1,t.2)
noncomputable def kTa(b:T)(K:Bool×Env->R β)(t:Bool×Env):R β:=if t.1=true then (iT cl b t.2).th K else K (false,t.2)
noncomputable def kTo(b:T)(K:Bool×Env->R β)(t:Bool×Env):R β:=if t.1=true then K (true,t.2) else (iT cl b t.2).th K
def kD2(op:CmpOp)(u:Rv)(K:Bool×Env->R β)(y:Rv×Env):R β:=(R.of (JS op u y.1)).th (kBo y.2 K)
def kD1(op:CmpOp)(b:E)(K:Bool×Env->R β)(x:Rv×Env):R β:=(iR cl b x.2).th (kD2 op x.1 K)
def kTv(K:Bool×Env->R β)(x:Rv×Env):R β:=(R.of (truthD x.1)).th (kBo x.2 K)
def kE2(d:D)(K:List D×Env->R β)(y:List D×Env):R β:=K (d::y.1,y.2)
def kE1(l:Es)(K:List D×Env->R β)(x:D×Env):R β:=(iEs cl l x.2).th (kE2 x.1 K)
def kA2(v:Rv)(K:List Ar×Env->R β)(y:List Ar×Env):R β:=K (toAr v::y.1,y.2)
def kA1(l:Es)(K:List Ar×Env->R β)(x:Rv×Env):R β:=(iAs cl l x.2).th (kA2 x.1 K)
noncomputable def kO(K:Option Int×Env->R β)(x:Rv×Env):R β:=R.th (match x.1 with
  |.val (.int i)=>.ok (some i,x.2)
  |_=>.no) K
def qlR(K:List D×Env->R β)(x:(Sk×List D)×Env):R β:=K (x.1.2,x.2)
noncomputable def qlS(K:List D×Env->R β)(x:Rv×Env):R β:=R.th (match x.1.int? with
  |some n=>if qw n=true then .ok (zx 0 n,x.2) else .no
  |none=>.no) K
noncomputable def kR2(u:Rv)(K:List D×Env->R β)(y:Rv×Env):R β:=R.th (match u.int?,y.1.int? with
  |some i,some j=>if qw i=true/\qw j=true then .ok (zx i j,y.2) else .no
  |_,_=>.no) K
def kR1(b:E)(K:List D×Env->R β)(x:Rv×Env):R β:=(iR cl b x.2).th (kR2 x.1 K)
noncomputable def qjO(K:List D×Env->R β)(x:(Sk×List D)×Env):R β:=R.th (match x.1.1 with |.lst=>.ok (JT x.1.2,x.2) |_=>.no) K
noncomputable def qlT(K:List D×Env->R β)(x:(Sk×List D)×Env):R β:=R.th (match x.1.1 with |.lst=>.ok (x.1.2.reverse,x.2) |_=>.no) K
noncomputable def kZ2(x:Sk×List D)(K:List D×Env->R β)(y:(Sk×List D)×Env):R β:=R.th (match x.1,y.1.1 with |.lst,.lst=>.ok (QR x.2 y.1.2,y.2) |_,_=>.no) K
def kZ1(b:E)(K:List D×Env->R β)(x:(Sk×List D)×Env):R β:=(zY b (iR cl b) x.2).th (kZ2 x.1 K)
def qfE(K:D×Env->R β)(x:Rv×Env):R β:=(qeg x).th K
def Yx(K:(Sk×List D)×Env->R β)(x:Rv×Env):R β:=(qdQ x).th K
noncomputable def kX(K:Rv->R β)(x:Rv×Env):R β:=R.th (match x.1 with
  |.val d=>.ok (.val d)
  |.tmp l=>.ok (.tmp l)
  |_=>.no) K
def kAv(K:Sl×Env->R β)(x:D×Env):R β:=K (.val x.1,x.2)
noncomputable def kAx(K:Sl×Env->R β)(x:Rv×Env):R β:=R.th (match x.1 with
  |.val d=>.ok (.val d,x.2)
  |.tmp l=>.ok (.own l,x.2)
  |_=>.no) K
def qgZ{α:Type}(s:Sl)(K:α×Env->R β)(x:α×Env):R β:=K (x.1,s::x.2)
def qjP(K:Fl->R β)(x:Rv×Env):R β:=K (.next x.2)
def oGo(o:Option (List D))(x:R β):R β:=match o with
 |none=>.no
 |some _=>x
noncomputable def qg0(i:Nat)(d:D)(ρ:Env)(K:Fl->R β)(o:Option (List D)):R β:=R.th (match o with
   |some l=>if l.length < sizeLine then .ok (.next (ρ.set i (.own (l++[d])))) else .no
   |none=>.no) K
def qlU(i:Nat)(K:Fl->R β)(y:D×Env):R β:=qg0 i y.1 y.2 K (zq y.2 i)
noncomputable def qg1(i:Nat)(ρ:Env)(K:Fl->R β)(o p:Option (List D)):R β:=R.th (match o,p with
   |some l,some n=>if l.length+n.length<=sizeLine then .ok (.next (ρ.set i (.own (l++n)))) else .no
   |_,_=>.no) K
def qlV(i:Nat)(K:Fl->R β)(y:Rv×Env):R β:=qg1 i y.2 K (zq y.2 i) y.1.plain?
def kRt(K:Fl->R β)(r:Rv):R β:=K (.ret r)
def qlW(i:Nat)(K:Fl->R β)(s:Sl×Env):R β:=K (.next (s.2.set i s.1))
def kNx(K:Fl->R β)(ρ:Env):R β:=K (.next ρ)
def kST(tg:Tg)(K:Fl->R β)(x:D×Env):R β:=(tg.go x.1 x.2).th (kNx K)
noncomputable def qlp(i:Nat)(d:D)(ρ:Env)(K:Fl->R β)(l:List D)(o:Option Nat):R β:=R.th (match o with
    |some k=>.ok (.next (ρ.set i (.own (l.set k d))))
    |none=>.no) K
noncomputable def qkv(i:Nat)(d:D)(ρ:Env)(K:Fl->R β)(o:Option (List D))(v:Option Int):R β:=match o,v with
 |some l,some n=>qlp i d ρ K l (ixN l.length n)
 |_,_=>.no
def qlq(i:Nat)(d:D)(K:Fl->R β)(z:Rv×Env):R β:=qkv i d z.2 K (zq z.2 i) z.1.int?
def kSI(i:Nat)(x:E)(K:Fl->R β)(y:D×Env):R β:=oGo (zq y.2 i) ((iR cl x y.2).th (qlq i y.1 K))
noncomputable def qlX(a b:Ss)(K:Fl->R β)(t:Bool×Env):R β:=if t.1=true then (iSs cl w a t.2).th K else (iSs cl w b t.2).th K
def qlY(tg:Tg)(b:Ss)(K:Fl->R β)(x:List D×Env):R β:=(jF cl w tg b x.1 x.2).th K
def qg2(l:Ss)(K:Fl->R β)(f:Fl):R β:=(qbG f λρ1=>iSs cl w l ρ1).th K
def qkw(tg:Tg)(b:Ss)(l:List D)(K:Fl->R β)(f:Fl):R β:=(qbG f λρ1=>jF cl w tg b l ρ1).th K
def qlZ(tg:Tg)(b:Ss)(l:List D)(K:Fl->R β)(ρ:Env):R β:=(iSs cl w b ρ).th (qkw cl w tg b l K)
def qlr(c:T)(b:Ss)(n:Nat)(K:Fl->R β)(f:Fl):R β:=(qbG f λρ1=>whD cl w c b n ρ1).th K
noncomputable def ql0(c:T)(b:Ss)(n:Nat)(K:Fl->R β)(t:Bool×Env):R β:=if t.1=true then (iSs cl w b t.2).th (qlr cl w c b n K) else K (.next t.2)
noncomputable def kP3(e:E)(tg:Tg)(c:F)(l acc:List D)(K:List D->R β)(x:D×Env):R β:=if acc.length < sizeLine then (zS cl e tg c l x.2 (acc++[x.1])).th K else .no
noncomputable def kP2(e:E)(tg:Tg)(c:F)(l acc:List D)(K:List D->R β)(t:Bool×Env):R β:=if t.1=true then (zK e (iR cl e) t.2).th (kP3 cl e tg c l acc K) else (zS cl e tg c l t.2 acc).th K
noncomputable def kP1(e:E)(tg:Tg)(c:F)(l acc:List D)(K:List D->R β)(ρ:Env):R β:=(iF cl c ρ).th (kP2 cl e tg c l acc K)
theorem zz{α:Type}{c:Prop}[Decidable c](x y:R α)(K:α->R β):(if c then x else y).th K=if c then x.th K else y.th K:=by split<;>rfl
theorem qu{α:Type}(x:R α){f g:α->R β}(h:∀a,f a=g a):x.th f=x.th g:=by cases x<;>first | rfl | exact h _
section
variable(ρ:Env)(K:Rv×Env->R β)
theorem xR_var(i:Nat):(iR cl (.var i) ρ).th K=(slR ρ i).th (Yr ρ K):=(qc (slR ρ i) _ _)
theorem xR_con(d:D):(iR cl (.con d) ρ).th K=K (.val d,ρ):=(rfl)
theorem xR_bin(op:Operator)(a b:E):(iR cl (.bin op a b) ρ).th K=(iR cl a ρ).th (kB1 cl op b K):=by rw[qji,qc];refine qu _ λx=>?_;rw[qc];refine qu _ λy=>?_;rw[qc];rfl
theorem xR_neg(a:E):(iR cl (.neg a) ρ).th K=(iR cl a ρ).th (qlI K):=by rw[qjj,qc];rfl
theorem xR_not(a:E):(iR cl (.not a) ρ).th K=(iR cl a ρ).th (qlJ K):=by rw[qjk,qc];rfl
theorem xR_one(a:E):(iR cl (.one a) ρ).th K=(iR cl a ρ).th K:=(rfl)
theorem xR_and(a b:E):(iR cl (.and a b) ρ).th K=(iR cl a ρ).th (qlK cl b K):=by rw[qjl,qc];rfl
theorem xR_cmp(op:CmpOp)(a b:E):(iR cl (.cmp op a b) ρ).th K=(iR cl a ρ).th (kC1 cl op b K):=by rw[qjm,qc];refine qu _ λx=>?_;rw[qc];refine qu _ λy=>?_;rw[qc];rfl
theorem xR_ite(c:T)(a b:E):(iR cl (.ite c a b) ρ).th K=(iT cl c ρ).th (kIf cl a b K):=by rw[qjn,qc];refine qu _ λt=>?_;rw[zz];rfl
theorem xR_idx(a b:E):(iR cl (.idx a b) ρ).th K=(iR cl a ρ).th (kI1 cl b K):=by rw[qjo,qc];refine qu _ λx=>?_;rw[qc];refine qu _ λy=>?_;rw[qc];rfl
theorem xR_sli(a:E)(lo hi:O):(iR cl (.sli a lo hi) ρ).th K=(iR cl a ρ).th (kS1 cl lo hi K):=by rw[qjp,qc];refine qu _ λx=>?_;rw[qc];refine qu _ λy=>?_;rw[qc];refine qu _ λz=>?_;rw[qc];rfl
theorem xR_lst(l:Es):(iR cl (.lst l) ρ).th K=(iEs cl l ρ).th (qlL K):=by rw[qjq,qc];refine qu _ λx=>?_;rw[zz];rfl
theorem xR_tup(l:Es):(iR cl (.tup l) ρ).th K=(iEs cl l ρ).th (qlM K):=by rw[qjr,qc];refine qu _ λx=>?_;rw[zz];rfl
theorem xR_calF(f:Str)(l:Es):(iR cl (.calF f l) ρ).th K=(iEs cl l ρ).th (qjK cl f K):=by rw[qgS,qc];refine qu _ λx=>?_;rw[qc];rfl
theorem xR_call(f:Str)(l:Es):(iR cl (.call f l) ρ).th K=(iAs cl l ρ).th (qjL cl f K):=by rw[qgT,qc];refine qu _ λx=>?_;rw[qc];rfl
theorem xR_b1(f:B1)(a:E):(iR cl (.b1 f a) ρ).th K=(iR cl a ρ).th (kF1 f K):=by rw[qle,qc];refine qu _ λx=>?_;rw[qc];rfl
theorem xR_b2(f:B2)(a b:E):(iR cl (.b2 f a b) ρ).th K=(iR cl a ρ).th (kG1 cl f b K):=by rw[qlf,qc];refine qu _ λx=>?_;rw[qc];refine qu _ λy=>?_;rw[qc];rfl
theorem xR_isc(t:Str)(a:E):(iR cl (.isc t a) ρ).th K=(iR cl a ρ).th (qlN cl t K):=by rw[qjt,qc];refine qu _ λx=>?_;rw[qc];rfl
theorem xR_fld(a:E)(x:Str):(iR cl (.fld a x) ρ).th K=(iR cl a ρ).th (qlO cl x K):=by rw[qju,qc];refine qu _ λy=>?_;rw[qc];rfl
theorem xR_met(a:E)(x:Str)(l:Es):(iR cl (.met a x l) ρ).th K=(iR cl a ρ).th (qlo cl x l K):=by
 rw[qjv,qc];refine qu _ λy=>?_;unfold qlo
 cases mtD cl.cs y.1 x with
 |some f=>unfold goM;rw[qc];refine qu _ λz=>?_;rw[qc];rfl
 |none=>
  show(if x = "index" then _ else R.no).th K=if x = "index" then _ else R.no;rw[zz];split
  ·rw[qc];refine qu _ λz=>?_;rw[qc];rfl
  ·rfl
theorem xR_new(f:Str)(l:Es):(iR cl (.new f l) ρ).th K=(iAs cl l ρ).th (qlP cl f K):=by rw[qjw,qc];refine qu _ λx=>?_;rw[qc];rfl
theorem xR_isi(t:Ty)(a:E):(iR cl (.isi t a) ρ).th K=(iR cl a ρ).th (qlQ t K):=by rw[qjs,qc];refine qu _ λx=>?_;rw[qc];rfl
theorem xR_comp(e:E)(src:I)(tg:Tg)(c:F)(n:Nat)(fr:List Nat):(iR cl (.comp e src tg c n fr) ρ).th K=(iI cl src ρ).th (qjN cl e tg c n fr K):=by rw[qgU,qc];refine qu _ λx=>?_;rw[zz,qc];rfl
end
section
variable(ρ:Env)(K:Rv×Env->R β)(v u:Rv)
theorem yRet:Yr ρ K v=K (v,ρ):=(rfl)
theorem yBl(b:Bool):kBl ρ K b=K (.val (.bl b),ρ):=(rfl)
theorem yTmp(l:List D):qlj ρ K l=K (.tmp l,ρ):=(rfl)
theorem yB1(op:Operator)(b:E):kB1 cl op b K (v,ρ)=(iR cl b ρ).th (kB2 op v K):=(rfl)
theorem yB2(op:Operator):kB2 op u K (v,ρ)=(qaa op u v).th (Yr ρ K):=(rfl)
theorem yNeg(i:Int):qlI K (.val (.int i),ρ)=K (.val (.int (-i)),ρ):=(rfl)
theorem yNot(b:Bool):qlJ K (.val (.bl b),ρ)=K (.val (.bl (!b)),ρ):=(rfl)
theorem yAnd(b:E)(t:Bool):qlK cl b K (.val (.bl t),ρ)=if t=true then (iR cl b ρ).th K else K (.val (.bl false),ρ):=by cases t<;>rfl
theorem yC1(op:CmpOp)(b:E):kC1 cl op b K (v,ρ)=(iR cl b ρ).th (kC2 op v K):=(rfl)
theorem yC2(op:CmpOp):kC2 op u K (v,ρ)=(R.of (JS op u v)).th (kBl ρ K):=(rfl)
theorem yIf(a b:E)(t:Bool):kIf cl a b K (t,ρ)=if t=true then (iR cl a ρ).th K else (iR cl b ρ).th K:=(rfl)
theorem yI1(b:E):kI1 cl b K (v,ρ)=(iR cl b ρ).th (kI2 v K):=(rfl)
theorem yI2:kI2 u K (v,ρ)=(idxD u v).th (Yr ρ K):=(rfl)
theorem yS1(lo hi:O):kS1 cl lo hi K (v,ρ)=(iO cl lo ρ).th (kS2 cl v hi K):=(rfl)
theorem yS2(hi:O)(l:Option Int):kS2 cl v hi K (l,ρ)=(iO cl hi ρ).th (kS3 v l K):=(rfl)
theorem yS3(l h:Option Int):kS3 v l K (h,ρ)=(sliceD v l h).th (Yr ρ K):=(rfl)
theorem yLst(l:List D):qlL K (l,ρ)=if l.length<=sizeLine then K (.tmp l,ρ) else .no:=(rfl)
theorem yTup(l:List D):qlM K (l,ρ)=if l.length<=sizeLine then K (.val (.tup l),ρ) else .no:=(rfl)
theorem yCalF(f:Str)(l:List D):qjK cl f K (l,ρ)=(cl f (l.map .val)).th (Yr ρ K):=(rfl)
theorem yCall(f:Str)(l:List Ar):qjL cl f K (l,ρ)=(cl f l).th (Yr ρ K):=(rfl)
theorem yF1(f:B1):kF1 f K (v,ρ)=(f.go v).th (Yr ρ K):=(rfl)
theorem yG1(f:B2)(b:E):kG1 cl f b K (v,ρ)=(iR cl b ρ).th (kG2 f v K):=(rfl)
theorem yG2(f:B2):kG2 f u K (v,ρ)=(f.go u v).th (Yr ρ K):=(rfl)
theorem yIsc(t:Str):qlN cl t K (v,ρ)=(R.of (qfi cl.cs v t)).th (kBl ρ K):=(rfl)
theorem yDat(d:D):qlk ρ K d=K (.val d,ρ):=(rfl)
theorem yFld(x:Str):qlO cl x K (v,ρ)=(R.of (qcF cl.cs v x)).th (qlk ρ K):=(rfl)
theorem yMt3(f:Str)(l:List Ar):qll cl f v K (l,ρ)=(cl f (toAr v::l)).th (Yr ρ K):=(rfl)
theorem yMt2(f:Str)(l:Es):qlm cl v l ρ K f=(iAs cl l ρ).th (qll cl f v K):=(rfl)
theorem yMt1(x:Str)(l:Es):qlo cl x l K (v,ρ)=qjM cl x v l ρ K (mtD cl.cs v x):=(rfl)
theorem yMtO(x:Str)(l:Es)(f:Str):qjM cl x v l ρ K (some f)=qlm cl v l ρ K f:=(rfl)
theorem yMtN(l:Es):qjM cl "index" v l ρ K none=(iAs cl l ρ).th (qln v K):=by unfold qjM;exact if_pos rfl
theorem yMtI(l:List Ar):qln v K (l,ρ)=(ixM v l).th (Yr ρ K):=(rfl)
theorem yMtv(cs:Cs)(l:List D)(x:Str):mtD cs (.val (.lst l)) x=none:=(rfl)
theorem yNew(f:Str)(l:List Ar):qlP cl f K (l,ρ)=(cl.nw f l).th (Yr ρ K):=(rfl)
theorem yIsi(t:Ty):qlQ t K (v,ρ)=(R.of (t.go v)).th (kBl ρ K):=(rfl)
theorem yComp(e:E)(tg:Tg)(c:F)(n:Nat)(fr:List Nat)(l:List D):qjN cl e tg c n fr K (l,ρ)=if l.length<=sizeLine then (zS cl e tg c l (Z3 n fr ρ) []).th (qlj ρ K) else .no:=(rfl)
end
section
variable(ρ:Env)(K:Bool×Env->R β)(v u:Rv)(t:Bool)
theorem xT_not(a:T):(iT cl (.not a) ρ).th K=(iT cl a ρ).th (kTn K):=by rw[qjx,qc];rfl
theorem xT_one(a:T):(iT cl (.one a) ρ).th K=(iT cl a ρ).th K:=(rfl)
theorem xT_and(a b:T):(iT cl (.and a b) ρ).th K=(iT cl a ρ).th (kTa cl b K):=by rw[qjy,qc];refine qu _ λt=>?_;rw[zz];rfl
theorem xT_or(a b:T):(iT cl (.or a b) ρ).th K=(iT cl a ρ).th (kTo cl b K):=by rw[qlg,qc];refine qu _ λt=>?_;rw[zz];rfl
theorem xT_cmp(op:CmpOp)(a b:E):(iT cl (.cmp op a b) ρ).th K=(iR cl a ρ).th (kD1 cl op b K):=by rw[qjz,qc];refine qu _ λx=>?_;rw[qc];refine qu _ λy=>?_;rw[qc];rfl
theorem xT_val(a:E):(iT cl (.val a) ρ).th K=(iR cl a ρ).th (kTv K):=by rw[qjA,qc];refine qu _ λx=>?_;rw[qc];rfl
theorem yBo:kBo ρ K t=K (t,ρ):=(rfl)
theorem yTn:kTn K (t,ρ)=K (!t,ρ):=(rfl)
theorem yTa(b:T):kTa cl b K (t,ρ)=if t=true then (iT cl b ρ).th K else K (false,ρ):=(rfl)
theorem yTo(b:T):kTo cl b K (t,ρ)=if t=true then K (true,ρ) else (iT cl b ρ).th K:=(rfl)
theorem yD1(op:CmpOp)(b:E):kD1 cl op b K (v,ρ)=(iR cl b ρ).th (kD2 op v K):=(rfl)
theorem yD2(op:CmpOp):kD2 op u K (v,ρ)=(R.of (JS op u v)).th (kBo ρ K):=(rfl)
theorem yTv:kTv K (v,ρ)=(R.of (truthD v)).th (kBo ρ K):=(rfl)
theorem xF_yes:(iF cl .yes ρ).th K=K (true,ρ):=(rfl)
theorem xF_test(c:T):(iF cl (.test c) ρ).th K=(iT cl c ρ).th K:=(rfl)
end
section
variable(ρ:Env)
theorem xEs_nil(K:List D×Env->R β):(iEs cl .nil ρ).th K=K ([],ρ):=(rfl)
theorem xEs_cons(K:List D×Env->R β)(e:E)(l:Es):(iEs cl (.cons e l) ρ).th K=(zK e (iR cl e) ρ).th (kE1 cl l K):=by rw[qeC,qc];refine qu _ λx=>?_;rw[qc];rfl
theorem yE1(K:List D×Env->R β)(l:Es)(d:D):kE1 cl l K (d,ρ)=(iEs cl l ρ).th (kE2 d K):=(rfl)
theorem yE2(K:List D×Env->R β)(d:D)(ds:List D):kE2 d K (ds,ρ)=K (d::ds,ρ):=(rfl)
theorem xAs_nil(K:List Ar×Env->R β):(iAs cl .nil ρ).th K=K ([],ρ):=(rfl)
theorem xAs_cons(K:List Ar×Env->R β)(e:E)(l:Es):(iAs cl (.cons e l) ρ).th K=(iR cl e ρ).th (kA1 cl l K):=by rw[qeD,qc];refine qu _ λx=>?_;rw[qc];rfl
theorem yA1(K:List Ar×Env->R β)(l:Es)(v:Rv):kA1 cl l K (v,ρ)=(iAs cl l ρ).th (kA2 v K):=(rfl)
theorem yA2(K:List Ar×Env->R β)(v:Rv)(l:List Ar):kA2 v K (l,ρ)=K (toAr v::l,ρ):=(rfl)
theorem xO_none(K:Option Int×Env->R β):(iO cl .none ρ).th K=K (none,ρ):=(rfl)
theorem xO_some(K:Option Int×Env->R β)(e:E):(iO cl (.some e) ρ).th K=(iR cl e ρ).th (kO K):=by rw[qgV,qc];rfl
theorem yO(K:Option Int×Env->R β)(i:Int):kO K (.val (.int i),ρ)=K (some i,ρ):=(rfl)
variable(K:List D×Env->R β)
theorem xI_seq(a:E):(iI cl (.seq a) ρ).th K=(zY a (iR cl a) ρ).th (qlR K):=by rw[qjB,qc];rfl
theorem xI_rng(a:E):(iI cl (.rng a) ρ).th K=(iR cl a ρ).th (qlS K):=by rw[qjC,qc];rfl
theorem xI_rng2(a b:E):(iI cl (.rng2 a b) ρ).th K=(iR cl a ρ).th (kR1 cl b K):=by rw[qgW,qc];refine qu _ λx=>?_;rw[qc];rfl
theorem xI_rev(a:E):(iI cl (.rev a) ρ).th K=(zY a (iR cl a) ρ).th (qlT K):=by rw[qjD,qc];rfl
theorem xI_enum(a:E):(iI cl (.enum a) ρ).th K=(zY a (iR cl a) ρ).th (qjO K):=by rw[qgX,qc];rfl
theorem xI_zip(a b:E):(iI cl (.zip a b) ρ).th K=(zY a (iR cl a) ρ).th (kZ1 cl b K):=by rw[qjE,qc];refine qu _ λx=>?_;rw[qc];rfl
theorem ySeq(s:Sk)(l:List D):qlR K ((s,l),ρ)=K (l,ρ):=(rfl)
theorem yRng(n:Int):qlS K (.val (.int n),ρ)=if qw n=true then K (zx 0 n,ρ) else .no:=by show R.th (if qw n=true then _ else _) K=_;rw[zz];rfl
theorem yR1(b:E)(v:Rv):kR1 cl b K (v,ρ)=(iR cl b ρ).th (kR2 v K):=(rfl)
theorem yR2(i j:Int):kR2 (.val (.int i)) K (.val (.int j),ρ)=if qw i=true/\qw j=true then K (zx i j,ρ) else .no:=by show R.th (if qw i=true/\qw j=true then _ else _) K=_;rw[zz];rfl
theorem yRev(l:List D):qlT K ((.lst,l),ρ)=K (l.reverse,ρ):=(rfl)
theorem yEnum(l:List D):qjO K ((.lst,l),ρ)=K (JT l,ρ):=(rfl)
theorem yZ1(b:E)(x:Sk×List D):kZ1 cl b K (x,ρ)=(zY b (iR cl b) ρ).th (kZ2 x K):=(rfl)
theorem yZ2(l n:List D):kZ2 (.lst,l) K ((.lst,n),ρ)=K (QR l n,ρ):=(rfl)
end
section
variable(ρ:Env)(s:Sl)(i:Nat)(d:D)(l:List D)
theorem yVal(K:D×Env->R β):qfE K (.val d,ρ)=K (d,ρ):=(rfl)
theorem yValt(K:D×Env->R β):qfE K (.tmp l,ρ)=K (.lst l,ρ):=(rfl)
theorem yValL(K:(Sk×List D)×Env->R β):Yx K (.val (.lst l),ρ)=K ((.lst,l),ρ):=(rfl)
theorem yValLt(K:(Sk×List D)×Env->R β):Yx K (.val (.tup l),ρ)=K ((.tup,l),ρ):=(rfl)
theorem yValLm(K:(Sk×List D)×Env->R β):Yx K (.tmp l,ρ)=K ((.lst,l),ρ):=(rfl)
theorem yX(K:Rv->R β):kX K (.val d,ρ)=K (.val d):=(rfl)
theorem yXt(K:Rv->R β):kX K (.tmp l,ρ)=K (.tmp l):=(rfl)
theorem yAv(K:Sl×Env->R β):kAv K (d,ρ)=K (.val d,ρ):=(rfl)
theorem yAx(K:Sl×Env->R β):kAx K (.val d,ρ)=K (.val d,ρ):=(rfl)
theorem yAxt(K:Sl×Env->R β):kAx K (.tmp l,ρ)=K (.own l,ρ):=(rfl)
theorem yCons{α:Type}(K:α×Env->R β)(x:α):qgZ s K (x,ρ)=K (x,s::ρ):=(rfl)
theorem xE_s(K:D×Env->R β):(slE (s::ρ) (i+1)).th K=(slE ρ i).th (qgZ s K):=by rw[qlh,qc];rfl
theorem xE_v(K:D×Env->R β):(slE (.val d::ρ) 0).th K=K (d,.val d::ρ):=(rfl)
theorem xE_o(K:D×Env->R β):(slE (.own l::ρ) 0).th K=K (.lst l,.val (.lst l)::ρ):=(rfl)
variable(K:(Sk×List D)×Env->R β)
theorem xL_s:(slL (s::ρ) (i+1)).th K=(slL ρ i).th (qgZ s K):=by rw[qli,qc];rfl
theorem xL_l:(slL (.val (.lst l)::ρ) 0).th K=K ((.lst,l),.val (.lst l)::ρ):=(rfl)
theorem xL_z(z:Str):(slL (.val (.str z)::ρ) 0).th K=K ((.str,qef z),.val (.str z)::ρ):=(rfl)
theorem xL_o:(slL (.own l::ρ) 0).th K=K ((.lst,l),.val (.lst l)::ρ):=(rfl)
theorem xL_b:(slL (.bor l::ρ) 0).th K=K ((.lst,l),.bor l::ρ):=(rfl)
end
section
variable(ρ:Env)(K:Fl->R β)(i:Nat)
theorem xS_expr(e:E):(iS cl w (.expr e) ρ).th K=(iR cl e ρ).th (qjP K):=by rw[qgP,qc];rfl
theorem yExpr(v:Rv):qjP K (v,ρ)=K (.next ρ):=(rfl)
theorem oGo_some(l:List D)(x:R β):oGo (some l) x=x:=(rfl)
theorem xS_app(e:E):(iS cl w (.app i e) ρ).th K=oGo (zq ρ i) ((zK e (iR cl e) ρ).th (qlU i K)):=by
 rw[qjc]
 cases zq ρ i with
 |none=>rfl
 |some l=>show R.th (R.th (zK e (iR cl e) ρ) _) K=_;rw[qc];rfl
theorem yApp(d:D):qlU i K (d,ρ)=qg0 i d ρ K (zq ρ i):=(rfl)
theorem yApp2(d:D)(l:List D):qg0 i d ρ K (some l)=if l.length < sizeLine then K (.next (ρ.set i (.own (l++[d])))) else .no:=by show R.th (if l.length < sizeLine then _ else _) K=_;rw[zz];rfl
theorem xS_ext(e:E):(iS cl w (.ext i e) ρ).th K=oGo (zq ρ i) ((iR cl e ρ).th (qlV i K)):=by
 rw[qjd]
 cases zq ρ i with
 |none=>rfl
 |some l=>show R.th (R.th (iR cl e ρ) _) K=_;rw[qc];rfl
theorem yExt(v:Rv):qlV i K (v,ρ)=qg1 i ρ K (zq ρ i) v.plain?:=(rfl)
theorem yExt2(l n:List D):qg1 i ρ K (some l) (some n)=if l.length+n.length<=sizeLine then K (.next (ρ.set i (.own (l++n)))) else .no:=by show R.th (if l.length+n.length<=sizeLine then _ else _) K=_;rw[zz];rfl
theorem xS_ret(e:E):(iS cl w (.ret e) ρ).th K=(Zh e (iR cl e) ρ).th (kRt K):=by rw[qje,qc];rfl
theorem yRt(r:Rv):kRt K r=K (.ret r):=(rfl)
theorem xS_set(e:E):(iS cl w (.set i e) ρ).th K=(JU e (iR cl e) ρ).th (qlW i K):=by rw[qjf,qc];rfl
theorem ySet(s:Sl):qlW i K (s,ρ)=K (.next (ρ.set i s)):=(rfl)
theorem xS_setT(tg:Tg)(e:E):(iS cl w (.setT tg e) ρ).th K=(zK e (iR cl e) ρ).th (kST tg K):=by rw[qgQ,qc];refine qu _ λx=>?_;rw[qc];rfl
theorem yST(tg:Tg)(d:D):kST tg K (d,ρ)=(tg.go d ρ).th (kNx K):=(rfl)
theorem yNx:kNx K ρ=K (.next ρ):=(rfl)
theorem xS_setI(x e:E):(iS cl w (.setI i x e) ρ).th K=(zK e (iR cl e) ρ).th (kSI cl i x K):=by
 rw[qgR,qc];refine qu _ λy=>?_;show R.th (match zq y.2 i with |none=>_ |some _=>_) K=oGo (zq y.2 i) _
 cases zq y.2 i with
 |none=>rfl
 |some l=>
  show R.th (R.th (iR cl x y.2) _) K=R.th _ _;rw[qc];refine qu _ λz=>?_;show R.th (match zq z.2 i,z.1.int? with |some l,some n=>_ |_,_=>_) K=qkv i y.1 z.2 K (zq z.2 i) z.1.int?
  cases zq z.2 i with
  |none=>rfl
  |some l=>cases z.1.int?<;>rfl
theorem ySI(x:E)(d:D):kSI cl i x K (d,ρ)=oGo (zq ρ i) ((iR cl x ρ).th (qlq i d K)):=(rfl)
theorem ySI2(d:D)(v:Rv):qlq i d K (v,ρ)=qkv i d ρ K (zq ρ i) v.int?:=(rfl)
theorem ySI3(d:D)(l:List D)(n:Int):qkv i d ρ K (some l) (some n)=qlp i d ρ K l (ixN l.length n):=(rfl)
theorem ySI4(d:D)(l:List D)(k:Nat):qlp i d ρ K l (some k)=K (.next (ρ.set i (.own (l.set k d)))):=(rfl)
theorem xS_ite(c:T)(a b:Ss):(iS cl w (.ite c a b) ρ).th K=(iT cl c ρ).th (qlX cl w a b K):=by rw[qjg,qc];refine qu _ λt=>?_;rw[zz];rfl
theorem yIte(a b:Ss)(t:Bool):qlX cl w a b K (t,ρ)=if t=true then (iSs cl w a ρ).th K else (iSs cl w b ρ).th K:=(rfl)
theorem xS_for(tg:Tg)(src:I)(b:Ss):(iS cl w (.for_ tg src b) ρ).th K=(iI cl src ρ).th (qlY cl w tg b K):=by rw[qjh,qc];rfl
theorem yFor(tg:Tg)(b:Ss)(l:List D):qlY cl w tg b K (l,ρ)=(jF cl w tg b l ρ).th K:=(rfl)
theorem xS_whl(c:T)(b:Ss):(iS cl w (.whl c b) ρ).th K=(whD cl w c b w ρ).th K:=(rfl)
theorem xSs_nil:(iSs cl w .nil ρ).th K=K (.next ρ):=(rfl)
theorem xSs_cons(s:S)(l:Ss):(iSs cl w (.cons s l) ρ).th K=(iS cl w s ρ).th (qg2 cl w l K):=by rw[qeB,qc];rfl
theorem yNext(l:Ss):qg2 cl w l K (.next ρ)=(iSs cl w l ρ).th K:=(rfl)
theorem yNextr(l:Ss)(r:Rv):qg2 cl w l K (.ret r)=K (.ret r):=(rfl)
theorem xFo_cons(tg:Tg)(b:Ss)(d:D)(l:List D):(jF cl w tg b (d::l) ρ).th K=(tg.go d ρ).th (qlZ cl w tg b l K):=by rw[qcZ,qc,qc];refine qu _ λρ2=>?_;rfl
theorem yFo1(tg:Tg)(b:Ss)(l:List D):qlZ cl w tg b l K ρ=(iSs cl w b ρ).th (qkw cl w tg b l K):=(rfl)
theorem yFo2(tg:Tg)(b:Ss)(l:List D):qkw cl w tg b l K (.next ρ)=(jF cl w tg b l ρ).th K:=(rfl)
theorem yFo2r(tg:Tg)(b:Ss)(l:List D)(r:Rv):qkw cl w tg b l K (.ret r)=K (.ret r):=(rfl)
theorem xWh(c:T)(b:Ss)(n:Nat):(whD cl w c b (n+1) ρ).th K=(iT cl c ρ).th (ql0 cl w c b n K):=by rw[qeA,qc];refine qu _ λt=>?_;rw[zz,qc];rfl
theorem yWh1(c:T)(b:Ss)(n:Nat)(t:Bool):ql0 cl w c b n K (t,ρ)=if t=true then (iSs cl w b ρ).th (qlr cl w c b n K) else K (.next ρ):=(rfl)
theorem yWh2(c:T)(b:Ss)(n:Nat):qlr cl w c b n K (.next ρ)=(whD cl w c b n ρ).th K:=(rfl)
end
section
variable(ρ:Env)(K:List D->R β)(e:E)(tg:Tg)(c:F)(l acc:List D)(d:D)
theorem xP_cons:(zS cl e tg c (d::l) ρ acc).th K=(tg.go d ρ).th (kP1 cl e tg c l acc K):=by
 rw[qbH,qc];refine qu _ λρ1=>?_;rw[qc];refine qu _ λbt=>?_;rw[zz,qc];show(if bt.1=true then _ else _)=(if bt.1=true then _ else _)
 by_cases h:bt.1=true
 ·rw[if_pos h,if_pos h];refine qu _ λx=>?_;rw[zz];rfl
 ·rw[if_neg h,if_neg h]
theorem yP1:kP1 cl e tg c l acc K ρ=(iF cl c ρ).th (kP2 cl e tg c l acc K):=(rfl)
theorem yP2(t:Bool):kP2 cl e tg c l acc K (t,ρ)=if t=true then (zK e (iR cl e) ρ).th (kP3 cl e tg c l acc K) else (zS cl e tg c l ρ acc).th K:=(rfl)
theorem yP3:kP3 cl e tg c l acc K (d,ρ)=if acc.length < sizeLine then (zS cl e tg c l ρ (acc++[d])).th K else .no:=(rfl)
end
end
section
variable{β:Type}(r:Env->R (Rv×Env))(ρ:Env)
theorem eE_bin(K:D×Env->R β)(op:Operator)(a b:E):(zK (.bin op a b) r ρ).th K=(r ρ).th (qfE K):=by rw[show zK (.bin op a b) r ρ=(r ρ).th qeg from rfl,qc];rfl
theorem eL_bin(K:(Sk×List D)×Env->R β)(op:Operator)(a b:E):(zY (.bin op a b) r ρ).th K=(r ρ).th (Yx K):=by rw[show zY (.bin op a b) r ρ=(r ρ).th qdQ from rfl,qc];rfl
theorem eX_bin(K:Rv->R β)(op:Operator)(a b:E):(Zh (.bin op a b) r ρ).th K=(r ρ).th (kX K):=qc (r ρ) _ _
theorem eA_bin(K:Sl×Env->R β)(op:Operator)(a b:E):(JU (.bin op a b) r ρ).th K=(r ρ).th (kAx K):=qc (r ρ) _ _
theorem eA_neg(K:Sl×Env->R β)(a:E):(JU (.neg a) r ρ).th K=(r ρ).th (kAx K):=qc (r ρ) _ _
theorem eX_and(K:Rv->R β)(a b:E):(Zh (.and a b) r ρ).th K=(r ρ).th (kX K):=qc (r ρ) _ _
theorem eX_cmp(K:Rv->R β)(op:CmpOp)(a b:E):(Zh (.cmp op a b) r ρ).th K=(r ρ).th (kX K):=qc (r ρ) _ _
theorem eX_ite(K:Rv->R β)(c:T)(a b:E):(Zh (.ite c a b) r ρ).th K=(r ρ).th (kX K):=qc (r ρ) _ _
theorem eE_idx(K:D×Env->R β)(a b:E):(zK (.idx a b) r ρ).th K=(r ρ).th (qfE K):=by rw[show zK (.idx a b) r ρ=(r ρ).th qeg from rfl,qc];rfl
theorem eL_idx(K:(Sk×List D)×Env->R β)(a b:E):(zY (.idx a b) r ρ).th K=(r ρ).th (Yx K):=by rw[show zY (.idx a b) r ρ=(r ρ).th qdQ from rfl,qc];rfl
theorem eX_idx(K:Rv->R β)(a b:E):(Zh (.idx a b) r ρ).th K=(r ρ).th (kX K):=qc (r ρ) _ _
theorem eA_idx(K:Sl×Env->R β)(a b:E):(JU (.idx a b) r ρ).th K=(r ρ).th (kAx K):=qc (r ρ) _ _
theorem eL_sli(K:(Sk×List D)×Env->R β)(a:E)(lo hi:O):(zY (.sli a lo hi) r ρ).th K=(r ρ).th (Yx K):=by rw[show zY (.sli a lo hi) r ρ=(r ρ).th qdQ from rfl,qc];rfl
theorem eA_lst(K:Sl×Env->R β)(l:Es):(JU (.lst l) r ρ).th K=(r ρ).th (kAx K):=qc (r ρ) _ _
theorem eE_tup(K:D×Env->R β)(l:Es):(zK (.tup l) r ρ).th K=(r ρ).th (qfE K):=by rw[show zK (.tup l) r ρ=(r ρ).th qeg from rfl,qc];rfl
theorem eX_tup(K:Rv->R β)(l:Es):(Zh (.tup l) r ρ).th K=(r ρ).th (kX K):=qc (r ρ) _ _
theorem eA_tup(K:Sl×Env->R β)(l:Es):(JU (.tup l) r ρ).th K=(r ρ).th (kAx K):=qc (r ρ) _ _
theorem eE_call(K:D×Env->R β)(f:Str)(l:Es):(zK (.call f l) r ρ).th K=(r ρ).th (qfE K):=by rw[show zK (.call f l) r ρ=(r ρ).th qeg from rfl,qc];rfl
theorem eL_call(K:(Sk×List D)×Env->R β)(f:Str)(l:Es):(zY (.call f l) r ρ).th K=(r ρ).th (Yx K):=by rw[show zY (.call f l) r ρ=(r ρ).th qdQ from rfl,qc];rfl
theorem eX_call(K:Rv->R β)(f:Str)(l:Es):(Zh (.call f l) r ρ).th K=(r ρ).th (kX K):=qc (r ρ) _ _
theorem eA_calF(K:Sl×Env->R β)(f:Str)(l:Es):(JU (.calF f l) r ρ).th K=(r ρ).th (kAx K):=qc (r ρ) _ _
theorem eA_call(K:Sl×Env->R β)(f:Str)(l:Es):(JU (.call f l) r ρ).th K=(r ρ).th (kAx K):=qc (r ρ) _ _
theorem eE_b1(K:D×Env->R β)(f:B1)(a:E):(zK (.b1 f a) r ρ).th K=(r ρ).th (qfE K):=by rw[show zK (.b1 f a) r ρ=(r ρ).th qeg from rfl,qc];rfl
theorem eL_b1(K:(Sk×List D)×Env->R β)(f:B1)(a:E):(zY (.b1 f a) r ρ).th K=(r ρ).th (Yx K):=by rw[show zY (.b1 f a) r ρ=(r ρ).th qdQ from rfl,qc];rfl
theorem eX_b1(K:Rv->R β)(f:B1)(a:E):(Zh (.b1 f a) r ρ).th K=(r ρ).th (kX K):=qc (r ρ) _ _
theorem eA_b1(K:Sl×Env->R β)(f:B1)(a:E):(JU (.b1 f a) r ρ).th K=(r ρ).th (kAx K):=qc (r ρ) _ _
theorem eE_b2(K:D×Env->R β)(f:B2)(a b:E):(zK (.b2 f a b) r ρ).th K=(r ρ).th (qfE K):=by rw[show zK (.b2 f a b) r ρ=(r ρ).th qeg from rfl,qc];rfl
theorem eA_b2(K:Sl×Env->R β)(f:B2)(a b:E):(JU (.b2 f a b) r ρ).th K=(r ρ).th (kAx K):=qc (r ρ) _ _
theorem eL_fld(K:(Sk×List D)×Env->R β)(a:E)(x:Str):(zY (.fld a x) r ρ).th K=(r ρ).th (Yx K):=by rw[show zY (.fld a x) r ρ=(r ρ).th qdQ from rfl,qc];rfl
theorem eL_met(K:(Sk×List D)×Env->R β)(a:E)(x:Str)(l:Es):(zY (.met a x l) r ρ).th K=(r ρ).th (Yx K):=by rw[show zY (.met a x l) r ρ=(r ρ).th qdQ from rfl,qc];rfl
theorem eA_met(K:Sl×Env->R β)(a:E)(x:Str)(l:Es):(JU (.met a x l) r ρ).th K=(r ρ).th (kAx K):=qc (r ρ) _ _
theorem eX_new(K:Rv->R β)(f:Str)(l:Es):(Zh (.new f l) r ρ).th K=(r ρ).th (kX K):=qc (r ρ) _ _
theorem eA_new(K:Sl×Env->R β)(f:Str)(l:Es):(JU (.new f l) r ρ).th K=(r ρ).th (kAx K):=qc (r ρ) _ _
theorem eX_comp(K:Rv->R β)(e:E)(src:I)(tg:Tg)(c:F)(n:Nat)(fr:List Nat):(Zh (.comp e src tg c n fr) r ρ).th K=(r ρ).th (kX K):=qc (r ρ) _ _
theorem eA_comp(K:Sl×Env->R β)(e:E)(src:I)(tg:Tg)(c:F)(n:Nat)(fr:List Nat):(JU (.comp e src tg c n fr) r ρ).th K=(r ρ).th (kAx K):=qc (r ρ) _ _
theorem eE_var(K:D×Env->R β)(i:Nat):(zK (.var i) r ρ).th K=(slE ρ i).th K:=(rfl)
theorem eE_con(K:D×Env->R β)(d:D):(zK (.con d) r ρ).th K=K (d,ρ):=(rfl)
theorem eL_var(K:(Sk×List D)×Env->R β)(i:Nat):(zY (.var i) r ρ).th K=(slL ρ i).th K:=(rfl)
theorem eX_var(K:Rv->R β)(i:Nat):(Zh (.var i) r ρ).th K=(slX ρ i).th K:=(rfl)
theorem eX_con(K:Rv->R β)(d:D):(Zh (.con d) r ρ).th K=K (.val d):=(rfl)
theorem eA_var(K:Sl×Env->R β)(i:Nat):(JU (.var i) r ρ).th K=(slE ρ i).th (kAv K):=qc (slE ρ i) _ _
theorem eA_con(K:Sl×Env->R β)(d:D):(JU (.con d) r ρ).th K=K (.val d,ρ):=(rfl)
end
theorem bAdd(a b:Int):qaa .Add (.val (.int a)) (.val (.int b))=.ok (.val (.int (a+b))):=(rfl)
theorem bAdds(a b:Str):qaa .Add (.val (.str a)) (.val (.str b))=if a.length+b.length<=sizeLine then .ok (.val (.str (a++b))) else .no:=(rfl)
theorem bAddtt(a b:List D):qaa .Add (.tmp a) (.tmp b)=if a.length+b.length<=sizeLine then .ok (.tmp (a++b)) else .no:=(rfl)
theorem bAddct(a b:List D):qaa .Add (.cell a) (.tmp b)=if a.length+b.length<=sizeLine then .ok (.tmp (a++b)) else .no:=(rfl)
theorem bSub(a b:Int):qaa .Sub (.val (.int a)) (.val (.int b))=.ok (.val (.int (a - b))):=(rfl)
theorem bMult(a b:Int):qaa .Mult (.val (.int a)) (.val (.int b))=if QQ a b=true then .ok (.val (.int (a * b))) else .no:=(rfl)
theorem bDiv(a b:Int):qaa .FloorDiv (.val (.int a)) (.val (.int b))=if 0 < b/\b < 1073741824 then .ok (.val (.int (a / b))) else .no:=(rfl)
theorem bMod(a b:Int):qaa .Mod (.val (.int a)) (.val (.int b))=if 0 < b then .ok (.val (.int (a % b))) else .no:=(rfl)
theorem bPow(a b:Int):qaa .Pow (.val (.int a)) (.val (.int b))=if 0<=b/\b<=1000000/\a.natAbs < 2 ^ 64 then .ok (.val (.int (a ^ b.toNat))) else .no:=(rfl)
theorem cEq(x y:Rv):JS .Eq x y=eqD x.data y.data:=(rfl)
theorem cNe(x y:Rv):JS .NotEq x y=(eqD x.data y.data).map (!·):=(rfl)
theorem cLt(a b:Int):JS .Lt (.val (.int a)) (.val (.int b))=some (decide (a < b)):=(rfl)
theorem cLe(a b:Int):JS .LtE (.val (.int a)) (.val (.int b))=some (decide (a<=b)):=(rfl)
theorem cGt(a b:Int):JS .Gt (.val (.int a)) (.val (.int b))=some (decide (b < a)):=(rfl)
theorem cGe(a b:Int):JS .GtE (.val (.int a)) (.val (.int b))=some (decide (b<=a)):=(rfl)
theorem cIs(x:Rv):JS .Is x (.val .non)=some x.non?:=(rfl)
theorem cIsN(x:Rv):JS .IsNot x (.val .non)=some (!x.non?):=(rfl)
theorem cIn(x y:Rv):JS .In x y=qb2 x y:=(rfl)
theorem cNi(x y:Rv):JS .NotIn x y=(qb2 x y).map (!·):=(rfl)
theorem mIn(a b:Str):qb2 (.val (.str a)) (.val (.str b))=some (qhI a b):=(rfl)
theorem rgoV(i:Nat)(d:D)(ρ:Env):Tg.go (.one i) d ρ=.ok (ρ.set i (.val d)):=(rfl)
theorem rgoT(l:List Nat)(ds:List D)(ρ:Env):Tg.go (.many l) (.tup ds) ρ=Qe l ds ρ:=(rfl)
theorem setIs_nil(ρ:Env):Qe [] [] ρ=.ok ρ:=(rfl)
theorem setIs_cons(i:Nat)(l:List Nat)(d:D)(ds:List D)(ρ:Env):Qe (i::l) (d::ds) ρ=Qe l ds (ρ.set i (.val d)):=(rfl)
end DE
namespace DE
open PySem L2
section
variable{α β:Type}(f:α->β)(a b:α)(l m:List α)(n:Nat)
theorem g_mapc:List.map f (a::l)=f a::List.map f l:=(rfl)
theorem g_mapn:List.map f []=[]:=(rfl)
theorem g_lenc:(a::l).length=l.length+1:=(rfl)
theorem g_lenn:([]:List α).length=0:=(rfl)
theorem g_rep0:List.replicate 0 a=[]:=(rfl)
theorem g_reps:List.replicate (n+1) a=a::List.replicate n a:=(rfl)
theorem g_appc:(a::l)++m=a::(l++m):=(rfl)
theorem g_appn:[]++m=m:=(rfl)
theorem g_set0:(a::l).set 0 b=b::l:=(rfl)
theorem g_sets:(a::l).set (n+1) b=a::l.set n b:=(rfl)
theorem g_last(l:List α)(x:α):atI (l++[x]) (-1)=some x:=L2.qd4 ..
theorem g_nott:(!true)=false:=(rfl)
theorem g_notf:(!false)=true:=(rfl)
theorem g_omap:Option.map f (some a)=some (f a):=(rfl)
theorem g_fe:(false=true)=False:=Bool.false_eq_true
theorem g_and(p:Prop):(p/\p)=p:=and_self p
theorem g_dt(h:Decidable True):@decide True h=true:=decide_true ..
theorem g_df(h:Decidable False):@decide False h=false:=decide_false ..
end
def aL(b:Bool)(l:List D):Ar:=match b with
 |true=>.bor l
 |false=>.val (.lst l)
def rA(b:Bool)(l:List D):Rv:=match b with
 |true=>.cell l
 |false=>.val (.lst l)
def pS(b:Bool)(l:List D):Sl:=match b with
 |true=>.bor l
 |false=>.val (.lst l)
def qhK(b:Bool)(l:List D):Sl:=match b with
 |true=>.own l
 |false=>.val (.lst l)
section
variable{β:Type}(b:Bool)(l:List D)(ρ:DE.Env)
theorem lend_v(d:D):qhJ (.val d)=.val d:=(rfl)
theorem qhL:qhK true l=.own l:=rfl
theorem qhM:qhK false l=.val (.lst l):=rfl
theorem Zt:aL true l=.bor l:=rfl
theorem Zu:aL false l=.val (.lst l):=rfl
theorem sA_p:toSl (aL b l)=pS b l:=by cases b<;>rfl
theorem sA_R:slR (pS b l::ρ) 0=.ok (rA b l):=by cases b<;>rfl
theorem sA_L(K:(Sk×List D)×DE.Env->R β):(slL (pS b l::ρ) 0).th K=K ((.lst,l),pS b l::ρ):=by cases b<;>rfl
theorem sL_L(K:(Sk×List D)×DE.Env->R β):(slL (qhK b l::ρ) 0).th K=K ((.lst,l),.val (.lst l)::ρ):=by cases b<;>rfl
theorem rA_a:toAr (rA b l)=aL b l:=by cases b<;>rfl
theorem rA_l:(rA b l).list?=some l:=by cases b<;>rfl
theorem rA_s:(rA b l).str?=none:=by cases b<;>rfl
theorem rA_t:(rA b l).tup?=none:=by cases b<;>rfl
theorem rA_b:truthD (rA b l)=some (!l.isEmpty):=by cases b<;>rfl
theorem rA_y:Ty.list.go (rA b l)=some true:=by cases b<;>rfl
theorem qjQ{r:Rv}{zs:List Str}{s:Str}(h:r.plain?=some (zs.map D.str))(hs:s∈zs):ixM r [.val (.str s)]=.ok (.val (.int (zs.idxOf s:Nat))):=by
 have e:Qb (zs.map D.str)=some zs:=by
  clear h hs
  induction zs with
  |nil=>rfl
  |cons z zs ih=>show(Qb (zs.map D.str)).map (z :: ·)=_;rw[ih];rfl
 unfold ixM;rw[h];dsimp only;rw[e];dsimp only;rw[if_pos (by simpa using hs)]
end
noncomputable abbrev RW(pg:Pg)(f:Str)(c:Nat×Nat×Ss):Prop:=∀(k:Nat) (args:List Ar),clK pg (k+1) f args=runD (pg.kk k) 1000 c args
noncomputable abbrev USs(b c:Ss):Prop:=∀{β:Type} (cl:Cl) (w:Nat) (ρ:DE.Env) (K:Fl->R β),(iSs cl w b ρ).th K=(iSs cl w c ρ).th K
noncomputable abbrev UT(b c:T):Prop:=∀{β:Type} (cl:Cl) (ρ:DE.Env) (K:Bool×DE.Env->R β),(iT cl b ρ).th K=(iT cl c ρ).th K
noncomputable abbrev UE(b c:E):Prop:=∀{β:Type} (cl:Cl) (ρ:DE.Env) (K:D×DE.Env->R β),(zK b (iR cl b) ρ).th K=(zK c (iR cl c) ρ).th K
end DE
namespace DG
open PySem L2 DE
def qg3:Stmt->List Stmt
 |.ClassDef _ _ _ b _ _ _ _ _ _ _=>b
 |_=>[]
def rk(c:Str):Bool:=c == "Within" || c == "Since" || c == "InRow"
noncomputable def pcs:Cs where
 tab:=["Within","Since","InRow","Book"]
 fld:=λc x=>(rk c&&(x == "lands" || x == "most" || (x == "span" && c == "Within")||(x == "leave" && c != "Within")))||(c == "Book" && (x == "kept_rules" || x == "kept_papers"))
 mt:=λc x=>if rk c&&x == "weight" then some "Rule.weight" else if c == "Book" && x == "rules" then some "Book.rules" else if c == "Book" && x == "lifted" then some "Book.lifted" else if c == "Book" && x == "papers" then some "Book.papers" else none
 sub:=λc t=>if rk c&&t == "Within" then some (c == "Within") else if rk c&&t == "Since" then some (c != "Within") else none
noncomputable def qbI(s:Str):Bool:=decide (1<=s.length)&&decide (s.length<=8)&&s.cps.toList.all λc=>decide (97<=c)&&decide (c<=122)
noncomputable def qc0:D->Option (Str×Int)
 |.tup [.str s,.int w]=>if qbI s&&decide (1<=w)&&decide (w<=9) then some (s,w) else none
 |_=>none
noncomputable def YK:List Str->List D->Bool
 |_,[]=>true
 | acc,d::l=>match qc0 d with
  |some p=>!acc.contains p.1&&YK (acc++[p.1]) l
  |none=>false
def qv(l:List D):Bool:=decide (1<=l.length)&&decide (l.length<=6)&&YK [] l
def btw(n a b:Int):Bool:=decide (a<=n)&&decide (n<=b)
def Zv:D->Bool
 |.ins c _ _=>rk c
 |_=>false
noncomputable def ya(many:Int):D->Bool
 |.tup [.int o,.int a,.int b]=>btw o 0 (many - 1)&&btw a 0 1000000000&&btw b 0 1000000000&&decide (a<=b)
 |_=>false
def arL:Ar->Option (List D)
 |.val (.lst l)=>some l
 |.bor l=>some l
 |_=>none
def arI:Ar->Option Int
 |.val (.int n)=>some n
 |_=>none
noncomputable def qaZ:List Ar->Option (List (Str×D))
 |[a,b]=>match arL a,arI b with
  |some l,some m=>if (qv l&&btw m 0 1000000000)=true then some [("lands",.tup l),("most",.int m)] else none
  |_,_=>none
 |_=>none
noncomputable def jL(x:Str):List Ar->Option (List (Str×D))
 |[a,b,c]=>match arL a,arI b,arI c with
  |some l,some m,some s=>if (qv l&&btw m 0 1000000000&&btw s 1 1000000000)=true then some [("lands",.tup l),("most",.int m),(x,.int s)] else none
  |_,_,_=>none
 |_=>none
noncomputable def qbJ:List Ar->Option (List (Str×D))
 |[a,b]=>match arL a,arI b with
  |some l,some m=>if (qv l&&btw m 0 1000000000)=true then some [("lands",.tup l),("most",.int m),("leave",.int 1)] else none
  |_,_=>none
 |_=>none
noncomputable def YL:List Ar->Option (List (Str×D))
 |[a,b]=>match arL a,arL b with
  |some l,some ps=>if ((decide (l.length<=8)&&l.all Zv)&&(decide (ps.length<=12)&&ps.all (ya l.length)))=true then some [("kept_rules",.lst l),("kept_papers",.lst ps)] else none
  |_,_=>none
 |_=>none
noncomputable def qbK(c:Str):Option (List (Str×D))->R Rv
 |some fs=>.ok (.val (.ins c (fs.map (·.1)) (fs.map (·.2))))
 |none=>.no
noncomputable def pnw(k:Nat)(f:Str)(args:List Ar):R Rv:=if k < 12 then .no else
 if f = "Within" then qbK "Within" (jL "span" args) else if f = "Since" then qbK "Since" (jL "leave" args) else if f = "InRow" then qbK "InRow" (qbJ args) else if f = "Book" then qbK "Book" (YL args) else .no
noncomputable def YM:Nat×Nat×Ss:=(1,1,%[.ret (.and (.isi Ty.int (.var 0)) (.one (.not (.isi Ty.bool (.var 0)))))|0])
noncomputable def Jk:Nat×Nat×Ss:=(3,3,%[.ret (.and (.call "is_whole" %[0|0]) (.and (.cmp .LtE (.var 1) (.var 0)) (.one (.cmp .LtE (.var 0) (.var 2)))))|0])
noncomputable def YN:Nat×Nat×Ss:=(2,2,%[.ret (.and (.call "is_between" %[0,.con (.int 0),.con (.int 1000000000)|0]) (.and (.call "is_between" %[1,.con (.int 0),.con (.int 1000000000)|0]) (.one (.cmp .LtE (.var 0) (.var 1)))))|0])
noncomputable abbrev jM:Ss:=%[.ite (.cmp .NotIn (.var 2) (.var 1)) %[.ret (.con (.bl false))|0] .nil|0]
def zT:Ss:=jM
theorem Ju:USs zT jM:=λ_ _ _ _=>(rfl)
noncomputable def Jl:Nat×Nat×Ss:=(2,3,%[.for_ (.one 2) (.seq (.var 0)) zT,.ret (.con (.bl true))|0])
noncomputable def Zw:Nat×Nat×Ss:=(1,1,%[.ite (.not (.val (.isi Ty.str (.var 0)))) %[.ret (.con (.bl false))|0] .nil,.ret (.and (.cmp .LtE (.con (.int 1)) (.b1 .len (.var 0))) (.and (.cmp .LtE (.b1 .len (.var 0)) (.con (.int 8))) (.one (.call "is_made_of" %[0,.con (.str "abcdefghijklmnopqrstuvwxyz")|0]))))|0])
class CH(pg:Pg):Prop where
 r_is_whole:RW pg "is_whole" YM
 r_is_between:RW pg "is_between" Jk
 r_are_days:RW pg "are_days" YN
 r_is_made_of:RW pg "is_made_of" Jl
 r_is_name:RW pg "is_name" Zw
noncomputable def Zx:Nat×Nat×Ss:=(1,1,%[.ite (.or (.not (.val (.isi Ty.tuple (.var 0)))) (.one (.cmp .NotEq (.b1 .len (.var 0)) (.con (.int 3))))) %[.ret (.con (.bl false))|0] .nil,.ret (.and (.call "is_name" %[.idx (.var 0) (.con (.int 0))|0]) (.one (.call "are_days" %[.idx (.var 0) (.con (.int 1)),.idx (.var 0) (.con (.int 2))|0])))|0])
noncomputable abbrev yD:Ss:=%[.ite (.or (.not (.val (.call "is_stay" %[3|0]))) (.one (.cmp .LtE (.idx (.var 3) (.con (.int 1))) (.var 1)))) %[.stuck|0] .nil,.set 1 (.idx (.var 3) (.con (.int 2)))|0]
def jN:Ss:=yD
theorem Yy:USs jN yD:=λ_ _ _ _=>(rfl)
noncomputable def YO:Nat×Nat×Ss:=(1,4,%[.ite (.not (.val (.isi Ty.list (.var 0)))) %[.stuck|0] .nil,.set 1 (.neg (.con (.int 1))),.for_ (.many [2,3]) (.enum (.var 0)) jN,.ite (.cmp .Gt (.b1 .len (.var 0)) (.con (.int 60))) %[.stuck|0] .nil,.ret (.b1 .list (.var 0))|0])
class ST(pg:Pg):Prop where
 r_is_stay:RW pg "is_stay" Zx
 r_stays_of:RW pg "stays_of" YO
noncomputable abbrev JW:Ss:=%[.ite (.and (.val (.var 1)) (.one (.cmp .LtE (.var 2) (.bin .Add (.idx (.idx (.var 1) (.neg (.con (.int 1)))) (.con (.int 1))) (.con (.int 1)))))) %[.setI 1 (.neg (.con (.int 1))) (.tup %[.idx (.idx (.var 1) (.neg (.con (.int 1)))) (.con (.int 0)),.b2 .max (.idx (.idx (.var 1) (.neg (.con (.int 1)))) (.con (.int 1))) (.var 3)|0])|0] %[.app 1 (.tup %[2,3|0])|0]|0]
def y3:Ss:=JW
theorem jO:USs y3 JW:=λ_ _ _ _=>(rfl)
noncomputable def qa0:Nat×Nat×Ss:=(1,4,%[.set 1 (.lst .nil),.for_ (.many [2,3]) (.seq (.b1 .srt (.var 0))) y3,.ret (.var 1)|0])
class SP(pg:Pg):Prop where
 r_spread:RW pg "spread" qa0
noncomputable def Zy:Nat×Nat×Ss:=(1,1,%[.ite (.or (.not (.val (.isi Ty.tuple (.var 0)))) (.one (.cmp .NotEq (.b1 .len (.var 0)) (.con (.int 2))))) %[.ret (.con (.bl false))|0] .nil,.ret (.and (.call "is_name" %[.idx (.var 0) (.con (.int 0))|0]) (.one (.call "is_between" %[.idx (.var 0) (.con (.int 1)),.con (.int 1),.con (.int 9)|0])))|0])
noncomputable abbrev yb:Ss:=%[.ite (.or (.not (.val (.call "is_land" %[2|0]))) (.one (.cmp .In (.idx (.var 2) (.con (.int 0))) (.var 1)))) %[.ret (.con (.bl false))|0] .nil,.app 1 (.idx (.var 2) (.con (.int 0)))|0]
def jn:Ss:=yb
theorem JX:USs jn yb:=λ_ _ _ _=>(rfl)
noncomputable def JY:Nat×Nat×Ss:=(1,3,%[.ite (.or (.not (.val (.isi Ty.list (.var 0)))) (.or (.cmp .Lt (.b1 .len (.var 0)) (.con (.int 1))) (.one (.cmp .Gt (.b1 .len (.var 0)) (.con (.int 6)))))) %[.ret (.con (.bl false))|0] .nil,.set 1 (.lst .nil),.for_ (.one 2) (.seq (.var 0)) jn,.ret (.con (.bl true))|0])
abbrev jw:Ss:=%[.ite (.cmp .Eq (.var 2) (.var 1)) %[.ret (.var 3)|0] .nil|0]
def zA:Ss:=jw
theorem z8:USs zA jw:=λ_ _ _ _=>(rfl)
noncomputable def jo:Nat×Nat×Ss:=(2,4,%[.for_ (.many [2,3]) (.seq (.fld (.var 0) "lands")) zA,.ret (.con (.int 0))|0])
class RU(pg:Pg):Prop where
 cs:pg.cs=pcs
 nw:pg.nw=pnw
 r_is_land:RW pg "is_land" Zy
 r_are_lands:RW pg "are_lands" JY
 r_Rule_weight:RW pg "Rule.weight" jo
noncomputable abbrev yc:Ss:=%[.ite (.and (.not (.val (.isc "Within" (.var 1)))) (.one (.not (.val (.isc "Since" (.var 1)))))) %[.ret (.con (.bl false))|0] .nil|0]
def jp:Ss:=yc
theorem jP:USs jp yc:=λ_ _ _ _=>(rfl)
noncomputable def JZ:Nat×Nat×Ss:=(1,2,%[.ite (.or (.not (.val (.isi Ty.list (.var 0)))) (.one (.cmp .Gt (.b1 .len (.var 0)) (.con (.int 8))))) %[.ret (.con (.bl false))|0] .nil,.for_ (.one 1) (.seq (.var 0)) jp,.ret (.con (.bl true))|0])
noncomputable def YQ:Nat×Nat×Ss:=(2,2,%[.ite (.or (.not (.val (.isi Ty.tuple (.var 0)))) (.one (.cmp .NotEq (.b1 .len (.var 0)) (.con (.int 3))))) %[.ret (.con (.bl false))|0] .nil,.ret (.and (.call "is_between" %[.idx (.var 0) (.con (.int 0)),.con (.int 0),.bin .Sub (.var 1) (.con (.int 1))|0]) (.one (.call "are_days" %[.idx (.var 0) (.con (.int 1)),.idx (.var 0) (.con (.int 2))|0])))|0])
noncomputable abbrev z9:Ss:=%[.ite (.not (.val (.call "is_paper" %[3,1|0]))) %[.stuck|0] .nil|0]
def qX:Ss:=z9
theorem yE:USs qX z9:=λ_ _ _ _=>(rfl)
noncomputable def yd:Nat×Nat×Ss:=(2,4,%[.ite (.not (.val (.isi Ty.list (.var 0)))) %[.stuck|0] .nil,.for_ (.many [2,3]) (.enum (.var 0)) qX,.ite (.cmp .Gt (.b1 .len (.var 0)) (.con (.int 12))) %[.stuck|0] .nil|0])
def Jm:Nat×Nat×Ss:=(1,1,%[.ret (.b1 .list (.fld (.var 0) "kept_rules"))|0])
def Ql:Nat×Nat×Ss:=(1,1,%[.ret (.b1 .list (.fld (.var 0) "kept_papers"))|0])
abbrev jx:E:=(.tup %[1,2|0])
def zB:E:=jx
theorem ja:UE zB jx:=λ_ _ _=>(rfl)
noncomputable def yF:Nat×Nat×Ss:=(2,2,%[.ret (.call "spread" %[.comp zB (.seq (.fld (.var 0) "kept_papers")) (.many [0,1,2]) (.test (.cmp .Eq (.var 0) (.var 3))) 3 [1]|0])|0])
class BO(pg:Pg):Prop where
 r_are_rules:RW pg "are_rules" JZ
 r_is_paper:RW pg "is_paper" YQ
 r_check_papers:RW pg "check_papers" yd
 r_Book_rules:RW pg "Book.rules" Jm
 r_Book_papers:RW pg "Book.papers" Ql
 r_Book_lifted:RW pg "Book.lifted" yF
end DG
namespace FA
open PySem L2 DE DG
noncomputable def zU:Nat×Nat×Ss:=(2,2,%[.ite (.cmp .Lt (.var 1) (.b1 .len (.var 0))) %[.ret (.idx (.var 0) (.var 1))|0] .nil,.ret (.con (.int 0))|0])
class LC(pg:Pg):Prop where
 r__law_cell_at:RW pg "_law_cell_at" zU
noncomputable abbrev jQ:Ss:=%[.set 9 (.bin .Add (.bin .Add (.bin .FloorDiv (.var 0) (.con (.int 64))) (.bin .Mult (.bin .Mult (.con (.int 5)) (.var 8)) (.var 8))) (.bin .Mult (.bin .Mult (.con (.int 3)) (.var 6)) (.b1 .int (.cmp .Eq (.var 8) (.var 4))))),.set 7 (.bin .Add (.var 7) (.idx (.var 2) (.bin .Mod (.var 9) (.con (.int 26)))))|0]
def qT:Ss:=jQ
theorem Jv:USs qT jQ:=λ_ _ _ _=>(rfl)
noncomputable abbrev jR:Ss:=%[.set 7 (.con (.str "")),.for_ (.one 8) (.rng (.var 3)) qT,.app 5 (.var 7)|0]
def zV:Ss:=jR
theorem Jw:USs zV jR:=λ_ _ _ _=>(rfl)
noncomputable def Jn:Nat×Nat×Ss:=(2,10,%[.set 2 (.con (.str "abcdefghijklmnopqrstuvwxyz")),.set 3 (.bin .Add (.con (.int 1)) (.bin .Mod (.var 0) (.con (.int 8)))),.set 4 (.bin .Mod (.bin .FloorDiv (.var 0) (.con (.int 8))) (.var 3)),.set 5 (.lst .nil),.for_ (.one 6) (.rng (.var 1)) zV,.ret (.var 5)|0])
class LN(pg:Pg):Prop where
 r__law_lands:RW pg "_law_lands" Jn
noncomputable abbrev qU:Ss:=%[.app 3 (.tup %[.idx (.var 1) (.bin .Mod (.bin .Add (.bin .FloorDiv (.var 2) (.con (.int 18))) (.var 4)) (.b1 .len (.var 1))),.bin .Add (.con (.int 1)) (.bin .Mod (.bin .FloorDiv (.bin .FloorDiv (.var 2) (.con (.int 108))) (.bin .Add (.var 4) (.con (.int 1)))) (.idx (.lst %[.con (.int 9),.con (.int 2),.con (.int 2)|0]) (.bin .Mod (.bin .Add (.var 2) (.var 4)) (.con (.int 3)))))|0])|0]
def qE:Ss:=qU
theorem J0:USs qE qU:=λ_ _ _ _=>(rfl)
noncomputable def jq:Nat×Nat×Ss:=(1,5,%[.setT (.many [1,2,3,4]) (.var 0),.ite (.cmp .Eq (.var 1) (.con (.str "within"))) %[.ret (.new "Within" %[.b1 .list (.var 2),3,4|0])|0] .nil,.ite (.cmp .Eq (.var 1) (.con (.str "since"))) %[.ret (.new "Since" %[.b1 .list (.var 2),3,4|0])|0] .nil,.ret (.new "InRow" %[.b1 .list (.var 2),3|0])|0])
class LM(pg:Pg):Prop where
 r__law_made:RW pg "_law_made" jq
noncomputable def Jo:Nat×Nat×Ss:=(3,5,%[.set 3 (.bin .Mod (.bin .Mult (.var 0) (.con (.int 982451653))) (.con (.int 10000000000037))),.set 4 (.bin .Add (.var 2) (.bin .Mod (.bin .FloorDiv (.var 3) (.con (.int 8))) (.con (.int 60)))),.ret (.tup %[.bin .Mod (.var 3) (.var 1),4,.bin .Add (.var 4) (.bin .Mod (.bin .FloorDiv (.var 3) (.con (.int 480))) (.con (.int 9)))|0])|0])
class LP(pg:Pg):Prop where
 r__law_paper:RW pg "_law_paper" Jo
end FA
namespace DG
open PySem L2 DE
open CH ST SP RU BO
section
variable{pg:Pg}[CH pg]
theorem qeF(k:Nat)(n:Int):clK pg (k+1) "is_whole" [.val (.int n)]=.ok (.val (.bl true)):=by rw[r_is_whole];simp? only[YM]
theorem zr(k:Nat)(n a b:Int)(h1:a<=n)(h2:n<=b):clK pg (k+2) "is_between" [.val (.int n),.val (.int a),.val (.int b)]=.ok (.val (.bl true)):=by rw[r_is_between];simp? only[Jk,qeF,h1,h2,decide_true]
theorem qc1(k:Nat)(a b:Int)(h0:0<=a)(h1:a<=b)(h2:b<=1000000000):clK pg (k+3) "are_days" [.val (.int a),.val (.int b)]=.ok (.val (.bl true)):=by
 have h3:a<=1000000000:=by omega
 have h4:0<=b:=by omega
 rw[r_are_days];simp? only[YN,zr k a 0 1000000000 h0 h3,zr k b 0 1000000000 h4 h2,h1,decide_true]
def y4(c:Nat):Prop:=97<=c/\c < 123
theorem qg4(c:Nat)(h:y4 c):qhI ⟨#[c]⟩ "abcdefghijklmnopqrstuvwxyz" = true:=by
 have key:∀j:Fin 26,qhI ⟨#[97+j.val]⟩ "abcdefghijklmnopqrstuvwxyz" = true:=by decide+kernel
 have:=key ⟨c - 97,by unfold y4 at h;omega⟩
 rw[show 97+(c - 97)=c by unfold y4 at h;omega] at this;exact this
theorem Zz(k:Nat)(z:Str):∀(l:List Nat) (s:Sl),(∀c∈l,y4 c)->∃s',jF (pg.kk k) 1000 (.one 2) zT (l.map λc=>D.str ⟨#[c]⟩) [.val (.str z),.val (.str "abcdefghijklmnopqrstuvwxyz"),s]=.ok (.next [.val (.str z),.val (.str "abcdefghijklmnopqrstuvwxyz"),s'])
 |[],s,_=>⟨s,by rw[List.map_nil,qM]⟩
 | c::l,s,h=>by obtain⟨s',e⟩:=Zz k z l (.val (.str ⟨#[c]⟩)) λx hx=>h x (by simp[hx]);refine⟨s',?_⟩;refine(qh _).symm.trans ?_;rw[List.map_cons];simp? only[Ju,qg4 c (h c (by simp)),e]
theorem qg5(k:Nat)(z:Str)(h:∀c∈z.cps.toList,y4 c):clK pg (k+1) "is_made_of" [.val (.str z),.val (.str "abcdefghijklmnopqrstuvwxyz")]=.ok (.val (.bl true)):=by rw[r_is_made_of];obtain⟨s',e⟩:=Zz (pg:=pg) k z z.cps.toList .no h;simp? only[Jl,Nat.reduceAdd,Nat.reduceSub,qef,e]
structure NameOk(z:Str):Prop where
 one:1<=z.cps.size
 eight:z.cps.size<=8
 lets:∀c∈z.cps.toList,y4 c
theorem qai(k:Nat)(z:Str)(h:NameOk z):clK pg (k+2) "is_name" [.val (.str z)]=.ok (.val (.bl true)):=by
 have hz:z.length<=sizeLine:=by
  have:=h.eight
  show z.cps.size<=2 ^ 24;omega
 have h1:(1:Int)<=(z.length:Int):=by
  have:=h.one
  show(1:Int)<=(z.cps.size:Int);omega
 have h8:(z.length:Int)<=8:=by
  have:=h.eight
  show(z.cps.size:Int)<=8;omega
 rw[r_is_name];simp? only[Zw,hz,h1,h8,decide_true,qg5 k z h.lets]
def stD(s:Str×Int×Int):D:=.tup [.str s.1,.int s.2.1,.int s.2.2]
theorem ye(s:Str×Int×Int):stD s=.tup [.str s.1,.int s.2.1,.int s.2.2]:=rfl
structure StOk(e:Int)(s:Str×Int×Int):Prop where
 nm:NameOk s.1
 lo:e < s.2.1
 ab:s.2.1<=s.2.2
 hi:s.2.2<=1000000000
end
section
variable{pg:Pg}[CH pg][ST pg]
theorem qg6(k:Nat)(e:Int)(s:Str×Int×Int)(he:-1<=e)(h:StOk e s):clK pg (k+4) "is_stay" [.val (stD s)]=.ok (.val (.bl true)):=by
 have hlo:=h.lo;have hab:=h.ab;rw[r_is_stay];have e0:atI [D.str s.1,D.int s.2.1,D.int s.2.2] 0=some (.str s.1):=by rfl
 have e1:atI [D.str s.1,D.int s.2.1,D.int s.2.2] 1=some (.int s.2.1):=by rfl
 have e2:atI [D.str s.1,D.int s.2.1,D.int s.2.2] 2=some (.int s.2.2):=by rfl
 simp? only[Zx,stD,e0,e1,e2,qF,qai (k+1) s.1 h.nm,qc1 k s.2.1 s.2.2 (1:) h.ab h.hi,show((((0+1+1+1:Nat):Int) == 3)=true) from rfl]
def Ch:Int->List (Str×Int×Int)->Prop
 |_,[]=>True
 | e,s::l=>StOk e s/\Ch s.2.2 l
theorem jb(k:Nat)(v:Sl):∀(l:List (Str×Int×Int)) (i:Nat) (e:Int) (s2 s3:Sl),-1<=e->Ch e l->∃e' s2' s3',jF (pg.kk (k+4)) 1000 (.many [2,3]) jN (enF i (l.map stD)) [v,.val (.int e),s2,s3]=.ok (.next [v,.val (.int e'),s2',s3'])
 |[],i,e,s2,s3,_,_=>⟨e,s2,s3,rfl⟩
 | s::l,i,e,s2,s3,he,h=>by
  have h1:=h.1.lo;have h2:=h.1.ab;obtain⟨e',s2',s3',ih⟩:=jb k v l (i+1) s.2.2 (.val (.int i)) (.val (stD s)) (1:) h.2;refine⟨e',s2',s3',?_⟩;have hn:¬ s.2.1<=e:=by omega
  have st:=qg6 (pg:=pg) k e s he h.1;simp only[ye] at st ih;refine(qh _).symm.trans ?_;rw[List.map_cons,enF];simp? only[Yy,ye,st,hn,ih]
theorem JD(k:Nat)(b:Bool)(l:List (Str×Int×Int))(h:Ch (-1) l)(hl:l.length<=60):clK pg (k+5) "stays_of" [aL b (l.map stD)]=.ok (.tmp (l.map stD)):=by
 have h6:¬ (60:Int) < ((l.map stD).length:Int):=by rw[List.length_map];omega
 obtain⟨e',s2',s3',ih⟩:=jb (pg:=pg) k (pS b (l.map stD)) l 0 (-1) .no .no (1:) h;rw[r_stays_of];simp? only[YO,Nat.reduceAdd,Nat.reduceSub,zL,ih,h6,decide_false]
end
theorem NameOk.of{z:Str}(h:qbI z=true):NameOk z:=by
 unfold qbI at h;simp only[Bool.and_eq_true,decide_eq_true_eq,List.all_eq_true] at h;refine⟨h.1.1,h.1.2,λc hc=>?_⟩
 have:=h.2 c hc
 unfold y4;omega
theorem qeG{d:D}{p:Str×Int}(h:qc0 d=some p):d=.tup [.str p.1,.int p.2]/\NameOk p.1/\1<=p.2/\p.2<=9:=by
 unfold qc0 at h
 split at h
 ·rename_i s w
  split at h
  ·rename_i hc;cases h;simp only[Bool.and_eq_true,decide_eq_true_eq] at hc;exact⟨rfl,NameOk.of hc.1.1,hc.1.2,hc.2⟩
  ·cases h
 ·cases h
section
variable{pg:Pg}[CH pg][RU pg]
theorem qg7(k:Nat)(s:Str)(w:Int)(hs:NameOk s)(h1:1<=w)(h9:w<=9):clK pg (k+3) "is_land" [.val (.tup [.str s,.int w])]=.ok (.val (.bl true)):=by
 rw[r_is_land];have e0:atI [D.str s,D.int w] 0=some (.str s):=by rfl
 have e1:atI [D.str s,D.int w] 1=some (.int w):=by rfl
 simp? only[Zy,e0,e1,qF,qai k s hs,zr k w 1 9 h1 h9,show((((0+1+1:Nat):Int) == 2)=true) from rfl]
end
theorem Qm(s:Str)(acc:List Str):inD (.str s) (acc.map D.str)=some (acc.contains s):=by
 have e:∀acc:List Str,inV (V.str s) (acc.map V.str)=acc.contains s:=by
  intro acc
  induction acc with
  |nil=>rfl
  |cons z l ih=>
   rw[List.map_cons,List.contains_cons,<-ih];show(eqV (V.str z) (V.str s)||_)=_
   congr 1
   exact BEq.comm
 unfold inD;rw[if_pos (by simp[Yw]),show(acc.map D.str).map flV=acc.map V.str by simp[flV]];exact congrArg some (e acc)
theorem ZA(s:Str)(acc:List Str):qb2 (.val (.str s)) (.cell (acc.map D.str))=some (acc.contains s):=Qm s acc
section
variable{pg:Pg}[CH pg][RU pg]
theorem YR(k:Nat)(v:Sl):∀(l:List D) (acc:List Str) (s2:Sl),YK acc l=true->acc.length+l.length < 1000->∃acc' s2',jF (pg.kk (k+3)) 1000 (.one 2) jn l [v,.own (acc.map D.str),s2]=.ok (.next [v,.own acc',s2'])
 |[],acc,s2,_,_=>⟨_,s2,rfl⟩
 | d::l,acc,s2,h,hl=>by
  unfold YK at h
  cases e:qc0 d with
  |none=>rw[e] at h;cases h
  |some p=>
   rw[e] at h;simp only[Bool.and_eq_true,Bool.not_eq_true'] at h;obtain⟨rfl,hn,h1,h9⟩:=qeG e;rw[List.length_cons] at hl;obtain⟨acc',s2',ih⟩:=YR k v l (acc++[p.1]) (.val (.tup [.str p.1,.int p.2])) h.2 (by simp;omega);refine⟨acc',s2',?_⟩;rw[List.map_append,List.map_cons,List.map_nil] at ih;have e0:atI [D.str p.1,D.int p.2] 0=some (.str p.1):=by rfl
   have hs:(acc.map D.str).length < sizeLine:=by rw[List.length_map];show acc.length < 2 ^ 24;omega
   refine(qh _).symm.trans ?_;simp? only[JX,e0,qg7 k p.1 p.2 hn h1 h9,ZA,h.1,hs,ih]
theorem qaj(k:Nat)(b:Bool)(l:List D)(h:qv l=true):clK pg (k+4) "are_lands" [aL b l]=.ok (.val (.bl true)):=by
 unfold qv at h;simp only[Bool.and_eq_true,decide_eq_true_eq] at h;have h1:¬ (l.length:Int) < 1:=by have:=h.1.1;omega
 have h2:¬ (6:Int) < (l.length:Int):=by have:=h.1.2;omega
 rw[r_are_lands];obtain⟨acc',s2',ih⟩:=YR (pg:=pg) k (pS b l) l [] .no h.2 (by have:=h.1.2;simp;omega);rw[List.map_nil] at ih;simp? only[JY,h1,h2,show(0:Nat)<=sizeLine by decide+kernel,ih]
end
section
variable{pg:Pg}[CH pg]
theorem qjR(k:Nat)(n a b:Int)(h:btw n a b=true):clK pg (k+2) "is_between" [.val (.int n),.val (.int a),.val (.int b)]=.ok (.val (.bl true)):=by unfold btw at h;simp only[Bool.and_eq_true,decide_eq_true_eq] at h;exact zr k n a b h.1 h.2
end
theorem YS(cl:Cl)(hc:cl.cs=pcs)(v:Sl):∀(l:List D) (s1:Sl),l.all Zv=true->∃s1',jF cl 1000 (.one 1) jp l [v,s1]=.ok (.next [v,s1'])
 |[],s1,_=>⟨s1,rfl⟩
 | d::l,s1,h=>by
  rw[List.all_cons,Bool.and_eq_true] at h
  cases d with
  |ins c ns ds=>
   obtain⟨s1',ih⟩:=YS cl hc v l (.val (.ins c ns ds)) h.2;refine⟨s1',?_⟩;have hk:rk c=true:=h.1
   have i1:qfi pcs (.val (.ins c ns ds)) "Within" = some (c == "Within"):=by show(if (rk c&&_)=true then _ else _)=_;rw[hk];rfl
   have i2:qfi pcs (.val (.ins c ns ds)) "Since" = some (c != "Within"):=by show(if (rk c&&false)=true then _ else if (rk c&&true)=true then _ else _)=_;rw[hk];rfl
   refine(qh _).symm.trans ?_
   by_cases hw:(c == "Within")=true
   ·simp? only[jP,hc,i1,hw,ih]
   ·have hw:(c == "Within")=false:=by simpa using hw
    have hn:(c != "Within")=true:=by simp[bne,hw]
    simp? only[jP,hc,i1,i2,hw,hn,ih]
  |_=>cases h.1
section
variable{pg:Pg}[CH pg][RU pg][BO pg]
theorem qak(k:Nat)(b:Bool)(l:List D)(h:(decide (l.length<=8)&&l.all Zv)=true):clK pg (k+1) "are_rules" [aL b l]=.ok (.val (.bl true)):=by
 simp only[Bool.and_eq_true,decide_eq_true_eq] at h;have h2:¬ (8:Int) < (l.length:Int):=by have:=h.1;omega
 rw[r_are_rules];obtain⟨s1',ih⟩:=YS (pg.kk k) RU.cs (pS b l) l .no h.2;simp? only[JZ,h2,ih]
end
theorem qc2{n:Int}{d:D}(h:ya n d=true):∃o a b,d=.tup [.int o,.int a,.int b]/\0<=o/\o<=n - 1/\0<=a/\a<=b/\b<=1000000000:=by
 unfold ya at h
 split at h
 ·rename_i o a b;simp only[btw,Bool.and_eq_true,decide_eq_true_eq] at h;exact⟨o,a,b,rfl,by omega,by omega,by omega,by omega,by omega⟩
 ·cases h
section
variable{pg:Pg}[CH pg][BO pg]
theorem Qn(k:Nat)(n:Int)(d:D)(h:ya n d=true):clK pg (k+4) "is_paper" [.val d,.val (.int n)]=.ok (.val (.bl true)):=by
 obtain⟨o,a,b,rfl,h1,h2,h3,h4,h5⟩:=qc2 h;have e0:atI [D.int o,D.int a,D.int b] 0=some (.int o):=by rfl
 have e1:atI [D.int o,D.int a,D.int b] 1=some (.int a):=by rfl
 have e2:atI [D.int o,D.int a,D.int b] 2=some (.int b):=by rfl
 rw[r_is_paper];simp? only[YQ,e0,e1,e2,qF,zr (k+1) o 0 (n - 1) h1 h2,qc1 k a b h3 h4 h5,show((((0+1+1+1:Nat):Int) == 3)=true) from rfl]
theorem J1(k:Nat)(v:Sl)(n:Int):∀(l:List D) (i:Nat) (s2 s3:Sl),l.all (ya n)=true->∃s2' s3',jF (pg.kk (k+4)) 1000 (.many [2,3]) qX (enF i l) [v,.val (.int n),s2,s3]=.ok (.next [v,.val (.int n),s2',s3'])
 |[],i,s2,s3,_=>⟨s2,s3,rfl⟩
 | d::l,i,s2,s3,h=>by rw[List.all_cons,Bool.and_eq_true] at h;obtain⟨s2',s3',ih⟩:=J1 k v n l (i+1) (.val (.int i)) (.val d) h.2;refine⟨s2',s3',?_⟩;refine(qh _).symm.trans ?_;rw[enF];simp? only[yE,Qn k n d h.1,ih]
theorem Yz(k:Nat)(b:Bool)(ps:List D)(n:Int)(h:(decide (ps.length<=12)&&ps.all (ya n))=true):clK pg (k+5) "check_papers" [aL b ps,.val (.int n)]=.ok (.val .non):=by
 simp only[Bool.and_eq_true,decide_eq_true_eq] at h;have h2:¬ (12:Int) < (ps.length:Int):=by have:=h.1;omega
 rw[r_check_papers];obtain⟨s2',s3',ih⟩:=J1 (pg:=pg) k (pS b ps) n ps 0 .no .no h.2;simp? only[yd,zL,ih,h2]
end
end DG
namespace FA
open PySem L2 DE DG
open LC LN LM LP
theorem J2{i j:Int}(h1:-(2 ^ 64) < j)(h2:j < 2 ^ 64):QQ i j=true:=by unfold QQ;rw[decide_eq_true h1,decide_eq_true h2];simp
theorem qc3{i j:Int}(h1:-(2 ^ 64) < i)(h2:i < 2 ^ 64):QQ i j=true:=by unfold QQ;rw[decide_eq_true h1,decide_eq_true h2];simp
def zi(ns:List Int)(i:Nat):Int:=ns.getD i 0
section
variable{pg:Pg}[LC pg]
theorem qg8(k:Nat)(ns:List Int)(i:Nat):clK pg (k+1) "_law_cell_at" [.scr (ns.map D.int),.val (.int (i:Int))]=.ok (.val (.int (zi ns i))):=by
 rw[r__law_cell_at]
 by_cases h:i < ns.length
 ·have h1:(i:Int) < ((ns.map D.int).length:Int):=by rw[List.length_map];omega
  have h2:atI (ns.map D.int) (i:Int)=some (.int (zi ns i)):=qjJ (by simp[h,zi]);simp? only[zU,Nat.reduceAdd,Nat.reduceSub,h1,h2,decide_true]
 ·have h1:¬ (i:Int) < ((ns.map D.int).length:Int):=by rw[List.length_map];omega
  have h2:zi ns i=0:=by simp[zi,h]
  simp? only[zU,Nat.reduceAdd,Nat.reduceSub,h1,h2,decide_false]
end
theorem qjS(i:Int)(h0:0<=i)(h1:i < 26):atI (Str.cps "abcdefghijklmnopqrstuvwxyz").toList i=some (97+i.toNat)/\y4 (97+i.toNat):=by
 have key:∀j:Fin 26,atI (Str.cps "abcdefghijklmnopqrstuvwxyz").toList (j.val:Int)=some (97+j.val):=by decide+kernel
 obtain⟨j,rfl⟩:=Int.eq_ofNat_of_zero_le h0;exact⟨key ⟨j,by omega⟩,by unfold y4;simp;omega⟩
theorem qeH(z:Str)(c:Nat):(z++(⟨#[c]⟩:Str)).cps.toList=z.cps.toList++[c]:=by show(z.cps ++ #[c]).toList=_;simp
noncomputable def ltr(cell at' k:Int)(j:Nat):Nat:=97+((cell / 64+5 * (j:Int) * (j:Int)+3 * k * (if ((j:Int) == at')=true then 1 else 0)) % 26).toNat
theorem qg9(cell at' k:Int)(j:Nat):y4 (ltr cell at' k j):=by unfold y4 ltr;omega
def Nm(cell at' k:Int)(j:Nat)(z:Str):Prop:=z.cps.toList=(List.range j).map (ltr cell at' k)
theorem Nm.ok{cell at' k:Int}{m:Nat}{z:Str}(h:Nm cell at' k m z)(h1:1<=m)(h8:m<=8):NameOk z:=by
 have e:z.cps.size=m:=by rw[<-Array.length_toList,h];simp
 refine⟨by omega,by omega,λc hc=>?_⟩;rw[h] at hc;obtain⟨j,_,rfl⟩:=List.mem_map.mp hc;exact qg9 ..
theorem Nm.ne{cell at' k k':Int}{m:Nat}{z z':Str}(h:Nm cell at' k m z)(h':Nm cell at' k' m z')(h0:0<=at')(h1:at' < m)(hk:0<=k/\k < 4)(hk':0<=k'/\k' < 4)(ne:k≠k'):z≠z':=by
 rintro rfl;have e:(List.range m).map (ltr cell at' k)=(List.range m).map (ltr cell at' k'):=h.symm.trans h';have e2:=congrArg (λl=>l[at'.toNat]?) e;simp only[List.getElem?_map] at e2;rw[List.getElem?_range (1:)] at e2;simp only[Option.map_some,Option.some.injEq] at e2;unfold ltr at e2;have ea:((at'.toNat:Nat):Int)=at':=by omega
 rw[ea,beq_self_eq_true,if_pos rfl] at e2;omega
theorem qbL(cl:Cl)(v1 v3 v5 s9:Sl)(cell at' k:Int)(j:Nat)(z:Str)(hj:j < 8)(hz:z.cps.size < 8) :
  ∃s9',iSs cl 1000 qT [.val (.int cell),v1,.val (.str "abcdefghijklmnopqrstuvwxyz"),v3,.val (.int at'),v5,.val (.int k),.val (.str z),.val (.int j),s9]=.ok (.next [.val (.int cell),v1,.val (.str "abcdefghijklmnopqrstuvwxyz"),v3,.val (.int at'),v5,.val (.int k),.val (.str (z++(⟨#[ltr cell at' k j]⟩:Str))),.val (.int j),s9']):=by
 have m1:QQ 5 (j:Int)=true:=qc3 (2:) (2:);have m2:QQ (5 * (j:Int)) (j:Int)=true:=J2 (1:) (1:);have m3:QQ 3 k=true:=qc3 (2:) (2:);have m4:QQ (3 * k) (if ((j:Int) == at')=true then 1 else 0)=true:=J2 (by split<;>decide) (by split<;>decide);have h1:=(qjS ((cell / 64+5 * j * j+3 * k * (if ((j:Int) == at')=true then 1 else 0)) % 26) (Int.emod_nonneg _ (2:)) (Int.emod_lt_of_pos _ (2:))).1
 have hl:z.length+(⟨#[ltr cell at' k j]⟩:Str).length<=sizeLine:=by show z.cps.size+1<=2 ^ 24;omega
 have h26:("abcdefghijklmnopqrstuvwxyz" : Str).length<=sizeLine:=by decide+kernel
 refine⟨.val (.int (cell / 64+5 * j * j+3 * k * (if ((j:Int) == at')=true then 1 else 0))),?_⟩;unfold ltr at hl ⊢;refine(qh _).symm.trans ?_;simp? only[Jv,m1,m2,m3,m4,qF,h1,hl,h26]
theorem qeI(cl:Cl)(v1 v3 v5:Sl)(cell at' k:Int)(n:Nat):∀(j:Nat) (z:Str) (s8 s9:Sl),j+n<=8->Nm cell at' k j z->
  ∃z' s8' s9',jF cl 1000 (.one 8) qT (rgF (j:Int) n) [.val (.int cell),v1,.val (.str "abcdefghijklmnopqrstuvwxyz"),v3,.val (.int at'),v5,.val (.int k),.val (.str z),s8,s9]=.ok (.next [.val (.int cell),v1,.val (.str "abcdefghijklmnopqrstuvwxyz"),v3,.val (.int at'),v5,.val (.int k),.val (.str z'),s8',s9'])/\Nm cell at' k (j+n) z':=by
 induction n with
 |zero=>exactλj z s8 s9 _ hz=>⟨z,s8,s9,rfl,hz⟩
 |succ n ih=>
  intro j z s8 s9 hn hz;have sz:z.cps.size=j:=by rw[<-Array.length_toList,hz];simp
  obtain⟨t9,st⟩:=qbL cl v1 v3 v5 s9 cell at' k j z (1:) (1:)
  obtain⟨z',s8',s9',ih,e1⟩:=ih (j+1) (z++(⟨#[ltr cell at' k j]⟩:Str)) (.val (.int j)) t9 (1:) (by
   unfold Nm at hz ⊢;rw[qeH,hz,List.range_succ,List.map_append]
   rfl)
  refine⟨z',s8',s9',?_,by rw[show j+(n+1)=j+1+n by omega];exact e1⟩;rw[show((j+1:Nat):Int)=(j:Int)+1 from by omega] at ih;refine(qh _).symm.trans ?_;rw[rgF];simp only[xFo_cons,rgoV,List.set_cons_succ,List.set_cons_zero,th_ok,yFo1,st,yFo2,ih]
noncomputable def Nms(cell at':Int)(m:Nat)(zs:List Str):Prop:=∀(i:Nat) (z:Str),zs[i]?=some z->Nm cell at' (i:Int) m z
theorem ZB(cl:Cl)(v1:Sl)(cell at':Int)(m:Nat)(hm:1<=m/\m<=8):∀(n:Nat) (zs:List Str) (s6 s7 s8 s9:Sl),zs.length+n < 1000->Nms cell at' m zs->
  ∃(zs':List Str) (s6' s7' s8' s9':Sl),jF cl 1000 (.one 6) zV (rgF (zs.length:Int) n) [.val (.int cell),v1,.val (.str "abcdefghijklmnopqrstuvwxyz"),.val (.int (m:Int)),.val (.int at'),.own (zs.map D.str),s6,s7,s8,s9]=.ok (.next [.val (.int cell),v1,.val (.str "abcdefghijklmnopqrstuvwxyz"),.val (.int (m:Int)),.val (.int at'),.own (zs'.map D.str),s6',s7',s8',s9'])/\zs'.length=zs.length+n/\Nms cell at' m zs'
 |0,zs,s6,s7,s8,s9,_,hz=>⟨zs,s6,s7,s8,s9,rfl,rfl,hz⟩
 | n+1,zs,s6,s7,s8,s9,hl,hz=>by
  obtain⟨z,s8',s9',e,h1⟩:=qeI cl v1 (.val (.int (m:Int))) (.own (zs.map D.str)) cell at' (zs.length:Int) m 0 "" s8 s9 (1:) rfl;rw[Nat.zero_add] at h1
  obtain⟨zs',t6,t7,t8,t9,ih,h3,h4⟩:=ZB cl v1 cell at' m hm n (zs++[z]) (.val (.int (zs.length:Int))) (.val (.str z)) s8' s9' (by simp;omega) (λi x hx=>by
   by_cases q:i < zs.length
   ·rw[List.getElem?_append_left q] at hx;exact hz i x hx
   ·rw[List.getElem?_append_right (1:)] at hx
    have:i - zs.length=0:=by
     have:=(List.getElem?_eq_some_iff.mp hx).1
     simp at this;omega
    rw[this] at hx;simp at hx;subst hx
    have:i=zs.length:=by omega
    subst this;exact h1)
  refine⟨zs',t6,t7,t8,t9,?_,by rw[h3];simp;omega,h4⟩
  have hs:qw (m:Int)=true:=by unfold qw;simp;omega
  have hz':(zs.map D.str).length < sizeLine:=by rw[List.length_map];show _ < 2 ^ 24;omega
  rw[List.length_append,List.length_singleton,show((zs.length+1:Nat):Int)=(zs.length:Int)+1 from by omega] at ih;refine(qh _).symm.trans ?_;rw[rgF];rw[show((0:Nat):Int)=0 from rfl] at e;simp only[List.map_append,List.map_cons,List.map_nil] at ih;simp? only[Jw,hs,zy,Int.sub_zero,Int.toNat_natCast,e,hz',ih]
structure NamesOk(zs:List Str):Prop where
 two:2<=zs.length
 four:zs.length<=4
 ok:∀z∈zs,NameOk z
 once:∀(i j:Nat) (z:Str),zs[i]?=some z->zs[j]?=some z->i=j
section
variable{pg:Pg}[LN pg]
theorem qeJ(k:Nat)(cell:Int)(n:Nat)(hn:2<=n/\n<=4):∃zs:List Str,clK pg (k+1) "_law_lands" [.val (.int cell),.val (.int (n:Int))]=.ok (.tmp (zs.map D.str))/\zs.length=n/\NamesOk zs:=by
 have hm:∃m:Nat,(1+cell % 8:Int)=(m:Int)/\1<=m/\m<=8:=⟨(1+cell % 8).toNat,by omega,by omega,by omega⟩;obtain⟨m,e,h1,h2⟩:=hm;have a0:0<=cell / 8 % (m:Int):=Int.emod_nonneg _ (1:);have a1:cell / 8 % (m:Int) < m:=Int.emod_lt_of_pos _ (1:);obtain⟨zs,s6,s7,s8,s9,h,h3,h4⟩:=ZB (pg.kk k) (.val (.int (n:Int))) cell (cell / 8 % (m:Int)) m ⟨h1,h2⟩ n [] .no .no .no .no (by simp;omega) (λi z hz=>by simp at hz);simp at h3;refine⟨zs,?_,h3,⟨by omega,by omega,λz hz=>?_,λi j z hi hj=>?_⟩⟩
 ·rw[List.map_nil] at h;have hp:(0:Int) < (m:Int):=by omega
  have hs:qw (n:Int)=true:=by unfold qw;simp;omega
  rw[show((([]:List Str).length:Nat):Int)=0 from rfl] at h;rw[r__law_lands];simp? only[Jn,Nat.reduceAdd,Nat.reduceSub,e,hp,show(0:Nat)<=sizeLine by decide+kernel,hs,zy,Int.sub_zero,Int.toNat_natCast,h]
 ·obtain⟨i,hi⟩:=List.getElem?_of_mem hz;exact(h4 i z hi).ok h1 h2
 ·by_cases q:i=j
  ·exact q
  ·have li:=(List.getElem?_eq_some_iff.mp hi).1;have lj:=(List.getElem?_eq_some_iff.mp hj).1;exact absurd rfl (Nm.ne (h4 i z hi) (h4 j z hj) a0 a1 ⟨by omega,by omega⟩ ⟨by omega,by omega⟩ (1:))
end
end FA
namespace FA
open PySem L2 DE DG
open LC LN LM LP
def lnD(p:Str×Int):D:=.tup [.str p.1,.int p.2]
theorem qa1(p:Str×Int):lnD p=.tup [.str p.1,.int p.2]:=rfl
theorem qeK{z:Str}(h:NameOk z):qbI z=true:=by
 unfold qbI;simp only[Bool.and_eq_true,decide_eq_true_eq,List.all_eq_true];refine⟨⟨h.one,h.eight⟩,λc hc=>?_⟩
 have:=h.lets c hc
 unfold y4 at this;omega
structure LnOk(p:Str×Int):Prop where
 nm:NameOk p.1
 one:1<=p.2
 nine:p.2<=9
theorem qeL{p:Str×Int}(h:LnOk p):qc0 (lnD p)=some p:=by show(if (qbI p.1&&decide (1<=p.2)&&decide (p.2<=9))=true then some (p.1,p.2) else none)=_;rw[if_pos (by rw[qeK h.nm,decide_eq_true h.one,decide_eq_true h.nine];rfl)]
theorem ZC:∀(l:List (Str×Int)) (acc:List Str),(∀p∈l,LnOk p)->(acc++l.map (·.1)).Nodup->YK acc (l.map lnD)=true
 |[],acc,_,_=>rfl
 | p::l,acc,h,nd=>by
  rw[List.map_cons];unfold YK;rw[qeL (h p (by simp))];have e:acc++(p::l).map (·.1)=(acc++[p.1])++l.map (·.1):=by simp
  rw[e] at nd
  have n1:p.1∉acc:=by
   have:=(List.nodup_append.mp nd).1
   have:=(List.nodup_append.mp this).2.2
   intro hm;exact this p.1 hm p.1 (by simp) rfl
  simp only[Bool.and_eq_true,Bool.not_eq_true'];exact⟨by simpa using n1,ZC l (acc++[p.1]) (λq hq=>h q (by simp[hq])) nd⟩
theorem qbM{l:List (Str×Int)}(h:∀p∈l,LnOk p)(nd:(l.map (·.1)).Nodup)(h1:1<=l.length)(h6:l.length<=6):qv (l.map lnD)=true:=by unfold qv;rw[List.length_map,decide_eq_true h1,decide_eq_true h6,ZC l [] h (by simpa using nd)];rfl
theorem Qo{zs:List Str}(i:Int)(h0:0<=i)(h1:i < zs.length):∃z,atI (zs.map D.str) i=some (.str z)/\zs[i.toNat]?=some z:=by
 obtain⟨j,rfl⟩:=Int.eq_ofNat_of_zero_le h0;have hj:j < zs.length:=by omega
 exact⟨zs[j],qjJ (by rw[List.getElem?_map,List.getElem?_eq_getElem hj];rfl),by simp[hj]⟩
noncomputable def Lns(zs:List Str)(a:Int)(l:List (Str×Int)):Prop:=∀(i:Nat) (p:Str×Int),l[i]?=some p->zs[((a+(i:Int)) % (zs.length:Int)).toNat]?=some p.1/\LnOk p
theorem ZD(cl:Cl)(v0:Sl)(n:Int)(hn:0<=n)(zs:List Str)(hz:NamesOk zs):∀(m:Nat) (l:List (Str×Int)) (s4 s5 s6:Sl),l.length+m<=100->Lns zs (n / 18) l->
  ∃(l':List (Str×Int)) (s4':Sl),jF cl 1000 (.one 4) qE (rgF (l.length:Int) m) [v0,.bor (zs.map D.str),.val (.int n),.own (l.map lnD),s4,s5,s6]=.ok (.next [v0,.bor (zs.map D.str),.val (.int n),.own (l'.map lnD),s4',s5,s6])/\l'.length=l.length+m/\Lns zs (n / 18) l'
 |0,l,s4,s5,s6,_,h=>⟨l,s4,rfl,rfl,h⟩
 | m+1,l,s4,s5,s6,hl,h=>by
  have hL:(0:Int) < (zs.length:Int):=by have:=hz.two;omega
  obtain⟨z,e1,e2⟩:=Qo (zs:=zs) ((n / 18+(l.length:Int)) % (zs.length:Int)) (Int.emod_nonneg _ (1:)) (Int.emod_lt_of_pos _ hL)
  have h3:∃q:Int,atI [D.int 9,D.int 2,D.int 2] ((n+(l.length:Int)) % 3)=some (.int q)/\2<=q/\q<=9:=by
   have a0:0<=(n+(l.length:Int)) % 3:=Int.emod_nonneg _ (2:);have a1:(n+(l.length:Int)) % 3 < 3:=Int.emod_lt_of_pos _ (2:)
   have:(n+(l.length:Int)) % 3=0\/(n+(l.length:Int)) % 3=1\/(n+(l.length:Int)) % 3=2:=by omega
   rcases this with e | e | e<;>rw[e]
   ·exact⟨9,rfl,by decide,by decide⟩
   ·exact⟨2,rfl,by decide,by decide⟩
   ·exact⟨2,rfl,by decide,by decide⟩
  obtain⟨q,e3,q2,q9⟩:=h3;have hq:(0:Int) < q:=by omega
  have w0:0<=n / 108 / ((l.length:Int)+1) % q:=Int.emod_nonneg _ (1:);have w1:n / 108 / ((l.length:Int)+1) % q < q:=Int.emod_lt_of_pos _ hq
  obtain⟨l',s4',ih,i1,i2⟩:=ZD cl v0 n hn zs hz m (l++[(z,1+n / 108 / ((l.length:Int)+1) % q)]) (.val (.int (l.length:Int))) s5 s6 (by simp;omega) (λi p hp=>by
   by_cases hi:i < l.length
   ·rw[List.getElem?_append_left hi] at hp;exact h i p hp
   ·rw[List.getElem?_append_right (1:)] at hp;have hlt:=(List.getElem?_eq_some_iff.mp hp).1;simp at hlt;have hi:i=l.length:=by omega
    subst hi;simp at hp;subst hp;exact⟨e2,hz.ok z (List.mem_of_getElem? e2),by show 1<=1+_;omega,by show 1+_<=9;omega⟩)
  refine⟨l',s4',?_,by rw[i1];simp;omega,i2⟩
  have hs:l.length < sizeLine:=by show _ < 2 ^ 24;omega
  have two:0+1+1<=sizeLine:=by decide+kernel
  have three:0+1+1+1<=sizeLine:=by decide+kernel
  have hd:(0:Int) < (l.length:Int)+1/\(l.length:Int)+1 < 1073741824:=⟨by omega,by omega⟩;rw[List.length_append,List.length_singleton,show((l.length+1:Nat):Int)=(l.length:Int)+1 from by omega] at ih;simp only[List.map_append,List.map_cons,List.map_nil,qa1] at ih;refine(qh _).symm.trans ?_;rw[rgF];simp? only[J0,List.length_map,hL,e1,e3,hd,hq,two,three,hs,ih,qa1]
inductive Kd where
 | wi | si | ro
def Kd.nm:Kd->Str
 |.wi=>"within"
 |.si=>"since"
 |.ro=>"row"
structure Ru where
 kd:Kd
 lands:List (Str×Int)
 most:Int
 days:Int
def ruD(r:Ru):D:=.tup [.str r.kd.nm,.lst (r.lands.map lnD),.int r.most,.int r.days]
theorem Lns.nodup{zs:List Str}(hz:NamesOk zs){a:Int}{l:List (Str×Int)}(h:Lns zs a l)(hl:l.length<=zs.length):(l.map (·.1)).Nodup:=by
 rw[List.nodup_iff_pairwise_ne,List.pairwise_iff_getElem];intro i j hi hj hij e;rw[List.length_map] at hi hj;rw[List.getElem_map,List.getElem_map] at e;have h1:=(h i _ (List.getElem?_eq_getElem hi)).1;have h2:=(h j _ (List.getElem?_eq_getElem hj)).1;rw[e] at h1
 have:=hz.once _ _ _ h1 h2
 have hL:(0:Int) < (zs.length:Int):=by have:=hz.two;omega
 have a0:0<=(a+(i:Int)) % (zs.length:Int):=Int.emod_nonneg _ (1:);have b0:0<=(a+(j:Int)) % (zs.length:Int):=Int.emod_nonneg _ (1:);have e3:(a+(i:Int)) % (zs.length:Int)=(a+(j:Int)) % (zs.length:Int):=by omega
 have e4:=Int.emod_emod_of_dvd (a+j - (a+i)) (Int.dvd_refl (zs.length:Int));have e5:(a+(j:Int) - (a+(i:Int))) % (zs.length:Int)=0:=by rw[Int.sub_emod,e3,Int.sub_self,Int.zero_emod]
 rw[show a+(j:Int) - (a+(i:Int))=((j - i:Nat):Int) by omega] at e5;rw[Int.emod_eq_of_lt (1:) (1:)] at e5;omega
end FA
namespace Dy
abbrev P:=Int×Int
def Day(fs:List P)(d:Int):Prop:=∃p∈fs,p.1<=d/\d<=p.2
structure Spr(fs:List P):Prop where
 ok:∀p∈fs,p.1<=p.2
 gap:fs.Pairwise λp q=>p.2+2<=q.1
def lex(p q:P):Prop:=p.1 < q.1\/(p.1=q.1/\p.2<=q.2)
noncomputable def stp(acc:List P)(p:P):List P:=match acc.getLast? with
 |some l=>if p.1<=l.2+1 then acc.dropLast++[(l.1,if p.2 > l.2 then p.2 else l.2)] else acc++[p]
 |none=>[p]
theorem qal(p:P):stp [] p=[p]:=rfl
theorem Qp(a:List P)(l p:P):stp (a++[l]) p=if p.1<=l.2+1 then a++[(l.1,if p.2 > l.2 then p.2 else l.2)] else (a++[l])++[p]:=by unfold stp;rw[List.getLast?_append];simp
theorem qam{α:Type}(l:List α):l=[]\/∃a x,l=a++[x]:=by
 cases l with
 |nil=>exact .inl rfl
 |cons a r=>exact .inr ⟨(a::r).dropLast,(a::r).getLast (by simp),(List.dropLast_concat_getLast (by simp)).symm⟩
theorem y6{a b:List P}{d:Int}:Day (a++b) d↔Day a d\/Day b d:=by
 unfold Day;constructor
 ·rintro⟨p,hp,h⟩;rcases List.mem_append.mp hp with q | q
  ·exact .inl ⟨p,q,h⟩
  ·exact .inr ⟨p,q,h⟩
 ·rintro (⟨p,hp,h⟩ | ⟨p,hp,h⟩)
  ·exact⟨p,List.mem_append_left _ hp,h⟩
  ·exact⟨p,List.mem_append_right _ hp,h⟩
theorem Qq{p:P}{d:Int}:Day [p] d↔p.1<=d/\d<=p.2:=by
 unfold Day;constructor
 ·rintro⟨q,hq,h⟩;rw[List.mem_singleton.mp hq] at h;exact h
 ·intro h;exact⟨p,List.mem_singleton.mpr rfl,h⟩
structure Run(done acc:List P):Prop where
 spr:Spr acc
 day:∀d,Day acc d↔Day done d
 low:∀a l,acc=a++[l]->∃q∈done,q.1=l.1
 len:acc.length<=done.length
 emp:acc=[]->done=[]
theorem qha:Run [] []:=⟨⟨(λ_ h=>nomatch h),List.Pairwise.nil⟩,λ_=>Iff.rfl,λa l e=>by simp at e,Nat.le_refl _,λ_=>rfl⟩
theorem qeM{done acc:List P}{p:P}(R:Run done acc)(hp:p.1<=p.2)(hs:∀q∈done,q.1<=p.1):Run (done++[p]) (stp acc p):=by
 rcases qam acc with rfl | ⟨a,l,rfl⟩
 ·have hd:=R.emp rfl;subst hd;rw[qal];refine⟨⟨λq hq=>by rw[List.mem_singleton.mp hq];exact hp,by simp⟩,λd=>by simp,λa l e=>?_,by simp,λe=>by simp at e⟩;refine⟨p,by simp,?_⟩
  have:a=[]/\p=l:=by
   cases a with
   |nil=>simpa using e
   |cons x r=>simp at e
  rw[this.2]
 ·rw[Qp];obtain⟨q0,hq0,e0⟩:=R.low a l rfl;have hl:l.1<=p.1:=by rw[<-e0];exact hs q0 hq0
  have hlo:=R.spr.ok l (by simp);have hg:=List.pairwise_append.mp R.spr.gap
  by_cases hc:p.1<=l.2+1
  ·rw[if_pos hc];refine⟨⟨λq hq=>?_,?_⟩,λd=>?_,λa' l' e=>?_,?_,λe=>by simp at e⟩
   ·rcases List.mem_append.mp hq with h | h
    ·exact R.spr.ok q (List.mem_append_left _ h)
    ·rw[List.mem_singleton.mp h];dsimp only
     split<;>omega
   ·refine List.pairwise_append.mpr ⟨hg.1,by simp,λx hx y hy=>?_⟩;rw[List.mem_singleton.mp hy];exact hg.2.2 x hx l (by simp)
   ·rw[y6,Qq,y6,Qq,<-R.day d,y6,Qq];dsimp only;constructor
    ·rintro (h | h)
     ·exact .inl (.inl h)
     ·by_cases h2:d<=l.2
      ·exact .inl (.inr ⟨h.1,h2⟩)
      ·right
       have:=h.2
       split at this<;>omega
    ·rintro ((h | h) | h)
     ·exact .inl h
     ·right;refine⟨h.1,?_⟩
      split<;>omega
     ·right;refine⟨by omega,?_⟩
      split<;>omega
   ·have:l'.1=l.1:=by
     have:=(List.append_inj' e rfl).2
     simp at this;rw[<-this]
    exact⟨q0,List.mem_append_left _ hq0,by rw[this];exact e0⟩
   ·have:=R.len
    simp at this ⊢;omega
  ·rw[if_neg hc];refine⟨⟨λq hq=>?_,?_⟩,λd=>?_,λa' l' e=>?_,?_,λe=>by simp at e⟩
   ·rcases List.mem_append.mp hq with h | h
    ·exact R.spr.ok q h
    ·rw[List.mem_singleton.mp h];exact hp
   ·refine List.pairwise_append.mpr ⟨R.spr.gap,by simp,λx hx y hy=>?_⟩;rw[List.mem_singleton.mp hy];rcases List.mem_append.mp hx with h | h
    ·have:=hg.2.2 x h l (by simp)
     omega
    ·rw[List.mem_singleton.mp h];omega
   ·rw[y6 (a:=a++[l]),y6 (a:=done),R.day d]
   ·have:=(List.append_inj' e rfl).2
    simp at this;exact⟨p,by simp,by rw[this]⟩
   ·have:=R.len
    simp at this ⊢;omega
theorem qhb{qs:List P}(hs:qs.Pairwise lex)(hq:∀p∈qs,p.1<=p.2):∀n,n<=qs.length->Run (qs.take n) ((qs.take n).foldl stp []):=by
 intro n
 induction n with
 |zero=>intro _;simpa using qha
 |succ n ih=>
  intro hn;have e:qs.take (n+1)=qs.take n++[qs[n]]:=by rw[List.take_succ_eq_append_getElem (1:)]
  rw[e,List.foldl_append];refine qeM (ih (1:)) (hq _ (List.getElem_mem _)) λq hq'=>?_;obtain⟨i,hi,rfl⟩:=List.mem_take_iff_getElem.mp hq'
  have:=List.pairwise_iff_getElem.mp hs i n (1:) (1:) (1:)
  rcases this with h | h
  ·omega
  ·omega
end Dy
namespace Dy
def qkx(A:List P)(d:Int):Bool:=A.any λp=>decide (p.1<=d)&&decide (d<=p.2)
theorem Qr{A:List P}{d:Int}:qkx A d=true↔Day A d:=by unfold qkx Day;simp[List.any_eq_true]
end Dy
namespace DG
open PySem L2 DE FA Dy
open CH ST SP RU BO
theorem qc4:∀ps:List (Int×Int),qfj (ps.map pD)=some ps
 |[]=>rfl
 | p::ps=>by rw[List.map_cons,qfj,qc4 ps];rfl
theorem j6(p:Int×Int):pD p=.tup [.int p.1,.int p.2]:=rfl
def spr(ps:List (Int×Int)):List (Int×Int):=(yC ps).foldl stp []
theorem qhc(acc:List (Int×Int))(p:Int×Int):(stp acc p).length<=acc.length+1:=by
 rcases qam acc with rfl | ⟨a,l,rfl⟩
 ·simp[qal]
 ·rw[Qp]
  split<;>simp
theorem qp{n:Nat}(h:n < 100000):n < sizeLine:=Nat.lt_trans h (by decide+kernel)
theorem qG{n:Nat}(h:n < 100000):n<=sizeLine:=Nat.le_of_lt (qp h)
theorem J3(cl:Cl)(v:Sl):∀(ps acc:List (Int×Int)) (s2 s3:Sl),acc.length+ps.length < 10000->∃s2' s3',jF cl 1000 (.many [2,3]) y3 (ps.map pD) [v,.own (acc.map pD),s2,s3]=.ok (.next [v,.own ((ps.foldl stp acc).map pD),s2',s3'])
 |[],acc,s2,s3,_=>⟨s2,s3,rfl⟩
 | p::ps,acc,s2,s3,hl=>by
  rw[List.length_cons] at hl
  have:=qhc acc p
  obtain⟨s2',s3',ih⟩:=J3 cl v ps (stp acc p) (.val (.int p.1)) (.val (.int p.2)) (1:);refine⟨s2',s3',?_⟩;have hs:acc.length < sizeLine:=qp (1:);have two:0+1+1<=sizeLine:=by decide+kernel
  rw[List.foldl_cons];rcases qam acc with rfl | ⟨a,l,rfl⟩
  ·rw[qal] at ih ⊢;simp only[List.map_cons,List.map_nil,j6] at ih;refine(qh _).symm.trans ?_;simp? only[jO,j6,List.isEmpty_nil,two,show(0:Nat) < sizeLine by decide+kernel,ih]
  ·rw[Qp] at ih ⊢
   by_cases hc:p.1<=l.2+1
   ·rw[if_pos hc] at ih ⊢;simp only[List.map_append,List.map_cons,List.map_nil,j6] at ih;refine(qh _).symm.trans ?_;simp? only[jO,j6,List.map_append,hc,two,ih]
   ·rw[if_neg hc] at ih ⊢;simp only[List.map_append,List.map_cons,List.map_nil,j6] at ih;have hs':(a.map pD++[D.tup [.int l.1,.int l.2]]).length < sizeLine:=by simpa using hs
    refine(qh _).symm.trans ?_;simp? only[jO,j6,List.map_append,hc,two,hs',ih]
theorem qc5{pg:Pg}[SP pg](k:Nat)(b:Bool)(ps:List (Int×Int))(hl:ps.length < 64):clK pg (k+1) "spread" [aL b (ps.map pD)]=.ok (.tmp ((spr ps).map pD)):=by
 have hl':(yC ps).length < 10000:=by unfold yC;rw[List.length_mergeSort];omega
 rw[r_spread];obtain⟨s2,s3,e⟩:=J3 (pg.kk k) (pS b (ps.map pD)) (yC ps) [] .no .no (by simpa using hl');rw[List.map_nil] at e;simp? only[qa0,Qc,qc4,hl,show(0:Nat)<=sizeLine by decide+kernel,e,spr]
theorem Qs(p q:Int×Int):Zf p q=true↔lex p q:=by unfold Zf lex;simp
theorem qa2(ps:List (Int×Int))(h:∀p∈ps,p.1<=p.2):Run (yC ps) (spr ps):=by
 have hs:(yC ps).Pairwise lex:=by
  have:=List.pairwise_mergeSort (le:=Zf) (λa b c h1 h2=>by rw[Qs] at h1 h2 ⊢;unfold lex at *;omega) (λa b=>by simp only[Bool.or_eq_true,Qs];unfold lex;omega) ps
  exact this.imp λ{a b} h=>(Qs a b).mp h
 have hq:∀p∈yC ps,p.1<=p.2:=λp hp=>h p ((List.mergeSort_perm ps Zf).mem_iff.mp hp)
 have:=qhb hs hq (yC ps).length (Nat.le_refl _)
 rwa[List.take_length] at this
theorem qhd{ps:List (Int×Int)}(h:∀p∈ps,p.1<=p.2):Spr (spr ps):=(qa2 ps h).spr
theorem qc6{ps:List (Int×Int)}(h:∀p∈ps,p.1<=p.2):(spr ps).length<=ps.length:=by
 have:=(qa2 ps h).len
 unfold yC at this
 rwa[List.length_mergeSort] at this
end DG
namespace DG
open PySem L2 DE FA Dy
open CH ST SP RU BO
def _root_.FA.Kd.cls:Kd->Str
 |.wi=>"Within"
 |.si=>"Since"
 |.ro=>"InRow"
def _root_.FA.Kd.fld:Kd->Str
 |.wi=>"span"
 |.si=>"leave"
 |.ro=>"leave"
def _root_.FA.Kd.isW:Kd->Bool
 |.wi=>true
 |.si=>false
 |.ro=>false
noncomputable def ruI(r:Ru):D:=.ins r.kd.cls ["lands","most",r.kd.fld] [.tup (r.lands.map lnD),.int r.most,.int r.days]
theorem qa3(r:Ru):qcF pcs (.val (ruI r)) "lands" = some (.tup (r.lands.map lnD)):=by obtain⟨kd,l,m,d⟩:=r;cases kd<;>rfl
theorem Qt(r:Ru):qcF pcs (.val (ruI r)) "most" = some (.int r.most):=by obtain⟨kd,l,m,d⟩:=r;cases kd<;>rfl
theorem qc7(r:Ru)(h:r.kd.isW=true):qcF pcs (.val (ruI r)) "span" = some (.int r.days):=by
 obtain⟨kd,l,m,d⟩:=r
 cases kd<;>first | rfl | cases h
theorem qeN(r:Ru)(h:r.kd.isW=false):qcF pcs (.val (ruI r)) "leave" = some (.int r.days):=by
 obtain⟨kd,l,m,d⟩:=r
 cases kd<;>first | rfl | cases h
theorem ZE(r:Ru):mtD pcs (.val (ruI r)) "weight" = some ("Rule.weight" : Str):=by obtain⟨kd,l,m,d⟩:=r;cases kd<;>rfl
theorem ZF(r:Ru):qfi pcs (.val (ruI r)) "Within" = some r.kd.isW:=by obtain⟨kd,l,m,d⟩:=r;cases kd<;>rfl
abbrev St:=Str×Int×Int
abbrev Pa:=Int×Int×Int
def paD(p:Pa):D:=.tup [.int p.1,.int p.2.1,.int p.2.2]
theorem jy(p:Pa):paD p=.tup [.int p.1,.int p.2.1,.int p.2.2]:=rfl
noncomputable def bkI(rs:List Ru)(ps:List Pa):D:=.ins "Book" ["kept_rules","kept_papers"] [.lst (rs.map ruI),.lst (ps.map paD)]
theorem qeO(rs:List Ru)(ps:List Pa):qcF pcs (.val (bkI rs ps)) "kept_rules" = some (.lst (rs.map ruI)):=rfl
theorem qc8(rs:List Ru)(ps:List Pa):qcF pcs (.val (bkI rs ps)) "kept_papers" = some (.lst (ps.map paD)):=rfl
theorem JE(rs:List Ru)(ps:List Pa):mtD pcs (.val (bkI rs ps)) "rules" = some ("Book.rules" : Str):=rfl
theorem qc9(rs:List Ru)(ps:List Pa):mtD pcs (.val (bkI rs ps)) "lifted" = some ("Book.lifted" : Str):=rfl
noncomputable def qI:List St->Int->Option Str
 |[],_=>none
 | s::l,d=>if s.2.1<=d/\d<=s.2.2 then some s.1 else qI l d
def qhe:Option Str->D
 |some z=>.str z
 |none=>.non
def wt:List (Str×Int)->Option Str->Int
 |[],_=>0
 | p::l,o=>if o=some p.1 then p.2 else wt l o
theorem j0{z:Str}(h:NameOk z):PyData.strOk z=true:=by
 unfold PyData.strOk;rw[<-Array.all_toList,List.all_eq_true];intro c hc
 have:=h.lets c hc
 unfold y4 at this;rw[decide_eq_true_eq];omega
theorem qhf{p:Str}(hp:NameOk p){o:Option Str}(ho:∀z,o=some z->NameOk z):eqD (.str p) (qhe o)=some (decide (o=some p)):=by
 cases o with
 |none=>show eqD (.str p) .non=_;rw[qjI (j0 hp)];simp
 |some z=>
  show eqD (.str p) (.str z)=_;rw[y2 (j0 hp) (j0 (ho z rfl))]
  congr 1
  rw[Bool.eq_iff_iff,beq_iff_eq,decide_eq_true_eq];constructor
  ·rintro rfl;rfl
  ·intro e;cases e;rfl
theorem J4(cl:Cl)(v:Sl)(o:Option Str)(ho:∀z,o=some z->NameOk z):∀(l:List (Str×Int)) (s2 s3:Sl),(∀p∈l,LnOk p)->∃F,jF cl 1000 (.many [2,3]) zA (l.map lnD) [v,.val (qhe o),s2,s3]=.ok F/\(F=.ret (.val (.int (wt l o)))\/(wt l o=0/\∃ρ',F=.next ρ'))
 |[],s2,s3,_=>⟨_,rfl,.inr ⟨rfl,_,rfl⟩⟩
 | p::l,s2,s3,h=>by
  obtain⟨F,i,a⟩:=J4 cl v o ho l (.val (.str p.1)) (.val (.int p.2)) λq hq=>h q (by simp[hq]);have e:=qhf (h p (by simp)).nm ho;unfold wt
  by_cases hc:o=some p.1
  ·rw[if_pos hc];rw[decide_eq_true hc] at e;refine⟨_,?_,.inl rfl⟩;refine(qh _).symm.trans ?_;rw[List.map_cons];simp? only[z8,qa1,e]
  ·rw[if_neg hc];rw[decide_eq_false hc] at e;refine⟨F,?_,a⟩;refine(qh _).symm.trans ?_;rw[List.map_cons];simp? only[z8,qa1,e,i]
theorem qda{pg:Pg}[RU pg](k:Nat)(r:Ru)(h:∀p∈r.lands,LnOk p)(o:Option Str)(ho:∀z,o=some z->NameOk z):clK pg (k+1) "Rule.weight" [.val (ruI r),.val (qhe o)]=.ok (.val (.int (wt r.lands o))):=by
 rw[r_Rule_weight];obtain⟨F,i,a⟩:=J4 (pg.kk k) (.val (ruI r)) o ho r.lands .no .no h;rcases a with rfl | ⟨i0,ρ',rfl⟩
 ·simp? only[jo,RU.cs,qa3,i]
 ·simp? only[jo,RU.cs,qa3,i,i0]
theorem Qu{pg:Pg}[RU pg][BO pg](k:Nat)(rs:List Ru)(ps:List Pa):clK pg (k+1) "Book.rules" [.val (bkI rs ps)]=.ok (.tmp (rs.map ruI)):=by rw[r_Book_rules];simp? only[Jm,RU.cs,qeO]
def ofN(n:Int)(ps:List Pa):List (Int×Int):=(ps.filter λp=>p.1 == n).map λp=>(p.2.1,p.2.2)
def qa4(n:Int)(ps:List Pa):List (Int×Int):=spr (ofN n ps)
theorem ym(cl:Cl)(n:Int):∀(ps:List Pa) (acc:List (Int×Int)) (s0 s1 s2:Sl),acc.length+ps.length < 10000->zS cl zB (.many [0,1,2]) (.test (.cmp .Eq (.var 0) (.var 3))) (ps.map paD) [s0,s1,s2,.val (.int n)] (acc.map pD)=.ok ((acc++ofN n ps).map pD)
 |[],acc,s0,s1,s2,_=>by simp[ofN,qW]
 | p::ps,acc,s0,s1,s2,hl=>by
  rw[List.length_cons] at hl;have two:0+1+1<=sizeLine:=by decide+kernel
  have hs:(acc.map pD).length < sizeLine:=by rw[List.length_map];exact qp (1:)
  cases hc:(p.1 == n) with
  |true=>
   have ih:=ym cl n ps (acc++[(p.2.1,p.2.2)]) (.val (.int p.1)) (.val (.int p.2.1)) (.val (.int p.2.2)) (by simp;omega);have e:ofN n (p::ps)=(p.2.1,p.2.2)::ofN n ps:=by simp[ofN,hc]
   rw[e];simp only[List.map_append,List.map_cons,List.map_nil,j6,List.append_assoc,List.cons_append,List.nil_append] at ih ⊢;refine(qh _).symm.trans ?_;simp? only[ja,jy,qF,hc,two,hs,ih]
  |false=>
   have ih:=ym cl n ps acc (.val (.int p.1)) (.val (.int p.2.1)) (.val (.int p.2.2)) (1:);have e:ofN n (p::ps)=ofN n ps:=by simp[ofN,hc]
   rw[e];refine(qh _).symm.trans ?_;rw[List.map_cons];simp? only[ja,jy,qF,hc,two,hs,ih]
theorem qan(n:Int)(ps:List Pa):(ofN n ps).length<=ps.length:=by unfold ofN;rw[List.length_map];exact List.length_filter_le ..
theorem qdb{pg:Pg}[RU pg][BO pg][SP pg](k:Nat)(rs:List Ru)(ps:List Pa)(n:Int)(hl:ps.length < 64):clK pg (k+2) "Book.lifted" [.val (bkI rs ps),.val (.int n)]=.ok (.tmp ((qa4 n ps).map pD)):=by
 have i:=ym (pg.kk (k+1)) n ps [] .no .no .no (by simp;omega);have s:=qc5 (pg:=pg) k false (ofN n ps) (Nat.lt_of_le_of_lt (qan n ps) hl);have hs:(ps.map paD).length<=sizeLine:=by rw[List.length_map];exact qG (1:)
 simp only[Zt,Zu] at s;rw[List.map_nil,List.nil_append] at i;rw[r_Book_lifted];simp? only[yF,RU.cs,qc8,Z3,List.getD_cons_succ,List.getD_cons_zero,hs,i,s,qa4]
noncomputable def wgt(r:Ru)(lf:List (Int×Int))(st:List St)(d:Int):Int:=if qkx lf d=true then 0 else wt r.lands (qI st d)
end DG
namespace DG
open PySem L2 DE FA Dy
open CH ST SP RU BO
def ws(f:Int->Int)(lo:Int):Nat->List Int
 |0=>[]
 | n+1=>f lo::ws f (lo+1) n
theorem yG{i:Int}(h1:-1000000000000<=i)(h2:i<=1000000000000):qw i=true:=by unfold qw;simp;omega
section
variable{pg:Pg}[RU pg]
noncomputable def qdc(f:Int->Int)(leave:Int):Nat->Int->Int->Int->Int->Int×Int
 |0,fi,to,_,_=>(fi,to)
 | n+1,fi,to,em,ba=>if em < leave then (if f ba=0 then qdc f leave n fi to (em+1) (ba - 1) else qdc f leave n ba (to+f ba) 0 (ba - 1)) else (fi,to)
end
noncomputable def win(r:Ru)(f:Int->Int)(d:Int):Int×Int:=if r.kd.isW=true then (d - r.days+1,(ws f (d - r.days+1) r.days.toNat).sum) else qdc f r.days 1000 (d+1) 0 0 d
theorem qhg{rs:List Ru}{n:Nat}{r:Ru}(h:rs[n]?=some r):atI (rs.map ruI) (n:Int)=some (ruI r):=qjJ (by rw[List.getElem?_map,h];rfl)
abbrev Rl:=Ru×List (Int×Int)
noncomputable def qfF(st:List St)(d:Int):Nat->List Rl->Option (Int×Int×Int)
 |_,[]=>none
 | i,x::l=>if x.1.most < (win x.1 (wgt x.1 x.2 st) d).2 then some (d,(i:Int),(win x.1 (wgt x.1 x.2 st) d).1) else qfF st d (i+1) l
noncomputable def flt(st:List St)(rs:List Rl)(lo:Int):Nat->Option (Int×Int×Int)
 |0=>none
 | n+1=>match qfF st lo 0 rs with
  |some x=>some x
  |none=>flt st rs (lo+1) n
def f3D(x:Int×Int×Int):D:=.tup [.int x.1,.int x.2.1,.int x.2.2]
def Ys:Option (Int×Int×Int)->D
 |none=>.non
 |some x=>f3D x
end DG
namespace DG
open PySem L2 DE FA Dy
open CH ST SP RU BO
def rlF(ps:List Pa):Nat->List Ru->List Rl
 |_,[]=>[]
 | i,r::l=>(r,qa4 i ps)::rlF ps (i+1) l
theorem qdd(ps:List Pa):∀(i:Nat) (rs:List Ru),(rlF ps i rs).map (λx=>ruI x.1)=rs.map ruI
 |_,[]=>rfl
 | i,r::l=>by rw[rlF,List.map_cons,List.map_cons,qdd ps (i+1) l]
theorem Qv(ps:List Pa):∀(i:Nat) (rs:List Ru) (j:Nat),(rlF ps i rs)[j]?=(rs[j]?).map λr=>(r,qa4 ((i+j:Nat):Int) ps)
 |_,[],j=>by simp[rlF]
 | i,r::l,0=>by simp[rlF]
 | i,r::l,j+1=>by rw[rlF,List.getElem?_cons_succ,Qv ps (i+1) l j,List.getElem?_cons_succ,show i+1+j=i+(j+1) by omega]
theorem qde{ps:List Pa}{i:Nat}{rs:List Ru}{x:Rl}(h:x∈rlF ps i rs):∃j:Nat,rs[j]?=some x.1/\x.2=qa4 ((i+j:Nat):Int) ps:=by obtain⟨j,hj⟩:=List.getElem?_of_mem h;rw[Qv] at hj;obtain⟨r,e1,e2⟩:=Option.map_eq_some_iff.mp hj;exact⟨j,by rw[e1,<-e2],by rw[<-e2]⟩
def qhN(st:List St):Int:=match st.getLast? with
 |some s=>s.2.2
 |none=>0
end DG
namespace FA
open PySem DE DG Dy
open L2 hiding St
open LC LN LM LP RU
theorem Qw{k:Nat}:¬ (k+12 < 12):=by omega
theorem qeP{pg:Pg}[RU pg][LM pg](k:Nat)(r:Ru)(hl:qv (r.lands.map lnD)=true)(h0:0<=r.most)(h1:r.most<=1000000000)(h2:1<=r.days)(h3:r.days<=1000000000)(row:r.kd=.ro->r.days=1):clK pg (k+13) "_law_made" [.val (ruD r)]=.ok (.val (ruI r)):=by
 have hm:btw r.most 0 1000000000=true:=by unfold btw;simp;omega
 have hd:btw r.days 1 1000000000=true:=by unfold btw;simp;omega
 obtain⟨kd,lands,most,days⟩:=r;dsimp only at hl hm hd;have w1:PyData.strOk "within" = true:=by decide+kernel
 have w2:PyData.strOk "since" = true:=by decide+kernel
 have w3:PyData.strOk "row" = true:=by decide+kernel
 rw[r__law_made]
 cases kd with
 |wi=>
  have e:pg.nw (k+12) "Within" [.val (.lst (lands.map lnD)),.val (.int most),.val (.int days)]=.ok (.val (ruI ⟨.wi,lands,most,days⟩)):=by rw[RU.nw];show(if k+12 < 12 then R.no else qbK "Within" (if (qv (lands.map lnD)&&btw most 0 1000000000&&btw days 1 1000000000)=true then _ else none))=_;rw[if_neg Qw,if_pos (by rw[hl,hm,hd];rfl)];rfl
  simp? only[jq,ruD,Kd.nm,y2 w1 w1,show(("within" : Str) == "within")=true by decide+kernel,e]
 |si=>
  have e:pg.nw (k+12) "Since" [.val (.lst (lands.map lnD)),.val (.int most),.val (.int days)]=.ok (.val (ruI ⟨.si,lands,most,days⟩)):=by rw[RU.nw];show(if k+12 < 12 then R.no else qbK "Since" (if (qv (lands.map lnD)&&btw most 0 1000000000&&btw days 1 1000000000)=true then _ else none))=_;rw[if_neg Qw,if_pos (by rw[hl,hm,hd];rfl)];rfl
  simp? only[jq,ruD,Kd.nm,y2 w2 w1,y2 w2 w2,show(("since" : Str) == "within")=false by decide+kernel,show(("since" : Str) == "since")=true by decide+kernel,e]
 |ro=>
  have d1:days=1:=row rfl;subst d1
  have e:pg.nw (k+12) "InRow" [.val (.lst (lands.map lnD)),.val (.int most)]=.ok (.val (ruI ⟨.ro,lands,most,1⟩)):=by rw[RU.nw];show(if k+12 < 12 then R.no else qbK "InRow" (if (qv (lands.map lnD)&&btw most 0 1000000000)=true then _ else none))=_;rw[if_neg Qw,if_pos (by rw[hl,hm];rfl)];rfl
  simp? only[jq,ruD,Kd.nm,y2 w3 w1,y2 w3 w2,show(("row" : Str) == "within")=false by decide+kernel,show(("row" : Str) == "since")=false by decide+kernel,e]
structure PaOk(m qr:Int)(p:Pa):Prop where
 o0:0<=p.1
 o1:p.1 < m
 a0:qr<=p.2.1
 a1:p.2.1 < qr+60
 b0:p.2.1<=p.2.2
 b1:p.2.2 < p.2.1+9
theorem Qn{pg:Pg}[LP pg](k:Nat)(c m qr:Int)(hm:0 < m):∃p:Pa,PaOk m qr p/\clK pg (k+1) "_law_paper" [.val (.int c),.val (.int m),.val (.int qr)]=.ok (.val (paD p)):=by
 have hn:0<=c * 982451653 % 10000000000037:=Int.emod_nonneg _ (2:);generalize hN:c * 982451653 % 10000000000037=n at hn;have mul:QQ c 982451653=true:=J2 (2:) (2:);have three:0+1+1+1<=sizeLine:=by decide+kernel
 have a0:0<=n / 8 % 60:=Int.emod_nonneg _ (2:);have a1:n / 8 % 60 < 60:=Int.emod_lt_of_pos _ (2:);have b0:0<=n / 480 % 9:=Int.emod_nonneg _ (2:);have b1:n / 480 % 9 < 9:=Int.emod_lt_of_pos _ (2:);refine⟨(n % m,qr+n / 8 % 60,qr+n / 8 % 60+n / 480 % 9),⟨Int.emod_nonneg _ (1:),Int.emod_lt_of_pos _ hm,by dsimp only;omega,by dsimp only;omega,by dsimp only;omega,by dsimp only;omega⟩,?_⟩;rw[r__law_paper];simp? only[Jo,mul,hN,hm,three,jy]
theorem qdf:∀(l:List St) (e:Int) (s:St),Ch e l->StOk (match l.getLast? with |some t=>t.2.2 |none=>e) s->Ch e (l++[s])
 |[],e,s,_,h=>⟨h,trivial⟩
 | t::l,e,s,h,h'=>by
  refine⟨h.1,qdf l t.2.2 s h.2 ?_⟩
  cases l with
  |nil=>exact h'
  |cons u r=>exact h'
end FA
namespace DG
open PySem DE FA Dy
open L2 hiding St
theorem qdg:∀l:List (Str×Int),wt l none=0
 |[]=>rfl
 | p::l=>by unfold wt;rw[if_neg (by simp)];exact qdg l
theorem qjT{l:List (Str×Int)}(h:∀p∈l,LnOk p)(o:Option Str):0<=wt l o:=by
 induction l with
 |nil=>exact Int.le_refl _
 |cons p l ih=>
  unfold wt;split
  ·have:=(h p (by simp)).one;omega
  ·exact ih λq hq=>h q (by simp[hq])
theorem qjU{r:Ru}(h:∀p∈r.lands,LnOk p)(lf:List (Int×Int))(st:List St)(d:Int):0<=wgt r lf st d:=by
 unfold wgt;split
 ·exact Int.le_refl _
 ·exact qjT h _
theorem qdh{r:Ru}{lf:List (Int×Int)}{st:List St}{d:Int}(h:qI st d=none):wgt r lf st d=0:=by unfold wgt;rw[h,qdg];simp
theorem qeQ{r:Ru}{lf:List (Int×Int)}{st st':List St}{d:Int}(h:qI st d=qI st' d):wgt r lf st d=wgt r lf st' d:=by unfold wgt;rw[h]
theorem qdi{f g:Int->Int}:∀(n:Nat) (lo:Int),(∀x,lo<=x->x < lo+n->f x=g x)->ws f lo n=ws g lo n
 |0,_,_=>rfl
 | n+1,lo,h=>by rw[ws,ws,h lo (1:) (1:),qdi n (lo+1) λx h1 h2=>h x (1:) (1:)]
theorem qao{f:Int->Int}:∀(n:Nat) (lo:Int),(ws f lo (n+1)).sum=(ws f lo n).sum+f (lo+n)
 |0,lo=>by simp[ws]
 | n+1,lo=>by rw[ws,List.sum_cons,qao n (lo+1),ws,List.sum_cons,show lo+1+(n:Int)=lo+((n+1:Nat):Int) by omega];omega
theorem qjV{f:Int->Int}(hf:∀x,0<=f x):∀(n:Nat) (lo:Int),0<=(ws f lo n).sum
 |0,_=>by simp[ws]
 | n+1,lo=>by
  rw[ws,List.sum_cons]
  have:=hf lo
  have:=qjV hf n (lo+1)
  omega
theorem Qx{f:Int->Int}:∀(n:Nat) (lo:Int),(∀x,lo<=x->x < lo+n->f x=0)->(ws f lo n).sum=0
 |0,_,_=>by simp[ws]
 | n+1,lo,h=>by rw[ws,List.sum_cons,h lo (1:) (1:),Qx n (lo+1) λx h1 h2=>h x (1:) (1:)];rfl
theorem qap{st:List St}{d:Int}:qI st d=none↔∀s∈st,¬ (s.2.1<=d/\d<=s.2.2):=by
 induction st with
 |nil=>simp[qI]
 |cons s l ih=>
  unfold qI
  by_cases hc:s.2.1<=d/\d<=s.2.2
  ·rw[if_pos hc];constructor
   ·intro h;cases h
   ·intro h;exact absurd hc (h s (by simp))
  ·rw[if_neg hc,ih];constructor
   ·intro h t ht;rcases List.mem_cons.mp ht with rfl | ht
    ·exact hc
    ·exact h t ht
   ·exactλh t ht=>h t (by simp[ht])
theorem Ch.lo:∀{l:List St} {e:Int},Ch e l->∀t∈l,e < t.2.1/\t.2.1<=t.2.2
 |[],_,_,t,ht=>by cases ht
 | u::r,e,h,t,ht=>by
  rcases List.mem_cons.mp ht with rfl | ht
  ·exact⟨h.1.lo,h.1.ab⟩
  ·have:=Ch.lo h.2 t ht
   have:=h.1.lo
   have:=h.1.ab
   exact⟨by omega,by omega⟩
theorem Ch.high:∀{l:List St} {e:Int},Ch e l->∀t∈l,t.2.2<=qhN l
 |[],_,_,t,ht=>by cases ht
 |[u],e,h,t,ht=>by rw[List.mem_singleton.mp ht];exact Int.le_refl _
 | u::v::r,e,h,t,ht=>by
  have el:qhN (u::v::r)=qhN (v::r):=by unfold qhN;rw[List.getLast?_cons_cons]
  rw[el];rcases List.mem_cons.mp ht with rfl | ht
  ·have:=Ch.high h.2 v (by simp)
   have:=h.2.1.lo
   have:=h.2.1.ab
   omega
  ·exact Ch.high h.2 t ht
end DG
namespace FA
open PySem DE DG Dy
open L2 hiding St
open LC LN LM LP RU
theorem qaq(ns:List Int)(a b:Nat):∃ms:List Int,qbB (ns.map D.int) (some (a:Int)) (some (b:Int))=ms.map D.int/\ms.length<=b - a:=by
 refine⟨(ns.drop (min a ns.length)).take (min b ns.length - min a ns.length),?_,?_⟩
 ·unfold qbB;rw[HT.Y4,HT.Y4,List.length_map,List.map_take,List.map_drop]
 ·refine Nat.le_trans (List.length_take_le ..) ?_;rcases Nat.le_total a ns.length with h | h
  ·rw[Nat.min_eq_left h];exact Nat.sub_le_sub_right (Nat.min_le_left ..) a
  ·rw[Nat.min_eq_right h,Nat.sub_eq_zero_of_le (Nat.min_le_right ..)];exact Nat.zero_le _
def qfG:E:=.call "_law_paper" %[0,.b1 .len (.var 2),1|0]
theorem J5{pg:Pg}[LP pg](k:Nat)(qr:Int)(rs:List D)(hr:0 < rs.length):∀(cs:List Int) (acc:List D) (s0:Sl),acc.length+cs.length < 10000->∃ps:List Pa,(∀p∈ps,PaOk rs.length qr p)/\ps.length=cs.length/\
  zS (pg.kk (k+1)) qfG (.one 0) .yes (cs.map D.int) [s0,.val (.int qr),.bor rs] acc=.ok (acc++ps.map paD)
 |[],acc,s0,_=>⟨[],λr h=>(by cases h),rfl,by simp[qW]⟩
 | c::cs,acc,s0,hl=>by
  rw[List.length_cons] at hl;obtain⟨p,h1,h2⟩:=Qn (pg:=pg) k c rs.length qr (1:);obtain⟨ps,i1,i2,i3⟩:=J5 (pg:=pg) k qr rs hr cs (acc++[paD p]) (.val (.int c)) (by simp;omega);refine⟨p::ps,λx hx=>?_,by simp[i2],?_⟩
  ·rcases List.mem_cons.mp hx with rfl | hx
   ·exact h1
   ·exact i1 x hx
  ·have hs:acc.length < sizeLine:=qp (1:);simp only[List.append_assoc,List.cons_append,List.nil_append] at i3;refine(qh _).symm.trans ?_;rw[List.map_cons,List.map_cons];unfold qfG at i3 ⊢;simp? only[h2,hs,i3]
end FA
namespace DG
open PySem DE FA Dy
open L2 hiding St
theorem qeR(r:Ru):Zv (ruI r)=true:=by obtain⟨kd,l,m,d⟩:=r;cases kd<;>rfl
theorem qhh{pg:Pg}[RU pg](k:Nat)(b c:Bool)(rs:List Ru)(ps:List Pa)(hr:rs.length<=8)(hp:ps.length<=12)(h:∀p∈ps,0<=p.1/\p.1 < rs.length/\0<=p.2.1/\p.2.1<=p.2.2/\p.2.2<=1000000000) :
  pg.nw (k+12) "Book" [aL b (rs.map ruI),aL c (ps.map paD)]=.ok (.val (bkI rs ps)):=by
 have e:∀(b:Bool) (l:List D),arL (aL b l)=some l:=λb l=>by cases b<;>rfl
 have h1:((decide ((rs.map ruI).length<=8)&&(rs.map ruI).all Zv)&&(decide ((ps.map paD).length<=12)&&(ps.map paD).all (ya (rs.map ruI).length)))=true:=by simp only[List.length_map,Bool.and_eq_true,decide_eq_true_eq,List.all_eq_true,List.mem_map];refine⟨⟨hr,λx ⟨r,_,hx⟩=>by rw[<-hx];exact qeR r⟩,hp,λx ⟨p,hm,hx⟩=>?_⟩;obtain⟨q1,q2,q3,q4,q5⟩:=h p hm;rw[<-hx];show(btw p.1 0 ((rs.length:Int) - 1)&&btw p.2.1 0 1000000000&&btw p.2.2 0 1000000000&&decide (p.2.1<=p.2.2))=true;unfold btw;simp only[Bool.and_eq_true,decide_eq_true_eq];omega
 rw[RU.nw]
 show(if k+12 < 12 then R.no else qbK "Book" (match arL (aL b (rs.map ruI)),arL (aL c (ps.map paD)) with
  |some l,some ps=>if ((decide (l.length<=8)&&l.all Zv)&&(decide (ps.length<=12)&&ps.all (ya l.length)))=true then some [("kept_rules",D.lst l),("kept_papers",D.lst ps)] else none
  |_,_=>none))=_
 rw[if_neg (1:),e,e];dsimp only;rw[if_pos h1];rfl
theorem Ch.weak{l:List St}{e e':Int}(h:e'<=e)(hc:Ch e l):Ch e' l:=by
 cases l with
 |nil=>trivial
 |cons s l=>exact⟨⟨hc.1.nm,by have:=hc.1.lo;omega,hc.1.ab,hc.1.hi⟩,hc.2⟩
end DG
namespace DG
open PySem L2 DE
noncomputable abbrev ZG:T:=(.and (.cmp .Lt (.var 3) (.b1 .len (.var 0))) (.one (.cmp .Lt (.var 4) (.b1 .len (.var 1)))))
def Qy:T:=ZG
theorem j5:UT Qy ZG:=λ_ _ _=>(rfl)
noncomputable abbrev ZH:Ss:=%[.set 5 (.b2 .max (.idx (.idx (.var 0) (.var 3)) (.con (.int 0))) (.idx (.idx (.var 1) (.var 4)) (.con (.int 0)))),.set 6 (.b2 .min (.idx (.idx (.var 0) (.var 3)) (.con (.int 1))) (.idx (.idx (.var 1) (.var 4)) (.con (.int 1)))),.ite (.cmp .LtE (.var 5) (.var 6)) %[.app 2 (.tup %[5,6|0])|0] .nil,.ite (.cmp .Lt (.idx (.idx (.var 0) (.var 3)) (.con (.int 1))) (.idx (.idx (.var 1) (.var 4)) (.con (.int 1)))) %[.set 3 (.bin .Add (.var 3) (.con (.int 1)))|0] %[.set 4 (.bin .Add (.var 4) (.con (.int 1)))|0]|0]
def Qz:Ss:=ZH
theorem YT:USs Qz ZH:=λ_ _ _ _=>(rfl)
noncomputable def qfH:Nat×Nat×Ss:=(2,7,%[.set 2 (.lst .nil),.set 3 (.con (.int 0)),.set 4 (.con (.int 0)),.whl Qy Qz,.ret (.var 2)|0])
noncomputable abbrev Jp:Ss:=%[.ite (.cmp .Lt (.var 4) (.idx (.var 5) (.con (.int 0)))) %[.app 3 (.tup %[4,.bin .Sub (.idx (.var 5) (.con (.int 0))) (.con (.int 1))|0])|0] .nil,.set 4 (.b2 .max (.var 4) (.bin .Add (.idx (.var 5) (.con (.int 1))) (.con (.int 1))))|0]
def yn:Ss:=Jp
theorem yH:USs yn Jp:=λ_ _ _ _=>(rfl)
noncomputable def J6:Nat×Nat×Ss:=(3,6,%[.set 3 (.lst .nil),.set 4 (.var 1),.for_ (.one 5) (.seq (.var 0)) yn,.ite (.cmp .LtE (.var 4) (.var 2)) %[.app 3 (.tup %[4,2|0])|0] .nil,.ret (.var 3)|0])
noncomputable def qfI:Nat×Nat×Ss:=(2,2,%[.ite (.not (.val (.var 0))) %[.ret (.lst .nil)|0] .nil,.ret (.call "both" %[0,.call "outside" %[1,.idx (.idx (.var 0) (.con (.int 0))) (.con (.int 0)),.idx (.idx (.var 0) (.neg (.con (.int 1)))) (.con (.int 1))|0]|0])|0])
class BT(pg:Pg):Prop where
 r_both:RW pg "both" qfH
 r_outside:RW pg "outside" J6
 r_less:RW pg "less" qfI
abbrev jc:E:=(.tup %[0,1,2|0])
def qY:E:=jc
theorem yI:UE qY jc:=λ_ _ _=>(rfl)
noncomputable abbrev jd:Ss:=%[.set 9 (.met (.var 3) "weight" %[6|0]),.ite (.cmp .Gt (.var 9) (.con (.int 0))) %[.ext 5 (.comp qY (.seq (.call "less" %[.lst %[.tup %[7,8|0]|0],4|0])) (.many [0,1]) .yes 2 [9])|0] .nil|0]
def qZ:Ss:=jd
theorem zM:USs qZ jd:=λ_ _ _ _=>(rfl)
noncomputable def yf:Nat×Nat×Ss:=(3,10,%[.set 3 (.idx (.met (.var 0) "rules" .nil) (.var 1)),.set 4 (.met (.var 0) "lifted" %[1|0]),.set 5 (.lst .nil),.for_ (.many [6,7,8]) (.seq (.var 2)) qZ,.ret (.var 5)|0])
class PC(pg:Pg):Prop where
 r_pieces_among:RW pg "pieces_among" yf
noncomputable abbrev J7:Ss:=%[.set 7 (.bin .Add (.bin .Sub (.b2 .min (.var 5) (.var 2)) (.b2 .max (.var 4) (.var 1))) (.con (.int 1))),.ite (.cmp .Gt (.var 7) (.con (.int 0))) %[.set 3 (.bin .Add (.var 3) (.bin .Mult (.var 7) (.var 6)))|0] .nil|0]
def y7:Ss:=J7
theorem Jq:USs y7 J7:=λ_ _ _ _=>(rfl)
noncomputable def qa5:Nat×Nat×Ss:=(3,8,%[.set 3 (.con (.int 0)),.for_ (.many [4,5,6]) (.seq (.var 0)) y7,.ret (.var 3)|0])
noncomputable abbrev jz:Ss:=%[.ite (.cmp .LtE (.var 4) (.var 2)) %[.ite (.cmp .GtE (.bin .Sub (.bin .Sub (.var 3) (.con (.int 1))) (.b2 .min (.var 5) (.var 2))) (.var 1)) %[.ret (.var 3)|0] .nil,.set 3 (.var 4)|0] .nil|0]
def zC:Ss:=jz
theorem qR:USs zC jz:=λ_ _ _ _=>(rfl)
noncomputable def yJ:Nat×Nat×Ss:=(3,7,%[.set 3 (.bin .Add (.var 2) (.con (.int 1))),.for_ (.many [4,5,6]) (.rev (.var 0)) zC,.ret (.var 3)|0])
noncomputable def qS:Nat×Nat×Ss:=(3,3,%[.ite (.val (.isc "Within" (.var 0))) %[.ret (.bin .Add (.bin .Sub (.var 2) (.fld (.var 0) "span")) (.con (.int 1)))|0] .nil,.ret (.call "first_since" %[1,.fld (.var 0) "leave",2|0])|0])
noncomputable def yK:Nat×Nat×Ss:=(3,3,%[.ret (.call "sum_of" %[1,.call "first_of_window" %[0,1,2|0],2|0])|0])
class SU(pg:Pg):Prop where
 r_sum_of:RW pg "sum_of" qa5
 r_first_since:RW pg "first_since" yJ
 r_first_of_window:RW pg "first_of_window" qS
 r_count_among:RW pg "count_among" yK
noncomputable abbrev yL:Ss:=%[.app 2 (.bin .Add (.var 3) (.fld (.var 0) "span")),.app 2 (.bin .Add (.bin .Add (.var 4) (.con (.int 1))) (.fld (.var 0) "span"))|0]
def jS:Ss:=yL
theorem YA:USs jS yL:=λ_ _ _ _=>(rfl)
noncomputable def y8:Nat×Nat×Ss:=(2,6,%[.set 2 (.lst .nil),.ite (.val (.isc "Within" (.var 0))) %[.for_ (.many [3,4,5]) (.seq (.var 1)) jS|0] .nil,.ret (.var 2)|0])
noncomputable def zp:Nat×Nat×Ss:=(4,7,%[.set 4 (.call "count_among" %[0,1,.bin .Sub (.var 2) (.con (.int 1))|0]),.set 5 (.bin .Sub (.call "count_among" %[0,1,2|0]) (.var 4)),.ite (.cmp .LtE (.var 5) (.con (.int 0))) %[.ret (.con .non)|0] .nil,.set 6 (.bin .Add (.var 2) (.bin .FloorDiv (.bin .Sub (.fld (.var 0) "most") (.var 4)) (.var 5))),.ret (.ite (.cmp .LtE (.var 6) (.var 3)) (.var 6) (.con .non))|0])
abbrev je:E:=(.var 0)
def zc:E:=je
theorem yM:UE zc je:=λ_ _ _=>(rfl)
abbrev jf:E:=(.bin .Sub (.var 0) (.con (.int 1)))
def zd:E:=jf
theorem yN:UE zd jf:=λ_ _ _=>(rfl)
noncomputable abbrev jg:Ss:=%[.set 10 (.call "first_above" %[0,1,7,9|0]),.ite (.cmp .IsNot (.var 10) (.con .non)) %[.ret (.var 10)|0] .nil|0]
def ze:Ss:=jg
theorem zN:USs ze jg:=λ_ _ _ _=>(rfl)
noncomputable abbrev jh:Ss:=%[.set 6 (.bin .Add (.lst %[3|0]) (.comp zc (.seq (.var 2)) (.one 0) (.test (.and (.cmp .Lt (.var 1) (.var 0)) (.one (.cmp .LtE (.var 0) (.var 2))))) 1 [3,4])),.set 8 (.bin .Add (.comp zd (.seq (.sli (.var 6) (.some (.con (.int 1))) .none)) (.one 0) .yes 1 []) (.lst %[4|0])),.for_ (.many [7,9]) (.zip (.var 6) (.var 8)) ze|0]
def zf:Ss:=jh
theorem zO:USs zf jh:=λ_ _ _ _=>(rfl)
noncomputable def zW:Nat×Nat×Ss:=(2,11,%[.set 2 (.call "turns_of" %[0,1|0]),.for_ (.many [3,4,5]) (.seq (.var 1)) zf,.ret (.con .non)|0])
class FK(pg:Pg):Prop where
 r_turns_of:RW pg "turns_of" y8
 r_first_above:RW pg "first_above" zp
 r_first_broken:RW pg "first_broken" zW
noncomputable abbrev jA:Ss:=%[.set 5 (.call "pieces_among" %[0,3,1|0]),.set 6 (.call "first_broken" %[4,5|0]),.ite (.and (.cmp .IsNot (.var 6) (.con .non)) (.one (.or (.cmp .Is (.var 2) (.con .non)) (.one (.cmp .Lt (.var 6) (.idx (.var 2) (.con (.int 0)))))))) %[.set 2 (.tup %[6,3,.call "first_of_window" %[4,5,6|0]|0])|0] .nil|0]
def zD:Ss:=jA
theorem y9:USs zD jA:=λ_ _ _ _=>(rfl)
noncomputable def yP:Nat×Nat×Ss:=(2,7,%[.set 2 (.con .non),.for_ (.many [3,4]) (.enum (.met (.var 0) "rules" .nil)) zD,.ret (.var 2)|0])
class FM(pg:Pg):Prop where
 r_fault_among:RW pg "fault_among" yP
noncomputable def YU:Nat×Nat×Ss:=(2,2,%[.ret (.call "fault_among" %[0,.call "stays_of" %[1|0]|0])|0])
class FO(pg:Pg):Prop where
 r_fault_of:RW pg "fault_of" YU
end DG
namespace DG
open PySem DE FA Dy
open L2 hiding St
open CH ST SP RU BO BT PC SU FK FM FO
abbrev Pr:=Int×Int
def mx(a b:Int):Int:=if b > a then b else a
def mn(a b:Int):Int:=if b < a then b else a
theorem mxF(a b:Int):(if b > a then b else a)=mx a b:=(rfl)
theorem mnF(a b:Int):(if b < a then b else a)=mn a b:=(rfl)
theorem qeS(a b:Int):(a<=b->mx a b=b)/\(b<=a->mx a b=a):=by unfold mx;split<;>omega
theorem ZI(a b:Int):(a<=b->mn a b=a)/\(b<=a->mn a b=b):=by unfold mn;split<;>omega
noncomputable def ji:Nat->List Pr->List Pr->List Pr
 |0,_,_=>[]
 | _+1,[],_=>[]
 | _+1,_,[]=>[]
 | n+1,p::a,q::b=>(if mx p.1 q.1<=mn p.2 q.2 then [(mx p.1 q.1,mn p.2 q.2)] else [])++(if p.2 < q.2 then ji n a (q::b) else ji n (p::a) b)
theorem qdj(l:List Pr)(i:Nat)(p:Pr)(h:l[i]?=some p):atI (l.map pD) (i:Int)=some (.tup [.int p.1,.int p.2]):=qjJ (by rw[List.getElem?_map,h];rfl)
theorem J8(cl:Cl)(A B:List Pr):∀(n i j:Nat) (acc:List Pr) (s5 s6:Sl),(A.length - i)+(B.length - j) < n->acc.length+n < 10000->
  ∃ρ',whD cl 1000 Qy Qz n [.val (.lst (A.map pD)),.val (.lst (B.map pD)),.own (acc.map pD),.val (.int (i:Int)),.val (.int (j:Int)),s5,s6]=.ok (.next (.val (.lst (A.map pD))::.val (.lst (B.map pD))::.own ((acc++ji n (A.drop i) (B.drop j)).map pD)::ρ'))
 |0,i,j,acc,s5,s6,h,_=>by omega
 | n+1,i,j,acc,s5,s6,h,hl=>by
  have two:0+1+1<=sizeLine:=by decide+kernel
  have hs:(acc.map pD).length < sizeLine:=by rw[List.length_map];exact qp (1:)
  by_cases hi:i < A.length
  ·by_cases hj:j < B.length
   ·obtain⟨p,hp⟩:∃p,A[i]?=some p:=⟨A[i],List.getElem?_eq_getElem hi⟩;obtain⟨q,hq⟩:∃q,B[j]?=some q:=⟨B[j],List.getElem?_eq_getElem hj⟩;have ap:=qdj A i p hp;have aq:=qdj B j q hq;have c1:(i:Int) < ((A.map pD).length:Int):=by rw[List.length_map];omega
    have c2:(j:Int) < ((B.map pD).length:Int):=by rw[List.length_map];omega
    have dA:A.drop i=p::A.drop (i+1):=by rw[List.drop_eq_getElem_cons hi];congr 1;rw[List.getElem?_eq_getElem hi] at hp;exact Option.some.inj hp
    have dB:B.drop j=q::B.drop (j+1):=by rw[List.drop_eq_getElem_cons hj];congr 1;rw[List.getElem?_eq_getElem hj] at hq;exact Option.some.inj hq
    have X:∀{β:Type} (K:Fl->R β) (a b c d:Sl),(iS cl 1000 (.ite (.cmp .LtE (.var 5) (.var 6)) %[.app 2 (.tup %[5,6|0])|0] .nil) [a,b,.own (acc.map pD),c,d,.val (.int (mx p.1 q.1)),.val (.int (mn p.2 q.2))]).th K=K (.next [a,b,.own ((acc++if mx p.1 q.1<=mn p.2 q.2 then [(mx p.1 q.1,mn p.2 q.2)] else []).map pD),c,d,.val (.int (mx p.1 q.1)),.val (.int (mn p.2 q.2))]):=by
     intro β K a b c d
     by_cases hc:mx p.1 q.1<=mn p.2 q.2
     ·rw[if_pos hc,List.map_append];simp? only[hc,two,hs,j6]
     ·rw[if_neg hc,List.append_nil];simp? only[hc]
    have hl':(acc++if mx p.1 q.1<=mn p.2 q.2 then [(mx p.1 q.1,mn p.2 q.2)] else []).length<=acc.length+1:=by
     rw[List.length_append]
     split<;>simp
    rw[dA,dB,ji,<-List.append_assoc];generalize acc++(if mx p.1 q.1<=mn p.2 q.2 then [(mx p.1 q.1,mn p.2 q.2)] else [])=acc' at *
    by_cases hd:p.2 < q.2
    ·obtain⟨ρ',e⟩:=J8 cl A B n (i+1) j acc' (.val (.int (mx p.1 q.1))) (.val (.int (mn p.2 q.2))) (1:) (1:);refine⟨ρ',?_⟩;rw[dB] at e;rw[if_pos hd];simp only[show((i+1:Nat):Int)=(i:Int)+1 by omega] at e;refine(qh _).symm.trans ?_;simp? only[↓X,j5,YT,c1,c2,ap,aq,mxF,mnF,hd,e]
    ·obtain⟨ρ',e⟩:=J8 cl A B n i (j+1) acc' (.val (.int (mx p.1 q.1))) (.val (.int (mn p.2 q.2))) (1:) (1:);refine⟨ρ',?_⟩;rw[dA] at e;rw[if_neg hd];simp only[show((j+1:Nat):Int)=(j:Int)+1 by omega] at e;refine(qh _).symm.trans ?_;simp? only[↓X,j5,YT,c1,c2,ap,aq,mxF,mnF,hd,e]
   ·have c1:(i:Int) < ((A.map pD).length:Int):=by rw[List.length_map];omega
    have c2:¬ (j:Int) < ((B.map pD).length:Int):=by rw[List.length_map];omega
    have e:ji (n+1) (A.drop i) (B.drop j)=[]:=by
     rw[show B.drop j=[] from List.drop_eq_nil_of_le (1:)]
     cases A.drop i<;>rfl
    rw[e,List.append_nil];refine⟨[.val (.int (i:Int)),.val (.int (j:Int)),s5,s6],?_⟩;refine(qh _).symm.trans ?_;simp? only[j5,c1,c2]
  ·have c1:¬ (i:Int) < ((A.map pD).length:Int):=by rw[List.length_map];omega
   have e:ji (n+1) (A.drop i) (B.drop j)=[]:=by rw[show A.drop i=[] from List.drop_eq_nil_of_le (1:)];rfl
   rw[e,List.append_nil];refine⟨[.val (.int (i:Int)),.val (.int (j:Int)),s5,s6],?_⟩;refine(qh _).symm.trans ?_;simp? only[j5,c1]
theorem qhi{pg:Pg}[BT pg](k:Nat)(A B:List Pr)(hl:A.length+B.length < 999):clK pg (k+1) "both" [.val (.lst (A.map pD)),.val (.lst (B.map pD))]=.ok (.tmp ((ji 1000 A B).map pD)):=by obtain⟨ρ',e⟩:=J8 (pg.kk k) A B 1000 0 0 [] .no .no (1:) (by simp);rw[List.map_nil,List.nil_append,List.drop_zero,List.drop_zero,show((0:Nat):Int)=0 from rfl] at e;rw[r_both];simp? only[qfH,show(0:Nat)<=sizeLine by decide+kernel,e]
noncomputable def Jx:Int->List Pr->List Pr×Int
 |b,[]=>([],b)
 | b,t::l=>((if b < t.1 then [(b,t.1 - 1)] else [])++(Jx (mx b (t.2+1)) l).1,(Jx (mx b (t.2+1)) l).2)
noncomputable def qJ(l:List Pr)(first last:Int):List Pr:=(Jx first l).1++(if (Jx first l).2<=last then [((Jx first l).2,last)] else [])
theorem QA(cl:Cl)(v0 v1 v2:Sl):∀(l:List Pr) (b:Int) (acc:List Pr) (s5:Sl),acc.length+l.length < 10000->∃s5',jF cl 1000 (.one 5) yn (l.map pD) [v0,v1,v2,.own (acc.map pD),.val (.int b),s5]=.ok (.next [v0,v1,v2,.own ((acc++(Jx b l).1).map pD),.val (.int (Jx b l).2),s5'])
 |[],b,acc,s5,_=>⟨s5,by simp[Jx,qM]⟩
 | t::l,b,acc,s5,hl=>by
  rw[List.length_cons] at hl;have two:0+1+1<=sizeLine:=by decide+kernel
  have hs:(acc.map pD).length < sizeLine:=by rw[List.length_map];exact qp (1:)
  rw[Jx]
  by_cases hc:b < t.1
  ·obtain⟨s5',ih⟩:=QA cl v0 v1 v2 l (mx b (t.2+1)) (acc++[(b,t.1 - 1)]) (.val (pD t)) (by simp;omega);refine⟨s5',?_⟩;rw[if_pos hc];simp only[List.map_append,List.map_cons,List.map_nil,j6,List.append_assoc,List.cons_append,List.nil_append] at ih ⊢;refine(qh _).symm.trans ?_;simp? only[yH,hc,two,hs,mxF,ih]
  ·obtain⟨s5',ih⟩:=QA cl v0 v1 v2 l (mx b (t.2+1)) acc (.val (pD t)) (1:);refine⟨s5',?_⟩;rw[if_neg hc,List.nil_append];simp only[j6] at ih;refine(qh _).symm.trans ?_;rw[List.map_cons];simp? only[yH,j6,hc,mxF,ih]
theorem qbN{pg:Pg}[BT pg](k:Nat)(b:Bool)(l:List Pr)(hl:l.length < 5000)(first last:Int):clK pg (k+1) "outside" [aL b (l.map pD),.val (.int first),.val (.int last)]=.ok (.tmp ((qJ l first last).map pD)):=by
 have two:0+1+1<=sizeLine:=by decide+kernel
 have len:∀(l:List Pr) (b:Int),(Jx b l).1.length<=l.length:=by
  intro l
  induction l with
  |nil=>intro b;simp[Jx]
  |cons t l ih=>
   intro b;rw[Jx]
   have:=ih (mx b (t.2+1))
   dsimp only;rw[List.length_append,List.length_cons]
   split<;>simp<;>omega
 have hs:((Jx first l).1.map pD).length < sizeLine:=by rw[List.length_map];have:=len l first;exact qp (1:)
 rw[r_outside];unfold qJ;obtain⟨s5,e⟩:=QA (pg.kk k) (pS b (l.map pD)) (.val (.int first)) (.val (.int last)) l first [] .no (by simp;omega);rw[List.map_nil,List.nil_append] at e
 by_cases hc:(Jx first l).2<=last
 ·rw[if_pos hc,List.map_append,List.map_cons,List.map_nil];simp? only[J6,show(0:Nat)<=sizeLine by decide+kernel,e,hc,two,hs,j6]
 ·rw[if_neg hc,List.append_nil];simp? only[J6,show(0:Nat)<=sizeLine by decide+kernel,e,hc]
def yQ(p:Pr)(l:List Pr):List Pr:=ji 1000 [p] (qJ l p.1 p.2)
theorem yo(l:List Pr)(f t:Int):(qJ l f t).length<=l.length+1:=by
 have len:∀(l:List Pr) (b:Int),(Jx b l).1.length<=l.length:=by
  intro l
  induction l with
  |nil=>intro b;simp[Jx]
  |cons t l ih=>
   intro b;rw[Jx]
   have:=ih (mx b (t.2+1))
   dsimp only;rw[List.length_append,List.length_cons]
   split<;>simp<;>omega
 unfold qJ;rw[List.length_append]
 have:=len l f
 split<;>simp<;>omega
theorem qhj{pg:Pg}[BT pg](k:Nat)(b:Bool)(p:Pr)(l:List Pr)(hl:l.length < 900):clK pg (k+2) "less" [.val (.lst [.tup [.int p.1,.int p.2]]),aL b (l.map pD)]=.ok (.tmp ((yQ p l).map pD)):=by
 have o:=qbN (pg:=pg) k b l (1:) p.1 p.2;have t:=qhi (pg:=pg) k [p] (qJ l p.1 p.2) (by have:=yo l p.1 p.2;simp;omega);simp only[Zt,Zu,List.map_cons,List.map_nil,j6] at t;have g:atI [D.tup [.int p.1,.int p.2]] (-1)=some (.tup [.int p.1,.int p.2]):=g_last [] _;rw[r_less]
 try simp only[Zt,Zu] at o ⊢
 simp? only[qfI,List.isEmpty_cons,g,o,t,yQ]
end DG
namespace DG
open PySem DE FA Dy
open L2 hiding St
open CH ST SP RU BO BT PC SU FK FM FO
theorem J9:∀(n:Nat) (A B:List Pr),(ji n A B).length<=A.length+B.length
 |0,_,_=>by simp[ji]
 | n+1,[],B=>by simp[ji]
 | n+1,p::A,[]=>by simp[ji]
 | n+1,p::A,q::B=>by
  have h1:=J9 n A (q::B);have h2:=J9 n (p::A) B;simp only[List.length_cons] at h1 h2;rw[ji,List.length_append,List.length_cons,List.length_cons]
  split<;>split<;>simp<;>omega
theorem Yb(p:Pr)(l:List Pr):(yQ p l).length<=l.length+2:=by have h1:=J9 1000 [p] (qJ l p.1 p.2);have h2:=yo l p.1 p.2;unfold yQ;simp at h1;omega
def QB(w:Int)(p:Pr):Pa:=(p.1,p.2,w)
noncomputable def qH(r:Ru)(lf:List Pr)(s:St):List Pa:=if 0 < wt r.lands (some s.1) then (yQ (s.2.1,s.2.2) lf).map (QB (wt r.lands (some s.1))) else []
def qA(r:Ru)(lf:List Pr):List St->List Pa
 |[]=>[]
 | s::l=>qH r lf s++qA r lf l
theorem qjW(cl:Cl)(w:Int):∀(l:List Pr) (acc:List Pa) (s0 s1:Sl),acc.length+l.length < 10000->zS cl qY (.many [0,1]) .yes (l.map pD) [s0,s1,.val (.int w)] (acc.map paD)=.ok ((acc++l.map (QB w)).map paD)
 |[],acc,s0,s1,_=>by simp[qW]
 | p::l,acc,s0,s1,hl=>by
  rw[List.length_cons] at hl;have ih:=qjW cl w l (acc++[QB w p]) (.val (.int p.1)) (.val (.int p.2)) (by simp;omega);have three:0+1+1+1<=sizeLine:=by decide+kernel
  have hs:(acc.map paD).length < sizeLine:=by rw[List.length_map];exact qp (1:)
  simp only[List.map_append,List.map_cons,List.map_nil,List.append_assoc,List.cons_append,List.nil_append,jy,QB] at ih ⊢;refine(qh _).symm.trans ?_;simp? only[yI,j6,three,hs,ih]
theorem Yc(r:Ru)(lf:List Pr)(s:St):(qH r lf s).length<=lf.length+2:=by
 unfold qH;split
 ·rw[List.length_map];exact Yb _ _
 ·simp
theorem Yd(r:Ru)(lf:List Pr):∀st:List St,(qA r lf st).length<=st.length * (lf.length+2)
 |[]=>by simp[qA]
 | s::l=>by
  rw[qA,List.length_append,List.length_cons,Nat.succ_mul]
  have:=Yc r lf s
  have:=Yd r lf l
  omega
section
variable{pg:Pg}[RU pg][BT pg]
theorem yq(k:Nat)(v0 v1 v2:Sl)(r:Ru)(hr:∀p∈r.lands,LnOk p)(lf:List Pr)(hf:lf.length<=20):∀(st:List St) (acc:List Pa) (s6 s7 s8 s9:Sl),(∀s∈st,NameOk s.1)->acc.length+st.length * 22 < 9000->
  ∃ρ',jF (pg.kk (k+2)) 1000 (.many [6,7,8]) qZ (st.map stD) [v0,v1,v2,.val (ruI r),.own (lf.map pD),.own (acc.map paD),s6,s7,s8,s9]=.ok (.next (v0::v1::v2::.val (ruI r)::.own (lf.map pD)::.own ((acc++qA r lf st).map paD)::ρ'))
 |[],acc,s6,s7,s8,s9,_,_=>⟨[s6,s7,s8,s9],by simp[qA,qM]⟩
 | s::st,acc,s6,s7,s8,s9,hn,hl=>by
  rw[List.length_cons,Nat.succ_mul] at hl;have w:clK pg (k+2) "Rule.weight" [.val (ruI r),.val (.str s.1)]=.ok (.val (.int (wt r.lands (some s.1)))):=qda (pg:=pg) (k+1) r hr (some s.1) (λz hz=>by cases hz;exact hn s (by simp));have l1:=Yc r lf s;have two:0+1+1<=sizeLine:=by decide+kernel
  have one:0+1<=sizeLine:=by decide+kernel
  by_cases hc:0 < wt r.lands (some s.1)
  ·have e1:qH r lf s=(yQ (s.2.1,s.2.2) lf).map (QB (wt r.lands (some s.1))):=by unfold qH;rw[if_pos hc]
   obtain⟨ρ',ih⟩:=yq k v0 v1 v2 r hr lf hf st (acc++qH r lf s) (.val (.str s.1)) (.val (.int s.2.1)) (.val (.int s.2.2)) (.val (.int (wt r.lands (some s.1)))) (λx hx=>hn x (by simp[hx])) (by rw[List.length_append];omega);refine⟨ρ',?_⟩;have le:clK pg (k+2) "less" [.val (.lst [.tup [.int s.2.1,.int s.2.2]]),.bor (lf.map pD)]=.ok (.tmp ((yQ (s.2.1,s.2.2) lf).map pD)):=qhj (pg:=pg) k true (s.2.1,s.2.2) lf (1:);have c:=qjW (pg.kk (k+2)) (wt r.lands (some s.1)) (yQ (s.2.1,s.2.2) lf) [] .no .no (by have:=Yb (s.2.1,s.2.2) lf;simp;omega);rw[List.map_nil,List.nil_append,<-e1] at c;have z1:((yQ (s.2.1,s.2.2) lf).map pD).length<=sizeLine:=by rw[List.length_map];have:=Yb (s.2.1,s.2.2) lf;exact qG (1:)
   have z2:(acc.map paD).length+((qH r lf s).map paD).length<=sizeLine:=by rw[List.length_map,List.length_map];exact qG (1:)
   rw[qA,<-List.append_assoc];rw[List.map_append (l₁:=acc)] at ih;refine(qh _).symm.trans ?_;rw[List.map_cons];simp? only[zM,ye,RU.cs,ZE,w,hc,one,two,le,z1,Z3,List.getD_cons_succ,List.getD_cons_zero,c,z2,ih]
  ·have e1:qH r lf s=[]:=by unfold qH;rw[if_neg hc]
   obtain⟨ρ',ih⟩:=yq k v0 v1 v2 r hr lf hf st acc (.val (.str s.1)) (.val (.int s.2.1)) (.val (.int s.2.2)) (.val (.int (wt r.lands (some s.1)))) (λx hx=>hn x (by simp[hx])) (1:);refine⟨ρ',?_⟩;rw[qA,e1,List.nil_append];refine(qh _).symm.trans ?_;rw[List.map_cons];simp? only[zM,ye,RU.cs,ZE,w,hc,ih]
end
section
variable{pg:Pg}[RU pg][BO pg][SP pg][BT pg][PC pg]
theorem ZJ(k:Nat)(b:Bool)(rs:List Ru)(ps:List Pa)(hp:ps.length<=18)(n:Nat)(r:Ru)(hn:rs[n]?=some r)(hr:∀p∈r.lands,LnOk p)(hlf:(qa4 n ps).length<=20)(st:List St)(hs:∀s∈st,NameOk s.1)(hl:st.length<=170) :
  clK pg (k+3) "pieces_among" [.val (bkI rs ps),.val (.int (n:Int)),aL b (st.map stD)]=.ok (.tmp ((qA r (qa4 n ps) st).map paD)):=by
 have a:=Qu (pg:=pg) (k+1) rs ps;have l:=qdb (pg:=pg) k rs ps (n:Int) (1:);have e:=qhg hn;rw[r_pieces_among];obtain⟨ρ',i⟩:=yq (pg:=pg) k (.val (bkI rs ps)) (.val (.int (n:Int))) (pS b (st.map stD)) r hr (qa4 n ps) hlf st [] .no .no .no .no hs (by simp;omega);rw[List.map_nil,List.nil_append] at i;simp? only[yf,RU.cs,JE,qc9,a,l,e,show(0:Nat)<=sizeLine by decide+kernel,i]
end
noncomputable def qfJ(f t:Int):List Pa->Int->Int
 |[],a=>a
 | p::l,a=>qfJ f t l (if 0 < mn p.2.1 t - mx p.1 f+1 then a+(mn p.2.1 t - mx p.1 f+1) * p.2.2 else a)
def WOk(l:List Pa):Prop:=∀p∈l,1<=p.2.2/\p.2.2<=9
theorem QC(cl:Cl)(v0:Sl)(f t:Int):∀(l:List Pa) (a:Int) (s4 s5 s6 s7:Sl),WOk l->∃ρ',jF cl 1000 (.many [4,5,6]) y7 (l.map paD) [v0,.val (.int f),.val (.int t),.val (.int a),s4,s5,s6,s7]=.ok (.next (v0::.val (.int f)::.val (.int t)::.val (.int (qfJ f t l a))::ρ'))
 |[],a,s4,s5,s6,s7,_=>⟨[s4,s5,s6,s7],rfl⟩
 | p::l,a,s4,s5,s6,s7,h=>by
  have hw:=h p (by simp);have mul:QQ (mn p.2.1 t - mx p.1 f+1) p.2.2=true:=J2 (1:) (1:);rw[qfJ]
  by_cases hc:0 < mn p.2.1 t - mx p.1 f+1
  ·obtain⟨ρ',ih⟩:=QC cl v0 f t l (a+(mn p.2.1 t - mx p.1 f+1) * p.2.2) (.val (.int p.1)) (.val (.int p.2.1)) (.val (.int p.2.2)) (.val (.int (mn p.2.1 t - mx p.1 f+1))) (λq hq=>h q (by simp[hq]));refine⟨ρ',?_⟩;rw[if_pos hc];refine(qh _).symm.trans ?_;rw[List.map_cons];simp? only[Jq,jy,mxF,mnF,hc,mul,ih]
  ·obtain⟨ρ',ih⟩:=QC cl v0 f t l a (.val (.int p.1)) (.val (.int p.2.1)) (.val (.int p.2.2)) (.val (.int (mn p.2.1 t - mx p.1 f+1))) (λq hq=>h q (by simp[hq]));refine⟨ρ',?_⟩;rw[if_neg hc];refine(qh _).symm.trans ?_;rw[List.map_cons];simp? only[Jq,jy,mxF,mnF,hc,ih]
noncomputable def fsF(leave day:Int):List Pa->Int->Int
 |[],f=>f
 | p::l,f=>if p.1<=day then (if leave<=f - 1 - mn p.2.1 day then f else fsF leave day l p.1) else fsF leave day l f
theorem qar(cl:Cl)(v0:Sl)(leave day:Int):∀(l:List Pa) (f:Int) (s4 s5 s6:Sl),∃F,jF cl 1000 (.many [4,5,6]) zC (l.map paD) [v0,.val (.int leave),.val (.int day),.val (.int f),s4,s5,s6]=.ok F/\(F=.ret (.val (.int (fsF leave day l f)))\/∃ρ',F=.next (v0::.val (.int leave)::.val (.int day)::.val (.int (fsF leave day l f))::ρ'))
 |[],f,s4,s5,s6=>⟨_,rfl,.inr ⟨[s4,s5,s6],rfl⟩⟩
 | p::l,f,s4,s5,s6=>by
  rw[fsF]
  by_cases h1:p.1<=day
  ·rw[if_pos h1]
   by_cases h2:leave<=f - 1 - mn p.2.1 day
   ·rw[if_pos h2];refine⟨_,?_,.inl rfl⟩;refine(qh _).symm.trans ?_;rw[List.map_cons];simp? only[qR,jy,h1,mnF,h2]
   ·rw[if_neg h2];obtain⟨F,i,a⟩:=qar cl v0 leave day l p.1 (.val (.int p.1)) (.val (.int p.2.1)) (.val (.int p.2.2));refine⟨F,?_,a⟩;refine(qh _).symm.trans ?_;rw[List.map_cons];simp? only[qR,jy,h1,mnF,h2,i]
  ·rw[if_neg h1];obtain⟨F,i,a⟩:=qar cl v0 leave day l f (.val (.int p.1)) (.val (.int p.2.1)) (.val (.int p.2.2));refine⟨F,?_,a⟩;refine(qh _).symm.trans ?_;rw[List.map_cons];simp? only[qR,jy,h1,i]
section
variable{pg:Pg}[RU pg][SU pg]
theorem qeT(k:Nat)(b:Bool)(l:List Pa)(h:WOk l)(f t:Int):clK pg (k+1) "sum_of" [aL b (l.map paD),.val (.int f),.val (.int t)]=.ok (.val (.int (qfJ f t l 0))):=by rw[r_sum_of];obtain⟨ρ',i⟩:=QC (pg.kk k) (pS b (l.map paD)) f t l 0 .no .no .no .no h;simp? only[qa5,i]
theorem QD(k:Nat)(b:Bool)(l:List Pa)(leave day:Int):clK pg (k+1) "first_since" [aL b (l.map paD),.val (.int leave),.val (.int day)]=.ok (.val (.int (fsF leave day l.reverse (day+1)))):=by rw[r_first_since];obtain⟨F,i,a⟩:=qar (pg.kk k) (pS b (l.map paD)) leave day l.reverse (day+1) .no .no .no;rw[List.map_reverse] at i;rcases a with rfl | ⟨ρ',rfl⟩<;>simp? only[yJ,i]
noncomputable def qas(r:Ru)(l:List Pa)(d:Int):Int:=if r.kd.isW=true then d - r.days+1 else fsF r.days d l.reverse (d+1)
def qD(r:Ru)(l:List Pa)(d:Int):Int:=qfJ (qas r l d) d l 0
theorem qdk(k:Nat)(b:Bool)(r:Ru)(l:List Pa)(d:Int):clK pg (k+2) "first_of_window" [.val (ruI r),aL b (l.map paD),.val (.int d)]=.ok (.val (.int (qas r l d))):=by
 have s:=QD (pg:=pg) k b l r.days d;have iw:=ZF r;rw[r_first_of_window];unfold qas
 cases hk:r.kd.isW with
 |true=>rw[hk] at iw;simp? only[qS,RU.cs,iw,qc7 r hk]
 |false=>
  rw[hk] at iw
  try simp only[Zt,Zu] at s
  simp? only[qS,RU.cs,iw,qeN r hk,s]
theorem jr(k:Nat)(b:Bool)(r:Ru)(l:List Pa)(h:WOk l)(d:Int):clK pg (k+3) "count_among" [.val (ruI r),aL b (l.map paD),.val (.int d)]=.ok (.val (.int (qD r l d))):=by
 have s:=qeT (pg:=pg) (k+1) b l h (qas r l d) d;have f:=qdk (pg:=pg) k b r l d;rw[r_count_among];unfold qD
 try simp only[Zt,Zu] at s f
 simp? only[yK,f,s]
end
end DG
namespace DG
open PySem DE FA Dy
open L2 hiding St
open CH ST SP RU BO BT PC SU FK FM FO
def zE(span:Int):List Pa->List Int
 |[]=>[]
 | p::l=>(p.1+span)::(p.2.1+1+span)::zE span l
def zP(r:Ru)(l:List Pa):List Int:=if r.kd.isW=true then zE r.days l else []
theorem YV(cl:Cl)(hcs:cl.cs=pcs)(v1:Sl)(r:Ru)(hk:r.kd.isW=true):∀(l:List Pa) (acc:List Int) (s3 s4 s5:Sl),acc.length+2 * l.length < 10000->∃ρ',jF cl 1000 (.many [3,4,5]) jS (l.map paD) [.val (ruI r),v1,.own (acc.map D.int),s3,s4,s5]=.ok (.next (.val (ruI r)::v1::.own ((acc++zE r.days l).map D.int)::ρ'))
 |[],acc,s3,s4,s5,_=>⟨[s3,s4,s5],by simp[zE,qM]⟩
 | p::l,acc,s3,s4,s5,hl=>by
  rw[List.length_cons] at hl;obtain⟨ρ',ih⟩:=YV cl hcs v1 r hk l (acc++[p.1+r.days]++[p.2.1+1+r.days]) (.val (.int p.1)) (.val (.int p.2.1)) (.val (.int p.2.2)) (by simp;omega);refine⟨ρ',?_⟩;have hs:(acc.map D.int).length < sizeLine:=by rw[List.length_map];exact qp (1:)
  have hs2:(acc.map D.int++[D.int (p.1+r.days)]).length < sizeLine:=by simp;exact qp (1:)
  rw[zE,show acc++(p.1+r.days)::(p.2.1+1+r.days)::zE r.days l=acc++[p.1+r.days]++[p.2.1+1+r.days]++zE r.days l by simp];rw[List.map_append (l₁:=acc++[p.1+r.days]),List.map_append (l₁:=acc),List.map_cons,List.map_nil,List.map_cons,List.map_nil] at ih;refine(qh _).symm.trans ?_;rw[List.map_cons];simp? only[YA,jy,hcs,qc7 r hk,hs,hs2,ih]
theorem YW(s:Int):∀l:List Pa,(zE s l).length=2 * l.length
 |[]=>rfl
 | p::l=>by rw[zE,List.length_cons,List.length_cons,YW s l,List.length_cons];omega
noncomputable def Jr(r:Ru)(l:List Pa)(b e:Int):Option Int:=if qD r l b - qD r l (b - 1)<=0 then none else if b+(r.most - qD r l (b - 1)) / (qD r l b - qD r l (b - 1))<=e then some (b+(r.most - qD r l (b - 1)) / (qD r l b - qD r l (b - 1))) else none
def Z4:Option Int->D
 |none=>.non
 |some d=>.int d
noncomputable def Ja(r:Ru)(l:List Pa):List Pr->Option Int
 |[]=>none
 | p::s=>match Jr r l p.1 p.2 with
  |some d=>some d
  |none=>Ja r l s
def inB(f t x:Int):Bool:=decide (f < x)&&decide (x<=t)
def qfK(f t:Int)(ts:List Int):List Pr:=(f::ts).zip (ts.map (· - 1)++[t])
noncomputable def jT(r:Ru)(L:List Pa)(ts:List Int):List Pa->Option Int
 |[]=>none
 | p::l=>match Ja r L (qfK p.1 p.2.1 (ts.filter (inB p.1 p.2.1))) with
  |some d=>some d
  |none=>jT r L ts l
theorem qfL:∀(a b:List Int),QR (a.map D.int) (b.map D.int)=(a.zip b).map pD
 |[],b=>by simp[QR]
 | x::a,[]=>by simp[QR]
 | x::a,y::b=>by
  have:=qfL a b
  unfold QR at this ⊢;rw[List.map_cons,List.map_cons,List.zipWith_cons_cons,this];rfl
theorem qdl(d:D)(l:List D):qbB (d::l) (some 1) none=l:=by unfold qbB;rw[show(some (1:Int))=some ((1:Nat):Int) from rfl,HT.Y4,HT.qaJ];simp
theorem qeU(cl:Cl)(f t:Int):∀(ts acc:List Int) (s0:Sl),acc.length+ts.length < 10000->zS cl zc (.one 0) (.test (.and (.cmp .Lt (.var 1) (.var 0)) (.one (.cmp .LtE (.var 0) (.var 2))))) (ts.map D.int) [s0,.val (.int f),.val (.int t)] (acc.map D.int)=.ok ((acc++ts.filter (inB f t)).map D.int)
 |[],acc,s0,_=>by simp[qW]
 | x::ts,acc,s0,hl=>by
  rw[List.length_cons] at hl;have hs:(acc.map D.int).length < sizeLine:=by rw[List.length_map];exact qp (1:)
  by_cases h1:f < x
  ·by_cases h2:x<=t
   ·have ih:=qeU cl f t ts (acc++[x]) (.val (.int x)) (by simp;omega);have e:(x::ts).filter (inB f t)=x::ts.filter (inB f t):=by simp[inB,h1,h2]
    rw[e];simp only[List.map_append,List.map_cons,List.map_nil,List.append_assoc,List.cons_append,List.nil_append] at ih ⊢;refine(qh _).symm.trans ?_;simp? only[yM,h1,h2,hs,ih]
   ·have ih:=qeU cl f t ts acc (.val (.int x)) (1:);have e:(x::ts).filter (inB f t)=ts.filter (inB f t):=by simp[inB,h2]
    rw[e];refine(qh _).symm.trans ?_;rw[List.map_cons];simp? only[h1,h2,ih]
  ·have ih:=qeU cl f t ts acc (.val (.int x)) (1:);have e:(x::ts).filter (inB f t)=ts.filter (inB f t):=by simp[inB,h1]
   rw[e];refine(qh _).symm.trans ?_;rw[List.map_cons];simp? only[h1,ih]
theorem qjX(cl:Cl):∀(ts acc:List Int) (s0:Sl),acc.length+ts.length < 10000->zS cl zd (.one 0) .yes (ts.map D.int) [s0] (acc.map D.int)=.ok ((acc++ts.map (· - 1)).map D.int)
 |[],acc,s0,_=>by simp[qW]
 | x::ts,acc,s0,hl=>by
  rw[List.length_cons] at hl;have hs:(acc.map D.int).length < sizeLine:=by rw[List.length_map];exact qp (1:)
  have ih:=qjX cl ts (acc++[x - 1]) (.val (.int x)) (by simp;omega);simp only[List.map_append,List.map_cons,List.map_nil,List.append_assoc,List.cons_append,List.nil_append] at ih ⊢;refine(qh _).symm.trans ?_;simp? only[yN,hs,ih]
def qhO(r:Ru)(l:List Pa):Prop:=∀d,qD r l d - qD r l (d - 1) < 1073741824
section
variable{pg:Pg}[RU pg][SU pg][FK pg]
theorem qbO(k:Nat)(b:Bool)(r:Ru)(l:List Pa)(hl:l.length < 4000):clK pg (k+1) "turns_of" [.val (ruI r),aL b (l.map paD)]=.ok (.tmp ((zP r l).map D.int)):=by
 have iw:=ZF r;rw[r_turns_of];unfold zP
 cases hk:r.kd.isW with
 |true=>rw[hk] at iw;obtain⟨ρ',i⟩:=YV (pg.kk k) RU.cs (pS b (l.map paD)) r hk l [] .no .no .no (by simp;omega);rw[List.map_nil,List.nil_append] at i;simp? only[y8,RU.cs,iw,show(0:Nat)<=sizeLine by decide+kernel,i]
 |false=>rw[hk] at iw;simp? only[y8,RU.cs,iw,show(0:Nat)<=sizeLine by decide+kernel]
theorem qeV(k:Nat)(b:Bool)(r:Ru)(l:List Pa)(h:WOk l)(hs:qhO r l)(f t:Int):clK pg (k+4) "first_above" [.val (ruI r),aL b (l.map paD),.val (.int f),.val (.int t)]=.ok (.val (Z4 (Jr r l f t))):=by
 have c1:=jr (pg:=pg) k b r l h (f - 1);have c2:=jr (pg:=pg) k b r l h f;have hg:=hs f;rw[r_first_above];unfold Jr
 by_cases h1:qD r l f - qD r l (f - 1)<=0
 ·rw[if_pos h1]
  try simp only[Zt,Zu] at c1 c2
  simp? only[zp,c1,c2,h1,Z4]
 ·rw[if_neg h1];have hd:(0:Int) < qD r l f - qD r l (f - 1)/\qD r l f - qD r l (f - 1) < 1073741824:=⟨by omega,hg⟩
  by_cases h2:f+(r.most - qD r l (f - 1)) / (qD r l f - qD r l (f - 1))<=t
  ·rw[if_pos h2]
   try simp only[Zt,Zu] at c1 c2
   simp? only[zp,c1,c2,h1,RU.cs,Qt,hd,h2,Z4]
  ·rw[if_neg h2]
   try simp only[Zt,Zu] at c1 c2
   simp? only[zp,c1,c2,h1,RU.cs,Qt,hd,h2,Z4]
theorem qa6(k:Nat)(b:Bool)(r:Ru)(l:List Pa)(h:WOk l)(hs:qhO r l)(v2 v3 v4 v5 v6 v8:Sl):∀(ss:List Pr) (s7 s9 s10:Sl),
  ∃F,jF (pg.kk (k+4)) 1000 (.many [7,9]) ze (ss.map pD) [.val (ruI r),pS b (l.map paD),v2,v3,v4,v5,v6,s7,v8,s9,s10]=.ok F/\(∀d,Ja r l ss=some d->F=.ret (.val (.int d)))/\(Ja r l ss=none->∃s7' s9' s10',F=.next [.val (ruI r),pS b (l.map paD),v2,v3,v4,v5,v6,s7',v8,s9',s10'])
 |[],s7,s9,s10=>⟨_,rfl,λd e=>(by cases e),λ_=>⟨s7,s9,s10,rfl⟩⟩
 | p::ss,s7,s9,s10=>by
  have a:=qeV (pg:=pg) k b r l h hs p.1 p.2;rw[Ja]
  cases e:Jr r l p.1 p.2 with
  |some d0=>rw[e] at a;dsimp only;refine⟨_,?_,λd ed=>(by cases ed;rfl),λq=>(by cases q)⟩;refine(qh _).symm.trans ?_;rw[List.map_cons];simp? only[zN,j6,a,Z4]
  |none=>rw[e] at a;dsimp only;obtain⟨F,i,c⟩:=qa6 k b r l h hs v2 v3 v4 v5 v6 v8 ss (.val (.int p.1)) (.val (.int p.2)) (.val .non);refine⟨F,?_,c⟩;refine(qh _).symm.trans ?_;rw[List.map_cons];simp? only[zN,j6,a,Z4,i]
theorem Ye(k:Nat)(b:Bool)(r:Ru)(L:List Pa)(h:WOk L)(hs:qhO r L)(ts:List Int)(ht:ts.length < 8000):∀(l:List Pa) (c:Bool) (s3 s4 s5 s6 s7 s8 s9 s10:Sl),
  ∃F,jF (pg.kk (k+4)) 1000 (.many [3,4,5]) zf (l.map paD) [.val (ruI r),pS b (L.map paD),qhK c (ts.map D.int),s3,s4,s5,s6,s7,s8,s9,s10]=.ok F/\(∀d,jT r L ts l=some d->F=.ret (.val (.int d)))/\(jT r L ts l=none->∃ρ',F=.next ρ')
 |[],c,s3,s4,s5,s6,s7,s8,s9,s10=>⟨_,rfl,λd e=>(by cases e),λ_=>⟨_,rfl⟩⟩
 | p::l,c,s3,s4,s5,s6,s7,s8,s9,s10=>by
  have fl:=List.length_filter_le (inB p.1 p.2.1) ts;have t1:=qeU (pg.kk (k+4)) p.1 p.2.1 ts [] .no (by simp;omega);have t2:=qjX (pg.kk (k+4)) (ts.filter (inB p.1 p.2.1)) [] .no (by simp;omega);rw[List.map_nil,List.nil_append] at t1 t2;have z:=qfL (p.1::ts.filter (inB p.1 p.2.1)) ((ts.filter (inB p.1 p.2.1)).map (· - 1)++[p.2.1]);rw[List.map_cons,List.map_append,List.map_cons,List.map_nil] at z;have z0:ts.length<=sizeLine:=qG (1:);have z1:0+1<=sizeLine:=by decide+kernel
  have z2:1+(ts.filter (inB p.1 p.2.1)).length<=sizeLine:=qG (1:);have z3:(ts.filter (inB p.1 p.2.1)).length<=sizeLine:=qG (1:);have z4:(ts.filter (inB p.1 p.2.1)).length+1<=sizeLine:=qG (1:);obtain⟨G,i,seg⟩:=qa6 (pg:=pg) k b r L h hs (.val (.lst (ts.map D.int))) (.val (.int p.1)) (.val (.int p.2.1)) (.val (.int p.2.2)) (.val (.lst (D.int p.1::(ts.filter (inB p.1 p.2.1)).map D.int))) (.val (.lst (((ts.filter (inB p.1 p.2.1)).map (· - 1)).map D.int++[D.int p.2.1]))) (qfK p.1 p.2.1 (ts.filter (inB p.1 p.2.1))) s7 s9 s10;rw[show qfK p.1 p.2.1 (ts.filter (inB p.1 p.2.1))=(p.1::ts.filter (inB p.1 p.2.1)).zip ((ts.filter (inB p.1 p.2.1)).map (· - 1)++[p.2.1]) from rfl] at i seg;rw[jT,show qfK p.1 p.2.1 (ts.filter (inB p.1 p.2.1))=(p.1::ts.filter (inB p.1 p.2.1)).zip ((ts.filter (inB p.1 p.2.1)).map (· - 1)++[p.2.1]) from rfl]
  cases e:Ja r L ((p.1::ts.filter (inB p.1 p.2.1)).zip ((ts.filter (inB p.1 p.2.1)).map (· - 1)++[p.2.1])) with
  |some d0=>rw[seg.1 d0 e] at i;dsimp only;refine⟨_,?_,λd ed=>(by cases ed;rfl),λq=>(by cases q)⟩;refine(qh _).symm.trans ?_;rw[List.map_cons];simp? only[zO,jy,List.length_map,z0,z1,z2,z3,z4,Z3,List.getD_cons_succ,List.getD_cons_zero,t1,qdl,t2,z,i]
  |none=>obtain⟨s7',s9',s10',eG⟩:=seg.2 e;rw[eG] at i;dsimp only;obtain⟨F,i2,c2⟩:=Ye k b r L h hs ts ht l false (.val (.int p.1)) (.val (.int p.2.1)) (.val (.int p.2.2)) (.val (.lst (D.int p.1::(ts.filter (inB p.1 p.2.1)).map D.int))) s7' (.val (.lst (((ts.filter (inB p.1 p.2.1)).map (· - 1)).map D.int++[D.int p.2.1]))) s9' s10';refine⟨F,?_,c2⟩;simp only[qhL,qhM] at i2;refine(qh _).symm.trans ?_;rw[List.map_cons];simp? only[zO,jy,List.length_map,z0,z1,z2,z3,z4,Z3,List.getD_cons_succ,List.getD_cons_zero,t1,qdl,t2,z,i,i2]
def qq(r:Ru)(l:List Pa):Option Int:=jT r l (zP r l) l
theorem qbP(r:Ru)(l:List Pa):(zP r l).length<=2 * l.length:=by
 unfold zP;split
 ·rw[YW];omega
 ·simp
theorem qdm(k:Nat)(b:Bool)(r:Ru)(l:List Pa)(h:WOk l)(hs:qhO r l)(hl:l.length < 3900):clK pg (k+5) "first_broken" [.val (ruI r),aL b (l.map paD)]=.ok (.val (Z4 (qq r l))):=by
 have t:=qbO (pg:=pg) (k+3) b r l (1:);obtain⟨F,i,lp⟩:=Ye (pg:=pg) k b r l h hs (zP r l) (by have:=qbP r l;omega) l true .no .no .no .no .no .no .no .no;rw[r_first_broken];unfold qq
 cases e:jT r l (zP r l) l with
 |some d=>
  rw[lp.1 d e] at i
  try simp only[Zt,Zu,qhL,qhM] at t i ⊢
  simp? only[zW,t,i,Z4]
 |none=>
  obtain⟨ρ',eF⟩:=lp.2 e;rw[eF] at i
  try simp only[Zt,Zu,qhL,qhM] at t i ⊢
  simp? only[zW,t,i,Z4]
end
end DG
namespace DG
open PySem DE FA Dy
open L2 hiding St
open CH ST SP RU BO BT PC SU FK FM FO
def jE(st:List St)(x:Rl):List Pa:=qA x.1 x.2 st
def Yg(d:Int):Option (Int×Int×Int)->Bool
 |none=>true
 |some z=>decide (d < z.1)
noncomputable def jU(st:List St):List Rl->Nat->Option (Int×Int×Int)->Option (Int×Int×Int)
 |[],_,f=>f
 | x::l,i,f=>match qq x.1 (jE st x) with
  |none=>jU st l (i+1) f
  |some d=>if Yg d f=true then jU st l (i+1) (some (d,(i:Int),qas x.1 (jE st x) d)) else jU st l (i+1) f
structure RlOk(st:List St)(x:Rl):Prop where
 ln:∀p∈x.1.lands,LnOk p
 w:WOk (jE st x)
 slow:qhO x.1 (jE st x)
 lf:x.2.length<=20
section
variable{pg:Pg}[RU pg][BO pg][SP pg][BT pg][PC pg][SU pg][FK pg]
theorem YX(k:Nat)(b:Bool)(rs:List Ru)(ps:List Pa)(hp:ps.length<=18)(st:List St)(hs:∀s∈st,NameOk s.1)(hl:st.length<=70):∀(rest:List Rl) (i:Nat) (f:Option (Int×Int×Int)) (s3 s4 s5 s6:Sl),(∀(j:Nat) x,rest[j]?=some x->rs[i+j]?=some x.1/\x.2=qa4 ((i+j:Nat):Int) ps/\RlOk st x)->
  ∃ρ',jF (pg.kk (k+6)) 1000 (.many [3,4]) zD (enF i (rest.map λx=>ruI x.1)) [.val (bkI rs ps),pS b (st.map stD),.val (Ys f),s3,s4,s5,s6]=.ok (.next (.val (bkI rs ps)::pS b (st.map stD)::.val (Ys (jU st rest i f))::ρ'))
 |[],i,f,s3,s4,s5,s6,_=>⟨[s3,s4,s5,s6],rfl⟩
 | x::rest,i,f,s3,s4,s5,s6,h=>by
  obtain⟨e1,e2,ok⟩:=h 0 x rfl;rw[Nat.add_zero] at e1 e2
  have nxt:∀(j:Nat) y,rest[j]?=some y->rs[i+1+j]?=some y.1/\y.2=qa4 ((i+1+j:Nat):Int) ps/\RlOk st y:=λj y hy=>by
   have:=h (j+1) y hy
   rwa[show i+(j+1)=i+1+j by omega] at this
  have pl:(jE st x).length < 3900:=by
   have:=Yd x.1 x.2 st
   have h1:=ok.lf
   have:st.length * (x.2.length+2)<=70 * 22:=Nat.mul_le_mul hl (1:)
   unfold jE;omega
  have p:=ZJ (pg:=pg) (k+3) b rs ps hp i x.1 e1 ok.ln (by rw[<-e2];exact ok.lf) st hs (1:);rw[<-e2] at p;rw[show qA x.1 x.2 st=jE st x from rfl] at p;have br:=qdm (pg:=pg) (k+1) true x.1 (jE st x) ok.w ok.slow pl;have three:0+1+1+1<=sizeLine:=by decide+kernel
  simp only[Zt,Zu] at br;have fw:∀d,clK pg (k+6) "first_of_window" [.val (ruI x.1),.bor ((jE st x).map paD),.val (.int d)]=.ok (.val (.int (qas x.1 (jE st x) d))):=λd=>qdk (pg:=pg) (k+4) true x.1 (jE st x) d
  obtain⟨f',ef,X⟩:∃f',jU st (x::rest) i f=jU st rest (i+1) f'/\∀{β:Type} (K:Fl->R β) (a b:Sl),(iS (pg.kk (k+6)) 1000 (.ite (.and (.cmp .IsNot (.var 6) (.con D.non)) (.one (.or (.cmp .Is (.var 2) (.con D.non)) (.one (.cmp .Lt (.var 6) (.idx (.var 2) (.con (D.int 0)))))))) %[.set 2 (.tup %[6,3,.call "first_of_window" %[4,5,6|0]|0])|0] .nil) [a,b,.val (Ys f),.val (.int i),.val (ruI x.1),.own ((jE st x).map paD),.val (Z4 (qq x.1 (jE st x)))]).th K=K (.next [a,b,.val (Ys f'),.val (.int i),.val (ruI x.1),.own ((jE st x).map paD),.val (Z4 (qq x.1 (jE st x)))]):=by
   rw[jU]
   cases e:qq x.1 (jE st x) with
   |none=>exact⟨f,rfl,λK a b=>by simp? only[Z4]⟩
   |some d=>
    dsimp only
    cases f with
    |none=>exact⟨some (d,(i:Int),qas x.1 (jE st x) d),by rw[show Yg d none=true from rfl,if_pos rfl],λK a b=>by simp? only[Z4,Ys,f3D,fw,three]⟩
    |some z=>
     by_cases hc:d < z.1
     ·exact⟨some (d,(i:Int),qas x.1 (jE st x) d),by rw[if_pos (by simp[Yg,hc])],λK a b=>by simp? only[Z4,Ys,f3D,hc,fw,three]⟩
     ·exact⟨some z,by rw[if_neg (by simp[Yg,hc])],λK a b=>by simp? only[Z4,Ys,f3D,hc]⟩
  rw[ef];obtain⟨ρ',ih⟩:=YX k b rs ps hp st hs hl rest (i+1) f' (.val (.int i)) (.val (ruI x.1)) (.own ((jE st x).map paD)) (.val (Z4 (qq x.1 (jE st x)))) nxt;refine⟨ρ',?_⟩;refine(qh _).symm.trans ?_;rw[List.map_cons,enF];simp? only[↓X,y9,p,br,ih]
end
def qt(rs:List Ru)(ps:List Pa)(st:List St):Option (Int×Int×Int):=jU st (rlF ps 0 rs) 0 none
section
variable{pg:Pg}[RU pg][BO pg][SP pg][BT pg][PC pg][SU pg][FK pg][FM pg]
theorem yR(k:Nat)(b:Bool)(rs:List Ru)(ps:List Pa)(hp:ps.length<=18)(st:List St)(hs:∀s∈st,NameOk s.1)(hl:st.length<=70)(hr:∀x∈rlF ps 0 rs,RlOk st x) :
  clK pg (k+7) "fault_among" [.val (bkI rs ps),aL b (st.map stD)]=.ok (.val (Ys (qt rs ps st))):=by
 have a:=Qu (pg:=pg) (k+5) rs ps
 obtain⟨ρ',i⟩:=YX (pg:=pg) k b rs ps hp st hs hl (rlF ps 0 rs) 0 none .no .no .no .no (λj x hx=>by have hm:=List.mem_of_getElem? hx;rw[Qv] at hx;obtain⟨r,e1,e2⟩:=Option.map_eq_some_iff.mp hx;rw[Nat.zero_add];rw[Nat.zero_add] at e2;exact⟨by rw[e1,<-e2],by rw[<-e2],hr x hm⟩)
 rw[qdd] at i;rw[r_fault_among]
 try simp only[Zt,Zu,Ys] at i ⊢
 simp? only[yP,RU.cs,JE,a,zL,i,qt]
end
section
variable{pg:Pg}[CH pg][ST pg][RU pg][BO pg][SP pg][BT pg][PC pg][SU pg][FK pg][FM pg][FO pg]
theorem Jb(k:Nat)(b:Bool)(rs:List Ru)(ps:List Pa)(hp:ps.length<=18)(st:List St)(hs:∀s∈st,NameOk s.1)(hc:Ch (-1) st)(hl:st.length<=60)(hr:∀x∈rlF ps 0 rs,RlOk st x) :
  clK pg (k+8) "fault_of" [.val (bkI rs ps),aL b (st.map stD)]=.ok (.val (Ys (qt rs ps st))):=by
 have s:=JD (pg:=pg) (k+2) b st hc hl;have f:=yR (pg:=pg) k false rs ps hp st hs (1:) hr;rw[r_fault_of]
 try simp only[Zt,Zu] at s f ⊢
 simp? only[YU,s,f]
end
end DG
namespace DG
open PySem DE FA Dy
open L2 hiding St
theorem Spr.tail{p:Pr}{l:List Pr}(h:Spr (p::l)):Spr l:=⟨λq hq=>h.ok q (by simp[hq]),(List.pairwise_cons.mp h.gap).2⟩
theorem qN{p:Pr}{l:List Pr}{d:Int}:Day (p::l) d↔(p.1<=d/\d<=p.2)\/Day l d:=by
 unfold Day;constructor
 ·rintro⟨q,hq,h⟩;rcases List.mem_cons.mp hq with rfl | hq
  ·exact .inl h
  ·exact .inr ⟨q,hq,h⟩
 ·rintro (h | ⟨q,hq,h⟩)
  ·exact⟨p,by simp,h⟩
  ·exact⟨q,by simp[hq],h⟩
theorem Yh{d:Int}:¬ Day [] d:=λ⟨_,h,_⟩=>by cases h
structure Apart(l:List Pr):Prop where
 ok:∀p∈l,p.1<=p.2
 ap:l.Pairwise λp q=>p.2+1 < q.1
structure OutOk(b:Int)(l:List Pr)(F:List Pr)(b':Int):Prop where
 apart:Apart F
 lo:∀x∈F,b<=x.1
 hi:∀x∈F,x.2+1 < b'
 le:b<=b'
 day:∀d,b<=d->d < b'->(Day F d↔¬ Day l d)
 end_:∀d,b'<=d->¬ Day l d
theorem qfM:∀(l:List Pr) (b:Int),Spr l->OutOk b l (Jx b l).1 (Jx b l).2
 |[],b,_=>⟨⟨λ_ h=>(by cases h),List.Pairwise.nil⟩,λ_ h=>(by cases h),λ_ h=>(by cases h),Int.le_refl _,λd h1 h2=>by dsimp only[Jx] at h2;omega,λd _=>Yh⟩
 | t::l,b,hS=>by
  have hS':=Spr.tail hS;have ht:=hS.ok t (by simp);have hg:=(List.pairwise_cons.mp hS.gap).1;have hlow:∀d,Day l d->t.2+2<=d:=λd ⟨q,hq,h1,_⟩=>by have:=hg q hq;omega
  have ih:=qfM l (mx b (t.2+1)) hS';have hm:=qeS b (t.2+1);rw[Jx];generalize hb1:mx b (t.2+1)=b1 at *;have hle:=ih.le
  have hb:b<=b1/\t.2+1<=b1/\(b1=b\/b1=t.2+1):=by
   rcases Int.le_total b (t.2+1) with q | q
   ·have:=hm.1 q;omega
   ·have:=hm.2 q;omega
  generalize (Jx b1 l).1=F at *;generalize (Jx b1 l).2=b' at *;dsimp only
  by_cases hc:b < t.1
  ·rw[if_pos hc];refine⟨⟨λx hx=>?_,?_⟩,λx hx=>?_,λx hx=>?_,by omega,λd h1 h2=>?_,λd h1=>?_⟩
   ·rcases List.mem_cons.mp hx with rfl | hx
    ·dsimp only;omega
    ·exact ih.apart.ok x hx
   ·refine List.pairwise_cons.mpr ⟨λx hx=>?_,ih.apart.ap⟩
    have:=ih.lo x hx
    dsimp only;omega
   ·rcases List.mem_cons.mp hx with rfl | hx
    ·dsimp only;omega
    ·have:=ih.lo x hx;omega
   ·rcases List.mem_cons.mp hx with rfl | hx
    ·dsimp only;omega
    ·exact ih.hi x hx
   ·show Day ((b,t.1 - 1)::F) d↔_;rw[qN,qN]
    by_cases q:d < b1
    ·have n1:¬ Day F d:=λ⟨x,hx,h3,_⟩=>by have:=ih.lo x hx;omega
     have n2:¬ Day l d:=λz=>by have:=hlow d z;omega
     dsimp only;constructor
     ·rintro (z | z)
      ·rintro (y | y)
       ·omega
       ·exact n2 y
      ·exact absurd z n1
     ·intro z;left;refine⟨h1,?_⟩
      by_cases y:t.1<=d
      ·exact absurd (.inl ⟨y,by omega⟩) z
      ·omega
    ·have:=ih.day d (1:) h2
     rw[this];dsimp only;constructor
     ·rintro (z | z)
      ·omega
      ·rintro (y | y)
       ·omega
       ·exact z y
     ·intro z;exact .inr λy=>z (.inr y)
   ·rw[qN];rintro (z | z)
    ·omega
    ·exact ih.end_ d h1 z
  ·rw[if_neg hc,List.nil_append];refine⟨ih.apart,λx hx=>by have:=ih.lo x hx;omega,ih.hi,by omega,λd h1 h2=>?_,λd h1=>?_⟩
   ·rw[qN]
    by_cases q:d < b1
    ·have n1:¬ Day F d:=λ⟨x,hx,h3,_⟩=>by have:=ih.lo x hx;omega
     constructor
     ·intro z;exact absurd z n1
     ·intro z;exact absurd (.inl ⟨by omega,by omega⟩) z
    ·rw[ih.day d (1:) h2];constructor
     ·intro z;rintro (y | y)
      ·omega
      ·exact z y
     ·intro z y;exact z (.inr y)
   ·rw[qN];rintro (z | z)
    ·omega
    ·exact ih.end_ d h1 z
theorem qbQ{l:List Pr}(h:Spr l)(f t:Int):Apart (qJ l f t)/\(∀x∈qJ l f t,f<=x.1)/\∀d,f<=d->d<=t->(Day (qJ l f t) d↔¬ Day l d):=by
 have o:=qfM l f h;have hle:=o.le;unfold qJ;generalize (Jx f l).1=F at *;generalize (Jx f l).2=b at *
 by_cases hc:b<=t
 ·rw[if_pos hc];refine⟨⟨λx hx=>?_,?_⟩,λx hx=>?_,λd h1 h2=>?_⟩
  ·rcases List.mem_append.mp hx with q | q
   ·exact o.apart.ok x q
   ·rw[List.mem_singleton.mp q];exact hc
  ·refine List.pairwise_append.mpr ⟨o.apart.ap,by simp,λx hx y hy=>?_⟩;rw[List.mem_singleton.mp hy];exact o.hi x hx
  ·rcases List.mem_append.mp hx with q | q
   ·exact o.lo x q
   ·rw[List.mem_singleton.mp q];exact hle
  ·rw[y6,Qq]
   by_cases q:d < b
   ·rw[<-o.day d h1 q];dsimp only;constructor
    ·rintro (z | z)
     ·exact z
     ·omega
    ·exact .inl
   ·have n:=o.end_ d (1:);constructor
    ·intro _;exact n
    ·intro _;exact .inr ⟨by dsimp only;omega,h2⟩
 ·rw[if_neg hc,List.append_nil];exact⟨o.apart,o.lo,λd h1 h2=>o.day d h1 (1:)⟩
theorem qjY(p:Pr)(hp:p.1<=p.2):∀(n:Nat) (B:List Pr),B.length < n->Apart B->Apart (ji n [p] B)/\(∀x∈ji n [p] B,p.1<=x.1/\x.2<=p.2/\∃q∈B,q.1<=x.1/\x.2<=q.2)/\∀d,Day (ji n [p] B) d↔(p.1<=d/\d<=p.2)/\Day B d
 |0,B,h,_=>by omega
 | n+1,[],_,_=>⟨⟨λ_ h=>(by cases h),List.Pairwise.nil⟩,λ_ h=>(by cases h),λd=>⟨λz=>absurd z Yh,λz=>absurd z.2 Yh⟩⟩
 | n+1,q::B,h,hA=>by
  rw[List.length_cons] at h;have hq:=hA.ok q (by simp);have hg:=(List.pairwise_cons.mp hA.ap);have hlow:∀d,Day B d->q.2 < d:=λd ⟨x,hx,h1,_⟩=>by have:=hg.1 x hx;omega
  have m1:=qeS p.1 q.1;have m2:=ZI p.2 q.2;rw[ji]
  have hm1:p.1<=mx p.1 q.1/\q.1<=mx p.1 q.1/\(mx p.1 q.1=p.1\/mx p.1 q.1=q.1):=by
   rcases Int.le_total p.1 q.1 with z | z
   ·have:=m1.1 z;omega
   ·have:=m1.2 z;omega
  have hm2:mn p.2 q.2<=p.2/\mn p.2 q.2<=q.2/\(mn p.2 q.2=p.2\/mn p.2 q.2=q.2):=by
   rcases Int.le_total p.2 q.2 with z | z
   ·have:=m2.1 z;omega
   ·have:=m2.2 z;omega
  generalize mx p.1 q.1=a at *;generalize mn p.2 q.2=b at *
  obtain⟨R,hR,r1,r2,r3⟩:∃R,(if p.2 < q.2 then ji n [] (q::B) else ji n [p] B)=R/\Apart R/\(∀x∈R,p.1<=x.1/\x.2<=p.2/\(∃y∈q::B,y.1<=x.1/\x.2<=y.2)/\b+1 < x.1)/\∀d,Day R d↔(p.1<=d/\d<=p.2)/\Day B d:=by
   by_cases hd:p.2 < q.2
   ·rw[if_pos hd];have e:ji n [] (q::B)=[]:=by cases n<;>rfl
    rw[e];exact⟨[],rfl,⟨λ_ h=>(by cases h),List.Pairwise.nil⟩,λ_ h=>(by cases h),λd=>⟨λz=>absurd z Yh,λz=>by have:=hlow d z.2;omega⟩⟩
   ·rw[if_neg hd];obtain⟨i1,i2,i3⟩:=qjY p hp n B (1:) ⟨λx hx=>hA.ok x (by simp[hx]),hg.2⟩;refine⟨_,rfl,i1,λx hx=>?_,i3⟩;obtain⟨j1,j2,y,hy,j3,j4⟩:=i2 x hx
    have:=hg.1 y hy
    exact⟨j1,j2,⟨y,by simp[hy],j3,j4⟩,by omega⟩
  rw[hR]
  by_cases hc:a<=b
  ·rw[if_pos hc];refine⟨⟨λx hx=>?_,?_⟩,λx hx=>?_,λd=>?_⟩
   ·rcases List.mem_cons.mp hx with rfl | hx
    ·exact hc
    ·exact r1.ok x hx
   ·exact List.pairwise_cons.mpr ⟨λx hx=>(r2 x hx).2.2.2,r1.ap⟩
   ·rcases List.mem_cons.mp hx with rfl | hx
    ·exact⟨by dsimp only;omega,by dsimp only;omega,q,by simp,by dsimp only;omega,by dsimp only;omega⟩
    ·exact⟨(r2 x hx).1,(r2 x hx).2.1,(r2 x hx).2.2.1⟩
   ·show Day ((a,b)::R) d↔_;rw[qN,qN,r3];dsimp only;constructor
    ·rintro (z | z)
     ·exact⟨by omega,.inl (1:)⟩
     ·exact⟨z.1,.inr z.2⟩
    ·rintro⟨z,y | y⟩
     ·left;omega
     ·exact .inr ⟨z,y⟩
  ·rw[if_neg hc,List.nil_append];refine⟨r1,λx hx=>⟨(r2 x hx).1,(r2 x hx).2.1,(r2 x hx).2.2.1⟩,λd=>?_⟩;rw[qN,r3];constructor
   ·intro z;exact⟨z.1,.inr z.2⟩
   ·rintro⟨z,y | y⟩
    ·omega
    ·exact⟨z,y⟩
theorem qhk{l:List Pr}(h:Spr l)(hl:l.length < 900){p:Pr}(hp:p.1<=p.2):Apart (yQ p l)/\(∀x∈yQ p l,p.1<=x.1/\x.2<=p.2)/\∀d,Day (yQ p l) d↔(p.1<=d/\d<=p.2)/\¬ Day l d:=by
 obtain⟨o1,o2,o3⟩:=qbQ h p.1 p.2;obtain⟨b1,b2,b3⟩:=qjY p hp 1000 (qJ l p.1 p.2) (by have:=yo l p.1 p.2;omega) o1;refine⟨b1,λx hx=>⟨(b2 x hx).1,(b2 x hx).2.1⟩,λd=>?_⟩;unfold yQ;rw[b3];constructor
 ·rintro⟨z,y⟩;exact⟨z,(o3 d z.1 z.2).mp y⟩
 ·rintro⟨z,y⟩;exact⟨z,(o3 d z.1 z.2).mpr y⟩
end DG
namespace DG
open PySem DE FA Dy
open L2 hiding St
def inP(p:Pa)(d:Int):Prop:=p.1<=d/\d<=p.2.1
instance (p:Pa)(d:Int):Decidable (inP p d):=by unfold inP;infer_instance
def ind(p:Pa)(d:Int):Int:=if inP p d then p.2.2 else 0
def pf:List Pa->Int->Int
 |[],_=>0
 | p::l,d=>if inP p d then p.2.2 else pf l d
structure PcOk(L:List Pa):Prop where
 ok:∀p∈L,p.1<=p.2.1/\1<=p.2.2/\p.2.2<=9
 ap:L.Pairwise λp q=>p.2.1 < q.1
theorem PcOk.tail{p:Pa}{l:List Pa}(h:PcOk (p::l)):PcOk l:=⟨λq hq=>h.ok q (by simp[hq]),(List.pairwise_cons.mp h.ap).2⟩
theorem PcOk.w{L:List Pa}(h:PcOk L):WOk L:=λp hp=>(h.ok p hp).2
theorem zg{L:List Pa}{d:Int}(h:∀p∈L,¬ inP p d):pf L d=0:=by
 induction L with
 |nil=>rfl
 |cons p l ih=>rw[pf,if_neg (h p (by simp))];exact ih λq hq=>h q (by simp[hq])
theorem qjZ{a b:List Pa}{d:Int}:pf (a++b) d=if ∃p∈a,inP p d then pf a d else pf b d:=by
 induction a with
 |nil=>simp
 |cons p l ih=>
  rw[List.cons_append,pf]
  by_cases h:inP p d
  ·rw[if_pos h,if_pos ⟨p,by simp,h⟩,pf,if_pos h]
  ·rw[if_neg h,ih]
   by_cases g:∃q∈l,inP q d
   ·rw[if_pos g,if_pos (by obtain⟨q,hq,hh⟩:=g;exact⟨q,by simp[hq],hh⟩),pf,if_neg h]
   ·rw[if_neg g,if_neg];rintro⟨q,hq,hh⟩;rcases List.mem_cons.mp hq with rfl | hq
    ·exact h hh
    ·exact g ⟨q,hq,hh⟩
theorem jV{L:List Pa}(hL:PcOk L){p:Pa}(hp:p∈L){d:Int}(h:inP p d):pf L d=p.2.2:=by
 induction L with
 |nil=>cases hp
 |cons q l ih=>
  rw[pf];rcases List.mem_cons.mp hp with rfl | hp
  ·rw[if_pos h]
  ·have:=(List.pairwise_cons.mp hL.ap).1 p hp
   rw[if_neg (λz=>by unfold inP at *;omega)];exact ih hL.tail hp
theorem qls{L:List Pa}(hL:PcOk L)(d:Int):0<=pf L d:=by
 by_cases h:∃p∈L,inP p d
 ·obtain⟨p,hp,hd⟩:=h;rw[jV hL hp hd]
  have:=(hL.ok p hp).2.1
  omega
 ·rw[zg λp hp hd=>h ⟨p,hp,hd⟩];exact Int.le_refl _
theorem qlt{L:List Pa}{d:Int}(h:pf L d≠0):∃p∈L,inP p d:=by
 by_cases q:∃p∈L,inP p d
 ·exact q
 ·exact absurd (zg λp hp hd=>q ⟨p,hp,hd⟩) h
theorem qlu{l:List (Str×Int)}(h:∀p∈l,LnOk p)(o:Option Str):wt l o<=9:=by
 induction l with
 |nil=>show(0:Int)<=9;decide
 |cons p l ih=>
  unfold wt;split
  ·exact(h p (by simp)).nine
  ·exact ih λq hq=>h q (by simp[hq])
instance dayDec(F:List Pr)(d:Int):Decidable (Day F d):=decidable_of_iff _ Qr
theorem qj0(w:Int)(F:List Pr)(d:Int):pf (F.map (QB w)) d=if Day F d then w else 0:=by
 induction F with
 |nil=>rw[if_neg Yh];rfl
 |cons p l ih=>
  rw[List.map_cons,pf,ih]
  by_cases h:p.1<=d/\d<=p.2
  ·rw[if_pos (show inP (QB w p) d from h),if_pos (qN.mpr (.inl h))];rfl
  ·rw[if_neg (show ¬ inP (QB w p) d from h)]
   by_cases g:Day l d
   ·rw[if_pos g,if_pos (qN.mpr (.inr g))]
   ·rw[if_neg g,if_neg (λz=>(qN.mp z).elim h g)]
def Chw:Int->List St->Prop
 |_,[]=>True
 | e,s::l=>(e < s.2.1/\s.2.1<=s.2.2)/\Chw s.2.2 l
theorem Ch.w:∀{l:List St} {e:Int},Ch e l->Chw e l
 |[],_,_=>trivial
 | _::_,_,h=>⟨⟨h.1.lo,h.1.ab⟩,Ch.w h.2⟩
theorem Chw.snoc:∀{l:List St} {e:Int} {s:St},Chw e l->(∀t∈l,t.2.2 < s.2.1)->e < s.2.1->s.2.1<=s.2.2->Chw e (l++[s])
 |[],_,_,_,_,h1,h2=>⟨⟨h1,h2⟩,trivial⟩
 | t::l,_,s,h,h0,_,h2=>⟨h.1,Chw.snoc h.2 (λu hu=>h0 u (by simp[hu])) (h0 t (by simp)) h2⟩
theorem Yi{r:Ru}(hr:∀p∈r.lands,LnOk p){lf:List Pr}(hS:Spr lf)(hl:lf.length < 900):∀(st:List St) (e:Int),Chw e st->PcOk (qA r lf st)/\(∀p∈qA r lf st,e < p.1)/\∀d,pf (qA r lf st) d=wgt r lf st d
 |[],e,_=>⟨⟨λ_ h=>(by cases h),List.Pairwise.nil⟩,λ_ h=>(by cases h),λd=>(qdh rfl).symm⟩
 | s::st,e,hc=>by
  obtain⟨i1,i2,i3⟩:=Yi hr hS hl st s.2.2 hc.2;have h1:=hc.1.1;have h2:=hc.1.2;obtain⟨l1,l2,l3⟩:=qhk hS hl (p:=(s.2.1,s.2.2)) h2;have w9:=qlu hr (some s.1)
  have one:PcOk (qH r lf s)/\(∀p∈qH r lf s,s.2.1<=p.1/\p.2.1<=s.2.2)/\∀d,pf (qH r lf s) d=if (s.2.1<=d/\d<=s.2.2)/\¬ Day lf d then wt r.lands (some s.1) else 0:=by
   unfold qH
   by_cases hw:0 < wt r.lands (some s.1)
   ·rw[if_pos hw];refine⟨⟨λp hp=>?_,?_⟩,λp hp=>?_,λd=>?_⟩
    ·obtain⟨x,hx,rfl⟩:=List.mem_map.mp hp;exact⟨l1.ok x hx,hw,w9⟩
    ·exact List.pairwise_map.mpr (l1.ap.imp λq=>by dsimp only[QB];omega)
    ·obtain⟨x,hx,rfl⟩:=List.mem_map.mp hp;exact l2 x hx
    ·rw[qj0]
     by_cases g:Day (yQ (s.2.1,s.2.2) lf) d
     ·rw[if_pos g,if_pos ((l3 d).mp g)]
     ·rw[if_neg g,if_neg (λz=>g ((l3 d).mpr z))]
   ·rw[if_neg hw];refine⟨⟨λ_ h=>(by cases h),List.Pairwise.nil⟩,λ_ h=>(by cases h),λd=>?_⟩
    have:wt r.lands (some s.1)=0:=by have:=qjT hr (some s.1);omega
    rw[this];simp[pf]
  obtain⟨o1,o2,o3⟩:=one;rw[qA];refine⟨⟨λp hp=>?_,?_⟩,λp hp=>?_,λd=>?_⟩
  ·rcases List.mem_append.mp hp with q | q
   ·exact o1.ok p q
   ·exact i1.ok p q
  ·refine List.pairwise_append.mpr ⟨o1.ap,i1.ap,λx hx y hy=>?_⟩
   have:=(o2 x hx).2
   have:=i2 y hy
   omega
  ·rcases List.mem_append.mp hp with q | q
   ·have:=(o2 p q).1;omega
   ·have:=i2 p q;omega
  ·rw[qjZ]
   by_cases hd:s.2.1<=d/\d<=s.2.2
   ·have n:pf (qA r lf st) d=0:=zg λp hp z=>by have:=i2 p hp;unfold inP at z;omega
    have e1:(if ∃p∈qH r lf s,inP p d then pf (qH r lf s) d else pf (qA r lf st) d)=pf (qH r lf s) d:=by
     split
     ·rfl
     ·rename_i g;rw[n,zg λp hp hz=>g ⟨p,hp,hz⟩]
    rw[e1,o3];unfold wgt qI;rw[if_pos hd]
    by_cases g:Day lf d
    ·rw[if_neg (λz=>z.2 g),if_pos (Qr.mpr g)]
    ·rw[if_pos ⟨hd,g⟩,if_neg (λz=>g (Qr.mp z))]
   ·rw[if_neg (λ⟨p,hp,z⟩=>by have:=o2 p hp;unfold inP at z;omega),i3];unfold wgt;rw[show qI (s::st) d=qI st d by conv=>lhs;unfold qI;rw[if_neg hd]]
noncomputable def qeW(f t:Int)(p:Pa):Int:=if 0 < mn p.2.1 t - mx p.1 f+1 then (mn p.2.1 t - mx p.1 f+1) * p.2.2 else 0
def Yt(f t:Int):List Pa->Int
 |[]=>0
 | p::l=>qeW f t p+Yt f t l
theorem Yj(f t:Int):∀(l:List Pa) (a:Int),qfJ f t l a=a+Yt f t l
 |[],a=>by simp[qfJ,Yt]
 | p::l,a=>by
  rw[qfJ,Yj f t l,Yt];unfold qeW
  split<;>omega
theorem qa7(f t:Int):∀a b:List Pa,Yt f t (a++b)=Yt f t a+Yt f t b
 |[],b=>by simp[Yt]
 | p::a,b=>by rw[List.cons_append,Yt,Yt,qa7 f t a b];omega
theorem qa8(f t:Int):∀l:List Pa,Yt f t l.reverse=Yt f t l
 |[]=>rfl
 | p::l=>by rw[List.reverse_cons,qa7,qa8 f t l,Yt,Yt,Yt];omega
theorem qfN(p:Pa)(hp:p.1<=p.2.1)(f:Int):∀n:Nat,(ws (ind p) f n).sum=qeW f (f+n - 1) p
 |0=>by
  have m1:=qeS p.1 f;have m2:=ZI p.2.1 (f+(0:Nat) - 1);unfold qeW;rw[if_neg]
  ·simp[ws]
  ·rcases Int.le_total p.1 f with z | z<;>rcases Int.le_total p.2.1 (f+(0:Nat) - 1) with y | y
   ·have:=m1.1 z;have:=m2.1 y;omega
   ·have:=m1.1 z;have:=m2.2 y;omega
   ·have:=m1.2 z;have:=m2.1 y;omega
   ·have:=m1.2 z;have:=m2.2 y;omega
 | n+1=>by
  rw[qao,qfN p hp f n];have m1:=qeS p.1 f;have m2:=ZI p.2.1 (f+(n:Int) - 1);have m3:=ZI p.2.1 (f+((n+1:Nat):Int) - 1);have e:f+((n+1:Nat):Int) - 1=f+n:=by omega
  rw[e] at m3 ⊢;unfold qeW ind
  have hm1:p.1<=mx p.1 f/\f<=mx p.1 f/\(mx p.1 f=p.1\/mx p.1 f=f):=by
   rcases Int.le_total p.1 f with z | z
   ·have:=m1.1 z;omega
   ·have:=m1.2 z;omega
  generalize mx p.1 f=a at *
  by_cases h1:f+(n:Int) < p.1
  ·rw[if_neg (c:=inP p (f+(n:Int))) (λz=>by unfold inP at z;omega)]
   have:=m2.2 (1:)
   have:=m3.2 (1:)
   rw[if_neg (1:),if_neg (1:)];rfl
  ·by_cases h2:p.2.1 < f+(n:Int)
   ·rw[if_neg (c:=inP p (f+(n:Int))) (λz=>by unfold inP at z;omega)];have a1:=m2.1 (1:);have a2:=m3.1 (1:);rw[a1,a2];omega
   ·rw[if_pos (c:=inP p (f+(n:Int))) ⟨by omega,by omega⟩];have a1:=m2.2 (1:);have a2:=m3.2 (1:);rw[a1,a2];have hpos:0 < f+(n:Int) - a+1:=by omega
    rw[if_pos hpos]
    by_cases h3:0 < f+(n:Int) - 1 - a+1
    ·rw[if_pos h3,show f+(n:Int) - a+1=(f+(n:Int) - 1 - a+1)+1 by omega];generalize f+(n:Int) - 1 - a+1=k;rw[Int.add_mul,Int.one_mul]
    ·rw[if_neg h3,show f+(n:Int) - a+1=1 by omega,Int.one_mul];omega
theorem qfO{f g h:Int->Int}:∀(n:Nat) (lo:Int),(∀x,f x=g x+h x)->(ws f lo n).sum=(ws g lo n).sum+(ws h lo n).sum
 |0,_,_=>by simp[ws]
 | n+1,lo,e=>by rw[ws,ws,ws,List.sum_cons,List.sum_cons,List.sum_cons,qfO n (lo+1) e,e lo];omega
theorem qlv{L:List Pa}(hL:PcOk L)(f:Int)(n:Nat):(ws (pf L) f n).sum=Yt f (f+n - 1) L:=by
 induction L with
 |nil=>rw[Yt];exact Qx n f λx _ _=>rfl
 |cons p l ih=>
  have hp:=(hL.ok p (by simp)).1;rw[Yt,<-qfN p hp,<-ih hL.tail];refine qfO n f λx=>?_;rw[pf];unfold ind
  by_cases h:inP p x
  ·rw[if_pos h,if_pos h,zg λq hq z=>by have:=(List.pairwise_cons.mp hL.ap).1 q hq;unfold inP at *;omega];omega
  ·rw[if_neg h,if_neg h];omega
noncomputable def chn(leave d:Int):List Pa->Int->Int
 |[],_=>0
 | p::R,f=>if p.1<=d then (if leave<=f - 1 - mn p.2.1 d then 0 else (mn p.2.1 d - p.1+1) * p.2.2+chn leave d R p.1) else chn leave d R f
structure RvOk(R:List Pa):Prop where
 ok:∀p∈R,p.1<=p.2.1
 ap:R.Pairwise λp q=>q.2.1 < p.1
theorem RvOk.of{L:List Pa}(h:PcOk L):RvOk L.reverse:=⟨λp hp=>(h.ok p (by simpa using hp)).1,List.pairwise_reverse.mpr h.ap⟩
theorem RvOk.tail{p:Pa}{R:List Pa}(h:RvOk (p::R)):RvOk R:=⟨λq hq=>h.ok q (by simp[hq]),(List.pairwise_cons.mp h.ap).2⟩
theorem qhl(a b:Int):mn a b<=a/\mn a b<=b/\(mn a b=a\/mn a b=b):=by
 unfold mn
 split<;>omega
theorem qeX(a b:Int):a<=mx a b/\b<=mx a b/\(mx a b=a\/mx a b=b):=by
 unfold mx
 split<;>omega
theorem ZK{f t:Int}:∀{R:List Pa},(∀p∈R,p.2.1 < f)->Yt f t R=0
 |[],_=>rfl
 | p::R,h=>by rw[Yt,ZK λq hq=>h q (by simp[hq])];have h0:=h p (by simp);have h1:=qhl p.2.1 t;have h2:=qeX p.1 f;unfold qeW;rw[if_neg (1:)];rfl
theorem qdn{leave d:Int}(hl:1<=leave):∀(R:List Pa) (f:Int),RvOk R->(d < f\/∀p∈R,p.2.1 < f)->fsF leave d R f<=f/\Yt (fsF leave d R f) d R=chn leave d R f
 |[],f,_,_=>⟨Int.le_refl _,rfl⟩
 | p::R,f,hR,hf=>by
  have hp:=hR.ok p (by simp);have hg:=(List.pairwise_cons.mp hR.ap).1;have hm:=qhl p.2.1 d;rw[fsF,chn,Yt]
  by_cases h1:p.1<=d
  ·rw[if_pos h1,if_pos h1]
   by_cases h2:leave<=f - 1 - mn p.2.1 d
   ·rw[if_pos h2,if_pos h2];refine⟨Int.le_refl _,?_⟩;rw[ZK λq hq=>by have:=hg q hq;omega]
    have:=qeX p.1 f
    unfold qeW;rw[if_neg (1:)];rfl
   ·rw[if_neg h2,if_neg h2];obtain⟨i1,i2⟩:=qdn (d:=d) hl R p.1 hR.tail (.inr hg)
    have hlt:p.1<=f:=by
     rcases hf with q | q
     ·omega
     ·have:=q p (by simp);omega
    refine⟨by omega,?_⟩;rw[i2]
    have:=qeX p.1 (fsF leave d R p.1)
    have e:mx p.1 (fsF leave d R p.1)=p.1:=by omega
    unfold qeW;rw[e,if_pos (1:)]
  ·rw[if_neg h1,if_neg h1];obtain⟨i1,i2⟩:=qdn hl R f hR.tail (hf.imp id λq x hx=>q x (by simp[hx]));refine⟨i1,?_⟩;rw[i2]
   have:=qeX p.1 (fsF leave d R f)
   unfold qeW;rw[if_neg (1:)];omega
theorem QE{leave d:Int}:∀(B R:List Pa) (f:Int),(∀p∈B,d < p.1)->chn leave d (B++R) f=chn leave d R f
 |[],R,f,_=>rfl
 | p::B,R,f,h=>by have h0:=h p (by simp);rw[List.cons_append,chn,if_neg (1:)];exact QE B R f λq hq=>h q (by simp[hq])
theorem QF{leave d d':Int}:∀(R:List Pa) (f:Int),(∀p∈R,p.1<=p.2.1/\p.2.1<=d/\p.2.1<=d')->chn leave d R f=chn leave d' R f
 |[],_,_=>rfl
 | p::R,f,h=>by have h0:=h p (by simp);have e1:mn p.2.1 d=p.2.1:=(ZI p.2.1 d).1 h0.2.1;have e2:mn p.2.1 d'=p.2.1:=(ZI p.2.1 d').1 h0.2.2;rw[chn,chn,if_pos (c:=p.1<=d) (1:),if_pos (c:=p.1<=d') (1:),e1,e2,QF R p.1 λq hq=>h q (by simp[hq])]
end DG
namespace DG
open PySem DE FA Dy
open L2 hiding St
theorem qdo{r:Ru}(hk:r.kd.isW=true)(h1:1<=r.days){L:List Pa}(hL:PcOk L)(d:Int):qD r L d=(ws (pf L) (d - r.days+1) r.days.toNat).sum:=by unfold qD qas;rw[if_pos hk,Yj,qlv hL,show d - r.days+1+(r.days.toNat:Int) - 1=d by omega];omega
theorem qdp{r:Ru}(hk:r.kd.isW=false)(h1:1<=r.days){L:List Pa}(hL:PcOk L)(d:Int):qD r L d=chn r.days d L.reverse (d+1):=by unfold qD qas;rw[if_neg (by rw[hk];decide),Yj,<-qa8,(qdn h1 L.reverse (d+1) (RvOk.of hL) (.inl (1:))).2];omega
theorem qa9{d:Int}:∀{R:List Pa},RvOk R->∃B A,R=B++A/\(∀p∈B,d < p.1)/\∀p∈A,p.1<=d
 |[],_=>⟨[],[],rfl,λ_ h=>(by cases h),λ_ h=>(by cases h)⟩
 | p::R,h=>by
  by_cases hd:d < p.1
  ·obtain⟨B,A,e,h1,h2⟩:=qa9 (d:=d) h.tail;refine⟨p::B,A,by rw[e];rfl,λq hq=>?_,h2⟩;rcases List.mem_cons.mp hq with rfl | hq
   ·exact hd
   ·exact h1 q hq
  ·refine⟨[],p::R,rfl,λ_ h=>(by cases h),λq hq=>?_⟩;rcases List.mem_cons.mp hq with rfl | hq
   ·omega
   ·have:=(List.pairwise_cons.mp h.ap).1 q hq
    have:=h.ok q (by simp[hq])
    omega
def qbR(f:Int->Int)(n d:Int):Prop:=∀x,d - n < x->x<=d->f x=0
theorem qbS{leave:Int}(h1:1<=leave){L:List Pa}(hL:PcOk L)(d:Int) :
  (qbR (pf L) leave d->chn leave d L.reverse (d+1)=0)/\(¬ qbR (pf L) leave d->chn leave d L.reverse (d+1)=chn leave (d - 1) L.reverse d+pf L d):=by
 have hR:=RvOk.of hL;obtain⟨B,A,e,hB,hA⟩:=qa9 (d:=d) hR;have mem:∀p,p∈L↔p∈B\/p∈A:=λp=>by rw[<-List.mem_reverse,e,List.mem_append]
 rw[e,QE B A _ hB,QE B A _ (λp hp=>by have:=hB p hp;omega)]
 cases A with
 |nil=>
  refine⟨λ_=>rfl,λh=>absurd (λx _ hx=>?_) h⟩
  exact zg λp hp z=>by
   rcases (mem p).mp hp with q | q
   ·have:=hB p q;unfold inP at z;omega
   ·cases q
 |cons q A=>
  have hq:q∈L:=(mem q).mpr (.inr (by simp));have hqo:=hL.ok q hq;have hq1:=hA q (by simp)
  have hap:∀p∈A,p.2.1 < q.1:=by
   have:=hR.ap
   rw[e] at this;exact(List.pairwise_cons.mp (List.pairwise_append.mp this).2.1).1
  have hAo:∀p∈A,p.1<=p.2.1:=λp hp=>(hL.ok p ((mem p).mpr (.inr (by simp[hp])))).1;have hm:=ZI q.2.1 d;have hm':=ZI q.2.1 (d - 1)
  by_cases hd:d<=q.2.1
  ·have hpf:pf L d=q.2.2:=jV hL hq ⟨hq1,hd⟩;refine⟨λh=>?_,λ_=>?_⟩
   ·have:=h d (1:) (Int.le_refl _)
    omega
   ·rw[hpf,chn,if_pos hq1,hm.2 hd,if_neg (1:)]
    by_cases hb:q.1<=d - 1
    ·rw[chn,if_pos hb,hm'.2 (1:),if_neg (1:),QF (d:=d) (d':=d - 1) A q.1 λp hp=>by have:=hap p hp;have:=hAo p hp;omega];rw[show d - q.1+1=(d - 1 - q.1+1)+1 by omega];generalize d - 1 - q.1+1=k;rw[Int.add_mul,Int.one_mul];omega
    ·rw[chn,if_neg hb,QF (d:=d) (d':=d - 1) A q.1 λp hp=>by have:=hap p hp;have:=hAo p hp;omega];rw[show q.1=d by omega,show d - d+1=1 by omega,Int.one_mul];omega
  ·have hz:∀x,q.2.1 < x->x<=d->pf L x=0:=λx h2 h3=>zg λp hp z=>by
    rcases (mem p).mp hp with y | y
    ·have:=hB p y;unfold inP at z;omega
    ·rcases List.mem_cons.mp y with rfl | y
     ·unfold inP at z;omega
     ·have:=hap p y;unfold inP at z;omega
   have hpf:pf L q.2.1=q.2.2:=jV hL hq ⟨hqo.1,Int.le_refl _⟩;rw[chn,if_pos hq1,hm.1 (1:),chn,if_pos (c:=q.1<=d - 1) (1:),hm'.1 (1:),hz d (1:) (Int.le_refl _)];refine⟨λh=>?_,λh=>?_⟩
   ·rw[if_pos]
    by_cases y:leave<=d+1 - 1 - q.2.1
    ·exact y
    ·have:=h q.2.1 (1:) (1:)
     omega
   ·have y:¬ leave<=d+1 - 1 - q.2.1:=λy=>h λx h2 h3=>hz x (1:) h3;rw[if_neg y,if_neg (1:),QF (d:=d) (d':=d - 1) A q.1 λp hp=>by have:=hap p hp;have:=hAo p hp;omega];omega
structure Cnt(w:Bool)(n:Int)(f C:Int->Int):Prop where
 nn:∀d,0<=f d
 low:∃b,∀d,d < b->C d=0/\f d=0
 win:w=true->∀d,C d=(ws f (d - n+1) n.toNat).sum
 idle:w=false->∀d,qbR f n d->C d=0
 busy:w=false->∀d,¬ qbR f n d->C d=C (d - 1)+f d
theorem qj1{L:List Pa}(hL:PcOk L):∃b,∀d,d < b->pf L d=0:=by
 induction L with
 |nil=>exact⟨0,λ_ _=>rfl⟩
 |cons p l _=>
  refine⟨p.1,λd hd=>zg λq hq z=>?_⟩;have h0:=(hL.ok p (by simp)).1;rcases List.mem_cons.mp hq with rfl | hq
  ·unfold inP at z;omega
  ·have:=(List.pairwise_cons.mp hL.ap).1 q hq
   unfold inP at z;omega
theorem ZM{r:Ru}(h1:1<=r.days){L:List Pa}(hL:PcOk L):Cnt r.kd.isW r.days (pf L) (qD r L):=by
 obtain⟨b,hb⟩:=qj1 hL
 have sn:r.kd.isW=false->∀d,(qbR (pf L) r.days d->qD r L d=0)/\(¬ qbR (pf L) r.days d->qD r L d=qD r L (d - 1)+pf L d):=λhk d=>by rw[qdp hk h1 hL,qdp hk h1 hL,show d - 1+1=d by omega];exact qbS h1 hL d
 refine⟨qls hL,⟨b,λd hd=>⟨?_,hb d hd⟩⟩,λhk=>qdo hk h1 hL,λhk d=>(sn hk d).1,λhk d=>(sn hk d).2⟩
 cases hk:r.kd.isW with
 |true=>rw[qdo hk h1 hL];exact Qx _ _ λx h2 h3=>hb x (1:)
 |false=>exact(sn hk d).1 λx _ hx=>hb x (1:)
namespace Cnt
variable{w:Bool}{n:Int}{f C:Int->Int}
theorem step(h:Cnt w n f C)(hw:w=true)(hn:1<=n)(d:Int):C d=C (d - 1)+f d - f (d - n):=by rw[h.win hw d,h.win hw (d - 1)];obtain⟨m,rfl⟩:∃m:Nat,n=((m+1:Nat):Int):=⟨(n - 1).toNat,by omega⟩;rw[Int.toNat_natCast,qao,show d - 1 - ((m+1:Nat):Int)+1=d - ((m+1:Nat):Int) by omega,ws,List.sum_cons,show d - ((m+1:Nat):Int)+1+(m:Int)=d by omega];omega
theorem pos(h:Cnt w n f C)(d:Int):0<=C d:=by
 cases hw:w with
 |true=>rw[h.win hw];exact qjV h.nn _ _
 |false=>
  obtain⟨b,hb⟩:=h.low
  have:∀m:Nat,∀d,d < b+m->0<=C d:=by
   intro m
   induction m with
   |zero=>intro d hd;rw[(hb d (1:)).1];exact Int.le_refl _
   |succ m ih=>
    intro d hd
    by_cases hi:qbR f n d
    ·rw[h.idle hw d hi];exact Int.le_refl _
    ·rw[h.busy hw d hi]
     have:=ih (d - 1) (1:)
     have:=h.nn d
     omega
  exact this (d - b+1).toNat d (1:)
theorem grow(h:Cnt w n f C)(hn:1<=n)(d:Int):C d<=C (d - 1)+f d:=by
 cases hw:w with
 |true=>rw[h.step hw hn d];have:=h.nn (d - n);omega
 |false=>
  by_cases hi:qbR f n d
  ·rw[h.idle hw d hi]
   have:=h.pos (d - 1)
   have:=h.nn d
   omega
  ·rw[h.busy hw d hi];exact Int.le_refl _
theorem busy'(h:Cnt w n f C)(hw:w=false)(hn:1<=n){d:Int}(hd:f d≠0):C d=C (d - 1)+f d:=
 h.busy hw d λz=>hd (z d (1:) (Int.le_refl _))
theorem keeps(h:Cnt w n f C)(hn:1<=n){m a b:Int}(ha:C a<=m)(hz:∀x,a < x->x < b->f x=0):∀x,a<=x->x < b->C x<=m:=by
 have:∀k:Nat,∀x,a<=x->x < b->x < a+k+1->C x<=m:=by
  intro k
  induction k with
  |zero=>intro x h1 h2 h3;rw[show x=a by omega];exact ha
  |succ k ih=>
   intro x h1 h2 h3
   by_cases y:x=a
   ·rw[y];exact ha
   ·have:=h.grow hn x
    rw[hz x (1:) h2] at this
    have:=ih (x - 1) (1:) (1:) (1:)
    omega
 exactλx h1 h2=>this (x - a).toNat x h1 h2 (1:)
end Cnt
theorem qdq{f g:Int->Int}(h:∀x,f x<=g x):∀(n:Nat) (lo:Int),(ws f lo n).sum<=(ws g lo n).sum
 |0,_=>by simp[ws]
 | n+1,lo=>by
  have:=qdq h n (lo+1)
  have:=h lo
  rw[ws,ws,List.sum_cons,List.sum_cons];omega
theorem qdr{f:Int->Int}(h:∀x,0<=f x)(k:Nat):∀(m:Nat) (lo:Int),(ws f (lo+m) k).sum<=(ws f lo (m+k)).sum
 |0,lo=>by rw[Nat.zero_add,show lo+((0:Nat):Int)=lo by omega];exact Int.le_refl _
 | m+1,lo=>by
  have i:=qdr h k m (lo+1)
  have:=h lo
  rw[show m+1+k=(m+k)+1 by omega,ws,List.sum_cons];rw[show lo+((m+1:Nat):Int)=lo+1+(m:Int) by omega];omega
theorem Cnt.mono{w:Bool}{n n':Int}{f f' C C':Int->Int}(h:Cnt w n f C)(h':Cnt w n' f' C')(h1:1<=n')(h2:n'<=n)(hf:∀x,f' x<=f x)(d:Int):C' d<=C d:=by
 cases hw:w with
 |true=>rw[h.win hw,h'.win hw];have a:=qdr h.nn n'.toNat (n - n').toNat (d - n+1);rw[show(n - n').toNat+n'.toNat=n.toNat by omega,show d - n+1+((n - n').toNat:Int)=d - n'+1 by omega] at a;have b:=qdq hf n'.toNat (d - n'+1);omega
 |false=>
  obtain⟨b,hb⟩:=h'.low
  have:∀m:Nat,∀d,d < b+m->C' d<=C d:=by
   intro m
   induction m with
   |zero=>intro d hd;rw[(hb d (1:)).1];exact h.pos d
   |succ m ih=>
    intro d hd
    by_cases hi:qbR f' n' d
    ·rw[h'.idle hw d hi];exact h.pos d
    ·have hi':¬ qbR f n d:=λz=>hi λx h3 h4=>by
      have:=z x (1:) h4
      have:=hf x
      have:=h'.nn x
      omega
     rw[h'.busy hw d hi,h.busy hw d hi']
     have:=ih (d - 1) (1:)
     have:=hf d
     omega
  exact this (d - b+1).toNat d (1:)
end DG
namespace DG
open PySem DE FA Dy
open L2 hiding St
theorem qhm{r:Ru}(h1:1<=r.days){L:List Pa}(hL:PcOk L):qhO r L:=λd=>by
 have g:=(ZM h1 hL).grow h1 d
 have:pf L d<=9:=by
  by_cases h:∃p∈L,inP p d
  ·obtain⟨p,hp,hd⟩:=h;rw[jV hL hp hd];exact(hL.ok p hp).2.2
  ·rw[zg λp hp hd=>h ⟨p,hp,hd⟩];decide
 omega
theorem qhn{L:List Pa}(hL:PcOk L){y:Int}(h:pf L y≠pf L (y - 1)):∃p∈L,y=p.1\/y=p.2.1+1:=by
 by_cases h1:∃p∈L,inP p y
 ·obtain⟨p,hp,hd⟩:=h1;refine⟨p,hp,?_⟩
  by_cases h2:inP p (y - 1)
  ·rw[jV hL hp hd,jV hL hp h2] at h;exact absurd rfl h
  ·unfold inP at *;omega
 ·rw[zg λp hp hd=>h1 ⟨p,hp,hd⟩] at h;obtain⟨p,hp,hd⟩:=qlt (Ne.symm h);refine⟨p,hp,?_⟩;have nz:¬ inP p y:=λz=>h1 ⟨p,hp,z⟩;unfold inP at *;omega
theorem Yk{s x:Int}:∀{L:List Pa},x∈zE s L↔∃p∈L,x=p.1+s\/x=p.2.1+1+s
 |[]=>by simp[zE]
 | p::L=>by
  rw[zE,List.mem_cons,List.mem_cons,Yk];constructor
  ·rintro (h | h | ⟨q,hq,h⟩)
   ·exact⟨p,by simp,.inl h⟩
   ·exact⟨p,by simp,.inr h⟩
   ·exact⟨q,by simp[hq],h⟩
  ·rintro⟨q,hq,h⟩;rcases List.mem_cons.mp hq with rfl | hq
   ·exact h.elim .inl λz=>.inr (.inl z)
   ·exact .inr (.inr ⟨q,hq,h⟩)
theorem qba(s:Int):∀{L:List Pa},PcOk L->(zE s L).Pairwise (·<=·)
 |[],_=>List.Pairwise.nil
 | p::L,h=>by
  have h0:=(h.ok p (by simp)).1;have hg:=(List.pairwise_cons.mp h.ap).1
  have lo:∀x∈zE s L,p.2.1+1+s<=x:=λx hx=>by
   obtain⟨q,hq,z⟩:=Yk.mp hx
   have:=hg q hq
   have:=(h.ok q (by simp[hq])).1
   omega
  rw[zE];refine List.pairwise_cons.mpr ⟨λx hx=>?_,List.pairwise_cons.mpr ⟨lo,qba s h.tail⟩⟩;rcases List.mem_cons.mp hx with rfl | hx
  ·omega
  ·have:=lo x hx;omega
noncomputable def Fst(r:Ru)(L:List Pa)(f t:Int):Option Int->Prop
 |none=>∀x,f<=x->x<=t->qD r L x<=r.most
 |some d=>f<=d/\d<=t/\r.most < qD r L d/\∀x,f<=x->x < d->qD r L x<=r.most
theorem qbb{r:Ru}{L:List Pa}{b e:Int}(h0:qD r L (b - 1)<=r.most)(hg:∀x,b < x->x<=e->qD r L x - qD r L (x - 1)=qD r L (x - 1) - qD r L (x - 2)):Fst r L b e (Jr r L b e):=by
 have lin:∀k:Nat,b+k<=e->qD r L (b+k)=qD r L (b - 1)+((k:Int)+1) * (qD r L b - qD r L (b - 1))/\qD r L (b+k) - qD r L (b+k - 1)=qD r L b - qD r L (b - 1):=by
  intro k
  induction k with
  |zero=>intro _;rw[show b+((0:Nat):Int)=b by omega,show(((0:Nat):Int)+1)=1 by rfl,Int.one_mul];omega
  |succ k ih=>intro hk;obtain⟨i1,i2⟩:=ih (1:);have g:=hg (b+((k+1:Nat):Int)) (1:) hk;rw[show b+((k+1:Nat):Int) - 1=b+k by omega,show b+((k+1:Nat):Int) - 2=b+k - 1 by omega] at g;rw[show b+((k+1:Nat):Int) - 1=b+k by omega,show(((k+1:Nat):Int)+1)=((k:Int)+1)+1 by omega,Int.add_mul _ 1,Int.one_mul];omega
 have lin':∀x,b<=x->x<=e->qD r L x=qD r L (b - 1)+(x - b+1) * (qD r L b - qD r L (b - 1)):=λx h1 h2=>by
  have:=(lin (x - b).toNat (1:)).1
  rw[show b+((x - b).toNat:Int)=x by omega,show((x - b).toNat:Int)=x - b by omega] at this;exact this
 unfold Jr;generalize qD r L b - qD r L (b - 1)=g at *;generalize hc:qD r L (b - 1)=c at *
 by_cases h1:g<=0
 ·rw[if_pos h1];intro x h2 h3;rw[lin' x h2 h3]
  have:=Int.mul_nonpos_of_nonneg_of_nonpos (show 0<=x - b+1 by omega) h1
  omega
 ·rw[if_neg h1];have q:∀x,x - b+1<=(r.most - c) / g↔(x - b+1) * g<=r.most - c:=λx=>Int.le_ediv_iff_mul_le (1:);have q0:0<=(r.most - c) / g:=Int.ediv_nonneg (1:) (1:);generalize (r.most - c) / g=k at *
  by_cases h2:b+k<=e
  ·rw[if_pos h2];refine⟨by omega,h2,?_,λx h3 h4=>?_⟩
   ·rw[lin' _ (1:) h2]
    have:=mt (q (b+k)).mpr (1:)
    omega
   ·rw[lin' x h3 (1:)]
    have:=(q x).mp (1:)
    omega
  ·rw[if_neg h2];intro x h3 h4;rw[lin' x h3 h4]
   have:=(q x).mp (1:)
   omega
theorem qfP{r:Ru}{L:List Pa}{t:Int}:∀(ts:List Int) (f:Int),qD r L (f - 1)<=r.most->(∀x,f < x->x<=t->x∉ts->qD r L x - qD r L (x - 1)=qD r L (x - 1) - qD r L (x - 2))->(f::ts).Pairwise (·<=·)->(∀b∈ts,b<=t)->Fst r L f t (Ja r L (qfK f t ts))
 |[],f,h0,hg,_,_=>by
  have a:=qbb (r:=r) (L:=L) (b:=f) (e:=t) h0 λx h1 h2=>hg x h1 h2 (by simp);show Fst r L f t (Ja r L [(f,t)]);rw[Ja]
  cases e:Jr r L f t with
  |none=>rw[e] at a;exact a
  |some d=>rw[e] at a;exact a
 | b::ts,f,h0,hg,hp,ht=>by
  obtain⟨hp1,hp2⟩:=List.pairwise_cons.mp hp;have hfb:=hp1 b (by simp);have hbt:=ht b (by simp);have hpb:=(List.pairwise_cons.mp hp2).1
  have a:=qbb (r:=r) (L:=L) (b:=f) (e:=b - 1) h0 λx h1 h2=>hg x h1 (1:) (λz=>by
   rcases List.mem_cons.mp z with rfl | z
   ·omega
   ·have:=hpb x z;omega)
  show Fst r L f t (Ja r L ((f,b - 1)::qfK b t ts));rw[Ja]
  cases e:Jr r L f (b - 1) with
  |some d=>rw[e] at a;exact⟨a.1,by have:=a.2.1;omega,a.2.2.1,a.2.2.2⟩
  |none=>
   rw[e] at a;have low:∀x,f<=x->x<=b - 1->qD r L x<=r.most:=a
   have i:=qfP ts b (by
    by_cases z:f<=b - 1
    ·exact low _ z (Int.le_refl _)
    ·rw[show b - 1=f - 1 by omega];exact h0) (λx h1 h2 h3=>hg x (1:) h2 λz=>by
     rcases List.mem_cons.mp z with rfl | z
     ·omega
     ·exact h3 z) hp2 λx hx=>ht x (by simp[hx])
   dsimp only;generalize Ja r L (qfK b t ts)=o at i
   cases o with
   |none=>
    intro x h1 h2
    by_cases z:x<=b - 1
    ·exact low x h1 z
    ·exact i x (1:) h2
   |some d=>
    refine⟨by have:=i.1;omega,i.2.1,i.2.2.1,λx h1 h2=>?_⟩
    by_cases z:x<=b - 1
    ·exact low x h1 z
    ·exact i.2.2.2 x (1:) h2
noncomputable def ql1(r:Ru)(L:List Pa):Option Int->Prop
 |none=>∀x,qD r L x<=r.most
 |some d=>r.most < qD r L d/\∀x,x < d->qD r L x<=r.most
theorem qds{r:Ru}(h1:1<=r.days){L:List Pa}(hL:PcOk L){p:Pa}(hp:p∈L){x:Int}(hx:p.1 < x)(hx':x<=p.2.1)(ht:x∉zP r L):qD r L x - qD r L (x - 1)=qD r L (x - 1) - qD r L (x - 2):=by
 have c:=ZM h1 hL;have e1:pf L x=p.2.2:=jV hL hp ⟨by omega,hx'⟩;have e2:pf L (x - 1)=p.2.2:=jV hL hp ⟨by omega,by omega⟩;have hw:=(hL.ok p hp).2.1
 cases hk:r.kd.isW with
 |true=>
  have s1:=c.step hk h1 x;have s2:=c.step hk h1 (x - 1);unfold zP at ht;rw[if_pos hk] at ht
  have:pf L (x - r.days)=pf L (x - r.days - 1):=by
   by_cases z:pf L (x - r.days)=pf L (x - r.days - 1)
   ·exact z
   ·obtain⟨q,hq,y⟩:=qhn hL z;exact absurd (Yk.mpr ⟨q,hq,by omega⟩) ht
  rw[show x - 1 - r.days=x - r.days - 1 by omega,show x - 1 - 1=x - 2 by omega] at s2;omega
 |false=>have s1:=c.busy' hk h1 (d:=x) (1:);have s2:=c.busy' hk h1 (d:=x - 1) (1:);rw[show x - 1 - 1=x - 2 by omega] at s2;omega
theorem ZN{r:Ru}(h1:1<=r.days)(h0:0<=r.most){L:List Pa}(hL:PcOk L):∀(l A:List Pa),L=A++l->(∀x,(∀p∈l,x < p.1)->qD r L x<=r.most)->ql1 r L (jT r L (zP r L) l)
 |[],A,_,h=>λx=>h x λ_ z=>(by cases z)
 | p::l,A,e,h=>by
  have hp:p∈L:=by rw[e];simp
  have hpo:=hL.ok p hp;have hsp:=hL.ap;rw[e] at hsp;have hlo:=(List.pairwise_cons.mp (List.pairwise_append.mp hsp).2.1).1;have hA:=(List.pairwise_append.mp hsp).2.2;have hl:∀q∈l,q.1<=q.2.1:=λq hq=>(hL.ok q (by rw[e];simp[hq])).1
  have before:∀x,x < p.1->qD r L x<=r.most:=λx hx=>h x λq hq=>by
   rcases List.mem_cons.mp hq with rfl | hq
   ·exact hx
   ·have:=hlo q hq;omega
  have tu:(zP r L).Pairwise (·<=·):=by
   unfold zP;split
   ·exact qba _ hL
   ·exact List.Pairwise.nil
  have i:=qfP (r:=r) (L:=L) (t:=p.2.1) ((zP r L).filter (inB p.1 p.2.1)) p.1 (before _ (1:)) (λx h2 h3 h4=>qds h1 hL hp h2 h3 λz=>h4 (List.mem_filter.mpr ⟨z,by unfold inB;simp;omega⟩)) (List.pairwise_cons.mpr ⟨λb hb=>by
    have:=(List.mem_filter.mp hb).2
    unfold inB at this;simp at this
    omega,tu.filter _⟩) (λb hb=>by
    have:=(List.mem_filter.mp hb).2
    unfold inB at this;simp at this
    omega)
  rw[jT]
  cases o:Ja r L (qfK p.1 p.2.1 ((zP r L).filter (inB p.1 p.2.1))) with
  |some d=>
   rw[o] at i;refine⟨i.2.2.1,λx hx=>?_⟩
   by_cases z:x < p.1
   ·exact before x z
   ·exact i.2.2.2 x (1:) hx
  |none=>
   rw[o] at i;have within:∀x,p.1<=x->x<=p.2.1->qD r L x<=r.most:=i;refine ZN h1 h0 hL l (A++[p]) (by rw[e];simp) λx hx=>?_
   by_cases z:x < p.1
   ·exact before x z
   ·by_cases y:x<=p.2.1
    ·exact within x (1:) y
    ·refine(ZM h1 hL).keeps h1 (a:=p.2.1) (b:=x+1) (within _ hpo.1 (Int.le_refl _)) (λu h2 h3=>zg λq hq hz=>?_) x (1:) (1:);rw[e] at hq;unfold inP at hz;rcases List.mem_append.mp hq with g | g
     ·have:=hA q g p (by simp);omega
     ·rcases List.mem_cons.mp g with rfl | g
      ·omega
      ·have:=hx q g;omega
theorem qbc{r:Ru}(h1:1<=r.days)(h0:0<=r.most){L:List Pa}(hL:PcOk L):ql1 r L (qq r L):=by
 refine ZN h1 h0 hL L [] rfl λx hx=>?_;have z:∀y,y<=x->pf L y=0:=λy hy=>zg λp hp hz=>by have:=hx p hp;unfold inP at hz;omega
 have c:=ZM h1 hL
 have:qD r L x=0:=by
  cases hk:r.kd.isW with
  |true=>rw[c.win hk];exact Qx _ _ λy _ h3=>z y (1:)
  |false=>exact c.idle hk x λy _ hy=>z y hy
 omega
end DG
namespace DG
open PySem DE FA Dy
open L2 hiding St
def cb(st:List St)(x:Rl)(d:Int):Int:=qD x.1 (jE st x) d
structure Rlw(x:Rl):Prop where
 ln:∀p∈x.1.lands,LnOk p
 days:1<=x.1.days
 most:0<=x.1.most
 spr:Spr x.2
 len:x.2.length<=20
section
variable{st:List St}{x:Rl}(h:Rlw x){e:Int}(hc:Chw e st)
include h hc
theorem ZO:PcOk (jE st x):=(Yi h.ln h.spr (by have:=h.len;omega) st e hc).1
theorem qj2:pf (jE st x)=wgt x.1 x.2 st:=funext (Yi h.ln h.spr (by have:=h.len;omega) st e hc).2.2
theorem qbT:Cnt x.1.kd.isW x.1.days (wgt x.1 x.2 st) (cb st x):=by rw[<-qj2 h hc];exact ZM h.days (ZO h hc)
theorem qdt:RlOk st x:=⟨h.ln,(ZO h hc).w,qhm h.days (ZO h hc),h.len⟩
theorem qho(hn:qq x.1 (jE st x)=none)(d:Int):cb st x d<=x.1.most:=by
 have:=qbc h.days h.most (ZO h hc)
 rw[hn] at this;exact this d
theorem qhp{d:Int}(hn:qq x.1 (jE st x)=some d):x.1.most < cb st x d/\∀y,y < d->cb st x y<=x.1.most:=by
 have:=qbc h.days h.most (ZO h hc)
 rw[hn] at this;exact this
end
structure BF(st:List St)(rs:List Rl)(z:Int×Int×Int):Prop where
 at_:∃(j:Nat) (x:Rl),rs[j]?=some x/\z.2.1=(j:Int)/\z.2.2=qas x.1 (jE st x) z.1/\x.1.most < cb st x z.1/\∀i,i < j->∀y,rs[i]?=some y->cb st y z.1<=y.1.most
 low:∀y∈rs,∀d,d < z.1->cb st y d<=y.1.most
theorem yS(st:List St){e:Int}(hc:Chw e st)(all:List Rl)(hr:∀x∈all,Rlw x):∀(l A:List Rl) (f:Option (Int×Int×Int)),all=A++l->
  (f=none->∀y∈A,∀d,cb st y d<=y.1.most)->(∀z,f=some z->BF st A z)->
  (jU st l A.length f=none->∀y∈all,∀d,cb st y d<=y.1.most)/\∀z,jU st l A.length f=some z->BF st all z
 |[],A,f,ea,h1,h2=>by rw[List.append_nil] at ea;subst ea;exact⟨h1,h2⟩
 | x::l,A,f,ea,h1,h2=>by
  have hx:=hr x (by rw[ea];simp);have ea':all=(A++[x])++l:=by rw[ea];simp
  have el:A.length+1=(A++[x]).length:=by simp
  have one:∀y,y∈A++[x]->y∈A\/y=x:=λy hy=>by simpa using hy
  have getA:∀(j:Nat) y,A[j]?=some y->(A++[x])[j]?=some y:=λj y hy=>by obtain⟨hj,_⟩:=List.getElem?_eq_some_iff.mp hy;rw[List.getElem?_append_left hj];exact hy
  rw[jU]
  cases hb:qq x.1 (jE st x) with
  |none=>
   dsimp only;have nb:=qho hx hc hb;rw[el];refine yS st hc all hr l (A++[x]) f ea' (λhf y hy d=>?_) (λz hz=>?_)
   ·rcases one y hy with q | q
    ·exact h1 hf y q d
    ·rw[q];exact nb d
   ·obtain⟨⟨j,x',g1,g2,g3,g4,g5⟩,lo⟩:=h2 z hz;refine⟨⟨j,x',getA j x' g1,g2,g3,g4,λi hi y hy=>?_⟩,λy hy d hd=>?_⟩
    ·obtain⟨hj,_⟩:=List.getElem?_eq_some_iff.mp g1;rw[List.getElem?_append_left (1:)] at hy;exact g5 i hi y hy
    ·rcases one y hy with q | q
     ·exact lo y q d hd
     ·rw[q];exact nb d
  |some d0=>
   dsimp only;obtain⟨b1,b2⟩:=qhp hx hc hb
   by_cases hbt:Yg d0 f=true
   ·rw[if_pos hbt,el]
    have lowA:∀y∈A,∀d,d<=d0->cb st y d<=y.1.most:=λy hy d hd=>by
     cases f with
     |none=>exact h1 rfl y hy d
     |some z=>
      have:d0 < z.1:=by unfold Yg at hbt;simpa using hbt
      exact(h2 z rfl).low y hy d (1:)
    refine yS st hc all hr l (A++[x]) _ ea' (λhf=>(by cases hf)) (λz hz=>?_);cases hz;refine⟨⟨A.length,x,by simp,rfl,rfl,b1,λi hi y hy=>?_⟩,λy hy d hd=>?_⟩
    ·rw[List.getElem?_append_left hi] at hy;exact lowA y (List.mem_of_getElem? hy) d0 (Int.le_refl _)
    ·rcases one y hy with q | q
     ·exact lowA y q d (by dsimp only at hd;omega)
     ·rw[q];exact b2 d hd
   ·rw[if_neg hbt,el]
    cases f with
    |none=>exact absurd rfl hbt
    |some z0=>
     have hge:z0.1<=d0:=by unfold Yg at hbt;simp at hbt;exact hbt
     refine yS st hc all hr l (A++[x]) _ ea' (λhf=>(by cases hf)) (λz hz=>?_);cases hz;obtain⟨⟨j,x',g1,g2,g3,g4,g5⟩,lo⟩:=h2 z0 rfl;refine⟨⟨j,x',getA j x' g1,g2,g3,g4,λi hi y hy=>?_⟩,λy hy d hd=>?_⟩
     ·obtain⟨hj,_⟩:=List.getElem?_eq_some_iff.mp g1;rw[List.getElem?_append_left (1:)] at hy;exact g5 i hi y hy
     ·rcases one y hy with q | q
      ·exact lo y q d hd
      ·rw[q];exact b2 d (1:)
theorem yr{rs:List Ru}{ps:List Pa}{st:List St}{e:Int}(hc:Chw e st)(hr:∀x∈rlF ps 0 rs,Rlw x) :
  (qt rs ps st=none->∀y∈rlF ps 0 rs,∀d,cb st y d<=y.1.most)/\∀z,qt rs ps st=some z->BF st (rlF ps 0 rs) z:=
 yS st hc (rlF ps 0 rs) hr (rlF ps 0 rs) [] none rfl (λ_ _ h=>(by cases h)) (λ_ h=>(by cases h))
theorem qj3{rs:List Ru}{ps:List Pa}(hr:∀r∈rs,(∀p∈r.lands,LnOk p)/\1<=r.days/\0<=r.most)(hp:∀p∈ps,p.2.1<=p.2.2)(hl:ps.length<=18):∀x∈rlF ps 0 rs,Rlw x:=λx hx=>by
 obtain⟨j,e1,e2⟩:=qde hx;obtain⟨a,b,c⟩:=hr x.1 (List.mem_of_getElem? e1)
 have ok:∀n:Int,∀p∈ofN n ps,p.1<=p.2:=λn p h=>by unfold ofN at h;obtain⟨q,hq,rfl⟩:=List.mem_map.mp h;exact hp q (List.mem_filter.mp hq).1
 refine⟨a,b,c,?_,?_⟩
 ·rw[e2];exact qhd (ok _)
 ·rw[e2];have h1:=qc6 (ok ((0+j:Nat):Int));have h2:=qan ((0+j:Nat):Int) ps;unfold qa4;omega
end DG
namespace DG
open PySem L2 DE
noncomputable def Yl:Nat×Nat×Ss:=(2,4,%[.set 2 (.call "stays_of" %[1|0]),.set 3 (.call "fault_among" %[0,2|0]),.ite (.cmp .IsNot (.var 3) (.con .non)) %[.stuck|0] .nil,.ret (.var 2)|0])
noncomputable def yt:Nat×Nat×Ss:=(2,2,%[.ite (.or (.not (.val (.call "is_between" %[1,.con (.int 0),.con (.int 1000000000)|0]))) (.one (.and (.val (.var 0)) (.one (.cmp .LtE (.var 1) (.idx (.idx (.var 0) (.neg (.con (.int 1)))) (.con (.int 2)))))))) %[.stuck|0] .nil|0])
class LI(pg:Pg):Prop where
 r_let_stays:RW pg "let_stays" Yl
 r_check_day:RW pg "check_day" yt
end DG
namespace DG
open PySem DE FA Dy
open L2 hiding St
open CH ST SP RU BO BT PC SU FK FM FO LI
section
variable{pg:Pg}[CH pg][ST pg][RU pg][BO pg][SP pg][BT pg][PC pg][SU pg][FK pg][FM pg][LI pg]
theorem qj4(k:Nat)(b:Bool)(rs:List Ru)(ps:List Pa)(hp:ps.length<=18)(st:List St)(hc:Ch (-1) st)(hs:∀s∈st,NameOk s.1)(hl:st.length<=60)(hr:∀x∈rlF ps 0 rs,RlOk st x)(hf:qt rs ps st=none) :
  clK pg (k+8) "let_stays" [.val (bkI rs ps),aL b (st.map stD)]=.ok (.tmp (st.map stD)):=by
 have e1:=JD (pg:=pg) (k+2) b st hc hl;have e2:=yR (pg:=pg) k true rs ps hp st hs (1:) hr;rw[hf] at e2;rw[r_let_stays]
 try simp only[Zt,Zu] at e1 e2 ⊢
 simp? only[Yl,e1,e2,Ys]
def qky(st:List St):Int:=match st.getLast? with
 |none=>-1
 |some s=>s.2.2
theorem qhq{st:List St}(h:st≠[]):atI (st.map stD) (-1)=some (.tup [.str (st.getLast h).1,.int (st.getLast h).2.1,.int (st.getLast h).2.2]):=by
 have hl:0 < st.length:=List.length_pos_iff.mpr h
 have e:ixN (st.map stD).length (-1)=some (st.length - 1):=by
  unfold ixN;rw[List.length_map,if_neg (1:),if_pos (1:)]
  congr 1
  omega
 unfold atI;rw[e,Option.bind_some,List.getElem?_map,<-List.getLast?_eq_getElem?,List.getLast?_eq_some_getLast h];rfl
theorem qat(k:Nat)(b:Bool)(st:List St)(hl:st.length<=60)(d:Int)(h0:0<=d)(h1:d<=1000000000)(h:qky st < d):clK pg (k+3) "check_day" [aL b (st.map stD),.val (.int d)]=.ok (.val .non):=by
 have e:=zr (pg:=pg) k d 0 1000000000 h0 h1;rw[r_check_day]
 by_cases hn:st=[]
 ·subst hn;have ie:([]:List D).isEmpty=true:=rfl;simp? only[yt,e,List.map_nil,ie,Bool.not_true,Bool.false_eq_true]
 ·have la:=qhq hn
  have hlt:¬ d<=(st.getLast hn).2.2:=by unfold qky at h;rw[List.getLast?_eq_some_getLast hn] at h;dsimp only at h;omega
  have ie:(st.map stD).isEmpty=false:=by
   cases st with
   |nil=>exact absurd rfl hn
   |cons a b=>rfl
  simp? only[yt,e,ie,Bool.not_false,la,hlt]
end
end DG
namespace DG
open PySem DE FA Dy
open L2 hiding St
theorem Cnt.loc{w:Bool}{n:Int}{f f' C C':Int->Int}(h:Cnt w n f C)(h':Cnt w n f' C')(hn:1<=n){D:Int}(he:∀x,x<=D->f' x=f x):C' D=C D:=by
 cases hw:w with
 |true=>rw[h.win hw,h'.win hw,qdi _ _ λx h1 h2=>he x (1:)]
 |false=>
  obtain⟨b,hb⟩:=h.low;obtain⟨b',hb'⟩:=h'.low
  have key:∀k:Nat,∀d,d<=D->d < mn b b'+k->C' d=C d:=by
   intro k;have m:=qhl b b'
   induction k with
   |zero=>intro d _ hd;rw[(hb d (1:)).1,(hb' d (1:)).1]
   |succ k ih=>
    intro d h1 hd
    by_cases i:qbR f n d
    ·have i':qbR f' n d:=λx hx hx'=>by rw[he x (1:)];exact i x hx hx'
     rw[h.idle hw d i,h'.idle hw d i']
    ·have i':¬ qbR f' n d:=λz=>i λx hx hx'=>by rw[<-he x (1:)];exact z x hx hx'
     rw[h.busy hw d i,h'.busy hw d i',he d h1,ih (d - 1) (1:) (1:)]
  exact key (D - mn b b'+1).toNat D (Int.le_refl _) (1:)
end DG
namespace DG
open PySem DE FA Dy
open L2 hiding St
theorem qbd{z:Str}{a b:Int}:∀{st:List St},(∀s∈st,s.2.2 < a)->∀d,qI (st++[(z,a,b)]) d=if a<=d/\d<=b then some z else qI st d
 |[],_,d=>rfl
 | s::l,h,d=>by
  rw[List.cons_append,qI,qI,qbd (λt ht=>h t (by simp[ht])) d]
  by_cases c:s.2.1<=d/\d<=s.2.2
  ·have:=h s (by simp)
   rw[if_pos c,if_pos c,if_neg (1:)]
  ·rw[if_neg c,if_neg c]
theorem Ym{r:Ru}{lf:List (Int×Int)}{st:List St}{z:Str}{a b:Int}(h:∀s∈st,s.2.2 < a)(d:Int):wgt r lf (st++[(z,a,b)]) d=if a<=d/\d<=b then (if qkx lf d=true then 0 else wt r.lands (some z)) else wgt r lf st d:=by
 unfold wgt;rw[qbd h]
 split<;>split<;>rfl
theorem JF{r:Ru}{lf:List (Int×Int)}{st:List St}{a:Int}(h:∀s∈st,s.2.2 < a){d:Int}(hd:a<=d):wgt r lf st d=0:=qdh (qap.mpr λs hs q=>by have:=h s hs;omega)
section
variable{x:Rl}{st:List St}{e0:Int}{z:Str}(hx:Rlw x)(hc:Chw e0 st)
include hx hc
theorem qfQ{st':List St}{e1:Int}(hc':Chw e1 st'){D:Int}(h:∀y,y<=D->wgt x.1 x.2 st' y=wgt x.1 x.2 st y):cb st' x D=cb st x D:=Cnt.loc (qbT hx hc) (qbT hx hc') hx.days h
theorem qbe{a b:Int}(h:∀s∈st,s.2.2 < a)(h0:e0 < a)(hab:a<=b){D:Int}(hD:D < a):cb (st++[(z,a,b)]) x D=cb st x D:=
 qfQ hx hc (Chw.snoc hc h h0 hab) λy hy=>by rw[Ym h,if_neg (1:)]
theorem qdu{a b b':Int}(h:∀s∈st,s.2.2 < a)(h0:e0 < a)(hab:a<=b)(hab':a<=b'){D:Int}(hD:D<=b)(hD':D<=b'):cb (st++[(z,a,b)]) x D=cb (st++[(z,a,b')]) x D:=
 qfQ hx (Chw.snoc hc h h0 hab') (Chw.snoc hc h h0 hab) λy hy=>by
  rw[Ym h,Ym h]
  by_cases q:a<=y
  ·rw[if_pos (show a<=y/\y<=b from⟨q,by omega⟩),if_pos (show a<=y/\y<=b' from⟨q,by omega⟩)]
  ·rw[if_neg (show ¬ (a<=y/\y<=b) fromλz=>q z.1),if_neg (show ¬ (a<=y/\y<=b') fromλz=>q z.1)]
theorem qeY{a b:Int}(h:∀s∈st,s.2.2 < a)(h0:e0 < a)(hab:a<=b){m:Int}(hb:cb (st++[(z,a,b)]) x b<=m){D:Int}(hD:b<=D):cb (st++[(z,a,b)]) x D<=m:=
 (qbT hx (Chw.snoc hc h h0 hab)).keeps hx.days hb (b:=D+1) (λy h1 _=>by rw[Ym h,if_neg (1:)];exact JF h (1:)) D hD (1:)
end
end DG
namespace DG
open PySem DE FA Dy
open L2 hiding St
def qj5(A:List Rl)(st:List St)(z:Str)(e:Int):Prop:=∀x∈A,cb (st++[(z,e,e)]) x e<=x.1.most
theorem qdv{rs:List Ru}{ps:List Pa}{st:List St}{e:Int}(hc:Chw e st)(hr:∀x∈rlF ps 0 rs,Rlw x)(h:∀x∈rlF ps 0 rs,∀D,cb st x D<=x.1.most):qt rs ps st=none:=by
 cases q:qt rs ps st with
 |none=>rfl
 |some z=>
  obtain⟨⟨j,x,g1,_,_,g4,_⟩,_⟩:=(yr hc hr).2 z q
  have:=h x (List.mem_of_getElem? g1) z.1
  omega
section
variable{rs:List Ru}{ps:List Pa}{st:List St}{e0:Int}{z:Str}(hr:∀x∈rlF ps 0 rs,Rlw x)(hc:Chw e0 st)(hlet:∀x∈rlF ps 0 rs,∀D,cb st x D<=x.1.most)
include hr hc hlet
theorem QG{a b:Int}(h:∀s∈st,s.2.2 < a)(h0:e0 < a)(hab:a<=b)(hf:∀x∈rlF ps 0 rs,∀D,a<=D->D<=b->cb (st++[(z,a,b)]) x D<=x.1.most):∀x∈rlF ps 0 rs,∀D,cb (st++[(z,a,b)]) x D<=x.1.most:=λx hx D=>by
 by_cases h1:D < a
 ·rw[qbe (hr x hx) hc h h0 hab h1];exact hlet x hx D
 ·by_cases h2:D<=b
  ·exact hf x hx D (1:) h2
  ·exact qeY (hr x hx) hc h h0 hab (hf x hx b hab (Int.le_refl _)) (1:)
theorem qeZ{e:Int}(h:∀s∈st,s.2.2 < e)(h0:e0 < e):qj5 (rlF ps 0 rs) st z e↔qt rs ps (st++[(z,e,e)])=none:=by
 have hc':=Chw.snoc (s:=(z,e,e)) hc h h0 (Int.le_refl _);constructor
 ·intro f;exact qdv hc' hr (QG hr hc hlet h h0 (Int.le_refl _) λx hx D h1 h2=>by rw[show D=e by omega];exact f x hx)
 ·intro q x hx;exact(yr hc' hr).1 q x hx e
noncomputable def qj6(A:List Rl)(st:List St)(z:Str)(a b:Int):Option (Int×Int×Int)->Prop
 |some f=>a<=f.1/\f.1<=b/\(∃x∈A,x.1.most < cb (st++[(z,a,f.1)]) x f.1)/\∀y,a<=y->y < f.1->∀x∈A,∀D,cb (st++[(z,a,y)]) x D<=x.1.most
 |none=>∀y,a<=y->y<=b->∀x∈A,∀D,cb (st++[(z,a,y)]) x D<=x.1.most
theorem qdw{a b:Int}(h:∀s∈st,s.2.2 < a)(h0:e0 < a)(hab:a<=b):qj6 (rlF ps 0 rs) st z a b (qt rs ps (st++[(z,a,b)])):=by
 have hc':=Chw.snoc (s:=(z,a,b)) hc h h0 hab;have f:=yr hc' hr
 cases q:qt rs ps (st++[(z,a,b)]) with
 |none=>
  intro y h1 h2
  exact QG hr hc hlet h h0 h1 λx hx D h3 h4=>by rw[qdu (hr x hx) hc h h0 h1 hab h4 (1:)];exact f.1 q x hx D
 |some w=>
  obtain⟨⟨j,x,g1,g2,g3,g4,g5⟩,lo⟩:=f.2 w q;have hx:=List.mem_of_getElem? g1
  have w1:a<=w.1:=by
   by_cases c:a<=w.1
   ·exact c
   ·rw[qbe (hr x hx) hc h h0 hab (1:)] at g4
    have:=hlet x hx w.1
    omega
  have w2:w.1<=b:=by
   by_cases c:w.1<=b
   ·exact c
   ·have l1:=lo x hx (w.1 - 1) (1:);have gr:=(qbT (hr x hx) hc').grow (hr x hx).days w.1;rw[Ym h,if_neg (1:),JF h (1:)] at gr;omega
  refine⟨w1,w2,⟨x,hx,by rw[qdu (hr x hx) hc h h0 w1 hab (Int.le_refl _) w2];exact g4⟩,λy h1 h2=>?_⟩
  exact QG hr hc hlet h h0 h1 λx' hx' D h3 h4=>by rw[qdu (hr x' hx') hc h h0 h1 hab h4 (1:)];exact lo x' hx' D (1:)
end
end DG
namespace DG
open PySem DE FA Dy
open L2 hiding St
theorem qhr{st:List St}{d:Int}(h:∀s∈st,s.2.2 < d)(h0:0<=d):qky st < d:=by
 unfold qky
 cases q:st.getLast? with
 |none=>dsimp only;omega
 |some s=>exact h s (List.mem_of_getLast? q)
structure LimOk(rs:List Ru)(ps:List Pa)(st:List St):Prop where
 w:∀x∈rlF ps 0 rs,Rlw x
 lf:∀x∈rlF ps 0 rs,x.2.length<=5
 r8:rs.length<=8
 p18:ps.length<=18
 ch:Ch (-1) st
 nm:∀s∈st,NameOk s.1
 len:st.length<=60
 fit:∀x∈rlF ps 0 rs,∀D,cb st x D<=x.1.most
end DG
namespace DG
open PySem L2 DE
noncomputable abbrev yg:Ss:=%[.ite (.or (.not (.val (.call "is_name" %[3|0]))) (.one (.cmp .In (.var 3) (.var 2)))) %[.ret (.con (.bl false))|0] .nil,.app 2 (.var 3)|0]
def js:Ss:=yg
theorem Yn:USs js yg:=λ_ _ _ _=>(rfl)
noncomputable def yu:Nat×Nat×Ss:=(2,4,%[.ite (.or (.not (.val (.isi Ty.list (.var 0)))) (.or (.cmp .Lt (.b1 .len (.var 0)) (.con (.int 1))) (.one (.cmp .Gt (.b1 .len (.var 0)) (.var 1))))) %[.ret (.con (.bl false))|0] .nil,.set 2 (.lst .nil),.for_ (.one 3) (.seq (.var 0)) js,.ret (.con (.bl true))|0])
class PN(pg:Pg):Prop where
 r_are_names:RW pg "are_names" yu
noncomputable abbrev yT:Ss:=%[.set 5 (.call "pieces_among" %[0,3,1|0]),.ite (.cmp .Gt (.call "count_among" %[4,5,2|0]) (.fld (.var 4) "most")) %[.ret (.tup %[2,3,.call "first_of_window" %[4,5,2|0]|0])|0] .nil|0]
def jW:Ss:=yT
theorem yh:USs jW yT:=λ_ _ _ _=>(rfl)
noncomputable def Jc:Nat×Nat×Ss:=(3,6,%[.for_ (.many [3,4]) (.enum (.met (.var 0) "rules" .nil)) jW,.ret (.con .non)|0])
noncomputable abbrev jB:Ss:=%[.set 6 (.call "fault_on" %[0,.bin .Add (.var 1) (.lst %[.tup %[5,3,3|0]|0]),3|0]),.ite (.cmp .Is (.var 6) (.con .non)) %[.ret (.tup %[3,5,4|0])|0] .nil,.app 4 (.tup %[5,6|0])|0]
def zG:Ss:=jB
theorem jj:USs zG jB:=λ_ _ _ _=>(rfl)
noncomputable def jt:Nat×Nat×Ss:=(4,7,%[.set 4 (.lst .nil),.for_ (.one 5) (.seq (.var 2)) zG,.ret (.tup %[3,.con .non,4|0])|0])
noncomputable abbrev Js:Ss:=%[.set 8 (.call "planned_day" %[0,5,2,7|0]),.app 6 (.var 8),.ite (.cmp .IsNot (.idx (.var 8) (.con (.int 1))) (.con .non)) %[.app 5 (.tup %[.idx (.var 8) (.con (.int 1)),7,7|0])|0] .nil|0]
def yv:Ss:=Js
theorem yU:USs yv Js:=λ_ _ _ _=>(rfl)
noncomputable def ZP:Nat×Nat×Ss:=(5,9,%[.set 5 (.call "let_stays" %[0,1|0]),.expr (.call "check_day" %[5,3|0]),.ite (.not (.val (.call "are_names" %[2,.con (.int 6)|0]))) %[.stuck|0] .nil,.set 6 (.lst .nil),.for_ (.one 7) (.rng2 (.var 3) (.bin .Add (.var 3) (.var 4))) yv,.ret (.var 6)|0])
class PF(pg:Pg):Prop where
 r_fault_on:RW pg "fault_on" Jc
 r_planned_day:RW pg "planned_day" jt
 r_plan_of:RW pg "plan_of" ZP
end DG
namespace DG
open PySem DE FA Dy
open L2 hiding St
open CH ST SP RU BO BT PC SU FK FM FO LI PN PF
noncomputable def qb4(st:List St)(e:Int):List Rl->Nat->Option (Int×Int×Int)
 |[],_=>none
 | x::l,i=>if x.1.most < cb st x e then some (e,(i:Int),qas x.1 (jE st x) e) else qb4 st e l (i+1)
theorem qdx(st:List St)(e:Int):∀(l:List Rl) (i:Nat),(qb4 st e l i=none/\∀x∈l,cb st x e<=x.1.most)\/∃(j:Nat) (x:Rl),l[j]?=some x/\qb4 st e l i=some (e,((i+j:Nat):Int),qas x.1 (jE st x) e)/\x.1.most < cb st x e/\∀j',j' < j->∀y,l[j']?=some y->cb st y e<=y.1.most
 |[],i=>.inl ⟨rfl,λx h=>by cases h⟩
 | x::l,i=>by
  by_cases c:x.1.most < cb st x e
  ·exact .inr ⟨0,x,rfl,by rw[qb4,if_pos c];rfl,c,λj h=>absurd h (1:)⟩
  ·rw[qb4,if_neg c];rcases qdx st e l (i+1) with ⟨h1,h2⟩ | ⟨j,y,h1,h2,h3,h4⟩
   ·refine .inl ⟨h1,λy hy=>?_⟩;rcases List.mem_cons.mp hy with rfl | hy
    ·omega
    ·exact h2 y hy
   ·refine .inr ⟨j+1,y,h1,by rw[h2,show i+1+j=i+(j+1) by omega],h3,λj' hj u hu=>?_⟩
    cases j' with
    |zero=>cases hu;omega
    | succ j'=>exact h4 j' (1:) u hu
structure Kp(rs:List Ru)(ps:List Pa)(st:List St)(e:Int):Prop where
 w:∀x∈rlF ps 0 rs,Rlw x
 p18:ps.length<=18
 ch:Chw (-1) st
 nm:∀s∈st,NameOk s.1
 fit:∀x∈rlF ps 0 rs,∀D,cb st x D<=x.1.most
 lt:∀s∈st,s.2.2 < e
 e0:0<=e
section
variable{rs:List Ru}{ps:List Pa}{st:List St}{e:Int}(h:Kp rs ps st e){z:Str}
include h
theorem Kp.ch1:Chw (-1) (st++[(z,e,e)]):=Chw.snoc h.ch h.lt (by show -1 < e;have:=h.e0;omega) (Int.le_refl _)
theorem Kp.fon:qb4 (st++[(z,e,e)]) e (rlF ps 0 rs) 0=qt rs ps (st++[(z,e,e)]):=by
 have li:=qdw h.w h.ch h.fit (z:=z) h.lt (by show -1 < e;have:=h.e0;omega) (Int.le_refl e);have fb:=yr (h.ch1 (z:=z)) h.w;rcases qdx (st++[(z,e,e)]) e (rlF ps 0 rs) 0 with ⟨h1,h2⟩ | ⟨j,x,h1,h2,h3,h4⟩
 ·rw[h1];exact((qeZ h.w h.ch h.fit h.lt (by show -1 < e;have:=h.e0;omega)).mp h2).symm
 ·cases q:qt rs ps (st++[(z,e,e)]) with
  |none=>have:=fb.1 q x (List.mem_of_getElem? h1) e;omega
  |some f=>
   rw[q] at li;have fe:f.1=e:=by have:=li.1;have:=li.2.1;omega
   obtain⟨⟨j',y,g1,g2,g3,g4,g5⟩,lo⟩:=fb.2 f q;rw[fe] at g3 g4 g5
   have ej:j'=j:=by
    rcases Nat.lt_trichotomy j' j with u | u | u
    ·have:=h4 j' u y g1;omega
    ·exact u
    ·have:=g5 j u x h1;omega
   subst ej;rw[h1] at g1;cases g1;rw[h2,Nat.zero_add,<-g3,<-g2,<-fe]
theorem Kp.next:Kp rs ps st (e+1):=⟨h.w,h.p18,h.ch,h.nm,h.fit,λs hs=>by have:=h.lt s hs;omega,by have:=h.e0;omega⟩
theorem Kp.more(hz:NameOk z)(q:qt rs ps (st++[(z,e,e)])=none):Kp rs ps (st++[(z,e,e)]) (e+1):=by
 refine⟨h.w,h.p18,h.ch1,λs hs=>?_,(yr h.ch1 h.w).1 q,λs hs=>?_,by have:=h.e0;omega⟩
 ·rcases List.mem_append.mp hs with y | y
  ·exact h.nm s y
  ·rw[List.mem_singleton.mp y];exact hz
 ·rcases List.mem_append.mp hs with y | y
  ·have:=h.lt s y;omega
  ·rw[List.mem_singleton.mp y];show e < e+1;omega
end
noncomputable def pdF(rs:List Ru)(ps:List Pa)(st:List St)(e:Int):List Str->List (Str×Int×Int×Int)->Option Str×List (Str×Int×Int×Int)
 |[],acc=>(none,acc)
 | z::zs,acc=>match qt rs ps (st++[(z,e,e)]) with
  |none=>(some z,acc)
  |some f=>pdF rs ps st e zs (acc++[(z,f)])
def JG(p:Str×Int×Int×Int):D:=.tup [.str p.1,f3D p.2]
def qhP:Option Str->D
 |none=>.non
 |some z=>.str z
def pdD(e:Int)(p:Option Str×List (Str×Int×Int×Int)):D:=.tup [.int e,qhP p.1,.lst (p.2.map JG)]
theorem QH{rs:List Ru}{ps:List Pa}{st:List St}{e:Int}{z:Str}:∀{zs:List Str} {acc:List (Str×Int×Int×Int)},(pdF rs ps st e zs acc).1=some z->z∈zs/\qt rs ps (st++[(z,e,e)])=none
 |[],acc,h=>by cases h
 | y::zs,acc,h=>by
  rw[pdF] at h
  cases q:qt rs ps (st++[(y,e,e)]) with
  |none=>rw[q] at h;cases h;exact⟨by simp,q⟩
  |some f=>rw[q] at h;have:=QH h;exact⟨by simp[this.1],this.2⟩
def ZQ(st:List St)(e:Int):Option Str->List St
 |none=>st
 |some z=>st++[(z,e,e)]
noncomputable def plF(rs:List Ru)(ps:List Pa)(zs:List Str):Nat->Int->List St->List D×List St
 |0,_,st=>([],st)
 | n+1,e,st=>(pdD e (pdF rs ps st e zs [])::(plF rs ps zs n (e+1) (ZQ st e (pdF rs ps st e zs []).1)).1,(plF rs ps zs n (e+1) (ZQ st e (pdF rs ps st e zs []).1)).2)
theorem Kp.keep{rs:List Ru}{ps:List Pa}{st:List St}{e:Int}{zs:List Str}(h:Kp rs ps st e)(hz:∀z∈zs,NameOk z):Kp rs ps (ZQ st e (pdF rs ps st e zs []).1) (e+1):=by
 cases q:(pdF rs ps st e zs []).1 with
 |none=>exact h.next
 |some z=>have:=QH q;exact h.more (hz z this.1) this.2
section
variable{pg:Pg}[RU pg][BO pg][SP pg][BT pg][PC pg][SU pg][FK pg][PF pg]{rs:List Ru}{ps:List Pa}
theorem qbf(k:Nat)(b:Bool)(hp:ps.length<=18)(st:List St)(hs:∀s∈st,NameOk s.1)(hl:st.length<=170)(e:Int):∀(rest:List Rl) (i:Nat) (s3 s4 s5:Sl),(∀(j:Nat) x,rest[j]?=some x->rs[i+j]?=some x.1/\x.2=qa4 ((i+j:Nat):Int) ps/\RlOk st x)->
  ∃F,jF (pg.kk (k+6)) 1000 (.many [3,4]) jW (enF i (rest.map λx=>ruI x.1)) [.val (bkI rs ps),pS b (st.map stD),.val (.int e),s3,s4,s5]=.ok F/\(qb4 st e rest i=none->∃ρ',F=.next ρ')/\∀z,qb4 st e rest i=some z->F=.ret (.val (f3D z))
 |[],i,s3,s4,s5,_=>⟨_,rfl,λ_=>⟨_,rfl⟩,λz h=>by cases h⟩
 | x::rest,i,s3,s4,s5,h=>by
  obtain⟨e1,e2,ok⟩:=h 0 x rfl;rw[Nat.add_zero] at e1 e2
  have nxt:∀(j:Nat) y,rest[j]?=some y->rs[i+1+j]?=some y.1/\y.2=qa4 ((i+1+j:Nat):Int) ps/\RlOk st y:=λj y hy=>by
   have:=h (j+1) y hy
   rwa[show i+(j+1)=i+1+j by omega] at this
  have p:=ZJ (pg:=pg) (k+3) b rs ps hp i x.1 e1 ok.ln (by rw[<-e2];exact ok.lf) st hs hl;rw[<-e2] at p;rw[show qA x.1 x.2 st=jE st x from rfl] at p;have co:clK pg (k+6) "count_among" [.val (ruI x.1),.bor ((jE st x).map paD),.val (.int e)]=.ok (.val (.int (cb st x e))):=jr (pg:=pg) (k+3) true x.1 (jE st x) ok.w e;have fw:clK pg (k+6) "first_of_window" [.val (ruI x.1),.bor ((jE st x).map paD),.val (.int e)]=.ok (.val (.int (qas x.1 (jE st x) e))):=qdk (pg:=pg) (k+4) true x.1 (jE st x) e;have three:0+1+1+1<=sizeLine:=by decide+kernel
  by_cases c:x.1.most < cb st x e
  ·refine⟨.ret (.val (f3D (e,(i:Int),qas x.1 (jE st x) e))),?_,λq=>?_,λz q=>?_⟩
   ·refine(qh _).symm.trans ?_;rw[List.map_cons,enF];simp? only[yh,p,co,RU.cs,Qt,c,fw,three,f3D]
   ·rw[qb4,if_pos c] at q;cases q
   ·rw[qb4,if_pos c] at q;cases q;rfl
  ·obtain⟨F,ih,f1,f2⟩:=qbf k b hp st hs hl e rest (i+1) (.val (.int i)) (.val (ruI x.1)) (.own ((jE st x).map paD)) nxt;rw[qb4,if_neg c];refine⟨F,?_,f1,f2⟩;refine(qh _).symm.trans ?_;rw[List.map_cons,enF];simp? only[yh,p,co,RU.cs,Qt,c,ih]
theorem qj7(k:Nat){st:List St}{e:Int}(h:Kp rs ps st e){z:Str}(hz:NameOk z)(hl:st.length<=160):clK pg (k+7) "fault_on" [.val (bkI rs ps),.val (.lst (st.map stD++[.tup [.str z,.int e,.int e]])),.val (.int e)]=.ok (.val (Ys (qt rs ps (st++[(z,e,e)])))):=by
 have a:=Qu (pg:=pg) (k+5) rs ps;have e9:st.map stD++[.tup [.str z,.int e,.int e]]=(st++[(z,e,e)]).map stD:=by rw[List.map_append];rfl
 have F:=h.fon (z:=z);have c1:=h.ch1 (z:=z);rw[e9,<-F];generalize hS:st++[(z,e,e)]=S at c1
 have hn:∀s∈S,NameOk s.1:=λs hs=>by
  rw[<-hS] at hs;rcases List.mem_append.mp hs with y | y
  ·exact h.nm s y
  ·rw[List.mem_singleton.mp y];exact hz
 obtain⟨F,lp,f1,f2⟩:=qbf (pg:=pg) (rs:=rs) k false h.p18 S hn (by rw[<-hS,List.length_append];show st.length+1<=170;omega) e (rlF ps 0 rs) 0 .no .no .no (λj x hx=>by have hm:=List.mem_of_getElem? hx;rw[Qv] at hx;obtain⟨r,e1,e2⟩:=Option.map_eq_some_iff.mp hx;rw[Nat.zero_add];rw[Nat.zero_add] at e2;exact⟨by rw[e1,<-e2],by rw[<-e2],qdt (h.w x hm) c1⟩)
 rw[qdd,show pS false (S.map stD)=.val (.lst (S.map stD)) from rfl] at lp;rw[r_fault_on]
 cases q:qb4 S e (rlF ps 0 rs) 0 with
 |none=>
  obtain⟨ρ',e'⟩:=f1 q;rw[e'] at lp
  try simp only[Zt,Zu,Ys] at lp ⊢
  simp? only[Jc,RU.cs,JE,a,zL,lp]
 |some w=>
  rw[f2 w q] at lp
  try simp only[Zt,Zu,Ys] at lp ⊢
  simp? only[Jc,RU.cs,JE,a,zL,lp]
theorem qdy(k:Nat){st:List St}{e:Int}(h:Kp rs ps st e)(hl:st.length<=160)(v2:Sl):∀(zs:List Str) (acc:List (Str×Int×Int×Int)) (s5 s6:Sl),(∀z∈zs,NameOk z)->acc.length+zs.length < 1000->
  ∃F,jF (pg.kk (k+7)) 1000 (.one 5) zG (zs.map D.str) [.val (bkI rs ps),.bor (st.map stD),v2,.val (.int e),.own (acc.map JG),s5,s6]=.ok F/\((pdF rs ps st e zs acc).1=none->∃s5' s6',F=.next [.val (bkI rs ps),.bor (st.map stD),v2,.val (.int e),.own ((pdF rs ps st e zs acc).2.map JG),s5',s6'])/\∀z,(pdF rs ps st e zs acc).1=some z->F=.ret (.val (pdD e (pdF rs ps st e zs acc)))
 |[],acc,s5,s6,_,_=>⟨_,rfl,λ_=>⟨_,_,rfl⟩,λz q=>by cases q⟩
 | z::zs,acc,s5,s6,hz,ha=>by
  rw[List.length_cons] at ha;have fo:=qj7 (pg:=pg) k h (hz z (by simp)) hl;have one:0+1<=sizeLine:=by decide+kernel
  have two:0+1+1<=sizeLine:=by decide+kernel
  have three:0+1+1+1<=sizeLine:=by decide+kernel
  have z1:st.length+(0+1)<=sizeLine:=qG (1:);have za:acc.length < sizeLine:=qp (1:);rw[pdF,List.map_cons]
  cases q:qt rs ps (st++[(z,e,e)]) with
  |none=>rw[q] at fo;dsimp only[Ys] at fo ⊢;refine⟨.ret (.val (pdD e (some z,acc))),?_,λw=>(by cases w),λw hw=>rfl⟩;refine(qh _).symm.trans ?_;simp? only[jj,one,three,List.length_map,z1,fo,pdD,qhP]
  |some f=>rw[q] at fo;obtain⟨F,ih,f1,f2⟩:=qdy k h hl v2 zs (acc++[(z,f)]) (.val (.str z)) (.val (f3D f)) (λy hy=>hz y (by simp[hy])) (by simp;omega);dsimp only[Ys] at fo ⊢;refine⟨F,?_,f1,f2⟩;simp only[List.map_append,List.map_cons,List.map_nil,JG] at ih;rw[show(f3D f)=.tup [.int f.1,.int f.2.1,.int f.2.2] from rfl] at fo ih;refine(qh _).symm.trans ?_;simp? only[jj,one,two,three,List.length_map,z1,za,fo,ih]
theorem qlw(k:Nat)(b2:Bool){st:List St}{e:Int}(h:Kp rs ps st e)(hl:st.length<=160)(zs:List Str)(hz:∀z∈zs,NameOk z)(hzl:zs.length < 1000):clK pg (k+8) "planned_day" [.val (bkI rs ps),.bor (st.map stD),aL b2 (zs.map D.str),.val (.int e)]=.ok (.val (pdD e (pdF rs ps st e zs []))):=by
 obtain⟨F,lp,f1,f2⟩:=qdy (pg:=pg) k h hl (pS b2 (zs.map D.str)) zs [] .no .no hz (by simp;omega);rw[List.map_nil] at lp;have z0:(0:Nat)<=sizeLine:=by decide+kernel
 have three:0+1+1+1<=sizeLine:=by decide+kernel
 rw[r_planned_day]
 cases q:(pdF rs ps st e zs []).1 with
 |none=>obtain⟨s5',s6',e'⟩:=f1 q;rw[e'] at lp;simp? only[jt,z0,three,lp,pdD,q,qhP]
 |some w=>rw[f2 w q] at lp;simp? only[jt,z0,three,lp]
end
end DG
namespace DG
open PySem DE FA Dy
open L2 hiding St
open CH ST SP RU BO BT PC SU FK FM FO LI PN PF
section
variable{pg:Pg}[CH pg]
theorem YY(k:Nat)(v0 v1:Sl):∀(zs acc:List Str) (s3:Sl),(∀z∈zs,NameOk z)->(acc++zs).Nodup->acc.length+zs.length < 1000->
  ∃s3',jF (pg.kk (k+2)) 1000 (.one 3) js (zs.map D.str) [v0,v1,.own (acc.map D.str),s3]=.ok (.next [v0,v1,.own ((acc++zs).map D.str),s3'])
 |[],acc,s3,_,_,_=>⟨s3,by simp[qM]⟩
 | z::zs,acc,s3,hz,hn,ha=>by
  rw[List.length_cons] at ha;have nm:=qai (pg:=pg) k z (hz z (by simp));have mm:=ZA z acc
  have nc:acc.contains z=false:=by
   rw[List.contains_eq_any_beq,List.any_eq_false];intro y hy q;have q:z=y:=by simpa using q
   subst q;exact(List.nodup_append.mp hn).2.2 z hy z (by simp) rfl
  rw[nc] at mm;obtain⟨s3',ih⟩:=YY k v0 v1 zs (acc++[z]) (.val (.str z)) (λy hy=>hz y (by simp[hy])) (by simpa using hn) (by simp;omega);refine⟨s3',?_⟩;have za:acc.length < sizeLine:=qp (1:);simp only[List.map_append,List.map_cons,List.map_nil,List.append_assoc,List.cons_append,List.nil_append] at ih ⊢;refine(qh _).symm.trans ?_;simp? only[Yn,nm,mm,List.length_map,za,ih]
theorem qau[PN pg](k:Nat)(b:Bool)(zs:List Str)(hz:∀z∈zs,NameOk z)(hn:zs.Nodup)(h1:1<=zs.length)(h6:zs.length<=6):clK pg (k+3) "are_names" [aL b (zs.map D.str),.val (.int 6)]=.ok (.val (.bl true)):=by
 obtain⟨s3,lp⟩:=YY (pg:=pg) k (pS b (zs.map D.str)) (.val (.int 6)) zs [] .no hz (by simpa using hn) (by simp;omega);rw[List.map_nil,List.nil_append] at lp;have z0:(0:Nat)<=sizeLine:=by decide+kernel
 have c1:¬ (zs.length:Int) < 1:=by omega
 have c6:¬ (6:Int) < (zs.length:Int):=by omega
 rw[r_are_names]
 cases b with
 |true=>rw[show pS true (zs.map D.str)=.bor (zs.map D.str) from rfl] at lp;simp only[Zt];simp? only[yu,List.length_map,c1,c6,z0,lp]
 |false=>rw[show pS false (zs.map D.str)=.val (.lst (zs.map D.str)) from rfl] at lp;simp only[Zu];simp? only[yu,List.length_map,c1,c6,z0,lp]
end
section
variable{pg:Pg}[RU pg][BO pg][SP pg][BT pg][PC pg][SU pg][FK pg][PF pg]{rs:List Ru}{ps:List Pa}
theorem qav(k:Nat)(b2:Bool)(zs:List Str)(hz:∀z∈zs,NameOk z)(hzl:zs.length < 1000)(v1 v3 v4:Sl):∀(n:Nat) (e:Int) (st:List St) (acc:List D) (s7 s8:Sl),Kp rs ps st e->st.length+n<=160->acc.length+n < 1000->
  ∃s7' s8',jF (pg.kk (k+8)) 1000 (.one 7) yv (rgF e n) [.val (bkI rs ps),v1,pS b2 (zs.map D.str),v3,v4,.own (st.map stD),.own acc,s7,s8]=.ok (.next [.val (bkI rs ps),v1,pS b2 (zs.map D.str),v3,v4,.own ((plF rs ps zs n e st).2.map stD),.own (acc++(plF rs ps zs n e st).1),s7',s8'])
 |0,e,st,acc,s7,s8,_,_,_=>⟨s7,s8,by simp[rgF,plF,qM]⟩
 | n+1,e,st,acc,s7,s8,h,hl,ha=>by
  have pd:=qlw (pg:=pg) k b2 h (1:) zs hz hzl;have kp:=h.keep (zs:=zs) hz;have za:acc.length < sizeLine:=qp (1:);have zs':st.length < sizeLine:=qp (1:);have three:0+1+1+1<=sizeLine:=by decide+kernel
  have a1:∀x y z:D,atI [x,y,z] 1=some y:=λ_ _ _=>rfl;rw[plF]
  cases q:(pdF rs ps st e zs []).1 with
  |none=>rw[q] at kp;obtain⟨s7',s8',ih⟩:=qav k b2 zs hz hzl v1 v3 v4 n (e+1) st (acc++[pdD e (pdF rs ps st e zs [])]) (.val (.int e)) (.val (pdD e (pdF rs ps st e zs []))) kp (1:) (by simp;omega);refine⟨s7',s8',?_⟩;dsimp only[ZQ];rw[List.append_assoc,List.cons_append,List.nil_append] at ih;rw[show pdD e (pdF rs ps st e zs [])=.tup [.int e,.non,.lst ((pdF rs ps st e zs []).2.map JG)] by rw[pdD,q];rfl] at pd ih ⊢;generalize (pdF rs ps st e zs []).2.map JG=L at pd ih ⊢;refine(qh _).symm.trans ?_;rw[rgF];simp? only[yU,pd,za,a1,ih]
  |some z=>rw[q] at kp;obtain⟨s7',s8',ih⟩:=qav k b2 zs hz hzl v1 v3 v4 n (e+1) (st++[(z,e,e)]) (acc++[pdD e (pdF rs ps st e zs [])]) (.val (.int e)) (.val (pdD e (pdF rs ps st e zs []))) kp (by rw[List.length_append];show st.length+1+n<=160;omega) (by simp;omega);refine⟨s7',s8',?_⟩;dsimp only[ZQ];rw[List.append_assoc,List.cons_append,List.nil_append,List.map_append (l₁:=st),List.map_cons,List.map_nil,ye] at ih;rw[show pdD e (pdF rs ps st e zs [])=.tup [.int e,.str z,.lst ((pdF rs ps st e zs []).2.map JG)] by rw[pdD,q];rfl] at pd ih ⊢;generalize (pdF rs ps st e zs []).2.map JG=L at pd ih ⊢;dsimp only at ih;refine(qh _).symm.trans ?_;rw[rgF];simp? only[yU,pd,za,zs',three,List.length_map,a1,ih]
end
section
variable{pg:Pg}[CH pg][ST pg][RU pg][BO pg][SP pg][BT pg][PC pg][SU pg][FK pg][FM pg][LI pg][PN pg][PF pg]{rs:List Ru}{ps:List Pa}
theorem qhs(k:Nat)(b b2:Bool){st:List St}(o:LimOk rs ps st){d:Int}(h0:0<=d)(h1:d<=1000000000)(h:∀s∈st,s.2.2 < d)(zs:List Str)(hz:∀z∈zs,NameOk z)(hn:zs.Nodup)(hl1:1<=zs.length)(hl6:zs.length<=6)(n:Nat)(hn100:n<=100) :
  clK pg (k+9) "plan_of" [.val (bkI rs ps),aL b (st.map stD),aL b2 (zs.map D.str),.val (.int d),.val (.int (n:Int))]=.ok (.tmp (plF rs ps zs n d st).1):=by
 have e1:=qj4 (pg:=pg) k b rs ps o.p18 st o.ch o.nm o.len (λx hx=>qdt (o.w x hx) o.ch.w) (qdv o.ch.w o.w o.fit);have e2:clK pg (k+8) "check_day" [.bor (st.map stD),.val (.int d)]=.ok (.val .non):=qat (pg:=pg) (k+5) true st o.len d h0 h1 (qhr h h0);have e3:clK pg (k+8) "are_names" [aL b2 (zs.map D.str),.val (.int 6)]=.ok (.val (.bl true)):=qau (pg:=pg) (k+5) b2 zs hz hn hl1 hl6;obtain⟨s7,s8,lp⟩:=qav (pg:=pg) k b2 zs hz (1:) (pS b (st.map stD)) (.val (.int d)) (.val (.int (n:Int))) n d st [] .no .no ⟨o.w,o.p18,o.ch.w,o.nm,o.fit,h,h0⟩ (by have:=o.len;omega) (by simp;omega);rw[List.nil_append] at lp;have z0:(0:Nat)<=sizeLine:=by decide+kernel
 have s1:qw d=true:=yG (1:) (1:);have s2:qw (d+(n:Int))=true:=yG (1:) (1:);have tn:(d+(n:Int) - d).toNat=n:=by omega
 rw[r_plan_of];simp? only[ZP,e1,e2,e3,z0,s1,s2,zy,tn,lp]
end
end DG
namespace K51
open PySem L2 DE DG FA
noncomputable def top(i:Nat):Stmt:=PySem.Challenge.pw_daysgate_k51_plans_day_by_day.main.body.getD i (.Pass ⟨0,0,0,0⟩)
def mem(i j:Nat):Stmt:=(qg3 (top i)).getD j (.Pass ⟨0,0,0,0⟩)
noncomputable def pg:Pg:={ defs:=[(("is_whole" : Str),top 5),(("is_between" : Str),top 6),(("are_days" : Str),top 7),(("is_made_of" : Str),top 8),(("is_name" : Str),top 9),(("are_names" : Str),top 10),(("spread" : Str),top 19),(("both" : Str),top 20),(("outside" : Str),top 21),(("less" : Str),top 22),(("is_land" : Str),top 26),(("are_lands" : Str),top 27),(("is_stay" : Str),top 34),(("stays_of" : Str),top 35),(("pieces_among" : Str),top 37),(("sum_of" : Str),top 38),(("first_since" : Str),top 39),(("first_of_window" : Str),top 40),(("count_among" : Str),top 41),(("turns_of" : Str),top 42),(("first_above" : Str),top 43),(("first_broken" : Str),top 44),(("fault_among" : Str),top 45),(("fault_of" : Str),top 46),(("let_stays" : Str),top 48),(("check_day" : Str),top 49),(("fault_on" : Str),top 52),(("planned_day" : Str),top 53),(("plan_of" : Str),top 54),(("are_rules" : Str),top 58),(("is_paper" : Str),top 59),(("check_papers" : Str),top 60),(("_law_cell_at" : Str),top 63),(("_law_lands" : Str),top 64),(("_law_rule" : Str),top 65),(("_law_made" : Str),top 66),(("_law_paper" : Str),top 67),(("_law_stays" : Str),top 68),(("_law_let" : Str),top 69),(("_law_wishes" : Str),top 70),(("_law_day_right" : Str),top 71),(("law" : Str),top 72)],gl:=λx=>if x = "GREATEST" then some (.int 1000000000) else if x = "LETTERS" then some (.str "abcdefghijklmnopqrstuvwxyz") else if x = "LONGEST_NAME" then some (.int 8) else if x = "MOST_LANDS" then some (.int 6) else if x = "GREATEST_WEIGHT" then some (.int 9) else if x = "MOST_STAYS" then some (.int 60) else if x = "MOST_WISHES" then some (.int 6) else if x = "MOST_RULES" then some (.int 8) else if x = "MOST_PAPERS" then some (.int 12) else none,m:=40,w:=1000,meths:=[("Rule.weight",mem 28 1),("Book.rules",mem 61 1),("Book.papers",mem 61 2),("Book.lifted",mem 61 3)],cs:=pcs,nw:=pnw }
instance:DG.CH pg:=⟨%[5|1],%[6|1],%[7|1],%[8|1],%[9|1]⟩
instance:DG.ST pg:=⟨%[34|1],%[35|1]⟩
instance:DG.SP pg:=⟨%[19|1]⟩
instance:DG.RU pg:=⟨rfl,rfl,%[26|1],%[27|1],qm (pg:=pg) (st:=mem 28 1) (by kernel_rfl) (λk cl=>by kernel_rfl)⟩
instance:DG.BO pg:=⟨%[58|1],%[59|1],%[60|1],qm (pg:=pg) (st:=mem 61 1) (by kernel_rfl) (λk cl=>by kernel_rfl),qm (pg:=pg) (st:=mem 61 2) (by kernel_rfl) (λk cl=>by kernel_rfl),qm (pg:=pg) (st:=mem 61 3) (by kernel_rfl) (λk cl=>by kernel_rfl)⟩
instance:FA.LC pg:=⟨%[63|1]⟩
instance:FA.LN pg:=⟨%[64|1]⟩
instance:FA.LM pg:=⟨%[66|1]⟩
instance:FA.LP pg:=⟨%[67|1]⟩
instance:DG.BT pg:=⟨%[20|1],%[21|1],%[22|1]⟩
instance:DG.PC pg:=⟨%[37|1]⟩
instance:DG.SU pg:=⟨%[38|1],%[39|1],%[40|1],%[41|1]⟩
instance:DG.FK pg:=⟨%[42|1],%[43|1],%[44|1]⟩
instance:DG.FM pg:=⟨%[45|1]⟩
instance:DG.FO pg:=⟨%[46|1]⟩
instance:DG.LI pg:=⟨%[48|1],%[49|1]⟩
instance:DG.PN pg:=⟨%[10|1]⟩
instance:DG.PF pg:=⟨%[52|1],%[53|1],%[54|1]⟩
noncomputable abbrev qU:Ss:=%[.app 3 (.tup %[.idx (.var 1) (.bin .Mod (.bin .Add (.bin .FloorDiv (.var 2) (.con (.int 18))) (.var 4)) (.b1 .len (.var 1))),.bin .Add (.con (.int 1)) (.bin .Mod (.bin .FloorDiv (.bin .FloorDiv (.var 2) (.con (.int 108))) (.bin .Add (.var 4) (.con (.int 1)))) (.idx (.lst %[.con (.int 9),.con (.int 2),.con (.int 2)|0]) (.bin .Mod (.bin .Add (.var 2) (.var 4)) (.con (.int 3)))))|0])|0]
def qE:Ss:=qU
noncomputable def ju:Nat×Nat×Ss:=(2,7,%[.set 2 (.bin .Mod (.bin .Mult (.var 0) (.con (.int 1099087573))) (.con (.int 10000000000037))),.set 3 (.lst .nil),.for_ (.one 4) (.rng (.bin .Add (.con (.int 1)) (.bin .Mod (.bin .FloorDiv (.var 2) (.con (.int 3))) (.b1 .len (.var 1))))) qE,.set 5 (.bin .Mod (.bin .FloorDiv (.var 2) (.con (.int 972))) (.con (.int 25))),.set 6 (.bin .Add (.con (.int 1)) (.bin .Mod (.bin .FloorDiv (.var 2) (.con (.int 24300))) (.idx (.lst %[.con (.int 40),.con (.int 40),.bin .Pow (.con (.int 10)) (.con (.int 6))|0]) (.bin .Mod (.bin .FloorDiv (.var 2) (.con (.int 7))) (.con (.int 3)))))),.ite (.cmp .Eq (.bin .Mod (.var 2) (.con (.int 3))) (.con (.int 0))) %[.ret (.tup %[.con (.str "within"),3,5,6|0])|0] .nil,.ite (.cmp .Eq (.bin .Mod (.var 2) (.con (.int 3))) (.con (.int 1))) %[.ret (.tup %[.con (.str "since"),3,5,6|0])|0] .nil,.ret (.tup %[.con (.str "row"),3,5,.con (.int 1)|0])|0])
theorem yw:RW pg "_law_rule" ju:=%[65|1]
noncomputable abbrev jX:Ss:=%[.set 6 (.bin .Mod (.bin .Mult (.var 5) (.con (.int 1099087573))) (.con (.int 10000000000037))),.set 7 (.bin .Add (.var 4) (.bin .Mult (.bin .Mod (.var 6) (.con (.int 6))) (.bin .Mod (.bin .FloorDiv (.var 6) (.con (.int 6))) (.con (.int 3))))),.ite (.cmp .Eq (.bin .Mod (.bin .FloorDiv (.var 6) (.con (.int 11))) (.con (.int 3))) (.con (.int 0))) %[.set 7 (.bin .Add (.var 4) (.bin .Mod (.bin .FloorDiv (.var 6) (.con (.int 1458))) (.bin .Pow (.con (.int 10)) (.con (.int 6)))))|0] .nil,.set 8 (.bin .Add (.var 7) (.bin .Mod (.bin .FloorDiv (.var 6) (.con (.int 18))) (.con (.int 9)))),.app 3 (.tup %[.idx (.var 1) (.bin .Mod (.bin .FloorDiv (.var 6) (.con (.int 162))) (.b1 .len (.var 1))),7,8|0]),.set 4 (.bin .Add (.var 8) (.con (.int 1)))|0]
def zX:Ss:=jX
theorem Jy:USs zX jX:=λ_ _ _ _=>(rfl)
noncomputable def Jt:Nat×Nat×Ss:=(3,9,%[.set 3 (.lst .nil),.set 4 (.var 2),.for_ (.one 5) (.seq (.var 0)) zX,.ret (.var 3)|0])
theorem ZR:RW pg "_law_stays" Jt:=%[68|1]
noncomputable abbrev yV:Ss:=%[.ite (.cmp .Lt (.var 5) (.idx (.var 2) (.con (.int 0)))) %[.app 3 (.tup %[4,5,.b2 .min (.var 6) (.bin .Sub (.idx (.var 2) (.con (.int 0))) (.con (.int 1)))|0])|0] .nil|0]
def jY:Ss:=yV
theorem yi:USs jY yV:=λ_ _ _ _=>(rfl)
noncomputable def Jd:Nat×Nat×Ss:=(2,7,%[.set 2 (.call "fault_of" %[0,1|0]),.ite (.cmp .Is (.var 2) (.con .non)) %[.ret (.var 1)|0] .nil,.set 3 (.lst .nil),.for_ (.many [4,5,6]) (.seq (.var 1)) jY,.ret (.var 3)|0])
theorem YZ:RW pg "_law_let" Jd:=%[69|1]
noncomputable abbrev jC:Ss:=%[.app 2 (.idx (.var 0) (.bin .Mod (.bin .Add (.bin .FloorDiv (.var 1) (.con (.int 4))) (.bin .Mult (.var 3) (.bin .Add (.con (.int 1)) (.bin .Mod (.bin .FloorDiv (.var 1) (.con (.int 16))) (.con (.int 2)))))) (.b1 .len (.var 0))))|0]
def zH:Ss:=jC
theorem Je:USs zH jC:=λ_ _ _ _=>(rfl)
abbrev jD:E:=(.var 1)
def zI:E:=jD
theorem jk:UE zI jD:=λ_ _ _=>(rfl)
noncomputable def yW:Nat×Nat×Ss:=(2,4,%[.set 2 (.lst .nil),.for_ (.one 3) (.rng (.bin .Add (.con (.int 1)) (.bin .Mod (.var 1) (.b1 .len (.var 0))))) zH,.ret (.comp zI (.enum (.var 2)) (.many [0,1]) (.test (.cmp .NotIn (.var 1) (.sli (.var 2) .none (.some (.var 0))))) 2 [2])|0])
theorem QI:RW pg "_law_wishes" yW:=%[70|1]
noncomputable abbrev zJ:Ss:=%[.set 8 (.call "fault_of" %[0,.bin .Add (.var 1) (.lst %[.tup %[6,4,4|0]|0])|0]),.ite (.or (.not (.val (.isi Ty.tuple (.var 7)))) (.or (.cmp .NotEq (.var 7) (.tup %[6,8|0])) (.or (.cmp .Is (.var 8) (.con .non)) (.one (.cmp .NotEq (.idx (.var 8) (.con (.int 0))) (.var 4)))))) %[.ret (.con (.bl false))|0] .nil|0]
def qO:Ss:=zJ
theorem j7:USs qO zJ:=λ_ _ _ _=>(rfl)
noncomputable def zh:Nat×Nat×Ss:=(5,9,%[.ite (.or (.not (.val (.isi Ty.tuple (.var 3)))) (.or (.cmp .NotEq (.b1 .len (.var 3)) (.con (.int 3))) (.or (.cmp .NotEq (.idx (.var 3) (.con (.int 0))) (.var 4)) (.one (.not (.val (.isi Ty.list (.idx (.var 3) (.con (.int 2)))))))))) %[.ret (.con (.bl false))|0] .nil,.set 5 (.b1 .len (.var 2)),.ite (.cmp .IsNot (.idx (.var 3) (.con (.int 1))) (.con .non)) %[.ite (.or (.cmp .NotIn (.idx (.var 3) (.con (.int 1))) (.var 2)) (.one (.cmp .IsNot (.call "fault_of" %[0,.bin .Add (.var 1) (.lst %[.tup %[.idx (.var 3) (.con (.int 1)),4,4|0]|0])|0]) (.con .non)))) %[.ret (.con (.bl false))|0] .nil,.set 5 (.met (.var 2) "index" %[.idx (.var 3) (.con (.int 1))|0])|0] .nil,.ite (.cmp .NotEq (.b1 .len (.idx (.var 3) (.con (.int 2)))) (.var 5)) %[.ret (.con (.bl false))|0] .nil,.for_ (.many [6,7]) (.zip (.var 2) (.idx (.var 3) (.con (.int 2)))) qO,.ret (.con (.bl true))|0])
theorem Jz:RW pg "_law_day_right" zh:=%[71|1]
abbrev qbg:E:=(.call "_law_rule" %[0,1|0])
def qaw:E:=qbg
theorem qdz:UE qaw qbg:=λ_ _ _=>(rfl)
noncomputable abbrev qe0:E:=(.call "_law_paper" %[0,.b1 .len (.var 2),1|0])
def qdA:E:=qe0
abbrev qbh:E:=(.call "_law_made" %[0|0])
def qax:E:=qbh
theorem qdB:UE qax qbh:=λ_ _ _=>(rfl)
noncomputable abbrev qbi:Ss:=%[.ite (.not (.val (.call "_law_day_right" %[6,12,7,14,.bin .Add (.var 8) (.var 13)|0]))) %[.ret (.con (.bl false))|0] .nil,.ite (.cmp .IsNot (.idx (.var 14) (.con (.int 1))) (.con .non)) %[.app 12 (.tup %[.idx (.var 14) (.con (.int 1)),.bin .Add (.var 8) (.var 13),.bin .Add (.var 8) (.var 13)|0])|0] .nil|0]
def qay:Ss:=qbi
theorem ZS:USs qay qbi:=λ_ _ _ _=>(rfl)
noncomputable def qht:Nat×Nat×Ss:=(1,15,%[.set 1 (.call "_law_lands" %[.call "_law_cell_at" %[0,.con (.int 0)|0],.bin .Add (.con (.int 2)) (.bin .Mod (.bin .FloorDiv (.call "_law_cell_at" %[0,.con (.int 0)|0]) (.con (.int 512))) (.con (.int 3)))|0]),.set 2 (.bin .Mod (.call "_law_cell_at" %[0,.con (.int 1)|0]) (.bin .Sub (.bin .Pow (.con (.int 10)) (.con (.int 9))) (.bin .Pow (.con (.int 10)) (.con (.int 7))))),.set 3 (.comp qaw (.seq (.bin .Add (.lst %[.call "_law_cell_at" %[0,.con (.int 2)|0]|0]) (.sli (.var 0) (.some (.con (.int 3))) (.some (.con (.int 5)))))) (.one 0) .yes 1 [1]),.set 4 (.comp qdA (.seq (.sli (.var 0) (.some (.con (.int 6))) (.some (.con (.int 9))))) (.one 0) .yes 1 [2,3]),.set 5 (.call "_law_stays" %[.sli (.var 0) (.some (.con (.int 9))) (.some (.con (.int 14))),1,2|0]),.set 6 (.new "Book" %[.comp qax (.seq (.var 3)) (.one 0) .yes 1 [],4|0]),.set 5 (.calF "_law_let" %[6,5|0]),.set 7 (.call "_law_wishes" %[1,.bin .FloorDiv (.call "_law_cell_at" %[0,.con (.int 2)|0]) (.con (.int 7))|0]),.set 8 (.bin .Add (.var 2) (.bin .Mod (.call "_law_cell_at" %[0,.con (.int 3)|0]) (.con (.int 9)))),.ite (.cmp .NotEq (.var 5) (.lst .nil)) %[.set 8 (.bin .Add (.bin .Add (.idx (.idx (.var 5) (.bin .Sub (.b1 .len (.var 5)) (.con (.int 1)))) (.con (.int 2))) (.con (.int 1))) (.bin .Mod (.call "_law_cell_at" %[0,.con (.int 3)|0]) (.con (.int 9))))|0] .nil,.set 9 (.bin .Mod (.call "_law_cell_at" %[0,.con (.int 4)|0]) (.con (.int 7))),.set 10 (.lst %[.b1 .list (.var 5),.b1 .list (.var 7)|0]),.set 11 (.call "plan_of" %[6,.idx (.var 10) (.con (.int 0)),.idx (.var 10) (.con (.int 1)),8,9|0]),.ite (.or (.not (.val (.isi Ty.list (.var 11)))) (.or (.cmp .NotEq (.b1 .len (.var 11)) (.var 9)) (.one (.cmp .NotEq (.var 10) (.lst %[5,7|0]))))) %[.ret (.con (.bl false))|0] .nil,.set 12 (.b1 .list (.var 5)),.for_ (.many [13,14]) (.enum (.var 11)) qay,.ret (.cmp .Is (.call "fault_of" %[6,12|0]) (.con .non))|0])
theorem qlx:RW pg "law" qht:=%[72|1]
end K51
namespace K51
open PySem DE DG FA Dy
open L2 hiding St
structure RuW(r:Ru):Prop where
 lands:qv (r.lands.map lnD)=true
 ok:∀p∈r.lands,LnOk p
 m0:0<=r.most
 m1:r.most<=24
 d0:1<=r.days
 d1:r.days<=1000000
 row:r.kd=.ro->r.days=1
theorem qhu(k:Nat)(c:Int)(zs:List Str)(hz:NamesOk zs):∃r:Ru,RuW r/\clK pg (k+1) "_law_rule" [.val (.int c),.bor (zs.map D.str)]=.ok (.val (ruD r)):=by
 have hL:(0:Int) < (zs.length:Int):=by have:=hz.two;omega
 have hn:0<=c * 1099087573 % 10000000000037:=Int.emod_nonneg _ (2:);generalize hN:c * 1099087573 % 10000000000037=n at hn;have m0:0<=n / 3 % (zs.length:Int):=Int.emod_nonneg _ (1:);have m1:n / 3 % (zs.length:Int) < zs.length:=Int.emod_lt_of_pos _ hL;have four:=hz.four;obtain⟨m,em⟩:∃m:Nat,1+n / 3 % (zs.length:Int)=(m:Int):=⟨(1+n / 3 % (zs.length:Int)).toNat,by omega⟩;obtain⟨l,s4',e,e1,e2⟩:=ZD (pg.kk k) (.val (.int c)) n hn zs hz m [] .no .no .no (by simp;omega) (λi p hp=>by simp at hp);simp at e1;rw[List.map_nil,show((([]:List (Str×Int)).length:Nat):Int)=0 from rfl,show FA.qE=qE from rfl] at e
 have ok:∀p∈l,LnOk p:=λp hp=>by obtain⟨i,hi⟩:=List.getElem?_of_mem hp;exact(e2 i p hi).2
 have lok:qv (l.map lnD)=true:=qbM ok (e2.nodup hz (1:)) (1:) (1:);have t0:0<=n / 972 % 25:=Int.emod_nonneg _ (2:);have t1:n / 972 % 25 < 25:=Int.emod_lt_of_pos _ (2:)
 obtain⟨w,aw,w0,w1⟩:∃w:Int,atI [D.int 40,.int 40,.int 1000000] (n / 7 % 3)=some (.int w)/\0 < w/\w<=1000000:=by
  have q0:=Int.emod_nonneg (n / 7) (show(3:Int)≠0 by decide);have q1:=Int.emod_lt_of_pos (n / 7) (show(0:Int) < 3 by decide)
  have:n / 7 % 3=0\/n / 7 % 3=1\/n / 7 % 3=2:=by omega
  rcases this with y | y | y<;>rw[y]
  ·exact⟨40,rfl,by decide,by decide⟩
  ·exact⟨40,rfl,by decide,by decide⟩
  ·exact⟨1000000,rfl,by decide,by decide⟩
 have d0:0<=n / 24300 % w:=Int.emod_nonneg _ (1:);have d1:n / 24300 % w < w:=Int.emod_lt_of_pos _ w0;have mul:QQ c 1099087573=true:=J2 (2:) (2:);have sm:qw (m:Int)=true:=yG (1:) (1:);have p6:(10:Int) ^ (6:Int).toNat=1000000:=by decide
 have c6:(0:Int)<=6/\(6:Int)<=1000000/\(10:Int).natAbs < 2 ^ 64:=by decide
 have three:0+1+1+1<=sizeLine:=by decide+kernel
 have four':0+1+1+1+1<=sizeLine:=by decide+kernel
 have zero:(0:Nat)<=sizeLine:=by decide+kernel
 by_cases c0:n % 3=0
 ·refine⟨⟨.wi,l,n / 972 % 25,1+n / 24300 % w⟩,⟨lok,ok,t0,by show n / 972 % 25<=24;omega,by show 1<=1+_;omega,by show 1+_<=1000000;omega,λz=>(by cases z)⟩,?_⟩;have hb:(n % 3 == 0)=true:=by simpa using c0
  rw[yw];simp? only[ju,List.length_map,mul,hN,hL,em,sm,zy,Int.sub_zero,Int.toNat_natCast,e,p6,c6,three,aw,w0,qF,hb,four',zero,ruD,Kd.nm]
 by_cases c1:n % 3=1
 ·refine⟨⟨.si,l,n / 972 % 25,1+n / 24300 % w⟩,⟨lok,ok,t0,by show n / 972 % 25<=24;omega,by show 1<=1+_;omega,by show 1+_<=1000000;omega,λz=>(by cases z)⟩,?_⟩;have hb:(n % 3 == 0)=false:=by simpa using c0
  have hc:(n % 3 == 1)=true:=by simpa using c1
  rw[yw];simp? only[ju,List.length_map,mul,hN,hL,em,sm,zy,Int.sub_zero,Int.toNat_natCast,e,p6,c6,three,aw,w0,qF,hb,hc,four',zero,ruD,Kd.nm]
 ·refine⟨⟨.ro,l,n / 972 % 25,1⟩,⟨lok,ok,t0,by show n / 972 % 25<=24;omega,by show(1:Int)<=1;omega,by show(1:Int)<=1000000;omega,λ_=>rfl⟩,?_⟩;have hb:(n % 3 == 0)=false:=by simpa using c0
  have hc:(n % 3 == 1)=false:=by simpa using c1
  rw[yw];simp? only[ju,List.length_map,mul,hN,hL,em,sm,zy,Int.sub_zero,Int.toNat_natCast,e,p6,c6,three,aw,w0,qF,hb,hc,four',zero,ruD,Kd.nm]
theorem Y0(zs:List Str)(hz:NamesOk zs):∀(cs:List Int) (acc:List D) (s0:Sl),acc.length+cs.length < 10000->∃rs:List Ru,(∀r∈rs,RuW r)/\rs.length=cs.length/\zS (pg.kk 19) qaw (.one 0) .yes (cs.map D.int) [s0,.bor (zs.map D.str)] acc=.ok (acc++rs.map ruD)
 |[],acc,s0,_=>⟨[],λr h=>(by cases h),rfl,by simp[qW]⟩
 | c::cs,acc,s0,hl=>by
  rw[List.length_cons] at hl;obtain⟨r,h1,h2⟩:=qhu 18 c zs hz;have h2:clK pg 19 "_law_rule" [.val (.int c),.bor (zs.map D.str)]=_:=h2;obtain⟨rs,i1,i2,i3⟩:=Y0 zs hz cs (acc++[ruD r]) (.val (.int c)) (by simp;omega);refine⟨r::rs,λx hx=>?_,by simp[i2],?_⟩
  ·rcases List.mem_cons.mp hx with rfl | hx
   ·exact h1
   ·exact i1 x hx
  ·have hs:acc.length < sizeLine:=qp (1:);simp only[List.append_assoc,List.cons_append,List.nil_append] at i3;refine(qh _).symm.trans ?_;rw[List.map_cons,List.map_cons];simp? only[qdz,h2,hs,i3]
theorem ZT:∀(rs:List Ru) (acc:List D) (s0:Sl),acc.length+rs.length < 10000->(∀r∈rs,RuW r)->zS (pg.kk 19) qax (.one 0) .yes (rs.map ruD) [s0] acc=.ok (acc++rs.map ruI)
 |[],acc,s0,_,_=>by simp[qW]
 | r::rs,acc,s0,hl,h=>by rw[List.length_cons] at hl;have w:=h r (by simp);have h2:clK pg 19 "_law_made" [.val (ruD r)]=.ok (.val (ruI r)):=qeP (pg:=pg) 6 r w.lands w.m0 (by have:=w.m1;omega) w.d0 (by have:=w.d1;omega) w.row;have i3:=ZT rs (acc++[ruI r]) (.val (ruD r)) (by simp;omega) λx hx=>h x (by simp[hx]);have hs:acc.length < sizeLine:=qp (1:);simp only[List.append_assoc,List.cons_append,List.nil_append] at i3;refine(qh _).symm.trans ?_;rw[List.map_cons,List.map_cons];simp? only[qdB,h2,hs,i3]
theorem jb(cl:Cl)(v0 v2:Sl)(zs:List Str)(hz:NamesOk zs):∀(cs:List Int) (acc:List St) (day:Int) (s5 s6 s7 s8:Sl),acc.length+cs.length < 10000->0<=day->day+1000020 * (cs.length:Int)<=1000000000->
  ∃(l:List St) (s4' s5' s6' s7' s8':Sl),jF cl 1000 (.one 5) zX (cs.map D.int) [v0,.bor (zs.map D.str),v2,.own (acc.map stD),.val (.int day),s5,s6,s7,s8]=.ok (.next [v0,.bor (zs.map D.str),v2,.own ((acc++l).map stD),s4',s5',s6',s7',s8'])/\Ch (day - 1) l/\l.length=cs.length/\∀s∈l,s.1∈zs/\s.2.2 < day+1000020 * (cs.length:Int)
 |[],acc,day,s5,s6,s7,s8,_,_,_=>⟨[],.val (.int day),s5,s6,s7,s8,by simp[qM],trivial,rfl,λs h=>by cases h⟩
 | c::cs,acc,day,s5,s6,s7,s8,ha,h0,h9=>by
  rw[List.length_cons] at ha h9;have hL:(0:Int) < (zs.length:Int):=by have:=hz.two;omega
  have hn:0<=c * 1099087573 % 10000000000037:=Int.emod_nonneg _ (2:);generalize hN:c * 1099087573 % 10000000000037=n at hn;have a0:0<=n % 6:=Int.emod_nonneg _ (2:);have a1:n % 6 < 6:=Int.emod_lt_of_pos _ (2:);have b0:0<=n / 6 % 3:=Int.emod_nonneg _ (2:);have b1:n / 6 % 3 < 3:=Int.emod_lt_of_pos _ (2:);have g0:0<=n / 1458 % 1000000:=Int.emod_nonneg _ (2:);have g1:n / 1458 % 1000000 < 1000000:=Int.emod_lt_of_pos _ (2:);have k0:0<=n / 18 % 9:=Int.emod_nonneg _ (2:);have k1:n / 18 % 9 < 9:=Int.emod_lt_of_pos _ (2:);have i0:0<=n / 162 % (zs.length:Int):=Int.emod_nonneg _ (1:);have i1:n / 162 % (zs.length:Int) < zs.length:=Int.emod_lt_of_pos _ hL;obtain⟨z,az,ez⟩:=Qo _ i0 i1;have zm:z∈zs:=List.mem_of_getElem? ez;have pm:0<=n % 6 * (n / 6 % 3):=Int.mul_nonneg a0 b0;have pm1:n % 6 * (n / 6 % 3)<=10:=Int.le_trans (Int.mul_le_mul_of_nonneg_right (show n % 6<=5 by omega) b0) (1:);have mul:QQ c 1099087573=true:=J2 (2:) (2:);have mul2:QQ (n % 6) (n / 6 % 3)=true:=qc3 (1:) (1:);have p6:(10:Int) ^ (6:Int).toNat=1000000:=by decide
  have c6:(0:Int)<=6/\(6:Int)<=1000000/\(10:Int).natAbs < 2 ^ 64:=by decide
  obtain⟨fi,hfi,X⟩:∃fi:Int,(day<=fi/\fi < day+1000000)/\∀{β:Type} (K:Fl->R β) (w0 w1 w2 w3 w5 w8:Sl),(iS cl 1000 (.ite (.cmp .Eq (.bin .Mod (.bin .FloorDiv (.var 6) (.con (D.int 11))) (.con (D.int 3))) (.con (D.int 0))) %[.set 7 (.bin .Add (.var 4) (.bin .Mod (.bin .FloorDiv (.var 6) (.con (D.int 1458))) (.bin .Pow (.con (D.int 10)) (.con (D.int 6)))))|0] .nil) [w0,w1,w2,w3,.val (.int day),w5,.val (.int n),.val (.int (day+n % 6 * (n / 6 % 3))),w8]).th K=K (.next [w0,w1,w2,w3,.val (.int day),w5,.val (.int n),.val (.int fi),w8]):=by
   cases q:(n / 11 % 3 == 0) with
   |true=>exact⟨day+n / 1458 % 1000000,by omega,λK w0 w1 w2 w3 w5 w8=>by simp? only[qF,q,p6,c6]⟩
   |false=>exact⟨day+n % 6 * (n / 6 % 3),by omega,λK w0 w1 w2 w3 w5 w8=>by simp? only[qF,q]⟩
  obtain⟨l,s4',s5',s6',s7',s8',ih,j1,j2,j3⟩:=jb cl v0 v2 zs hz cs (acc++[(z,fi,fi+n / 18 % 9)]) (fi+n / 18 % 9+1) (.val (.int c)) (.val (.int n)) (.val (.int fi)) (.val (.int (fi+n / 18 % 9))) (by simp;omega) (1:) (1:);refine⟨(z,fi,fi+n / 18 % 9)::l,s4',s5',s6',s7',s8',?_,⟨⟨hz.ok _ zm,by show day - 1 < fi;omega,by show fi<=fi+n / 18 % 9;omega,by show fi+n / 18 % 9<=1000000000;omega⟩,Ch.weak (by show fi+n / 18 % 9<=_;omega) j1⟩,by simp[j2],λs hs=>?_⟩
  ·have za:acc.length < sizeLine:=qp (1:);have three:0+1+1+1<=sizeLine:=by decide+kernel
   simp only[List.map_append,List.map_cons,List.map_nil,List.append_assoc,List.cons_append,List.nil_append,ye] at ih ⊢;refine(qh _).symm.trans ?_;simp? only[↓X,Jy,mul,hN,mul2,List.length_map,hL,az,three,za,ih]
  ·rw[List.length_cons];rcases List.mem_cons.mp hs with rfl | hs
   ·exact⟨zm,by show fi+n / 18 % 9 < _;omega⟩
   ·have:=j3 s hs
    exact⟨this.1,by omega⟩
theorem JD(k:Nat)(cs:List Int)(hl:cs.length<=5)(zs:List Str)(hz:NamesOk zs)(qr:Int)(h0:0<=qr)(h9:qr<=990000000):∃l:List St,clK pg (k+1) "_law_stays" [.val (.lst (cs.map D.int)),.bor (zs.map D.str),.val (.int qr)]=.ok (.tmp (l.map stD))/\Ch (qr - 1) l/\l.length=cs.length/\∀s∈l,s.1∈zs/\s.2.2 < qr+5000100:=by obtain⟨l,s4',s5',s6',s7',s8',e,e1,e2,e3⟩:=jb (pg.kk k) (.val (.lst (cs.map D.int))) (.val (.int qr)) zs hz cs [] qr .no .no .no .no (by simp;omega) h0 (1:);refine⟨l,?_,e1,e2,λs hs=>⟨(e3 s hs).1,by have:=(e3 s hs).2;omega⟩⟩;rw[List.map_nil,List.nil_append] at e;rw[ZR];simp? only[Jt,show(0:Nat)<=sizeLine by decide+kernel,e]
end K51
namespace K51
open PySem DE DG FA Dy
open L2 hiding St
noncomputable def ZU(f:Int):List St->List St
 |[]=>[]
 | s::l=>if s.2.1 < f then (s.1,s.2.1,if f - 1 < s.2.2 then f - 1 else s.2.2)::ZU f l else ZU f l
theorem qbj(f:Int):∀(st:List St),(∀s∈st,s.2.1<=s.2.2)->∀t∈ZU f st,t.2.2 < f/\∃s∈st,t.1=s.1/\t.2.1=s.2.1/\t.2.2<=s.2.2
 |[],_,t,h=>by cases h
 | s::l,ab,t,h=>by
  have ih:=qbj f l λu hu=>ab u (by simp[hu]);rw[ZU] at h
  by_cases c:s.2.1 < f
  ·rw[if_pos c] at h;rcases List.mem_cons.mp h with rfl | h
   ·by_cases c2:f - 1 < s.2.2
    ·rw[if_pos c2];exact⟨by show f - 1 < f;omega,s,by simp,rfl,rfl,by show f - 1<=s.2.2;omega⟩
    ·rw[if_neg c2];exact⟨by show s.2.2 < f;omega,s,by simp,rfl,rfl,Int.le_refl _⟩
   ·obtain⟨h1,u,h2,h3⟩:=ih t h;exact⟨h1,u,by simp[h2],h3⟩
  ·rw[if_neg c] at h;obtain⟨h1,u,h2,h3⟩:=ih t h;exact⟨h1,u,by simp[h2],h3⟩
theorem qdC(f:Int):∀{st:List St} {e:Int},Ch e st->Ch e (ZU f st)
 |[],_,_=>trivial
 | s::l,e,h=>by
  have i:=qdC f (st:=l) h.2;have ab:=h.1.ab;have lo:=h.1.lo;have hi:=h.1.hi;rw[ZU]
  by_cases c:s.2.1 < f
  ·rw[if_pos c];refine⟨⟨h.1.nm,lo,?_,?_⟩,Ch.weak ?_ i⟩
   ·show s.2.1<=if f - 1 < s.2.2 then f - 1 else s.2.2
    split<;>omega
   ·show(if f - 1 < s.2.2 then f - 1 else s.2.2)<=1000000000
    split<;>omega
   ·show(if f - 1 < s.2.2 then f - 1 else s.2.2)<=s.2.2
    split<;>omega
  ·rw[if_neg c];exact Ch.weak (1:) i
theorem QJ{f d:Int}(hd:d < f):∀st:List St,qI (ZU f st) d=qI st d
 |[]=>rfl
 | s::l=>by
  rw[ZU]
  by_cases c:s.2.1 < f
  ·rw[if_pos c,qI,qI,QJ hd l];dsimp only
   by_cases c2:s.2.1<=d/\d<=s.2.2
   ·rw[if_pos c2,if_pos ⟨c2.1,by split<;>omega⟩]
   ·rw[if_neg c2,if_neg λq=>c2 ⟨q.1,by have:=q.2;split at this<;>omega⟩]
  ·rw[if_neg c,qI,QJ hd l,if_neg (1:)]
theorem qdD(f:Int):∀st:List St,(ZU f st).length<=st.length
 |[]=>Nat.le_refl _
 | s::l=>by
  rw[ZU]
  have:=qdD f l
  split<;>simp<;>omega
theorem qhv{rs:List Ru}{ps:List Pa}{st:List St}(hc:Ch (-1) st)(hr:∀x∈rlF ps 0 rs,Rlw x){f:Int×Int×Int}(hf:qt rs ps st=some f):∀x∈rlF ps 0 rs,∀D,cb (ZU f.1 st) x D<=x.1.most:=λx hx D=>by
 have hx':=hr x hx;have hc':=qdC f.1 hc;have cn:=qbT hx' hc.w;have cn':=qbT hx' hc'.w;have bf:=(yr hc.w hr).2 f hf;have lt:∀s∈ZU f.1 st,s.2.2 < f.1:=λs hs=>(qbj f.1 st (λu hu=>(Ch.lo hc u hu).2) s hs).1
 have le:∀y,cb (ZU f.1 st) x y<=cb st x y:=λy=>Cnt.mono cn cn' hx'.days (Int.le_refl _) (λd=>by
  by_cases c:d < f.1
  ·rw[qeQ (QJ c st)];exact Int.le_refl _
  ·rw[JF (a:=f.1) lt (1:)];exact qjU hx'.ln _ _ _) y
 by_cases c:D < f.1
 ·exact Int.le_trans (le D) (bf.low x hx D c)
 ·exact cn'.keeps hx'.days (m:=x.1.most) (a:=f.1 - 1) (b:=D+1) (Int.le_trans (le _) (bf.low x hx _ (1:))) (λy h1 _=>JF (a:=f.1) lt (1:)) D (1:) (1:)
theorem QK(k:Nat)(v0 v1:Sl)(f:Int×Int×Int):∀(st acc:List St) (s4 s5 s6:Sl),acc.length+st.length < 1000->∃s4' s5' s6',jF (pg.kk k) 1000 (.many [4,5,6]) jY (st.map stD) [v0,v1,.val (f3D f),.own (acc.map stD),s4,s5,s6]=.ok (.next [v0,v1,.val (f3D f),.own ((acc++ZU f.1 st).map stD),s4',s5',s6'])
 |[],acc,s4,s5,s6,_=>⟨s4,s5,s6,by simp[qM,ZU]⟩
 | s::l,acc,s4,s5,s6,ha=>by
  rw[List.length_cons] at ha;have za:acc.length < sizeLine:=qp (1:);have three:0+1+1+1<=sizeLine:=by decide+kernel
  have a0:∀x y z:D,atI [x,y,z] 0=some x:=λ_ _ _=>rfl;rw[ZU]
  by_cases c:s.2.1 < f.1
  ·rw[if_pos c];obtain⟨s4',s5',s6',ih⟩:=QK k v0 v1 f l (acc++[(s.1,s.2.1,if f.1 - 1 < s.2.2 then f.1 - 1 else s.2.2)]) (.val (.str s.1)) (.val (.int s.2.1)) (.val (.int s.2.2)) (by simp;omega);refine⟨s4',s5',s6',?_⟩;simp only[List.map_append,List.map_cons,List.map_nil,List.append_assoc,List.cons_append,List.nil_append,ye,f3D] at ih ⊢;refine(qh _).symm.trans ?_;simp? only[yi,a0,c,three,List.length_map,za,ih]
  ·rw[if_neg c];obtain⟨s4',s5',s6',ih⟩:=QK k v0 v1 f l acc (.val (.str s.1)) (.val (.int s.2.1)) (.val (.int s.2.2)) (1:);refine⟨s4',s5',s6',?_⟩;simp only[List.map_cons,ye,f3D] at ih ⊢;refine(qh _).symm.trans ?_;simp? only[yi,a0,c,ih]
theorem ZV(cl:Cl)(c:Int)(zs:List Str)(hz:NamesOk zs):∀(n i:Nat) (acc:List Str) (s3:Sl),acc.length+n < 1000->∃(F:List Str) (s3':Sl),jF cl 1000 (.one 3) zH (rgF (i:Int) n) [.bor (zs.map D.str),.val (.int c),.own (acc.map D.str),s3]=.ok (.next [.bor (zs.map D.str),.val (.int c),.own ((acc++F).map D.str),s3'])/\F.length=n/\∀z∈F,z∈zs
 |0,i,acc,s3,_=>⟨[],s3,by simp[rgF,qM],rfl,λz h=>by cases h⟩
 | n+1,i,acc,s3,ha=>by
  have hL:(0:Int) < (zs.length:Int):=by have:=hz.two;omega
  have i0:0<=(c / 4+(i:Int) * (1+c / 16 % 2)) % (zs.length:Int):=Int.emod_nonneg _ (1:);have i1:(c / 4+(i:Int) * (1+c / 16 % 2)) % (zs.length:Int) < zs.length:=Int.emod_lt_of_pos _ hL;obtain⟨z,az,ez⟩:=Qo _ i0 i1;obtain⟨F,s3',ih,h1,h2⟩:=ZV cl c zs hz n (i+1) (acc++[z]) (.val (.int i)) (by simp;omega);refine⟨z::F,s3',?_,by simp[h1],λy hy=>?_⟩
  ·have q0:=Int.emod_nonneg (c / 16) (show(2:Int)≠0 by decide);have q1:=Int.emod_lt_of_pos (c / 16) (show(0:Int) < 2 by decide);have mul:QQ (i:Int) (1+c / 16 % 2)=true:=J2 (1:) (1:);have za:acc.length < sizeLine:=qp (1:);rw[show((i+1:Nat):Int)=(i:Int)+1 by omega] at ih;simp only[List.map_append,List.map_cons,List.map_nil,List.append_assoc,List.cons_append,List.nil_append] at ih ⊢;refine(qh _).symm.trans ?_;rw[rgF];simp? only[Je,mul,List.length_map,hL,az,za,ih]
  ·rcases List.mem_cons.mp hy with rfl | hy
   ·exact List.mem_of_getElem? ez
   ·exact h2 y hy
noncomputable def ddF:List Str->List Str->List Str
 |_,[]=>[]
 | pre,z::l=>if pre.contains z=true then ddF (pre++[z]) l else z::ddF (pre++[z]) l
theorem qj8:∀(l pre:List Str),(ddF pre l).Nodup/\(∀z∈ddF pre l,z∈l/\z∉pre)/\(ddF pre l).length<=l.length
 |[],pre=>⟨List.nodup_nil,λz h=>(by cases h),Nat.le_refl _⟩
 | z::l,pre=>by
  obtain⟨h1,h2,h3⟩:=qj8 l (pre++[z]);rw[ddF]
  by_cases c:pre.contains z=true
  ·rw[if_pos c];exact⟨h1,λy hy=>⟨by simp[(h2 y hy).1],λq=>(h2 y hy).2 (by simp[q])⟩,by simp;omega⟩
  ·rw[if_neg c];refine⟨List.nodup_cons.mpr ⟨λq=>(h2 z q).2 (by simp),h1⟩,λy hy=>?_,by simp;omega⟩;rcases List.mem_cons.mp hy with rfl | hy
   ·exact⟨by simp,λq=>c (by simpa using q)⟩
   ·exact⟨by simp[(h2 y hy).1],λq=>(h2 y hy).2 (by simp[q])⟩
theorem qe1(l:List D)(i:Nat)(h:i<=l.length):qbB l none (some (i:Int))=l.take i:=by unfold qbB;rw[HT.qaJ,HT.Y4];simp[Nat.min_eq_left h]
theorem qaz(k:Nat):∀(l pre:List Str) (acc:List D) (s0 s1:Sl),pre.length+l.length < 1000->acc.length+l.length < 1000->zS (pg.kk k) zI (.many [0,1]) (F.test (T.cmp CmpOp.NotIn (E.var 1) (E.sli (E.var 2) O.none (O.some (E.var 0))))) (enF pre.length (l.map D.str)) [s0,s1,.val (.lst ((pre++l).map D.str))] acc=.ok (acc++(ddF pre l).map D.str)
 |[],pre,acc,s0,s1,_,_=>by simp[enF,qW,ddF]
 | z::l,pre,acc,s0,s1,hp,ha=>by
  rw[List.length_cons] at hp ha
  have cu:qbB ((pre++z::l).map D.str) none (some (pre.length:Int))=pre.map D.str:=by rw[qe1 _ _ (by simp),List.map_append,List.take_append_of_le_length (by simp),List.take_of_length_le (by simp)]
  have mm:qb2 (.val (.str z)) (.tmp (pre.map D.str))=some (pre.contains z):=Qm z pre;have za:acc.length < sizeLine:=qp (1:);rw[ddF]
  cases c:pre.contains z with
  |true=>have ih:=qaz k l (pre++[z]) acc (.val (.int pre.length)) (.val (.str z)) (by simp;omega) (1:);rw[List.length_append,List.length_singleton,List.append_assoc,List.cons_append,List.nil_append] at ih;rw[c] at mm;rw[if_pos rfl];generalize (pre++z::l).map D.str=PL at *;generalize (ddF (pre++[z]) l).map D.str=RL at *;refine(qh _).symm.trans ?_;rw[List.map_cons,enF];simp? only[jk,cu,mm,ih]
  |false=>have ih:=qaz k l (pre++[z]) (acc++[.str z]) (.val (.int pre.length)) (.val (.str z)) (by simp;omega) (by simp;omega);rw[List.length_append,List.length_singleton,List.append_assoc,List.cons_append,List.nil_append,List.append_assoc (as:=acc),List.cons_append,List.nil_append] at ih;rw[c] at mm;rw[if_neg (2:),show(z::ddF (pre++[z]) l).map D.str=.str z::(ddF (pre++[z]) l).map D.str from rfl];generalize (pre++z::l).map D.str=PL at *;generalize (ddF (pre++[z]) l).map D.str=RL at *;refine(qh _).symm.trans ?_;rw[List.map_cons,enF];simp? only[jk,cu,mm,za,ih]
theorem qdE(k:Nat)(c:Int)(zs:List Str)(hz:NamesOk zs):∃ws:List Str,clK pg (k+1) "_law_wishes" [.bor (zs.map D.str),.val (.int c)]=.ok (.tmp (ws.map D.str))/\ws.Nodup/\(∀z∈ws,z∈zs)/\1<=ws.length/\ws.length<=4:=by
 have hL:(0:Int) < (zs.length:Int):=by have:=hz.two;omega
 have m0:0<=c % (zs.length:Int):=Int.emod_nonneg _ (1:);have m1:c % (zs.length:Int) < zs.length:=Int.emod_lt_of_pos _ hL;have four:=hz.four;obtain⟨m,em⟩:∃m:Nat,1+c % (zs.length:Int)=(m:Int):=⟨(1+c % (zs.length:Int)).toNat,by omega⟩;obtain⟨F,s3,lp,h1,h2⟩:=ZV (pg.kk k) c zs hz m 0 [] .no (by simp;omega);rw[List.map_nil,List.nil_append,show((0:Nat):Int)=0 from rfl] at lp;obtain⟨d1,d2,d3⟩:=qj8 F [];have dc:=qaz k F [] [] .no .no (by simp;omega) (by simp;omega);rw[List.nil_append,List.nil_append,List.length_nil] at dc;refine⟨ddF [] F,?_,d1,λz q=>h2 z (d2 z q).1,?_,by omega⟩
 ·have sm:qw (m:Int)=true:=yG (1:) (1:);have z0:(0:Nat)<=sizeLine:=by decide+kernel
  have zF:(enF 0 (F.map D.str)).length<=sizeLine:=by
   have e:∀(l:List D) (i:Nat),(enF i l).length=l.length:=λl=>by
    induction l with
    |nil=>intro i;rfl
    |cons d l ih=>intro i;simp[enF,ih]
   rw[e,List.length_map];exact qG (1:)
  rw[QI];simp? only[yW,List.length_map,hL,em,sm,zy,Int.sub_zero,Int.toNat_natCast,z0,lp,zL,zF,Z3,qhJ,List.getD_cons_succ,List.getD_cons_zero,dc]
 ·cases F with
  |nil=>simp at h1;omega
  |cons z F=>rw[ddF,if_neg (by simp)];simp
end K51
namespace K51
open PySem DE DG FA Dy
open L2 hiding St
theorem qfR{rs:List Ru}{ps:List Pa}{st:List St}{e:Int}:∀(ws:List Str) (acc:List (Str×Int×Int×Int)),∃L:List (Str×Int×Int×Int),(pdF rs ps st e ws acc).2=acc++L/\(∀(i:Nat) p,L[i]?=some p->ws[i]?=some p.1/\qt rs ps (st++[(p.1,e,e)])=some p.2)/\(((pdF rs ps st e ws acc).1=none/\L.length=ws.length)\/∃z,(pdF rs ps st e ws acc).1=some z/\ws[L.length]?=some z/\qt rs ps (st++[(z,e,e)])=none)
 |[],acc=>⟨[],by simp[pdF],λi p h=>by simp at h,.inl ⟨rfl,rfl⟩⟩
 | w::ws,acc=>by
  rw[pdF]
  cases q:qt rs ps (st++[(w,e,e)]) with
  |none=>exact⟨[],by simp,λi p h=>by simp at h,.inr ⟨w,rfl,rfl,q⟩⟩
  |some f=>
   obtain⟨L,h1,h2,h3⟩:=qfR (rs:=rs) (ps:=ps) (st:=st) (e:=e) ws (acc++[(w,f)]);refine⟨(w,f)::L,by dsimp only;rw[h1];simp,λi p h=>?_,?_⟩
   ·cases i with
    |zero=>cases h;exact⟨rfl,q⟩
    |succ i=>exact h2 i p h
   ·rcases h3 with ⟨g1,g2⟩ | ⟨z,g1,g2,g3⟩
    ·exact .inl ⟨g1,by simp[g2]⟩
    ·exact .inr ⟨z,g1,g2,g3⟩
structure Mk(rs:List Ru)(ps:List Pa)(st:List St)(e:Int):Prop where
 k:Kp rs ps st e
 ch:Ch (-1) st
 len:st.length<=50
 e9:e<=1000000000
section
variable{rs:List Ru}{ps:List Pa}{st:List St}{e:Int}(h:Mk rs ps st e){z:Str}(hz:NameOk z)
include h hz
theorem Mk.ch1:Ch (-1) (st++[(z,e,e)]):=by
 refine qdf _ _ _ h.ch ⟨hz,?_,Int.le_refl _,h.e9⟩
 cases q:st.getLast? with
 |none=>show -1 < e;have:=h.k.e0;omega
 |some t=>exact h.k.lt t (List.mem_of_getLast? q)
theorem Mk.nm1:∀s∈st++[(z,e,e)],NameOk s.1:=λs hs=>by
 rcases List.mem_append.mp hs with y | y
 ·exact h.k.nm s y
 ·rw[List.mem_singleton.mp y];exact hz
theorem Mk.fo:clK pg 18 "fault_of" [.val (bkI rs ps),.val (.lst (st.map stD++[.tup [.str z,.int e,.int e]]))]=.ok (.val (Ys (qt rs ps (st++[(z,e,e)])))):=by have c1:=h.ch1 hz;have t:=Jb (pg:=pg) 10 false rs ps h.k.p18 (st++[(z,e,e)]) (h.nm1 hz) c1 (by rw[List.length_append];have:=h.len;show st.length+1<=60;omega) λx hx=>qdt (h.k.w x hx) c1.w;rw[List.map_append] at t;exact t
omit hz in
theorem Mk.day{f:Int×Int×Int}(q:qt rs ps (st++[(z,e,e)])=some f):f.1=e:=by
 have li:=qdw h.k.w h.k.ch h.k.fit (z:=z) h.k.lt (by have:=h.k.e0;omega) (Int.le_refl e);rw[q] at li
 have:=li.1;have:=li.2.1;omega
end
theorem qe2(a b:D)(l m:List D):QR (a::l) (b::m)=.tup [a,b]::QR l m:=rfl
theorem QL{rs:List Ru}{ps:List Pa}{st:List St}{e:Int}(h:Mk rs ps st e)(v2 v3 v5:Sl):∀(L:List (Str×Int×Int×Int)) (ws:List Str) (s6 s7 s8:Sl),(∀w∈ws,NameOk w)->(∀(i:Nat) p,L[i]?=some p->ws[i]?=some p.1/\qt rs ps (st++[(p.1,e,e)])=some p.2)->
  ∃s6' s7' s8',jF (pg.kk 18) 1000 (.many [6,7]) qO (QR (ws.map D.str) (L.map JG)) [.val (bkI rs ps),.bor (st.map stD),v2,v3,.val (.int e),v5,s6,s7,s8]=.ok (.next [.val (bkI rs ps),.bor (st.map stD),v2,v3,.val (.int e),v5,s6',s7',s8'])
 |[],ws,s6,s7,s8,_,_=>⟨s6,s7,s8,by simp[QR,qM]⟩
 | p::L,[],s6,s7,s8,_,hp=>by have:=(hp 0 p rfl).1;simp at this
 | p::L,w::ws,s6,s7,s8,hw,hp=>by
  obtain⟨q1,q2⟩:=hp 0 p rfl;have q1:w=p.1:=by simpa using q1
  subst q1;have hz:=hw p.1 (by simp);have fo:=h.fo hz;have fd:=h.day q2;rw[q2] at fo;have fo:clK pg 18 "fault_of" [.val (bkI rs ps),.val (.lst (st.map stD++[.tup [.str p.1,.int e,.int e]]))]=.ok (.val (.tup [.int p.2.1,.int p.2.2.1,.int p.2.2.2])):=fo;obtain⟨s6',s7',s8',ih⟩:=QL h v2 v3 v5 L ws (.val (.str p.1)) (.val (JG p)) (.val (f3D p.2)) (λy hy=>hw y (by simp[hy])) λi u hu=>hp (i+1) u hu;refine⟨s6',s7',s8',?_⟩;have eq1:eqD (.tup [.str p.1,.tup [.int p.2.1,.int p.2.2.1,.int p.2.2.2]]) (.tup [.str p.1,.tup [.int p.2.1,.int p.2.2.1,.int p.2.2.2]])=some true:=qaY (by simp[okD,qaX,j0 hz]) (by simp[dpD,qag]);have ed:(p.2.1 == e)=true:=by simpa using fd
  have a0:∀x y z:D,atI [x,y,z] 0=some x:=λ_ _ _=>rfl;have one:0+1<=sizeLine:=by decide+kernel
  have two:0+1+1<=sizeLine:=by decide+kernel
  have three:0+1+1+1<=sizeLine:=by decide+kernel
  have z1:st.length+(0+1)<=sizeLine:=qG (by have:=h.len;omega);rw[List.map_cons,List.map_cons,qe2];rw[show JG p=.tup [.str p.1,.tup [.int p.2.1,.int p.2.2.1,.int p.2.2.2]] from rfl,show f3D p.2=.tup [.int p.2.1,.int p.2.2.1,.int p.2.2.2] from rfl] at ih;rw[show JG p=.tup [.str p.1,.tup [.int p.2.1,.int p.2.2.1,.int p.2.2.2]] from rfl];generalize QR (ws.map D.str) (L.map JG)=ZL at *;refine(qh _).symm.trans ?_;simp? only[j7,one,two,three,List.length_map,z1,fo,eq1,a0,qF,ed,ih]
theorem qj9{ws:List Str}(hn:ws.Nodup):∀{i:Nat} {z:Str},ws[i]?=some z->ws.idxOf z=i:=by
 induction ws with
 |nil=>intro i z h;simp at h
 |cons w l ih=>
  intro i z h;obtain⟨n1,n2⟩:=List.nodup_cons.mp hn
  cases i with
  |zero=>cases h;simp
  |succ i=>have h:l[i]?=some z:=h;have ne:w≠z:=λq=>n1 (by rw[q];exact List.mem_of_getElem? h);rw[List.idxOf_cons,show(w == z)=false by simpa using ne];simp[ih n2 h]
theorem qka{rs:List Ru}{ps:List Pa}{st:List St}{e:Int}(h:Mk rs ps st e)(ws:List Str)(hw:∀w∈ws,NameOk w)(hn:ws.Nodup)(hl:ws.length<=6):clK pg 19 "_law_day_right" [.val (bkI rs ps),.bor (st.map stD),.val (.lst (ws.map D.str)),.val (pdD e (pdF rs ps st e ws [])),.val (.int e)]=.ok (.val (.bl true)):=by
 obtain⟨L,h1,h2,h3⟩:=qfR (rs:=rs) (ps:=ps) (st:=st) (e:=e) ws [];rw[List.nil_append] at h1;have a0:∀x y z:D,atI [x,y,z] 0=some x:=λ_ _ _=>rfl;have a1:∀x y z:D,atI [x,y,z] 1=some y:=λ_ _ _=>rfl;have a2:∀x y z:D,atI [x,y,z] 2=some z:=λ_ _ _=>rfl;have ee:(e == e)=true:=by simp
 have t33:((3:Int) == 3)=true:=rfl;have e33:(((0:Nat)+1+1+1:Nat):Int)=3:=rfl;have one:0+1<=sizeLine:=by decide+kernel
 have three:0+1+1+1<=sizeLine:=by decide+kernel
 have z1:st.length+(0+1)<=sizeLine:=qG (by have:=h.len;omega);rw[show pdD e (pdF rs ps st e ws [])=.tup [.int e,qhP (pdF rs ps st e ws []).1,.lst (L.map JG)] by rw[pdD,h1]];rw[show(19:Nat)=18+1 from rfl,Jz];rcases h3 with ⟨g1,g2⟩ | ⟨z,g1,g2,g3⟩
 ·rw[g1];obtain⟨s6,s7,s8,lp⟩:=QL h (.val (.lst (ws.map D.str))) (.val (.tup [.int e,.non,.lst (L.map JG)])) (.val (.int (ws.length:Int))) L ws .no .no .no hw h2;have el:((L.length:Int) == (ws.length:Int))=true:=by simp[g2]
  have ll:(L.map JG).length=L.length:=List.length_map ..;generalize L.map JG=LD at *;dsimp only[qhP];simp? only[zh,a0,a1,a2,t33,e33,qF,ee,List.length_map,ll,el,lp]
 ·rw[g1];have hzw:=List.mem_of_getElem? g2;have hz:=hw z hzw;have fo:=h.fo hz;rw[g3] at fo;have fo:clK pg 18 "fault_of" [.val (bkI rs ps),.val (.lst (st.map stD++[.tup [.str z,.int e,.int e]]))]=.ok (.val .non):=fo;have mm:qb2 (.val (.str z)) (.val (.lst (ws.map D.str)))=some (ws.contains z):=Qm z ws;rw[show ws.contains z=true by simpa using hzw] at mm;have ix:ixM (.val (.lst (ws.map D.str))) [.val (.str z)]=.ok (.val (.int ((ws.idxOf z:Nat):Int))):=qjQ (r:=.val (.lst (ws.map D.str))) rfl hzw;rw[qj9 hn g2] at ix;obtain⟨s6,s7,s8,lp⟩:=QL h (.val (.lst (ws.map D.str))) (.val (.tup [.int e,.str z,.lst (L.map JG)])) (.val (.int (L.length:Int))) L ws .no .no .no hw h2;have el:((L.length:Int) == (L.length:Int))=true:=by simp
  have ll:(L.map JG).length=L.length:=List.length_map ..;have mt:mtD (pg.kk 18).cs (.val (.lst (ws.map D.str))) "index" = none:=rfl;generalize L.map JG=LD at *;dsimp only[qhP];simp? only[zh,a0,a1,a2,t33,e33,qF,ee,one,three,List.length_map,z1,fo,mm,mt,ix,ll,el,lp]
end K51
namespace K51
open PySem DE DG FA Dy
open L2 hiding St
theorem qfS:∀(st:List St),(∀s∈st,NameOk s.1)->qaX (st.map stD)=true/\qag (st.map stD)<=60
 |[],_=>by simp[qaX,qag]
 | s::l,h=>by obtain⟨a,b⟩:=qfS l λt ht=>h t (by simp[ht]);have n:=j0 (h s (by simp));rw[List.map_cons,ye];refine⟨by simp[qaX,okD,n,a],?_⟩;simp only[qag,dpD];omega
theorem qfT:∀(ws:List Str),(∀s∈ws,NameOk s)->qaX (ws.map D.str)=true/\qag (ws.map D.str)<=60
 |[],_=>by simp[qaX,qag]
 | s::l,h=>by obtain⟨a,b⟩:=qfT l λt ht=>h t (by simp[ht]);have n:=j0 (h s (by simp));rw[List.map_cons];refine⟨by simp[qaX,okD,n,a],?_⟩;simp only[qag,dpD];omega
theorem qkb{st:List St}(h:st≠[]):atI (st.map stD) ((st.length:Int) - 1)=some (.tup [.str (st.getLast h).1,.int (st.getLast h).2.1,.int (st.getLast h).2.2]):=by have hl:0 < st.length:=List.length_pos_iff.mpr h;rw[show((st.length:Int) - 1)=((st.length - 1:Nat):Int) by omega];refine qjJ ?_;rw[List.getElem?_map,<-List.getLast?_eq_getElem?,List.getLast?_eq_some_getLast h];rfl
theorem qdF(rs:List Ru)(ps:List Pa)(ws:List Str):∀(n:Nat) (e:Int) (st:List St),(plF rs ps ws n e st).1.length=n
 |0,e,st=>rfl
 | n+1,e,st=>by rw[plF];simp[qdF rs ps ws n]
section
variable{rs:List Ru}{ps:List Pa}{ws:List Str}(hw:∀w∈ws,NameOk w)
include hw
theorem Mk.keep{st:List St}{e:Int}(h:Mk rs ps st e)(hl:st.length<=49)(h9:e+1<=1000000000):Mk rs ps (ZQ st e (pdF rs ps st e ws []).1) (e+1):=by
 have k:=h.k.keep (zs:=ws) hw
 cases q:(pdF rs ps st e ws []).1 with
 |none=>rw[q] at k;exact⟨k,h.ch,h.len,h9⟩
 |some z=>rw[q] at k;exact⟨k,h.ch1 (hw z (QH q).1),by show(st++[(z,e,e)]).length<=50;rw[List.length_append];show st.length+1<=50;omega,h9⟩
theorem QM(hn:ws.Nodup)(h6:ws.length<=6)(v0 v1 v2 v3 v4 v5 v9 v10 v11:Sl)(d:Int):∀(n i:Nat) (e:Int) (st:List St) (s13 s14:Sl),e=d+(i:Int)->Mk rs ps st e->st.length+n<=49->e+(n:Int)<=1000000000->
  ∃s13' s14',jF (pg.kk 19) 1000 (.many [13,14]) qay (enF i (plF rs ps ws n e st).1) [v0,v1,v2,v3,v4,v5,.val (bkI rs ps),.val (.lst (ws.map D.str)),.val (.int d),v9,v10,v11,.own (st.map stD),s13,s14]=.ok (.next [v0,v1,v2,v3,v4,v5,.val (bkI rs ps),.val (.lst (ws.map D.str)),.val (.int d),v9,v10,v11,.own ((plF rs ps ws n e st).2.map stD),s13',s14'])/\Mk rs ps (plF rs ps ws n e st).2 (e+(n:Int))/\(plF rs ps ws n e st).2.length<=st.length+n
 |0,i,e,st,s13,s14,_,h,_,_=>⟨s13,s14,by simp[plF,enF,qM],by rw[show e+((0:Nat):Int)=e by omega];exact h,Nat.le_refl _⟩
 | n+1,i,e,st,s13,s14,he,h,hl,h9=>by
  have dr:=qka h ws hw hn h6;have mk:=h.keep hw (1:) (1:);have a1:∀x y z:D,atI [x,y,z] 1=some y:=λ_ _ _=>rfl;have three:0+1+1+1<=sizeLine:=by decide+kernel
  have zst:st.length < sizeLine:=qp (1:);rw[plF];dsimp only
  cases q:(pdF rs ps st e ws []).1 with
  |none=>rw[q] at mk;obtain⟨s13',s14',ih,m1,m2⟩:=QM hn h6 v0 v1 v2 v3 v4 v5 v9 v10 v11 d n (i+1) (e+1) st (.val (.int i)) (.val (pdD e (pdF rs ps st e ws []))) (1:) mk (1:) (1:);dsimp only[ZQ];refine⟨s13',s14',?_,by rw[show e+((n+1:Nat):Int)=e+1+(n:Int) by omega];exact m1,by omega⟩;rw[show pdD e (pdF rs ps st e ws [])=.tup [.int e,.non,.lst ((pdF rs ps st e ws []).2.map JG)] by rw[pdD,q];rfl] at dr ih ⊢;generalize (pdF rs ps st e ws []).2.map JG=L at dr ih ⊢;generalize plF rs ps ws n (e+1) st=PL at ih ⊢;subst he;refine(qh _).symm.trans ?_;rw[enF];simp? only[ZS,dr,a1,ih]
  |some z=>
   rw[q] at mk;have zl:(st++[(z,e,e)]).length=st.length+1:=by rw[List.length_append];rfl
   obtain⟨s13',s14',ih,m1,m2⟩:=QM hn h6 v0 v1 v2 v3 v4 v5 v9 v10 v11 d n (i+1) (e+1) (st++[(z,e,e)]) (.val (.int i)) (.val (pdD e (pdF rs ps st e ws []))) (1:) mk (1:) (1:);dsimp only[ZQ];refine⟨s13',s14',?_,by rw[show e+((n+1:Nat):Int)=e+1+(n:Int) by omega];exact m1,by omega⟩;rw[List.map_append (l₁:=st),List.map_cons,List.map_nil,ye] at ih;rw[show pdD e (pdF rs ps st e ws [])=.tup [.int e,.str z,.lst ((pdF rs ps st e ws []).2.map JG)] by rw[pdD,q];rfl] at dr ih ⊢;generalize (pdF rs ps st e ws []).2.map JG=L at dr ih ⊢;generalize plF rs ps ws n (e+1) (st++[(z,e,e)])=PL at ih ⊢;dsimp only at ih;subst he;refine(qh _).symm.trans ?_;rw[enF];simp? only[ZS,dr,a1,three,List.length_map,zst,ih]
end
theorem Yo(ns:List Int)(i:Nat):clK pg 19 "_law_cell_at" [.scr (ns.map D.int),.val (.int (i:Int))]=.ok (.val (.int (zi ns i))):=qg8 (pg:=pg) 18 ns i
theorem qe3(ns:List Int)(hl:ns.length<=63):clK pg 20 "law" [.scr (ns.map D.int)]=.ok (.val (.bl true)):=by
 have c0:clK pg 19 "_law_cell_at" [.scr (ns.map D.int),.val (.int 0)]=.ok (.val (.int (zi ns 0))):=Yo ns 0;have c1:clK pg 19 "_law_cell_at" [.scr (ns.map D.int),.val (.int 1)]=.ok (.val (.int (zi ns 1))):=Yo ns 1;have c2:clK pg 19 "_law_cell_at" [.scr (ns.map D.int),.val (.int 2)]=.ok (.val (.int (zi ns 2))):=Yo ns 2;have c3:clK pg 19 "_law_cell_at" [.scr (ns.map D.int),.val (.int 3)]=.ok (.val (.int (zi ns 3))):=Yo ns 3;have c4:clK pg 19 "_law_cell_at" [.scr (ns.map D.int),.val (.int 4)]=.ok (.val (.int (zi ns 4))):=Yo ns 4;generalize zi ns 0=n0 at c0;generalize zi ns 1=n1 at c1;generalize zi ns 2=n2 at c2;generalize zi ns 3=n3 at c3;generalize zi ns 4=n4 at c4;obtain⟨cs1,e1,l1⟩:=qaq ns 3 5;obtain⟨cs2,e2,l2⟩:=qaq ns 6 9;obtain⟨cs3,e3,l3⟩:=qaq ns 9 14;have e1:qbB (ns.map D.int) (some 3) (some 5)=cs1.map D.int:=e1;have e2:qbB (ns.map D.int) (some 6) (some 9)=cs2.map D.int:=e2;have e3:qbB (ns.map D.int) (some 9) (some 14)=cs3.map D.int:=e3;have q0:0<=n0 / 512 % 3:=Int.emod_nonneg _ (2:);have q1:n0 / 512 % 3 < 3:=Int.emod_lt_of_pos _ (2:);obtain⟨m,em⟩:∃m:Nat,2+n0 / 512 % 3=(m:Int):=⟨(2+n0 / 512 % 3).toNat,by omega⟩;obtain⟨zs,ez,lz,hz⟩:=qeJ (pg:=pg) 18 n0 m (1:);have ez:clK pg 19 "_law_lands" [.val (.int n0),.val (.int (m:Int))]=.ok (.tmp (zs.map D.str)):=ez;have s0:0<=n1 % 990000000:=Int.emod_nonneg _ (2:);have s1:n1 % 990000000 < 990000000:=Int.emod_lt_of_pos _ (2:);generalize hS:n1 % 990000000=qr at s0 s1;obtain⟨rs,r1,r2,er⟩:=Y0 zs hz (n2::cs1) [] .no (by simp;omega);rw[List.nil_append,List.map_cons] at er;rw[List.length_cons] at r2;obtain⟨ps,p1,p2,ep⟩:=J5 (pg:=pg) 18 qr (rs.map ruD) (by rw[List.length_map];omega) cs2 [] .no (by simp;omega);have ep:zS (pg.kk 19) qdA (.one 0) .yes (cs2.map D.int) [.no,.val (.int qr),.bor (rs.map ruD)] []=.ok (ps.map paD):=ep;rw[List.length_map] at p1;obtain⟨st,est,hch,hlen,hst⟩:=JD 18 cs3 (1:) zs hz qr s0 (1:);have est:clK pg 19 "_law_stays" [.val (.lst (cs3.map D.int)),.bor (zs.map D.str),.val (.int qr)]=.ok (.tmp (st.map stD)):=est;have lo:∀s∈st,qr<=s.2.1:=λs hs=>by have:=(Ch.lo hch s hs).1;omega
 have hch:Ch (-1) st:=Ch.weak (1:) hch;have nmk:∀s∈st,NameOk s.1:=λs hs=>hz.ok _ (hst s hs).1;have emd:=ZT rs [] .no (by simp;omega) r1;rw[List.nil_append] at emd
 have ebk:pg.nw 19 "Book" [.val (.lst (rs.map ruI)),.bor (ps.map paD)]=.ok (.val (bkI rs ps)):=qhh (pg:=pg) 7 false true rs ps (1:) (1:) λp hp=>by
  have h:=p1 p hp
  have:=h.o0;have:=h.o1;have:=h.a0;have:=h.a1;have:=h.b0;have:=h.b1
  omega
 have po:∀p∈ps,p.2.1<=p.2.2:=λp hp=>(p1 p hp).b0;have w1:∀x∈rlF ps 0 rs,Rlw x:=qj3 (λr hr=>⟨(r1 r hr).ok,(r1 r hr).d0,(r1 r hr).m0⟩) po (1:)
 have lf5:∀x∈rlF ps 0 rs,x.2.length<=5:=λx hx=>by
  obtain⟨j,_,e⟩:=qde hx;rw[e]
  have h1:=qc6 (ps:=ofN ((0+j:Nat):Int) ps) λp hp=>by unfold ofN at hp;obtain⟨q,hq,rfl⟩:=List.mem_map.mp hp;exact po q (List.mem_filter.mp hq).1
  have h2:=qan ((0+j:Nat):Int) ps;unfold qa4;omega
 have fo:clK pg 18 "fault_of" [.val (bkI rs ps),.val (.lst (st.map stD))]=.ok (.val (Ys (qt rs ps st))):=Jb (pg:=pg) 10 false rs ps (1:) st nmk hch (1:) λx hx=>qdt (w1 x hx) hch.w;have z0:(0:Nat)<=sizeLine:=by decide+kernel
 obtain⟨sf,b,hsub,hcf,hfit,hnm,el⟩:∃(sf:List St) (b:Bool),(sf.length<=5/\∀s∈sf,qr<=s.2.1/\s.2.2 < qr+5000100)/\Ch (-1) sf/\(∀x∈rlF ps 0 rs,∀D,cb sf x D<=x.1.most)/\(∀s∈sf,NameOk s.1)/\clK pg 19 "_law_let" [.val (bkI rs ps),.val (.lst (st.map stD))]=.ok (if b=true then .tmp (sf.map stD) else .val (.lst (sf.map stD))):=by
  cases q:qt rs ps st with
  |none=>rw[q] at fo;refine⟨st,false,⟨by omega,λs hs=>⟨lo s hs,(hst s hs).2⟩⟩,hch,(yr hch.w w1).1 q,nmk,?_⟩;dsimp only[Ys] at fo;rw[show(19:Nat)=18+1 from rfl,YZ,if_neg (2:)];simp? only[Jd,fo]
  |some f=>
   rw[q] at fo;have ab:∀s∈st,s.2.1<=s.2.2:=λu hu=>(Ch.lo hch u hu).2;refine⟨ZU f.1 st,true,⟨by have:=qdD f.1 st;omega,λs hs=>?_⟩,qdC f.1 hch,qhv hch w1 q,λs hs=>?_,?_⟩
   ·obtain⟨_,u,hu,_,h2,h3⟩:=qbj f.1 st ab s hs;exact⟨by rw[h2];exact lo u hu,by have:=(hst u hu).2;omega⟩
   ·obtain⟨_,u,hu,h1,_,_⟩:=qbj f.1 st ab s hs;rw[h1];exact nmk u hu
   ·obtain⟨s4,s5,s6,lp⟩:=QK 18 (.val (bkI rs ps)) (.val (.lst (st.map stD))) f st [] .no .no .no (by simp;omega);rw[List.map_nil,List.nil_append] at lp;dsimp only[Ys] at fo;rw[show f3D f=.tup [.int f.1,.int f.2.1,.int f.2.2] from rfl] at fo lp;rw[show(19:Nat)=18+1 from rfl,YZ,if_pos rfl];simp? only[Jd,fo,z0,lp]
 have o:LimOk rs ps sf:=⟨w1,lf5,by omega,by omega,hcf,hnm,by omega,hfit⟩;obtain⟨ws,ew,wn,wz,w1',w4⟩:=qdE 18 (n2 / 7) zs hz;have ew:clK pg 19 "_law_wishes" [.bor (zs.map D.str),.val (.int (n2 / 7))]=.ok (.tmp (ws.map D.str)):=ew;have hw:∀w∈ws,NameOk w:=λw h=>hz.ok _ (wz w h);have t0:=Int.emod_nonneg n3 (show(9:Int)≠0 by decide);have t1:=Int.emod_lt_of_pos n3 (show(0:Int) < 9 by decide);obtain⟨okf,dpf⟩:=qfS sf hnm;obtain⟨okw,dpw⟩:=qfT ws hw;have enf:=qgY okf (1:);have zsf:sf.length<=sizeLine:=qG (1:)
 obtain⟨d,hd,Z⟩:∃d:Int,(0<=d/\d<=999999000/\∀s∈sf,s.2.2 < d)/\∀{β:Type} (K:Fl->R β) (v1 v2 v3 v4 v6 v7 v9 v10 v11 v12 v13 v14:Sl),(iS (pg.kk 19) 1000 (.ite (.cmp .NotEq (.var 5) (.lst .nil)) %[.set 8 (.bin .Add (.bin .Add (.idx (.idx (.var 5) (.bin .Sub (.b1 .len (.var 5)) (.con (D.int 1)))) (.con (D.int 2))) (.con (D.int 1))) (.bin .Mod (.call "_law_cell_at" %[0,.con (D.int 3)|0]) (.con (D.int 9))))|0] .nil) [.scr (ns.map D.int),v1,v2,v3,v4,qhK b (sf.map stD),v6,v7,.val (.int (qr+n3 % 9)),v9,v10,v11,v12,v13,v14]).th K=K (.next [.scr (ns.map D.int),v1,v2,v3,v4,qhK b (sf.map stD),v6,v7,.val (.int d),v9,v10,v11,v12,v13,v14]):=by
  have a2:∀x y z:D,atI [x,y,z] 2=some z:=λ_ _ _=>rfl
  by_cases h:sf=[]
  ·have en':(sf.map stD).isEmpty=true:=by rw[h];rfl
   rw[en'] at enf;refine⟨qr+n3 % 9,⟨by omega,by omega,λs hs=>by rw[h] at hs;cases hs⟩,λK v1 v2 v3 v4 v6 v7 v9 v10 v11 v12 v13 v14=>?_⟩
   cases b with
   |true=>rw[qhL];simp? only[z0,enf]
   |false=>rw[qhM];simp? only[z0,enf]
  ·have en':(sf.map stD).isEmpty=false:=by
    cases sf with
    |nil=>exact absurd rfl h
    |cons a b=>rfl
   rw[en'] at enf;have la:=qkb h;have hi:=λs hs=>Ch.high hcf s hs;have el:qhN sf=(sf.getLast h).2.2:=by unfold qhN;rw[List.getLast?_eq_some_getLast h]
   rw[el] at hi;have mm:=hsub.2 _ (List.getLast_mem h);have ab:=Ch.lo hcf _ (List.getLast_mem h);refine⟨(sf.getLast h).2.2+1+n3 % 9,⟨by omega,by omega,λs hs=>by have:=hi s hs;omega⟩,λK v1 v2 v3 v4 v6 v7 v9 v10 v11 v12 v13 v14=>?_⟩
   cases b with
   |true=>rw[qhL];simp? only[c3,z0,enf,la,a2,List.length_map]
   |false=>rw[qhM];simp? only[c3,z0,enf,la,a2,List.length_map]
 obtain⟨n,hn⟩:∃n:Nat,n4 % 7=(n:Int):=⟨(n4 % 7).toNat,by have:=Int.emod_nonneg n4 (show(7:Int)≠0 by decide);omega⟩;have n6:n<=6:=by have:=Int.emod_lt_of_pos n4 (show(0:Int) < 7 by decide);omega
 have pl:clK pg 19 "plan_of" [.val (bkI rs ps),.val (.lst (sf.map stD)),.val (.lst (ws.map D.str)),.val (.int d),.val (.int (n:Int))]=.ok (.tmp (plF rs ps ws n d sf).1):=qhs (pg:=pg) 10 false false o hd.1 (1:) hd.2.2 ws hw wn w1' (1:) n (1:);have mk:Mk rs ps sf d:=⟨⟨o.w,o.p18,o.ch.w,o.nm,o.fit,hd.2.2,hd.1⟩,hcf,by omega,by omega⟩;obtain⟨s13,s14,lp,m1,m2⟩:=QM hw wn (1:) (.scr (ns.map D.int)) (.own (zs.map D.str)) (.val (.int qr)) (.val (.lst (rs.map ruD))) (.own (ps.map paD)) (.val (.lst (sf.map stD))) (.val (.int (n:Int))) (.own [.lst (sf.map stD),.lst (ws.map D.str)]) (.val (.lst (plF rs ps ws n d sf).1)) d n 0 d sf .no .no (1:) mk (1:) (1:);have lk:=qdF rs ps ws n d sf;have ff:clK pg 19 "fault_of" [.val (bkI rs ps),.bor ((plF rs ps ws n d sf).2.map stD)]=.ok (.val (Ys (qt rs ps (plF rs ps ws n d sf).2))):=Jb (pg:=pg) 11 true rs ps (1:) _ m1.k.nm m1.ch (by have:=m1.len;omega) λx hx=>qdt (w1 x hx) m1.ch.w;rw[qdv m1.ch.w w1 m1.k.fit] at ff;dsimp only[Ys] at ff;have eqh:eqD (.lst [.lst (sf.map stD),.lst (ws.map D.str)]) (.lst [.lst (sf.map stD),.lst (ws.map D.str)])=some true:=qaY (by simp only[okD,qaX,okf,okw];rfl) (by simp only[dpD,qag];omega);have enl:((n:Int) == (n:Int))=true:=by simp
 have z1:1+cs1.length<=sizeLine:=qG (1:);have z2:cs1.length+1<=sizeLine:=qG (1:);have z3:cs2.length<=sizeLine:=qG (1:);have z4:rs.length<=sizeLine:=qG (1:);have z5:0+1<=sizeLine:=by decide+kernel
 have z6:0+1+1<=sizeLine:=by decide+kernel
 have w9:(10:Int) ^ (9:Int).toNat - (10:Int) ^ (7:Int).toNat=990000000:=by decide
 have w8:(0:Int)<=9/\(9:Int)<=1000000/\(10:Int).natAbs < 2 ^ 64:=by decide
 have w7:(0:Int)<=7/\(7:Int)<=1000000/\(10:Int).natAbs < 2 ^ 64:=by decide
 have a0:∀x y:D,atI [x,y] 0=some x:=λ_ _=>rfl;have a1:∀x y:D,atI [x,y] 1=some y:=λ_ _=>rfl;generalize plF rs ps ws n d sf=PL at *;generalize bkI rs ps=B at *;rw[show(20:Nat)=19+1 from rfl,qlx]
 cases b with
 |true=>rw[if_pos rfl] at el;rw[qhL] at Z;simp? only[↓Z,qht,c0,c1,c2,c3,c4,em,ez,w8,w7,w9,hS,e1,e2,e3,z0,z1,z2,z3,z4,z5,z6,Z3,qhJ,List.getD_cons_succ,List.getD_cons_zero,er,ep,est,emd,ebk,List.map_cons,List.map_nil,el,ew,hn,zsf,List.length_map,a0,a1,pl,lk,qF,enl,eqh,zL,lp,ff]
 |false=>rw[if_neg (2:)] at el;rw[qhM] at Z;simp? only[↓Z,qht,c0,c1,c2,c3,c4,em,ez,w8,w7,w9,hS,e1,e2,e3,z0,z1,z2,z3,z4,z5,z6,Z3,qhJ,List.getD_cons_succ,List.getD_cons_zero,er,ep,est,emd,ebk,List.map_cons,List.map_nil,el,ew,hn,zsf,List.length_map,a0,a1,pl,lk,qF,enl,eqh,zL,lp,ff]
end K51
namespace DE
open PySem PySem.Spec PyProof.Rows L2
def yx(G G' H:Hp):Prop:=∀a o,G' a=some o->(∃o',G a=some o')\/H a=none
def But(p:Addr)(H H':Hp):Prop:=∀a o,a≠p->H a=some o->H' a=some o
noncomputable def qbU(κ:KC)(K:Frag)(ok:Str->Bool)(go:List Ar->Option (List (Str×D))):Sp:=λvs H Q _=>∃(G:Hp) (c:Str) (C p dx:Addr) (us:List V) (args:List Ar) (fs:List (Str×D)),vs=.ref p::us/\ok c=true/\κ c=some C/\
 H p=some (.ins C dx [])/\G p=none/\qo G H/\Jj κ K G H args us/\go args=some fs/\
 ∀G' H' xs,qo G G'->qo G' H'->G' p=none->But p H H'->yx G G' H->H' p=some (.ins C dx ((fs.map (·.1)).zip xs))->xs.length=fs.length->ql κ G' (fs.map (·.2)) xs->Q .non H'
section
variable{κ:KC}{K:Frag}{G H G' H':Hp}
theorem Y1{cl:Str->List Ar->R Rv}{f:Str}{args:List Ar}{vs:List V}{r:Rv}{Q:VK}{E:XK}(sub:qo G H)(ha:Jj κ K G H args vs)(e:cl f args=.ok r)
  (h:∀v G' H',qo H H'->qo G G'->qo G' H'->yx G G' H->ReR κ G' H' H r v->Q v H'):spF κ K cl f vs H Q E:=⟨G,args,sub,ha,by rw[e];exact h⟩
theorem ArR.low{a:Ar}{v:V}(h:ArR κ K G H a v)(gs:qo G G')(hs:∀b o,H b=some o->(∀C dx fs,o≠.ins C dx fs)->H' b=some o):(∀l,a≠.scr l)->ArR κ K G' H' a v:=λhn=>by
 cases a with
 |val d=>exact Rep.same gs h
 |bor l=>obtain⟨b,xs,e,h1,h2⟩:=h;exact⟨b,xs,e,hs _ _ h1 (by intros;intro z;cases z),h2.same gs⟩
 |scr l=>exact absurd rfl (hn l)
theorem QN{nw:Str->List Ar->R Rv}{f c:Str}{C:Addr}{ok:Str->Bool}{go:List Ar->Option (List (Str×D))}(hC:κ c=some C)(hok:ok c=true)
  (hgo:∀args r,nw f args=.ok r->(∀a∈args,∀l,a≠.scr l)/\∃fs,go args=some fs/\r=.val (.ins c (fs.map (·.1)) (fs.map (·.2)))) :
  ∀vs H Q,spF κ K nw f vs H Q E0->∀x dx,H x=none->H dx=none->dx≠x->qbU κ K ok go (.ref x::vs) (upd (upd H dx (.own x)) x (.ins C dx [])) (λv H2=>v=.non/\Q (.ref x) H2) E0:=by
 rintro vs H Q ⟨G,args,sub,ha,hw⟩ x dx hx hdx ne
 cases e:nw f args with
 |no=>rw[e] at hw;exact hw.elim
 |exc c l=>rw[e] at hw;exact hw.elim
 |ok r=>
  rw[e] at hw;obtain⟨hs,fs,hg,rfl⟩:=hgo args r e;have gx:G x=none:=qo.none sub hx;have gd:G dx=none:=qo.none sub hdx
  have up:qo H (upd (upd H dx (.own x)) x (.ins C dx [])):=λb o hb=>by
   have nb:b≠x:=λz=>by rw[z,hx] at hb;cases hb
   have nd:b≠dx:=λz=>by rw[z,hdx] at hb;cases hb
   rw[qd nb,qd nd];exact hb
  have ha':∀{args:List Ar} {vs:List V},(∀a∈args,∀l,a≠.scr l)->Jj κ K G H args vs->Jj κ K G (upd (upd H dx (.own x)) x (.ins C dx [])) args vs:=by
   intro args
   induction args with
   |nil=>intro vs _ h;simp only[Jj] at h ⊢;exact h
   |cons a l ih=>intro vs hn h;simp only[Jj] at h ⊢;obtain⟨v,r,e,h1,h2⟩:=h;exact⟨v,r,e,h1.low (λ_ _ z=>z) (λb o hb _=>up b o hb) (hn a (List.mem_cons_self ..)),ih (λb hb=>hn b (List.mem_cons_of_mem _ hb)) h2⟩
  refine⟨G,c,C,x,dx,vs,args,fs,rfl,hok,hC,qf,gx,λb o hb=>up b o (sub b o hb),ha' hs ha,hg,λG' H' xs gs sub' gx' but fr hp hl rp=>⟨rfl,?_⟩⟩;refine hw (.ref x) (upd G' x (.ins C dx ((fs.map (·.1)).zip xs))) H' (λb o hb=>?_) (λb o hb=>?_) (λb o hb=>?_) (λb o hb=>?_) ?_
  ·exact but b o (λz=>by rw[z,hx] at hb;cases hb) (up b o hb)
  ·exact qo.upd gx' b o (gs b o hb)
  ·by_cases z:b=x
   ·subst z;rw[qf] at hb;cases hb;exact hp
   ·rw[qd z] at hb;exact sub' b o hb
  ·by_cases z:b=x
   ·subst z;exact .inr hx
   ·rw[qd z] at hb;rcases fr b o hb with q | q
    ·exact .inl q
    ·refine .inr ?_
     cases w:H b with
     |none=>rfl
     | some o'=>rw[up b o' w] at q;cases q
  ·simp only[ReR,Rep];exact⟨x,dx,C,xs,hC,rfl,qf,by rw[hl,List.length_map],rp.same (qo.upd gx')⟩
end
end DE
namespace DG
open PySem PySem.Spec PyProof.Rows L2 DE
theorem zt{G G' H:Hp}{p:Addr}{o:L2.HO}(fr:yx G G' H)(g:G p=none)(h:H p=some o):G' p=none:=by
 cases e:G' p with
 |none=>rfl
 | some o'=>
  rcases fr p o' e with ⟨o'',z⟩ | z
  ·rw[g] at z;cases z
  ·rw[h] at z;cases z
theorem yx.trans{G G1 G2 H H1:Hp}(a:yx G G1 H)(s:qo H H1)(b:yx G1 G2 H1):yx G G2 H:=λx o h=>by
 rcases b x o h with ⟨o',z⟩ | z
 ·exact a x o' z
 ·exact .inr (qo.none s z)
theorem yx.transB{G G1 G2 H H1:Hp}{p:Addr}{o:L2.HO}(a:yx G G1 H)(s:But p H H1)(hp:H1 p=some o)(b:yx G1 G2 H1):yx G G2 H:=λx o h=>by
 rcases b x o h with ⟨o',z⟩ | z
 ·exact a x o' z
 ·refine .inr ?_;have nx:x≠p:=λq=>by rw[q,hp] at z;cases z
  cases w:H x with
  |none=>rfl
  | some o'=>rw[s x o' nx w] at z;cases z
def aA(b:Bool)(l:List D):Ar:=match b with
 |true=>.bor l
 |false=>.val (.lst l)
theorem ZW{a:Ar}{l:List D}(e:arL a=some l):∃b,a=aA b l:=by
 unfold arL at e
 split at e
 ·cases e;exact⟨false,rfl⟩
 ·cases e;exact⟨true,rfl⟩
 ·cases e
theorem qbk{a:Ar}{n:Int}(e:arI a=some n):a=.val (.int n):=by
 unfold arI at e
 split at e
 ·cases e;rfl
 ·cases e
theorem qaA{κ:KC}{K:Frag}{G H:Hp}{b:Bool}{l:List D}{v:V}(sub:qo G H)(h:ArR κ K G H (aA b l) v):∃p xs,v=.ref p/\H p=some (.lst xs)/\ql κ G l xs:=by
 cases b with
 |false=>simp only[aA,ArR,Rep] at h;obtain⟨a,xs,e,h1,h2⟩:=h;exact⟨a,xs,e,sub _ _ h1,h2⟩
 |true=>exact h
theorem qkc{κ:KC}{K:Frag}{G H G' H':Hp}{b:Bool}{l:List D}{v:V}(h:ArR κ K G H (aA b l) v)(gs:qo G G')(hs:qo H H'):ArR κ K G' H' (aA b l) v:=h.low gs (λb o e _=>hs b o e) (λl'=>by cases b<;>(intro z;cases z))
theorem ZX{args:List Ar}{fs:List (Str×D)}(h:qaZ args=some fs):∃b l m,args=[aA b l,.val (.int m)]/\qv l=true/\btw m 0 1000000000=true/\fs=([("lands",.tup l),("most",.int m)]:List (Str×D)):=by
 unfold qaZ at h
 split at h
 ·split at h
  ·rename_i e1 e2
   split at h
   ·rename_i hc;cases h;rw[Bool.and_eq_true] at hc;obtain⟨b,rfl⟩:=ZW e1;obtain rfl:=qbk e2;exact⟨b,_,_,rfl,hc.1,hc.2,rfl⟩
   ·cases h
  ·cases h
 ·cases h
theorem jl{x:Str}{args:List Ar}{fs:List (Str×D)}(h:jL x args=some fs):∃b l m s,args=[aA b l,.val (.int m),.val (.int s)]/\qv l=true/\btw m 0 1000000000=true/\btw s 1 1000000000=true/\fs=([("lands",.tup l),("most",.int m),(x,.int s)]:List (Str×D)):=by
 unfold jL at h
 split at h
 ·split at h
  ·rename_i e1 e2 e3
   split at h
   ·rename_i hc;cases h;rw[Bool.and_eq_true,Bool.and_eq_true] at hc;obtain⟨b,rfl⟩:=ZW e1;obtain rfl:=qbk e2;obtain rfl:=qbk e3;exact⟨b,_,_,_,rfl,hc.1.1,hc.1.2,hc.2,rfl⟩
   ·cases h
  ·cases h
 ·cases h
theorem QO{args:List Ar}{fs:List (Str×D)}(h:qbJ args=some fs):∃b l m,args=[aA b l,.val (.int m)]/\qv l=true/\btw m 0 1000000000=true/\fs=([("lands",.tup l),("most",.int m),("leave",.int 1)]:List (Str×D)):=by
 unfold qbJ at h
 split at h
 ·split at h
  ·rename_i e1 e2
   split at h
   ·rename_i hc;cases h;rw[Bool.and_eq_true] at hc;obtain⟨b,rfl⟩:=ZW e1;obtain rfl:=qbk e2;exact⟨b,_,_,rfl,hc.1,hc.2,rfl⟩
   ·cases h
  ·cases h
 ·cases h
theorem Yp{args:List Ar}{fs:List (Str×D)}(h:YL args=some fs):∃b c l ps,args=[aA b l,aA c ps]/\(decide (l.length<=8)&&l.all Zv)=true/\(decide (ps.length<=12)&&ps.all (ya l.length))=true/\fs=([("kept_rules",.lst l),("kept_papers",.lst ps)]:List (Str×D)):=by
 unfold YL at h
 split at h
 ·split at h
  ·rename_i e1 e2
   split at h
   ·rename_i hc;cases h;rw[Bool.and_eq_true] at hc;obtain⟨b,rfl⟩:=ZW e1;obtain⟨c,rfl⟩:=ZW e2;exact⟨b,c,_,_,rfl,hc.1,hc.2,rfl⟩
   ·cases h
  ·cases h
 ·cases h
theorem ZY{b:Bool}{l:List D}{m:Int}(ol:qv l=true)(om:btw m 0 1000000000=true):qaZ [aA b l,.val (.int m)]=some ([("lands",.tup l),("most",.int m)]:List (Str×D)):=by cases b<;>(show(if (qv l&&btw m 0 1000000000)=true then _ else none)=_;rw[if_pos (by rw[ol,om];rfl)])
theorem qdG{x:Str}{b:Bool}{l:List D}{m s:Int}(ol:qv l=true)(om:btw m 0 1000000000=true)(os:btw s 1 1000000000=true):jL x [aA b l,.val (.int m),.val (.int s)]=some ([("lands",.tup l),("most",.int m),(x,.int s)]:List (Str×D)):=by cases b<;>(show(if (qv l&&btw m 0 1000000000&&btw s 1 1000000000)=true then _ else none)=_;rw[if_pos (by rw[ol,om,os];rfl)])
structure Tx(κ:KC)(K:Frag)(mg:PR):Prop where
 tup:mg "tuple" = none
 lst:mg "list" = none
 len:mg "len" = none
 gG:∃t,mg "GREATEST" = some (.int 1000000000 t)
 cls:∀c C,κ c=some C->Cls K C
 nA:∀c x C,pcs.fld c x=true->κ c=some C->zv K C x
structure Ck(pg:Pg)(j:Nat):Prop where
 lands:∀b l,qv l=true->clK pg j "are_lands" [aA b l]=.ok (.val (.bl true))
 rules:∀b l,(decide (l.length<=8)&&l.all Zv)=true->clK pg j "are_rules" [aA b l]=.ok (.val (.bl true))
 papers:∀b (ps:List D) (n:Int),(decide (ps.length<=12)&&ps.all (ya n))=true->clK pg j "check_papers" [aA b ps,.val (.int n)]=.ok (.val .non)
 btw:∀n a b,btw n a b=true->clK pg j "is_between" [.val (.int n),.val (.int a),.val (.int b)]=.ok (.val (.bl true))
theorem qbl{c:Str}(h:rk c=true):pcs.fld c "lands" = true/\pcs.fld c "most" = true:=by
 constructor
 ·show((rk c&&(true||_||_||_))||_)=true;rw[h];rfl
 ·show((rk c&&(false||true||_||_))||_)=true;rw[h];rfl
def okW(c:Str):Bool:=c == "Within"
def okS(c:Str):Bool:=c == "Since" || c == "InRow"
def okI(c:Str):Bool:=c == "InRow"
def okB(c:Str):Bool:=c == "Book"
theorem qkd{c:Str}(h:okW c=true):rk c=true:=by unfold okW at h;unfold rk;rw[h];rfl
theorem qke{c:Str}(h:okS c=true):rk c=true:=by unfold okS at h;unfold rk;rw[Bool.or_assoc,h,Bool.or_true]
theorem qhw{c:Str}(h:okI c=true):okS c=true:=by unfold okI at h;unfold okS;rw[h,Bool.or_true]
theorem qhx{c:Str}(h:okW c=true):pcs.fld c "span" = true:=by
 have e:c = "Within":=by simpa [okW] using h
 subst e;decide
theorem qe4{c:Str}(h:okS c=true):pcs.fld c "leave" = true:=by
 have e:c = "Since"\/c = "InRow":=by simpa [okS] using h
 rcases e with e | e<;>subst e<;>decide
theorem qdH{c:Str}(h:okB c=true):pcs.fld c "kept_rules" = true/\pcs.fld c "kept_papers" = true:=by
 have e:c = "Book":=by simpa [okB] using h
 subst e;decide
end DG
namespace K51
open PySem PySem.Spec PyProof.Rows L2 DE DG
section
variable{P:Program}{wd:World}{κ:KC}{K:Frag}{mg:PR}{base:Heap}{j:Nat}{f:Addr}{fd:FuncData}
theorem qhy:FnScope ["self","lands","most"] ["self","lands","most"] (qi (mem 28 0)):=⟨rfl,rfl,rfl,by decide+kernel,rfl,by decide+kernel,by decide+kernel⟩
theorem qbm(tx:Tx κ K mg)(F:Fun K "__init__" "Rule.__init__" (mem 28 0) f fd)(at_:qb3 P wd κ K mg base pg j)(ck:Ck pg j):FnOk P wd K mg base CX0 (j+1) f fd ["self","lands","most"] (qbU κ K rk qaZ):=by
 obtain⟨fA,dA,FA,mA,kA,bA⟩:=at_.1 "are_lands" (top 27) (by kernel_rfl);obtain⟨fB,dB,FB,mB,kB,bB⟩:=at_.1 "is_between" (top 6) (by kernel_rfl);obtain⟨t1,g1⟩:=tx.gG;refine F.ok qhy (λvs H Q E h=>?_) (λcdv A outer s H vs Q E hr h=>?_)
 ·obtain⟨G,c,C,p,dx,us,args,fs,rfl,_,_,_,_,_,ha,hg,_⟩:=h;obtain⟨b,l,m,rfl,_⟩:=ZX hg
  have:=ha.len
  simp at this;simp[<-this]
 ·obtain⟨G,c,C,p,dx,us,args,fs,rfl,hrk,hC,hp,gp,sub,ha,hg,k1⟩:=h;obtain⟨b,l,m,rfl,ol,om,rfl⟩:=ZX hg;simp only[Jj] at ha;obtain⟨v1,us1,rfl,r1,v2,us2,rfl,r2,rfl⟩:=ha;simp only[ArR,Rep] at r2;subst r2;obtain⟨a,xs,rfl,hxa,rl⟩:=qaA sub r1
  refine⟨_,qL (qbn (YB (QU (jG FA hr (by rfl) mA kA bA .nil jJ (qg (pv 1) qx)))) (zQ yy) y0)
   (qL (qbn (YB (QU (jG FB hr (by rfl) mB kB bB .nil jJ (qg (pv 2) (qg QT (qg (JH (v:=.int 1000000000) (by rfl) g1 ⟨_,rfl⟩) qx)))))) (zQ yy) y0)
   (qL (YE (pv 0) (jH Y6 (by rfl) tx.tup PyProof.Rows.boot_tuple (qg (pv 1) qx)) rfl)
   (zQ (YE (pv 0) (pv 2) rfl)))),?_⟩
  refine⟨_,rfl,Y1 (E:=E0) (G:=G) (args:=[aA b l]) sub ⟨_,_,rfl,r1,rfl⟩ (ck.lands b l ol) λv G1 H1 hs1 gs1 sub1 fr1 rr=>?_⟩;simp only[ReR,Rep] at rr;subst rr;refine⟨_,rfl,?_⟩;refine⟨_,rfl,Y1 (E:=E0) (G:=G1) (args:=[.val (.int m),.val (.int 0),.val (.int 1000000000)]) sub1 ⟨_,_,rfl,by simp only[ArR,Rep],_,_,rfl,by simp only[ArR,Rep],_,_,rfl,by simp only[ArR,Rep],rfl⟩ (ck.btw m 0 1000000000 om) λv G2 H2 hs2 gs2 sub2 fr2 rr=>?_⟩;simp only[ReR,Rep] at rr;subst rr;refine⟨_,rfl,?_⟩;have hp2:H2 p=some (.ins C dx []):=hs2 _ _ (hs1 _ _ hp);have ga2:H2 a=some (.lst xs):=hs2 _ _ (hs1 _ _ hxa);have gp1:G1 p=none:=zt fr1 gp hp;have gp2:G2 p=none:=zt fr2 gp1 (hs1 _ _ hp);refine⟨_,rfl,a,xs,rfl,.inl ⟨SqL.of ga2,λt ht=>?_⟩⟩;have ntp:t≠p:=λz=>by rw[z,hp2] at ht;cases ht
  have gt:G2 t=none:=qo.none sub2 ht;refine⟨_,rfl,p,C,dx,_,rfl,by rw[qd ntp.symm];exact hp2,tx.cls c C hC,tx.nA c _ C (qbl hrk).1 hC,by decide,?_⟩;refine⟨_,rfl,_,rfl,p,C,dx,_,rfl,qf,tx.cls c C hC,tx.nA c _ C (qbl hrk).2 hC,(by show 1 < 1000;decide),?_⟩;refine k1 (upd G2 t (.tup xs)) _ [.ref t,.int m] ?_ ?_ ?_ ?_ ?_ ?_ rfl ?_
  ·exactλb o e=>qo.upd gt b o (gs2 b o (gs1 b o e))
  ·intro b o e
   by_cases z:b=t
   ·subst z;rw[qf] at e;cases e;rw[qd ntp,qd ntp,qf]
   ·rw[qd z] at e;have nb:b≠p:=λq=>by rw[q,gp2] at e;cases e
    rw[qd nb,qd nb,qd z];exact sub2 b o e
  ·rw[qd ntp.symm];exact gp2
  ·intro b o nb e;have e2:=hs2 b o (hs1 b o e);have nt:b≠t:=λq=>by rw[q,ht] at e2;cases e2
   rw[qd nb,qd nb,qd nt];exact e2
  ·intro b o e
   by_cases z:b=t
   ·subst z;exact .inr (qo.none hs1 (qo.none hs2 ht))
   ·rw[qd z] at e;exact(yx.trans fr1 hs1 fr2) b o e
  ·rw[qf];rfl
  ·simp only[List.map_cons,List.map_nil,ql,Rep];exact⟨_,_,rfl,⟨t,xs,rfl,qf,(rl.same gs1 |>.same gs2).same (qo.upd gt)⟩,_,_,rfl,rfl,rfl⟩
theorem qdI:FnScope ["self","lands","most","span"] ["self","lands","most","span"] (qi (mem 29 0)):=⟨rfl,rfl,rfl,by decide+kernel,rfl,by decide+kernel,by decide+kernel⟩
theorem qbV{fR cR:Addr}{dR:FuncData}(tx:Tx κ K mg)(F:Fun K "__init__" "Within.__init__" (mem 29 0) f fd)(FR:Fun K "__init__" "Rule.__init__" (mem 28 0) fR dR)(bR:zj K dR ["self","lands","most"] [])(mR:mg "Rule" = some (.ref cR))(cf:ClsFn K cR "__init__" fR)
  (at0:qb3 P wd κ K mg base pg j) (at1:qb3 P wd κ K mg base pg (j+1)) (ck0:Ck pg j) (ck1:Ck pg (j+1)):FnOk P wd K mg base CX0 (j+2) f fd ["self","lands","most","span"] (qbU κ K okW (jL "span")):=by
 obtain⟨fB,dB,FB,mB,kB,bB⟩:=at1.1 "is_between" (top 6) (by kernel_rfl);obtain⟨t1,g1⟩:=tx.gG;refine F.ok qdI (λvs H Q E h=>?_) (λcdv A outer s H vs Q E hr h=>?_)
 ·obtain⟨G,c,C,p,dx,us,args,fs,rfl,_,_,_,_,_,ha,hg,_⟩:=h;obtain⟨b,l,m,z,rfl,_⟩:=jl hg
  have:=ha.len
  simp at this;simp[<-this]
 ·obtain⟨G,c,C,p,dx,us,args,fs,rfl,hrk,hC,hp,gp,sub,ha,hg,k1⟩:=h;obtain⟨b,l,m,z,rfl,ol,om,oz,rfl⟩:=jl hg;simp only[Jj] at ha;obtain⟨v1,us1,rfl,r1,v2,us2,rfl,r2,v3,us3,rfl,r3,rfl⟩:=ha;simp only[ArR,Rep] at r2 r3;subst r2 r3
  refine⟨_,qL (yj (Y8 cf (qbm tx FR at0 ck0) hr (by rfl) mR bR .nil jJ (qg (pv 0) (qg (pv 1) (qg (pv 2) qx)))))
   (qL (qbn (YB (QU (jG FB hr (by rfl) mB kB bB .nil jJ (qg (pv 3) (qg QT (qg (JH (v:=.int 1000000000) (by rfl) g1 ⟨_,rfl⟩) qx)))))) (zQ yy) y0)
   (zQ (YE (pv 0) (pv 3) rfl))),?_⟩
  refine⟨_,rfl,_,rfl,_,rfl,G,c,C,p,dx,[v1,.int m],[aA b l,.val (.int m)],_,rfl,qkd hrk,hC,hp,gp,sub,⟨_,_,rfl,r1,_,_,rfl,by simp only[ArR,Rep],rfl⟩,ZY ol om,λG1 H1 xs gs1 sub1 gp1 but1 fr1 hp1 hl1 rp1=>?_⟩;simp only[List.map_cons,List.map_nil,ql] at rp1;obtain⟨x1,w1,rfl,q1,x2,w2,rfl,q2,rfl⟩:=rp1;refine⟨_,rfl,Y1 (E:=E0) (G:=G1) (args:=[.val (.int z),.val (.int 1),.val (.int 1000000000)]) sub1 ⟨_,_,rfl,by simp only[ArR,Rep],_,_,rfl,by simp only[ArR,Rep],_,_,rfl,by simp only[ArR,Rep],rfl⟩ (ck1.btw z 1 1000000000 oz) λv G2 H2 hs2 gs2 sub2 fr2 rr=>?_⟩;simp only[ReR,Rep] at rr;subst rr;refine⟨_,rfl,?_⟩;have hp2:=hs2 _ _ hp1;have gp2:G2 p=none:=zt fr2 gp1 hp1;refine⟨_,rfl,_,rfl,p,C,dx,_,rfl,hp2,tx.cls c C hC,tx.nA c _ C (qhx hrk) hC,(by show 2 < 1000;decide),?_⟩;refine k1 G2 _ [x1,x2,.int z] (λb o e=>gs2 b o (gs1 b o e)) (λb o e=>?_) gp2 (λb o nb e=>?_) (λb o e=>?_) ?_ rfl ?_
  ·rw[qd (λq=>by rw[q,gp2] at e;cases e)];exact sub2 b o e
  ·rw[qd nb];exact hs2 b o (but1 b o nb e)
  ·exact(yx.transB fr1 but1 hp1 fr2) b o e
  ·rw[qf];rfl
  ·simp only[List.map_cons,List.map_nil,ql];exact⟨_,_,rfl,q1.same gs2,_,_,rfl,q2.same gs2,_,_,rfl,by simp only[Rep],rfl⟩
theorem qe5:FnScope ["self","lands","most","leave"] ["self","lands","most","leave"] (qi (mem 30 0)):=⟨rfl,rfl,rfl,by decide+kernel,rfl,by decide+kernel,by decide+kernel⟩
theorem ZZ{fR cR:Addr}{dR:FuncData}(tx:Tx κ K mg)(F:Fun K "__init__" "Since.__init__" (mem 30 0) f fd)(FR:Fun K "__init__" "Rule.__init__" (mem 28 0) fR dR)(bR:zj K dR ["self","lands","most"] [])(mR:mg "Rule" = some (.ref cR))(cf:ClsFn K cR "__init__" fR)
  (at0:qb3 P wd κ K mg base pg j) (at1:qb3 P wd κ K mg base pg (j+1)) (ck0:Ck pg j) (ck1:Ck pg (j+1)):FnOk P wd K mg base CX0 (j+2) f fd ["self","lands","most","leave"] (qbU κ K okS (jL "leave")):=by
 obtain⟨fB,dB,FB,mB,kB,bB⟩:=at1.1 "is_between" (top 6) (by kernel_rfl);obtain⟨t1,g1⟩:=tx.gG;refine F.ok qe5 (λvs H Q E h=>?_) (λcdv A outer s H vs Q E hr h=>?_)
 ·obtain⟨G,c,C,p,dx,us,args,fs,rfl,_,_,_,_,_,ha,hg,_⟩:=h;obtain⟨b,l,m,z,rfl,_⟩:=jl hg
  have:=ha.len
  simp at this;simp[<-this]
 ·obtain⟨G,c,C,p,dx,us,args,fs,rfl,hrk,hC,hp,gp,sub,ha,hg,k1⟩:=h;obtain⟨b,l,m,z,rfl,ol,om,oz,rfl⟩:=jl hg;simp only[Jj] at ha;obtain⟨v1,us1,rfl,r1,v2,us2,rfl,r2,v3,us3,rfl,r3,rfl⟩:=ha;simp only[ArR,Rep] at r2 r3;subst r2 r3
  refine⟨_,qL (yj (Y8 cf (qbm tx FR at0 ck0) hr (by rfl) mR bR .nil jJ (qg (pv 0) (qg (pv 1) (qg (pv 2) qx)))))
   (qL (qbn (YB (QU (jG FB hr (by rfl) mB kB bB .nil jJ (qg (pv 3) (qg QT (qg (JH (v:=.int 1000000000) (by rfl) g1 ⟨_,rfl⟩) qx)))))) (zQ yy) y0)
   (zQ (YE (pv 0) (pv 3) rfl))),?_⟩
  refine⟨_,rfl,_,rfl,_,rfl,G,c,C,p,dx,[v1,.int m],[aA b l,.val (.int m)],_,rfl,qke hrk,hC,hp,gp,sub,⟨_,_,rfl,r1,_,_,rfl,by simp only[ArR,Rep],rfl⟩,ZY ol om,λG1 H1 xs gs1 sub1 gp1 but1 fr1 hp1 hl1 rp1=>?_⟩;simp only[List.map_cons,List.map_nil,ql] at rp1;obtain⟨x1,w1,rfl,q1,x2,w2,rfl,q2,rfl⟩:=rp1;refine⟨_,rfl,Y1 (E:=E0) (G:=G1) (args:=[.val (.int z),.val (.int 1),.val (.int 1000000000)]) sub1 ⟨_,_,rfl,by simp only[ArR,Rep],_,_,rfl,by simp only[ArR,Rep],_,_,rfl,by simp only[ArR,Rep],rfl⟩ (ck1.btw z 1 1000000000 oz) λv G2 H2 hs2 gs2 sub2 fr2 rr=>?_⟩;simp only[ReR,Rep] at rr;subst rr;refine⟨_,rfl,?_⟩;have hp2:=hs2 _ _ hp1;have gp2:G2 p=none:=zt fr2 gp1 hp1;refine⟨_,rfl,_,rfl,p,C,dx,_,rfl,hp2,tx.cls c C hC,tx.nA c _ C (qe4 hrk) hC,(by show 2 < 1000;decide),?_⟩;refine k1 G2 _ [x1,x2,.int z] (λb o e=>gs2 b o (gs1 b o e)) (λb o e=>?_) gp2 (λb o nb e=>?_) (λb o e=>?_) ?_ rfl ?_
  ·rw[qd (λq=>by rw[q,gp2] at e;cases e)];exact sub2 b o e
  ·rw[qd nb];exact hs2 b o (but1 b o nb e)
  ·exact(yx.transB fr1 but1 hp1 fr2) b o e
  ·rw[qf];rfl
  ·simp only[List.map_cons,List.map_nil,ql];exact⟨_,_,rfl,q1.same gs2,_,_,rfl,q2.same gs2,_,_,rfl,by simp only[Rep],rfl⟩
theorem qe6:FnScope ["self","lands","most"] ["self","lands","most"] (qi (mem 31 0)):=⟨rfl,rfl,rfl,by decide+kernel,rfl,by decide+kernel,by decide+kernel⟩
theorem qdJ{fR cR fS cS:Addr}{dR dS:FuncData}(tx:Tx κ K mg)(F:Fun K "__init__" "InRow.__init__" (mem 31 0) f fd)(FS:Fun K "__init__" "Since.__init__" (mem 30 0) fS dS)(bS:zj K dS ["self","lands","most","leave"] [])(mS:mg "Since" = some (.ref cS))(cfS:ClsFn K cS "__init__" fS)
  (FR:Fun K "__init__" "Rule.__init__" (mem 28 0) fR dR) (bR:zj K dR ["self","lands","most"] []) (mR:mg "Rule" = some (.ref cR)) (cf:ClsFn K cR "__init__" fR)
  (at0:qb3 P wd κ K mg base pg j) (at1:qb3 P wd κ K mg base pg (j+1)) (ck0:Ck pg j) (ck1:Ck pg (j+1)):FnOk P wd K mg base CX0 (j+3) f fd ["self","lands","most"] (qbU κ K okI qbJ):=by
 refine F.ok qe6 (λvs H Q E h=>?_) (λcdv A outer s H vs Q E hr h=>?_)
 ·obtain⟨G,c,C,p,dx,us,args,fs,rfl,_,_,_,_,_,ha,hg,_⟩:=h;obtain⟨b,l,m,rfl,_⟩:=QO hg
  have:=ha.len
  simp at this;simp[<-this]
 ·obtain⟨G,c,C,p,dx,us,args,fs,rfl,hrk,hC,hp,gp,sub,ha,hg,k1⟩:=h;obtain⟨b,l,m,rfl,ol,om,rfl⟩:=QO hg;simp only[Jj] at ha;obtain⟨v1,us1,rfl,r1,v2,us2,rfl,r2,rfl⟩:=ha;simp only[ArR,Rep] at r2;subst r2;refine⟨_,zQ (yj (Y8 cfS (ZZ tx FS FR bR mR cf at0 at1 ck0 ck1) hr (by rfl) mS bS .nil jJ (qg (pv 0) (qg (pv 1) (qg (pv 2) (qg QT qx)))))),?_⟩
  exact⟨_,rfl,_,rfl,_,rfl,G,c,C,p,dx,[v1,.int m,.int 1],[aA b l,.val (.int m),.val (.int 1)],_,rfl,qhw hrk,hC,hp,gp,sub,⟨_,_,rfl,r1,_,_,rfl,by simp only[ArR,Rep],_,_,rfl,by simp only[ArR,Rep],rfl⟩,
   qdG ol om (2:),λG1 H1 xs gs1 sub1 gp1 but1 fr1 hp1 hl1 rp1=>k1 G1 H1 xs gs1 sub1 gp1 but1 fr1 hp1 hl1 rp1⟩
theorem qhz:FnScope ["self","rules","papers"] ["self","rules","papers"] (qi (mem 61 0)):=⟨rfl,rfl,rfl,by decide+kernel,rfl,by decide+kernel,by decide+kernel⟩
theorem qe7(tx:Tx κ K mg)(F:Fun K "__init__" "Book.__init__" (mem 61 0) f fd)(at_:qb3 P wd κ K mg base pg j)(ck:Ck pg j):FnOk P wd K mg base CX0 (j+1) f fd ["self","rules","papers"] (qbU κ K okB YL):=by
 obtain⟨fA,dA,FA,mA,kA,bA⟩:=at_.1 "are_rules" (top 58) (by kernel_rfl);obtain⟨fB,dB,FB,mB,kB,bB⟩:=at_.1 "check_papers" (top 60) (by kernel_rfl);refine F.ok qhz (λvs H Q E h=>?_) (λcdv A outer s H vs Q E hr h=>?_)
 ·obtain⟨G,c,C,p,dx,us,args,fs,rfl,_,_,_,_,_,ha,hg,_⟩:=h;obtain⟨b0,c0,l,ps,rfl,_⟩:=Yp hg
  have:=ha.len
  simp at this;simp[<-this]
 ·obtain⟨G,c,C,p,dx,us,args,fs,rfl,hrk,hC,hp,gp,sub,ha,hg,k1⟩:=h;obtain⟨b0,c0,l,ps,rfl,ol,op,rfl⟩:=Yp hg;simp only[Jj] at ha;obtain⟨v1,us1,rfl,r1,v2,us2,rfl,r2,rfl⟩:=ha;obtain⟨a,xs,rfl,hxa,rl⟩:=qaA sub r1;obtain⟨b,ys,rfl,hb,rp⟩:=qaA sub r2
  refine⟨_,qL (qbn (YB (QU (jG FA hr (by rfl) mA kA bA .nil jJ (qg (pv 1) qx)))) (zQ yy) y0)
   (qL (yj (jG FB hr (by rfl) mB kB bB .nil jJ (qg (pv 2) (qg (zk Jg (by rfl) tx.len PySem.boot_len (qg (pv 1) qx)) qx))))
   (qL (YE (pv 0) (jH jI (by rfl) tx.lst PyProof.Rows.boot_list (qg (pv 1) qx)) rfl)
   (zQ (YE (pv 0) (jH jI (by rfl) tx.lst PyProof.Rows.boot_list (qg (pv 2) qx)) rfl)))),?_⟩
  refine⟨_,rfl,Y1 (E:=E0) (G:=G) (args:=[aA b0 l]) sub ⟨_,_,rfl,r1,rfl⟩ (ck.rules b0 l ol) λv G1 H1 hs1 gs1 sub1 fr1 rr=>?_⟩;simp only[ReR,Rep] at rr;subst rr;refine⟨_,rfl,?_⟩;have ga1:H1 a=some (.lst xs):=hs1 _ _ hxa;refine⟨_,rfl,_,rfl,a,xs,rfl,.inl (SqL.of ga1),?_⟩;refine Y1 (E:=E0) (G:=G1) (args:=[aA c0 ps,.val (.int l.length)]) sub1 ⟨_,_,rfl,qkc r2 gs1 hs1,_,_,rfl,by simp only[ArR,Rep];rw[rl.len],rfl⟩ (ck.papers c0 ps l.length op) λv G2 H2 hs2 gs2 sub2 fr2 rr=>?_;have hp2:H2 p=some (.ins C dx []):=hs2 _ _ (hs1 _ _ hp);have gp1:G1 p=none:=zt fr1 gp hp;have gp2:G2 p=none:=zt fr2 gp1 (hs1 _ _ hp);have ga2:H2 a=some (.lst xs):=hs2 _ _ ga1;have hb2:H2 b=some (.lst ys):=hs2 _ _ (hs1 _ _ hb);refine⟨_,rfl,a,xs,rfl,.inl (SqL.of ga2),λt ht=>?_⟩;have ntp:t≠p:=λz=>by rw[z,hp2] at ht;cases ht
  have gt:G2 t=none:=qo.none sub2 ht;refine⟨_,rfl,p,C,dx,_,rfl,by rw[qd ntp.symm];exact hp2,tx.cls c C hC,tx.nA c _ C (qdH hrk).1 hC,by decide,?_⟩;have nbt:b≠t:=λz=>by rw[z,ht] at hb2;cases hb2
  have nbp:b≠p:=λz=>by rw[z,hp2] at hb2;cases hb2
  refine⟨_,rfl,b,ys,rfl,.inl (SqL.of (by rw[qd nbp,qd nbt];exact hb2)),λu hu=>?_⟩;have nup:u≠p:=λz=>by rw[z,qf] at hu;cases hu
  have nut:u≠t:=λz=>by rw[z,qd ntp,qf] at hu;cases hu
  have hu2:H2 u=none:=by rw[qd nup,qd nut] at hu;exact hu
  have gu:G2 u=none:=qo.none sub2 hu2;refine⟨_,rfl,p,C,dx,_,rfl,by rw[qd nup.symm,qf],tx.cls c C hC,tx.nA c _ C (qdH hrk).2 hC,(by show 1 < 1000;decide),?_⟩;have gut:upd G2 t (.lst xs) u=none:=by rw[qd nut];exact gu
  refine k1 (upd (upd G2 t (.lst xs)) u (.lst ys)) _ [.ref t,.ref u] ?_ ?_ ?_ ?_ ?_ ?_ rfl ?_
  ·exactλb o e=>qo.upd gut b o (qo.upd gt b o (gs2 b o (gs1 b o e)))
  ·intro q o e
   by_cases z:q=u
   ·subst z;rw[qf] at e;cases e;rw[qd nup,qf]
   ·rw[qd z] at e
    by_cases z2:q=t
    ·subst z2;rw[qf] at e;cases e;rw[qd ntp,qd z,qd ntp,qf]
    ·rw[qd z2] at e;have nq:q≠p:=λw=>by rw[w,gp2] at e;cases e
     rw[qd nq,qd z,qd nq,qd z2];exact sub2 q o e
  ·rw[qd nup.symm,qd ntp.symm];exact gp2
  ·intro q o nq e;have e2:=hs2 q o (hs1 q o e);have n1:q≠t:=λw=>by rw[w,ht] at e2;cases e2
   have n2:q≠u:=λw=>by rw[w,hu2] at e2;cases e2
   rw[qd nq,qd n2,qd nq,qd n1];exact e2
  ·intro q o e
   by_cases z:q=u
   ·subst z;exact .inr (qo.none hs1 (qo.none hs2 hu2))
   ·rw[qd z] at e
    by_cases z2:q=t
    ·subst z2;exact .inr (qo.none hs1 (qo.none hs2 ht))
    ·rw[qd z2] at e;exact(yx.trans fr1 hs1 fr2) q o e
  ·rw[qf];rfl
  ·simp only[List.map_cons,List.map_nil,ql,Rep];exact⟨_,_,rfl,⟨t,xs,rfl,by rw[qd nut.symm];exact qf,((rl.same gs1 |>.same gs2).same (qo.upd gt)).same (qo.upd gut)⟩,_,_,rfl,⟨u,ys,rfl,qf,((rp.same gs1 |>.same gs2).same (qo.upd gt)).same (qo.upd gut)⟩,rfl⟩
end
end K51
namespace HD
open PySem PySem.W
noncomputable def Yq(tb:String->Option Builtin)(p:Program)(w:World)(n₀:Nat)(ann:Option Value):Nat->SharedT->Thread->Option SharedT
 |0,_,_=>none
 | n+1,s,t=>match through t with
  |true=>some s
  |false=>match stepOk n₀ ann t with
   |false=>none
   |true=>match stepT (denote tb) p w s t with
    | some (s',t')=>Yq tb p w n₀ ann n s' t'
    |none=>none
theorem Z0{tb:String->Option Builtin}{p:Program}{w:World}{n₀:Nat}{ann:Option Value}:∀{n:Nat} {s s':SharedT} {t:Thread},Yq tb p w n₀ ann n s t=some s'->topRun tb p w n₀ ann n s.abs t=some s'.abs
 |0,_,_,_,h=>by cases h
 | n+1,s,s',t,h=>by
  unfold Yq at h;unfold topRun
  cases ht:through t with
  |true=>rw[ht] at h;cases h;rfl
  |false=>
   rw[ht] at h
   cases hk:stepOk n₀ ann t with
   |false=>rw[hk] at h;cases h
   |true=>
    rw[hk] at h
    cases hs:stepT (denote tb) p w s t with
    |none=>rw[hs] at h;cases h
    |some r=>obtain⟨s₂,t₂⟩:=r;rw[hs] at h;dsimp only;rw[stepT_spec hs];exact Z0 h
def ofL:List Obj->Nat->BT->BT
 |[],_,t=>t
 | o::r,n,t=>ofL r (n+1) (t.ins n o)
noncomputable def qhA(P:Params)(os:OsState):SharedT:=⟨ofL (boot_heap P).objs.toList 0 .nil,(boot_heap P).objs.toList.length,(boot_heap P).life,Array.mk [],boot_drawn,boot_toks,os⟩
theorem qdK(P:Params)(os:OsState):(qhA P os).abs=⟨boot_heap P,Array.mk [],boot_drawn,boot_toks,os⟩:=by kernel_rfl
noncomputable def qhB{α:Type}(p q:Program)(loose:List Str)(Xt:Shared->Bool)(Yf:Shared->α)(g0:Bool)(Hv:Heap)(s:Shared):=
 (staticsOk (importedModules p.main.body) Hv s.heap&&namesBound p s.heap&&gensDone s&&laidKept Hv s.heap,openSeen q loose (importedModules p.main.body) Xt g0 s,Yf s)
theorem qhC{p q:Program}{loose:List Str}{Xt:Shared->Bool}{α:Type}{Yf:Shared->α}{Ya:World->α}{N:Nat}{g0:Bool}{m₀:Nat}{ann:Option Value}
  (open_:∀w:World,(fencedOpening treeTable p w N).map (λs=>(s.heap,s.gens,s.drawn,s.toks))=some (boot_heap w.params,Array.mk [],boot_drawn,boot_toks))
  (size:∀w:World,((boot_heap w.params).isNs mainGlobals&&(Array.mk []:Array GenState).size == 0,(boot_heap w.params).objs.size,(boot_heap w.params).nsMap mainGlobals "__annotations__")=(true,m₀,ann))
  (h:∀w os,(Yq treeTable p w m₀ ann N (qhA w.params os) (topStub p)).map (λs=>qhB p q loose Xt Yf g0 (boot_heap w.params) s.abs)=some (true,openGood q loose,Ya w)):LeftO p q loose Xt Yf Ya N g0:=λw=>by
 obtain⟨⟨h0,gs,d,k,os⟩,e,e'⟩:=Option.map_eq_some_iff.mp (open_ w);obtain⟨rfl,rfl,rfl,rfl⟩:h0=boot_heap w.params/\gs=Array.mk []/\d=boot_drawn/\k=boot_toks:=by simpa using e'
 obtain⟨z1,z2,z3⟩:_/\_/\_:=by simpa only[Prod.mk.injEq] using size w
 obtain⟨s₁,r,l⟩:=Option.map_eq_some_iff.mp (h w os);have r':=Z0 r;rw[qdK] at r';obtain⟨l1,l2,l3⟩:_/\_/\_:=by simpa only[qhB,Prod.mk.injEq] using l
 have t:topFrom treeTable p w N ⟨boot_heap w.params,Array.mk [],boot_drawn,boot_toks,os⟩=some s₁.abs:=by unfold topFrom;dsimp only;rw[z1,z2,z3,r'];show(match staticsOk (importedModules p.main.body) (boot_heap w.params) s₁.abs.heap&&namesBound p s₁.abs.heap&&gensDone s₁.abs&&laidKept (boot_heap w.params) s₁.abs.heap with |true=>_ |false=>_)=_;rw[l1]
 unfold openEnds;rw[e];show(topFrom treeTable p w N _).map _=_;rw[t];exact congrArg some (Prod.ext l2 l3)
end HD
namespace HD
open PySem PySem.W
def dE(P:Params)(k:Str)(t:Tok)(v:Value):DictEntry:=⟨PyData.keyHash P k,.str k t,v⟩
noncomputable def oFn(d:Option Addr)(st:Stmt)(name qual:Str)(dV kV doc pm:Value)(an:Option Addr)(cd ct:Value):Obj:=⟨.type "function",d,.func (fnOf name qual (L2.qQ st) (L2.qB st) (L2.qi st) dV kV doc pm an cd ct),#[]⟩
noncomputable def oC(n:Str)(t1:Tok)(q:Str)(t2 t3:Tok)(l ar:Int)(a b:Addr)(x y:Value)(c:Addr)(u:Int)(v:Tok):Obj:=⟨.type "code",none,.fields #[.str n t1,.str q t2,.str "/claim/cut.py" t3,.int l 0,.int ar 0,.int 0 0,.int 0 0,.int 3 0,.ref a,.bool true,.int 181 0,.ref b,.none,x,y,.ref c,.int u 0,.int l 0,.str "/claim/cut.py" v],#[]⟩
noncomputable def oG(st:Stmt)(n m:Str)(t:Tok)(a:Addr):Obj:=oFn none st n n .none .none .none (.str m t) none (.ref a) .none
noncomputable def oB(n:Str)(t:Tok)(l ar:Int)(a:Addr)(v:Nat):Obj:=oC n t n (t+1) (t+2) l ar a (a+1) (.ref (a+2)) (.ref (a+3)) (a+4) v (v+1)
theorem qdL(w:World):((boot_heap w.params).isNs mainGlobals&&(Array.mk []:Array GenState).size == 0,(boot_heap w.params).objs.size,(boot_heap w.params).nsMap mainGlobals "__annotations__")=(true,11,some (.ref 6)):=by kernel_rfl
end HD
namespace K51
open PySem PySem.W HD DG
abbrev HP:Program:=PySem.Challenge.rw_daysgate_k51_plans_day_by_day.row.toRowW.prog
noncomputable def Hq:Program:=view HP [0,2,3,4,5,6,7,8,9,10,12,13,14,15,16,17,19,20,21,22,24,25,26,27,28,29,30,31,33,34,35,37,38,39,40,41,42,43,44,45,46,48,49,51,52,53,54,56,57,58,59,60,61,63,64,65,66,67,68,69,70,71,72]
noncomputable def Hx(s:Shared):Bool:=xlAt Hq [] s&&recOk (RowW.records PySem.Challenge.rw_daysgate_k51_plans_day_by_day.row.toRowW) s
noncomputable def Has:List Addr:=[2,3,27,28,34,35,41,42,48,49,55,56,62,63,74,163,164,170,171,177,178,184,185,191,192,198,199,212,213,219,220,222,223,224,225,240,241,247,248,250,251,266,267,273,274,276,277,292,293,299,300,302,303,311,312,318,319,323,324,330,331,337,338,344,345,351,352,358,359,365,366,370,371,377,378,384,385,391,392,398,399,405,406,412,413,419,420,426,427,433,434,440,441,454,455,461,462,468,469,473,474,476,477,478,479,487,488,494,495,501,502,508,509,515,516,522,523,529,530,534,535,541,542,546,547]
noncomputable def HK(P:Params):Frag:=(nat_lit 2,⟨.none,none,.dict #[] 0,#[]⟩)::(nat_lit 3,⟨(.type "dict"),none,.dict #[dE P "__name__" 165 (.str "law_daysgate_k51_plans_day_by_day" 864),dE P "__doc__" 166 .none,dE P "__package__" 167 .none,dE P "__loader__" 168 (.builtin "__main__.__loader__#opaque"),dE P "__spec__" 169 .none,dE P "__annotations__" 170 (.ref 6),dE P "__builtins__" 171 (.ref 4),dE P "__file__" 173 (.str "/claim/cut.py" 172),dE P "__cached__" 174 .none,dE P "_wall" 193 (.ref 21),dE P "GREATEST" 197 (.int (1000000000) 196),dE P "LETTERS" 199 (.str "abcdefghijklmnopqrstuvwxyz" 198),dE P "LONGEST_NAME" 201 (.int (8) 200),dE P "is_whole" 208 (.ref 28),dE P "is_between" 217 (.ref 35),dE P "are_days" 225 (.ref 42),dE P "is_made_of" 234 (.ref 49),dE P "is_name" 241 (.ref 56),dE P "are_names" 251 (.ref 63),dE P "DayError" 271 (.ref 73),dE P "NoRule" 287 (.ref 86),dE P "NoPaper" 312 (.ref 105),dE P "NoStay" 337 (.ref 124),dE P "NotLet" 366 (.ref 143),dE P "NoWish" 382 (.ref 155),dE P "spread" 394 (.ref 164),dE P "both" 407 (.ref 171),dE P "outside" 419 (.ref 178),dE P "less" 427 (.ref 185),dE P "MOST_LANDS" 431 (.int (6) 430),dE P "GREATEST_WEIGHT" 433 (.int (9) 432),dE P "is_land" 440 (.ref 192),dE P "are_lands" 449 (.ref 199),dE P "Rule" 490 (.ref 223),dE P "Within" 524 (.ref 251),dE P "Since" 558 (.ref 277),dE P "InRow" 590 (.ref 303),dE P "MOST_STAYS" 594 (.int (60) 593),dE P "is_stay" 601 (.ref 312),dE P "stays_of" 611 (.ref 319),dE P "pieces_among" 619 (.ref 324),dE P "sum_of" 633 (.ref 331),dE P "first_since" 646 (.ref 338),dE P "first_of_window" 655 (.ref 345),dE P "count_among" 664 (.ref 352),dE P "turns_of" 676 (.ref 359),dE P "first_above" 689 (.ref 366),dE P "first_broken" 695 (.ref 371),dE P "fault_among" 708 (.ref 378),dE P "fault_of" 716 (.ref 385),dE P "let_stays" 728 (.ref 392),dE P "check_day" 736 (.ref 399),dE P "MOST_WISHES" 740 (.int (6) 739),dE P "fault_on" 752 (.ref 406),dE P "planned_day" 765 (.ref 413),dE P "plan_of" 780 (.ref 420),dE P "MOST_RULES" 784 (.int (8) 783),dE P "MOST_PAPERS" 786 (.int (12) 785),dE P "are_rules" 794 (.ref 427),dE P "is_paper" 802 (.ref 434),dE P "check_papers" 812 (.ref 441),dE P "Book" 863 (.ref 477),dE P "_law_cell_at" 873 (.ref 488),dE P "_law_lands" 889 (.ref 495),dE P "_law_rule" 902 (.ref 502),dE P "_law_made" 913 (.ref 509),dE P "_law_paper" 924 (.ref 516),dE P "_law_stays" 939 (.ref 523),dE P "_law_let" 952 (.ref 530),dE P "_law_wishes" 958 (.ref 535),dE P "_law_day_right" 973 (.ref 542),dE P "law" 979 (.ref 547)] 72,#[]⟩)::(nat_lit 27,oB "is_whole" 202 8 1 22 206)::(nat_lit 28,oG (top 5) "is_whole" "daysgate.checks" 194 27)::(nat_lit 34,oB "is_between" 209 10 3 29 215)::(nat_lit 35,oG (top 6) "is_between" "daysgate.checks" 194 34)::(nat_lit 41,oB "are_days" 218 12 2 36 223)::(nat_lit 42,oG (top 7) "are_days" "daysgate.checks" 194 41)::(nat_lit 48,oB "is_made_of" 226 14 2 43 232)::(nat_lit 49,oG (top 8) "is_made_of" "daysgate.checks" 194 48)::(nat_lit 55,oB "is_name" 235 19 1 50 239)::(nat_lit 56,oG (top 9) "is_name" "daysgate.checks" 194 55)::(nat_lit 62,oB "are_names" 242 23 2 57 249)::(nat_lit 63,oG (top 10) "are_names" "daysgate.checks" 194 62)::(nat_lit 74,⟨(.type "getset_descriptor"),none,.fields #[(.str "__weakref__" 267),(.ref 73),(.builtin "ExceptionGroup.__weakref__"),.none],#[]⟩)::(nat_lit 163,oB "spread" 385 57 1 158 392)::(nat_lit 164,oG (top 19) "spread" "daysgate.days" 383 163)::(nat_lit 170,oB "both" 395 65 2 165 405)::(nat_lit 171,oG (top 20) "both" "daysgate.days" 383 170)::(nat_lit 177,oB "outside" 408 79 3 172 417)::(nat_lit 178,oG (top 21) "outside" "daysgate.days" 383 177)::(nat_lit 184,oB "less" 420 89 2 179 425)::(nat_lit 185,oG (top 22) "less" "daysgate.days" 383 184)::(nat_lit 191,oB "is_land" 434 96 1 186 438)::(nat_lit 192,oG (top 26) "is_land" "daysgate.rules" 428 191)::(nat_lit 198,oB "are_lands" 441 100 1 193 447)::(nat_lit 199,oG (top 27) "are_lands" "daysgate.rules" 428 198)::(nat_lit 212,oC "__init__" 462 "Rule.__init__" 463 464 111 3 207 208 (.ref 209) (.ref 210) 211 468 469)::(nat_lit 213,oFn none (mem 28 0) "__init__" "Rule.__init__" .none .none .none (.str "daysgate.rules" 428) none (.ref 212) .none)::(nat_lit 219,oC "weight" 471 "Rule.weight" 472 473 119 2 214 215 (.ref 216) (.ref 217) 218 478 479)::(nat_lit 220,oFn none (mem 28 1) "weight" "Rule.weight" .none .none .none (.str "daysgate.rules" 428) none (.ref 219) .none)::(nat_lit 222,⟨(.type "dict"),none,.dict #[dE P "__module__" 457 (.str "daysgate.rules" 428),dE P "__firstlineno__" 461 (.int (109) 460),dE P "__init__" 470 (.ref 213),dE P "weight" 480 (.ref 220),dE P "__static_attributes__" 483 (.ref 221),dE P "__dict__" 485 (.ref 224),dE P "__weakref__" 487 (.ref 225),dE P "__doc__" 488 .none] 4,#[]⟩)::(nat_lit 223,⟨(.type "type"),none,.cls ⟨"Rule",[(.type "object")],[(.ref 223),(.type "object")],222,"Rule",true,[],[(.ref 251),(.ref 277)],false,none,false⟩,#[none,none,some (.str "Rule" 450),some (.str "Rule" 458),some (.builtin "object.__new__"),some (.bool true)]⟩)::(nat_lit 224,⟨(.type "getset_descriptor"),none,.fields #[(.str "__dict__" 484),(.ref 223),(.builtin "function.__dict__"),(.builtin "function.__dict__#set")],#[]⟩)::(nat_lit 225,⟨(.type "getset_descriptor"),none,.fields #[(.str "__weakref__" 486),(.ref 223),(.builtin "ExceptionGroup.__weakref__"),.none],#[]⟩)::(nat_lit 240,oC "__init__" 503 "Within.__init__" 504 505 126 4 235 236 (.ref 237) (.ref 238) 239 510 511)::(nat_lit 241,oFn none (mem 29 0) "__init__" "Within.__init__" .none .none .none (.str "daysgate.rules" 428) none (.ref 240) .none)::(nat_lit 247,oC "line" 513 "Within.line" 514 515 132 1 242 243 (.ref 244) (.ref 245) 246 517 518)::(nat_lit 248,oFn none (mem 29 1) "line" "Within.line" .none .none .none (.str "daysgate.rules" 428) none (.ref 247) .none)::(nat_lit 250,⟨(.type "dict"),none,.dict #[dE P "__module__" 498 (.str "daysgate.rules" 428),dE P "__firstlineno__" 502 (.int (124) 501),dE P "__init__" 512 (.ref 241),dE P "line" 519 (.ref 248),dE P "__static_attributes__" 521 (.ref 249),dE P "__doc__" 522 .none] 2,#[]⟩)::(nat_lit 251,⟨(.type "type"),none,.cls ⟨"Within",[(.ref 223)],[(.ref 251),(.ref 223),(.type "object")],250,"Within",true,[],[],false,none,false⟩,#[some (.ref 228),none,some (.str "Within" 491),some (.str "Within" 499),some (.builtin "object.__new__"),some (.bool true)]⟩)::(nat_lit 266,oC "__init__" 537 "Since.__init__" 538 539 136 4 261 262 (.ref 263) (.ref 264) 265 544 545)::(nat_lit 267,oFn none (mem 30 0) "__init__" "Since.__init__" .none .none .none (.str "daysgate.rules" 428) none (.ref 266) .none)::(nat_lit 273,oC "line" 547 "Since.line" 548 549 142 1 268 269 (.ref 270) (.ref 271) 272 551 552)::(nat_lit 274,oFn none (mem 30 1) "line" "Since.line" .none .none .none (.str "daysgate.rules" 428) none (.ref 273) .none)::(nat_lit 276,⟨(.type "dict"),none,.dict #[dE P "__module__" 532 (.str "daysgate.rules" 428),dE P "__firstlineno__" 536 (.int (134) 535),dE P "__init__" 546 (.ref 267),dE P "line" 553 (.ref 274),dE P "__static_attributes__" 555 (.ref 275),dE P "__doc__" 556 .none] 2,#[]⟩)::(nat_lit 277,⟨(.type "type"),none,.cls ⟨"Since",[(.ref 223)],[(.ref 277),(.ref 223),(.type "object")],276,"Since",true,[],[(.ref 303)],false,none,false⟩,#[some (.ref 254),none,some (.str "Since" 525),some (.str "Since" 533),some (.builtin "object.__new__"),some (.bool true)]⟩)::(nat_lit 292,oC "__init__" 571 "InRow.__init__" 572 573 146 3 287 288 (.ref 289) (.ref 290) 291 577 578)::(nat_lit 293,oFn none (mem 31 0) "__init__" "InRow.__init__" .none .none .none (.str "daysgate.rules" 428) none (.ref 292) .none)::(nat_lit 299,oC "line" 580 "InRow.line" 581 582 149 1 294 295 (.ref 296) (.ref 297) 298 584 585)::(nat_lit 300,oFn none (mem 31 1) "line" "InRow.line" .none .none .none (.str "daysgate.rules" 428) none (.ref 299) .none)::(nat_lit 302,⟨(.type "dict"),none,.dict #[dE P "__module__" 566 (.str "daysgate.rules" 428),dE P "__firstlineno__" 570 (.int (144) 569),dE P "__init__" 579 (.ref 293),dE P "line" 586 (.ref 300),dE P "__static_attributes__" 587 (.ref 301),dE P "__doc__" 588 .none] 2,#[]⟩)::(nat_lit 303,⟨(.type "type"),none,.cls ⟨"InRow",[(.ref 277)],[(.ref 303),(.ref 277),(.ref 223),(.type "object")],302,"InRow",true,[],[],false,none,false⟩,#[some (.ref 280),none,some (.str "InRow" 559),some (.str "InRow" 567),some (.builtin "object.__new__"),some (.bool true)]⟩)::(nat_lit 311,oB "is_stay" 595 153 1 306 599)::(nat_lit 312,oG (top 34) "is_stay" "daysgate.stays" 591 311)::(nat_lit 318,oB "stays_of" 602 157 1 313 609)::(nat_lit 319,oG (top 35) "stays_of" "daysgate.stays" 591 318)::(nat_lit 323,oC "pieces_among" 614 "pieces_among" 615 616 169 3 320 321 .none .none 322 617 618)::(nat_lit 324,oG (top 37) "pieces_among" "daysgate.sums" 612 323)::(nat_lit 330,oB "sum_of" 620 178 3 325 631)::(nat_lit 331,oG (top 38) "sum_of" "daysgate.sums" 612 330)::(nat_lit 337,oB "first_since" 634 185 3 332 644)::(nat_lit 338,oG (top 39) "first_since" "daysgate.sums" 612 337)::(nat_lit 344,oB "first_of_window" 647 193 3 339 653)::(nat_lit 345,oG (top 40) "first_of_window" "daysgate.sums" 612 344)::(nat_lit 351,oB "count_among" 656 197 3 346 662)::(nat_lit 352,oG (top 41) "count_among" "daysgate.sums" 612 351)::(nat_lit 358,oB "turns_of" 665 199 2 353 674)::(nat_lit 359,oG (top 42) "turns_of" "daysgate.sums" 612 358)::(nat_lit 365,oB "first_above" 677 206 4 360 687)::(nat_lit 366,oG (top 43) "first_above" "daysgate.sums" 612 365)::(nat_lit 370,oC "first_broken" 690 "first_broken" 691 692 213 2 367 368 .none .none 369 693 694)::(nat_lit 371,oG (top 44) "first_broken" "daysgate.sums" 612 370)::(nat_lit 377,oB "fault_among" 696 223 2 372 706)::(nat_lit 378,oG (top 45) "fault_among" "daysgate.sums" 612 377)::(nat_lit 384,oB "fault_of" 709 231 2 379 714)::(nat_lit 385,oG (top 46) "fault_of" "daysgate.sums" 612 384)::(nat_lit 391,oB "let_stays" 719 234 2 386 726)::(nat_lit 392,oG (top 48) "let_stays" "daysgate.limits" 717 391)::(nat_lit 398,oB "check_day" 729 240 2 393 734)::(nat_lit 399,oG (top 49) "check_day" "daysgate.limits" 717 398)::(nat_lit 405,oB "fault_on" 741 245 3 400 750)::(nat_lit 406,oG (top 52) "fault_on" "daysgate.plans" 737 405)::(nat_lit 412,oB "planned_day" 753 251 4 407 763)::(nat_lit 413,oG (top 53) "planned_day" "daysgate.plans" 737 412)::(nat_lit 419,oB "plan_of" 766 259 5 414 778)::(nat_lit 420,oG (top 54) "plan_of" "daysgate.plans" 737 419)::(nat_lit 426,oB "are_rules" 787 274 1 421 792)::(nat_lit 427,oG (top 58) "are_rules" "daysgate.books" 781 426)::(nat_lit 433,oB "is_paper" 795 281 2 428 800)::(nat_lit 434,oG (top 59) "is_paper" "daysgate.books" 781 433)::(nat_lit 440,oB "check_papers" 803 285 2 435 810)::(nat_lit 441,oG (top 60) "check_papers" "daysgate.books" 781 440)::(nat_lit 454,oC "__init__" 825 "Book.__init__" 826 827 295 3 449 450 (.ref 451) (.ref 452) 453 831 832)::(nat_lit 455,oFn none (mem 61 0) "__init__" "Book.__init__" .none .none .none (.str "daysgate.books" 781) none (.ref 454) .none)::(nat_lit 461,oC "rules" 834 "Book.rules" 835 836 302 1 456 457 (.ref 458) (.ref 459) 460 838 839)::(nat_lit 462,oFn none (mem 61 1) "rules" "Book.rules" .none .none .none (.str "daysgate.books" 781) none (.ref 461) .none)::(nat_lit 468,oC "papers" 841 "Book.papers" 842 843 305 1 463 464 (.ref 465) (.ref 466) 467 845 846)::(nat_lit 469,oFn none (mem 61 2) "papers" "Book.papers" .none .none .none (.str "daysgate.books" 781) none (.ref 468) .none)::(nat_lit 473,oC "lifted" 848 "Book.lifted" 849 850 308 2 470 471 .none .none 472 851 852)::(nat_lit 474,oFn none (mem 61 3) "lifted" "Book.lifted" .none .none .none (.str "daysgate.books" 781) none (.ref 473) .none)::(nat_lit 476,⟨(.type "dict"),none,.dict #[dE P "__module__" 820 (.str "daysgate.books" 781),dE P "__firstlineno__" 824 (.int (293) 823),dE P "__init__" 833 (.ref 455),dE P "rules" 840 (.ref 462),dE P "papers" 847 (.ref 469),dE P "lifted" 853 (.ref 474),dE P "__static_attributes__" 856 (.ref 475),dE P "__dict__" 858 (.ref 478),dE P "__weakref__" 860 (.ref 479),dE P "__doc__" 861 .none] 4,#[]⟩)::(nat_lit 477,⟨(.type "type"),none,.cls ⟨"Book",[(.type "object")],[(.ref 477),(.type "object")],476,"Book",true,[],[],false,none,false⟩,#[none,none,some (.str "Book" 813),some (.str "Book" 821),some (.builtin "object.__new__"),some (.bool true)]⟩)::(nat_lit 478,⟨(.type "getset_descriptor"),none,.fields #[(.str "__dict__" 857),(.ref 477),(.builtin "function.__dict__"),(.builtin "function.__dict__#set")],#[]⟩)::(nat_lit 479,⟨(.type "getset_descriptor"),none,.fields #[(.str "__weakref__" 859),(.ref 477),(.builtin "ExceptionGroup.__weakref__"),.none],#[]⟩)::(nat_lit 487,oB "_law_cell_at" 866 311 2 482 871)::(nat_lit 488,oG (top 63) "_law_cell_at" "law_daysgate_k51_plans_day_by_day" 864 487)::(nat_lit 494,oB "_law_lands" 874 315 2 489 887)::(nat_lit 495,oG (top 64) "_law_lands" "law_daysgate_k51_plans_day_by_day" 864 494)::(nat_lit 501,oB "_law_rule" 890 327 2 496 900)::(nat_lit 502,oG (top 65) "_law_rule" "law_daysgate_k51_plans_day_by_day" 864 501)::(nat_lit 508,oB "_law_made" 903 339 1 503 911)::(nat_lit 509,oG (top 66) "_law_made" "law_daysgate_k51_plans_day_by_day" 864 508)::(nat_lit 515,oB "_law_paper" 914 346 3 510 922)::(nat_lit 516,oG (top 67) "_law_paper" "law_daysgate_k51_plans_day_by_day" 864 515)::(nat_lit 522,oB "_law_stays" 925 350 3 517 937)::(nat_lit 523,oG (top 68) "_law_stays" "law_daysgate_k51_plans_day_by_day" 864 522)::(nat_lit 529,oB "_law_let" 940 362 2 524 950)::(nat_lit 530,oG (top 69) "_law_let" "law_daysgate_k51_plans_day_by_day" 864 529)::(nat_lit 534,oC "_law_wishes" 953 "_law_wishes" 954 955 371 2 531 532 .none .none 533 956 957)::(nat_lit 535,oG (top 70) "_law_wishes" "law_daysgate_k51_plans_day_by_day" 864 534)::(nat_lit 541,oB "_law_day_right" 959 376 5 536 971)::(nat_lit 542,oG (top 71) "_law_day_right" "law_daysgate_k51_plans_day_by_day" 864 541)::(nat_lit 546,oC "law" 974 "law" 975 976 391 1 543 544 .none .none 545 977 978)::(nat_lit 547,oG (top 72) "law" "law_daysgate_k51_plans_day_by_day" 864 546)::[]
theorem HKe(P:Params):Has=(HK P).map (·.1):=by kernel_rfl
noncomputable def qkf(p q:Program)(rc:Shared->Bool)(w:World)(H0:Heap)(s0:SharedT):=(Yq treeTable p w 11 (some (.ref 6)) 9350 s0 (topStub p)).map (λs=>qhB p q [] (λs=>xlAt q [] s&&rc s) (λs=>Has.map s.heap.get?) true H0 s.abs)
noncomputable def Hlk(w:World)(H0:Heap)(s0:SharedT):=qkf HP Hq (recOk (RowW.records PySem.Challenge.rw_daysgate_k51_plans_day_by_day.row.toRowW)) w H0 s0
def qkg(q:Program):=openGood q []
def Hgd:=qkg Hq
theorem qdM:qkf=qkf:=rfl
theorem qdN:qkg=qkg:=rfl
end K51
lay_quick K51.qkf K51.qkg
name_quick hlkQ for K51.qkf by K51.qdM
name_quick hgdQ for K51.qkg by K51.qdN
namespace K51
open PySem PySem.W HD DG
theorem qkh(w:World)(os:OsState):Hlk w (boot_heap w.params) (qhA w.params os)=some (true,Hgd,(HK w.params).map λp=>some p.2):=by
 unfold Hlk Hgd;rw[PySem.W.Fast.hlkQ_eq,PySem.W.Fast.hgdQ_eq]
 kernel_rfl
theorem qly:LeftO HP Hq [] Hx (λs=>Has.map s.heap.get?) (λw=>(HK w.params).map λp=>some p.2) 9350 true:=
 qhC (boot_open (by kernel_rfl) (2:) (λ_=>by kernel_rfl)) qdL qkh
end K51
namespace DG
open PySem PySem.Spec PyProof.Rows L2 DE
theorem qhD(b:Bool)(l:List D):aA b l=aL b l:=by cases b<;>rfl
theorem qaB{pg:Pg}[CH pg][RU pg][BO pg](j:Nat):Ck pg (j+5) where
 lands:=λb l h=>by rw[qhD];exact qaj (j+1) b l h
 rules:=λb l h=>by rw[qhD];exact qak (j+4) b l h
 papers:=λb ps n h=>by rw[qhD];exact Yz j b ps n h
 btw:=λn a b h=>qjR (j+3) n a b h
noncomputable def kap(cW cS cI cB:Addr):KC:=λc=>if c = "Within" then some cW else if c = "Since" then some cS else if c = "InRow" then some cI else if c = "Book" then some cB else none
theorem qki{cW cS cI cB C:Addr}{c:Str}(h:kap cW cS cI cB c=some C):(c = "Within"/\C=cW)\/(c = "Since"/\C=cS)\/(c = "InRow"/\C=cI)\/(c = "Book"/\C=cB):=by
 unfold kap at h
 split at h
 ·cases h;exact .inl ⟨‹_›,rfl⟩
 split at h
 ·cases h;exact .inr (.inl ⟨‹_›,rfl⟩)
 split at h
 ·cases h;exact .inr (.inr (.inl ⟨‹_›,rfl⟩))
 split at h
 ·cases h;exact .inr (.inr (.inr ⟨‹_›,rfl⟩))
 cases h
theorem qbW{c:Str}(h:rk c=true):c = "Within"\/c = "Since"\/c = "InRow":=by
 unfold rk at h
 simpa [or_assoc] using h
theorem qkj{c x:Str}(h:pcs.fld c x=true):(rk c=true/\(x = "lands"\/x = "most"))\/(c = "Within"/\x = "span")\/((c = "Since"\/c = "InRow")/\x = "leave")\/(c = "Book"/\(x = "kept_rules"\/x = "kept_papers")):=by
 have h:((rk c&&(x == "lands" || x == "most" || (x == "span" && c == "Within")||(x == "leave" && c != "Within")))||(c == "Book" && (x == "kept_rules" || x == "kept_papers")))=true:=h;simp only[Bool.or_eq_true,Bool.and_eq_true,beq_iff_eq,bne_iff_ne] at h;rcases h with ⟨h1,((h2 | h2) | h2) | h2⟩ | h2
 ·exact .inl ⟨h1,.inl h2⟩
 ·exact .inl ⟨h1,.inr h2⟩
 ·exact .inr (.inl ⟨h2.2,h2.1⟩)
 ·refine .inr (.inr (.inl ⟨?_,h2.1⟩));rcases qbW h1 with q | q
  ·exact absurd q h2.2
  ·exact q
 ·exact .inr (.inr (.inr h2))
theorem qlz{c x f:Str}(h:pcs.mt c x=some f):(rk c=true/\x = "weight"/\f = "Rule.weight")\/(c = "Book"/\x = "rules"/\f = "Book.rules")\/(c = "Book"/\x = "lifted"/\f = "Book.lifted")\/(c = "Book"/\x = "papers"/\f = "Book.papers"):=by
 have h:(if (rk c&&x == "weight")=true then some ("Rule.weight" : Str) else if (c == "Book" && x == "rules")=true then some ("Book.rules" : Str) else if (c == "Book" && x == "lifted")=true then some ("Book.lifted" : Str) else if (c == "Book" && x == "papers")=true then some ("Book.papers" : Str) else none)=some f:=h
 split at h
 ·rename_i q;simp only[Bool.and_eq_true,beq_iff_eq] at q;cases h;exact .inl ⟨q.1,q.2,rfl⟩
 split at h
 ·rename_i q;simp only[Bool.and_eq_true,beq_iff_eq] at q;cases h;exact .inr (.inl ⟨q.1,q.2,rfl⟩)
 split at h
 ·rename_i q;simp only[Bool.and_eq_true,beq_iff_eq] at q;cases h;exact .inr (.inr (.inl ⟨q.1,q.2,rfl⟩))
 split at h
 ·rename_i q;simp only[Bool.and_eq_true,beq_iff_eq] at q;cases h;exact .inr (.inr (.inr ⟨q.1,q.2,rfl⟩))
 cases h
theorem qkk{c t:Str}{b:Bool}(h:pcs.sub c t=some b):rk c=true/\((t = "Within"/\b=(c == "Within"))\/(t = "Since"/\b=(c != "Within"))):=by
 have h:(if (rk c&&t == "Within")=true then some (c == "Within") else if (rk c&&t == "Since")=true then some (c != "Within") else none)=some b:=h
 split at h
 ·rename_i q;simp only[Bool.and_eq_true,beq_iff_eq] at q;cases h;exact⟨q.1,.inl ⟨q.2,rfl⟩⟩
 split at h
 ·rename_i q;simp only[Bool.and_eq_true,beq_iff_eq] at q;cases h;exact⟨q.1,.inr ⟨q.2,rfl⟩⟩
 cases h
theorem QP{c:Str}{o:Option (List (Str×D))}{r:Rv}(h:qbK c o=.ok r):∃fs,o=some fs/\r=.val (.ins c (fs.map (·.1)) (fs.map (·.2))):=by
 cases o with
 |none=>cases h
 |some fs=>cases h;exact⟨fs,rfl,rfl⟩
theorem Z1(b:Bool)(l l':List D):aA b l≠.scr l':=by cases b<;>(intro z;cases z)
theorem qmJ{j:Nat}{args:List Ar}{r:Rv}(h:pnw (j+12) "Within" args=.ok r):(∀a∈args,∀l,a≠.scr l)/\∃fs,jL "span" args=some fs/\r=.val (.ins "Within" (fs.map (·.1)) (fs.map (·.2))):=by
 have h:(if j+12 < 12 then R.no else qbK "Within" (jL "span" args))=.ok r:=h;rw[if_neg (1:)] at h;obtain⟨fs,e,er⟩:=QP h;obtain⟨b,l,m,s,rfl,_⟩:=jl e;refine⟨λa ha=>?_,fs,e,er⟩;simp only[List.mem_cons,List.not_mem_nil,or_false] at ha;rcases ha with rfl | rfl | rfl
 ·exactλl'=>Z1 b l l'
 ·exactλl' z=>by cases z
 ·exactλl' z=>by cases z
theorem qmK{j:Nat}{args:List Ar}{r:Rv}(h:pnw (j+12) "Since" args=.ok r):(∀a∈args,∀l,a≠.scr l)/\∃fs,jL "leave" args=some fs/\r=.val (.ins "Since" (fs.map (·.1)) (fs.map (·.2))):=by
 have h:(if j+12 < 12 then R.no else qbK "Since" (jL "leave" args))=.ok r:=h;rw[if_neg (1:)] at h;obtain⟨fs,e,er⟩:=QP h;obtain⟨b,l,m,s,rfl,_⟩:=jl e;refine⟨λa ha=>?_,fs,e,er⟩;simp only[List.mem_cons,List.not_mem_nil,or_false] at ha;rcases ha with rfl | rfl | rfl
 ·exactλl'=>Z1 b l l'
 ·exactλl' z=>by cases z
 ·exactλl' z=>by cases z
theorem qmL{j:Nat}{args:List Ar}{r:Rv}(h:pnw (j+12) "InRow" args=.ok r):(∀a∈args,∀l,a≠.scr l)/\∃fs,qbJ args=some fs/\r=.val (.ins "InRow" (fs.map (·.1)) (fs.map (·.2))):=by
 have h:(if j+12 < 12 then R.no else qbK "InRow" (qbJ args))=.ok r:=h;rw[if_neg (1:)] at h;obtain⟨fs,e,er⟩:=QP h;obtain⟨b,l,m,rfl,_⟩:=QO e;refine⟨λa ha=>?_,fs,e,er⟩;simp only[List.mem_cons,List.not_mem_nil,or_false] at ha;rcases ha with rfl | rfl
 ·exactλl'=>Z1 b l l'
 ·exactλl' z=>by cases z
theorem qmM{j:Nat}{args:List Ar}{r:Rv}(h:pnw (j+12) "Book" args=.ok r):(∀a∈args,∀l,a≠.scr l)/\∃fs,YL args=some fs/\r=.val (.ins "Book" (fs.map (·.1)) (fs.map (·.2))):=by
 have h:(if j+12 < 12 then R.no else qbK "Book" (YL args))=.ok r:=h;rw[if_neg (1:)] at h;obtain⟨fs,e,er⟩:=QP h;obtain⟨b,c,l,ps,rfl,_⟩:=Yp e;refine⟨λa ha=>?_,fs,e,er⟩;simp only[List.mem_cons,List.not_mem_nil,or_false] at ha;rcases ha with rfl | rfl
 ·exactλl'=>Z1 b l l'
 ·exactλl'=>Z1 c ps l'
structure Kl(K:Frag)(C:Addr):Prop where
 cls:Cls K C
 tc:PySem.W.findIn K (.ref C) "__class__" = some (some (.builtin "object.__class__"))
 mo:PySem.W.mroIn K C (.type "object")=some true
structure Kr(K:Frag)(fw C cW cS:Addr)(x:Str)(b:Bool):Prop where
 kl:Kl K C
 la:zv K C "lands"
 mo:zv K C "most"
 fx:zv K C x
 wt:Meth K C "weight" fw
 iw:PySem.W.kitOne K (.ref C) (.ref cW)=some b
 is:PySem.W.kitOne K (.ref C) (.ref cS)=some (!b)
structure Kb(K:Frag)(fr fl fp C:Addr):Prop where
 kl:Kl K C
 a1:zv K C "kept_rules"
 a2:zv K C "kept_papers"
 m1:Meth K C "rules" fr
 m2:Meth K C "lifted" fl
 m3:Meth K C "papers" fp
section
variable{K:Frag}{mg:PR}{cW cS cI cB fw fr fl fp:Addr}(W:Kr K fw cW cW cS "span" true)(S:Kr K fw cS cW cS "leave" false)(I:Kr K fw cI cW cS "leave" false)(B:Kb K fr fl fp cB)
include W S I B
theorem qfU(c:Str)(C:Addr)(h:kap cW cS cI cB c=some C):Cls K C:=by
 rcases qki h with ⟨_,rfl⟩ | ⟨_,rfl⟩ | ⟨_,rfl⟩ | ⟨_,rfl⟩
 ·exact W.kl.cls
 ·exact S.kl.cls
 ·exact I.kl.cls
 ·exact B.kl.cls
theorem qdO(c x:Str)(C:Addr)(hf:pcs.fld c x=true)(h:kap cW cS cI cB c=some C):zv K C x:=by
 rcases qkj hf with ⟨hr,rfl | rfl⟩ | ⟨rfl,rfl⟩ | ⟨rfl | rfl,rfl⟩ | ⟨rfl,rfl | rfl⟩
 ·rcases qbW hr with rfl | rfl | rfl
  ·cases h;exact W.la
  ·cases h;exact S.la
  ·cases h;exact I.la
 ·rcases qbW hr with rfl | rfl | rfl
  ·cases h;exact W.mo
  ·cases h;exact S.mo
  ·cases h;exact I.mo
 ·cases h;exact W.fx
 ·cases h;exact S.fx
 ·cases h;exact I.fx
 ·cases h;exact B.a1
 ·cases h;exact B.a2
theorem qbX{C:Addr}(k:Kl K C)(n:PySem.W.specialIn K (.builtin "object.__class__") "__get__" = some (some (.builtin "getset_descriptor.__get__")))(tk:PySem.W.takesIn K (.builtin "object.__class__")=some true) :
  ∀(H:Hp) (p dx:Addr) (fs:List (Str×V)),H p=some (L2.HO.ins C dx fs)->TyOf K H (.ref p) (.ref C):=λH p dx fs hp=>.ins hp k.cls k.tc n tk k.mo
theorem qhE(n:PySem.W.specialIn K (.builtin "object.__class__") "__get__" = some (some (.builtin "getset_descriptor.__get__")))(tk:PySem.W.takesIn K (.builtin "object.__class__")=some true)(mW:mg "Within" = some (.ref cW))(mS:mg "Since" = some (.ref cS))
  (c t:Str) (b:Bool) (h:pcs.sub c t=some b):∃C T,kap cW cS cI cB c=some C/\(∀H p dx fs,H p=some (L2.HO.ins C dx fs)->TyOf K H (.ref p) (.ref C))/\mg t=some (.ref T)/\PySem.W.kitOne K (.ref C) (.ref T)=some b:=by
 obtain⟨hr,⟨rfl,rfl⟩ | ⟨rfl,rfl⟩⟩:=qkk h
 ·rcases qbW hr with rfl | rfl | rfl
  ·exact⟨cW,cW,rfl,qbX W S I B W.kl n tk,mW,W.iw⟩
  ·exact⟨cS,cW,rfl,qbX W S I B S.kl n tk,mW,S.iw⟩
  ·exact⟨cI,cW,rfl,qbX W S I B I.kl n tk,mW,I.iw⟩
 ·rcases qbW hr with rfl | rfl | rfl
  ·exact⟨cW,cS,rfl,qbX W S I B W.kl n tk,mS,W.is⟩
  ·exact⟨cS,cS,rfl,qbX W S I B S.kl n tk,mS,S.is⟩
  ·exact⟨cI,cS,rfl,qbX W S I B I.kl n tk,mS,I.is⟩
end
noncomputable def Y2(K:Frag)(f:Addr)(n q:Str)(st:Stmt):Prop:=∃oc od kV dc pm an cd ct sl,K.lookup f=some ⟨oc,od,.func (PySem.W.fnOf n q (qQ st) (qB st) (qi st) .none kV dc pm an cd ct),sl⟩/\PySem.W.codeIn K cd q=true/\PySem.W.keepIn K (.ref f)=true
noncomputable abbrev FG(K:Frag)(f:Addr)(n:Str)(st:Stmt):Prop:=PySem.W.nsIn K mainGlobals n=some (some (.ref f))/\Y2 K f n n st
section
variable{K:Frag}{f:Addr}{n q:Str}{st:Stmt}{mg:PR}{h:Heap}
theorem Y2.fn(i:Y2 K f n q st):∃fd,Fun K n q st f fd:=by obtain⟨oc,od,kV,dc,pm,an,cd,ct,sl,l,c,k⟩:=i;exact⟨_,qfb l c k⟩
theorem Y2.kp(i:Y2 K f n q st):PySem.W.keepIn K (.ref f)=true:=by obtain⟨oc,od,kV,dc,pm,an,cd,ct,sl,l,c,k⟩:=i;exact k
noncomputable def Bd(n q:Str)(st:Stmt)(ps:List Str):Prop:=∀(kV doc pm:Value) (an:Option Addr) (cdv ct:Value) (us:List Value),us.length=ps.length->bindArgs (PySem.W.fnOf n q (qQ st) (qB st) (qi st) .none kV doc pm an cdv ct) ⟨us,[]⟩=pure (ps.zip us)
theorem qkl(X:K.In h)(G:h.Ns mainGlobals mg)(a:PySem.W.nsIn K mainGlobals n=some (some (.ref f)))(i:Y2 K f n n st){ps:List Str}(hp:YI st=ps)(hb:Bd n n st ps):FnF K mg n st:=by obtain⟨fd,F⟩:=i.fn;exact⟨f,fd,F,PySem.W.mg_of X G a,hp▸F.binds hb⟩
theorem yY(i:Y2 K f n q st){ps:List Str}(hb:Bd n q st ps):∃fd,Fun K n q st f fd/\zj K fd ps []:=by obtain⟨fd,F⟩:=i.fn;exact⟨fd,F,F.binds hb⟩
theorem qkm(i:Y2 K f n n st)(hb:Bd n n st ["_law_script"]):∃fd,Fun K n n st f fd/\∀(s:Shared) (v:Value),BindsTo s fd ⟨[v],[]⟩ [("_law_script",v)]:=by obtain⟨oc,od,kV,dc,pm,an,cd,ct,sl,l,c,k⟩:=i;exact⟨_,qfb l c k,λs v=>.of_eq (hb _ _ _ _ _ _ [v] rfl)⟩
end
section
variable{n q:Str}{st:Stmt}{a b c d e:Str}
theorem bd1(h:∀(kV doc pm:Value) (an:Option Addr) (cdv ct x:Value),bindArgs (PySem.W.fnOf n q (qQ st) (qB st) (qi st) .none kV doc pm an cdv ct) ⟨[x],[]⟩=pure [(a,x)]):Bd n q st [a]:=λ_ _ _ _ _ _ us hl=>match us,hl with |[_],_=>h ..
theorem bd2(h:∀(kV doc pm:Value) (an:Option Addr) (cdv ct x y:Value),bindArgs (PySem.W.fnOf n q (qQ st) (qB st) (qi st) .none kV doc pm an cdv ct) ⟨[x,y],[]⟩=pure [(a,x),(b,y)]):Bd n q st [a,b]:=λ_ _ _ _ _ _ us hl=>match us,hl with |[_,_],_=>h ..
theorem bd3(h:∀(kV doc pm:Value) (an:Option Addr) (cdv ct x y z:Value),bindArgs (PySem.W.fnOf n q (qQ st) (qB st) (qi st) .none kV doc pm an cdv ct) ⟨[x,y,z],[]⟩=pure [(a,x),(b,y),(c,z)]):Bd n q st [a,b,c]:=λ_ _ _ _ _ _ us hl=>match us,hl with |[_,_,_],_=>h ..
theorem bd4(h:∀(kV doc pm:Value) (an:Option Addr) (cdv ct x y z u:Value),bindArgs (PySem.W.fnOf n q (qQ st) (qB st) (qi st) .none kV doc pm an cdv ct) ⟨[x,y,z,u],[]⟩=pure [(a,x),(b,y),(c,z),(d,u)]):Bd n q st [a,b,c,d]:=λ_ _ _ _ _ _ us hl=>match us,hl with |[_,_,_,_],_=>h ..
theorem bd5(h:∀(kV doc pm:Value) (an:Option Addr) (cdv ct x y z u v:Value),bindArgs (PySem.W.fnOf n q (qQ st) (qB st) (qi st) .none kV doc pm an cdv ct) ⟨[x,y,z,u,v],[]⟩=pure [(a,x),(b,y),(c,z),(d,u),(e,v)]):Bd n q st [a,b,c,d,e]:=λ_ _ _ _ _ _ us hl=>match us,hl with |[_,_,_,_,_],_=>h ..
end
end DG
namespace DG
open PySem PySem.Spec PyProof.Rows L2 DE
inductive BDs:List (Str×Stmt)->Prop
 | nil:BDs []
 | cons {n st l ps}:YI st=ps->Bd n n st ps->BDs l->BDs ((n,st)::l)
inductive FGs(K:Frag):List (Str×Stmt)->Prop
 | nil:FGs K []
 | cons {f n st l}:FG K f n st->FGs K l->FGs K ((n,st)::l)
inductive ZNs(K:Frag):List Str->Prop
 | nil:ZNs K []
 | cons {n l}:PySem.W.nsIn K mainGlobals n=some none->ZNs K l->ZNs K (n::l)
section
variable{K:Frag}{mg:PR}{h:Heap}
theorem FGs.all(X:K.In h)(G:h.Ns mainGlobals mg){l:List (Str×Stmt)}(a:FGs K l)(p:BDs l):AllF K mg l:=by
 induction a with
 |nil=>exact .nil
 |cons i _ ih=>
  cases p with
  |cons e b p=>exact .cons (qkl X G i.1 i.2 e b) (ih p)
theorem ZNs.all(X:K.In h)(G:h.Ns mainGlobals mg){l:List Str}(a:ZNs K l):∀f∈l,mg f=none:=by
 induction a with
 |nil=>exact nofun
 |cons i _ ih=>
  intro f hf;rcases List.mem_cons.mp hf with rfl | hf
  ·exact PySem.W.mg_none_of X G i
  ·exact ih f hf
end
end DG
namespace K51
open PySem PySem.W L2 DE DG
theorem qkn{l:OpenLaw}{w:World}{K:Frag}{h:Heap}{mg:PR}{fa cR cW cS cI cB f41 fiR fiW fiS fiI fiB fmw fmr fmp fml:Addr}{t0 t1 t2 t3 t4 t5 t6 t7 t8:Tok}(X:K.In h)(G:h.Ns mainGlobals mg)(hfa:mg "law" = some (.ref fa))
  (aL:FG K f41 "law" (top 72))
  (a:FGs K pg.defs)
  (z:ZNs K qcJ)
  (v0:nsIn K mainGlobals "GREATEST" = some (some (.int 1000000000 t0)))
  (v1:nsIn K mainGlobals "LETTERS" = some (some (.str "abcdefghijklmnopqrstuvwxyz" t1)))
  (v2:nsIn K mainGlobals "LONGEST_NAME" = some (some (.int 8 t2)))
  (v3:nsIn K mainGlobals "MOST_LANDS" = some (some (.int 6 t3)))
  (v4:nsIn K mainGlobals "GREATEST_WEIGHT" = some (some (.int 9 t4)))
  (v5:nsIn K mainGlobals "MOST_STAYS" = some (some (.int 60 t5)))
  (v6:nsIn K mainGlobals "MOST_WISHES" = some (some (.int 6 t6)))
  (v7:nsIn K mainGlobals "MOST_RULES" = some (some (.int 8 t7)))
  (v8:nsIn K mainGlobals "MOST_PAPERS" = some (some (.int 12 t8)))
  (ncR:nsIn K mainGlobals "Rule" = some (some (.ref cR)))
  (ncW:nsIn K mainGlobals "Within" = some (some (.ref cW)))
  (ncS:nsIn K mainGlobals "Since" = some (some (.ref cS)))
  (ncI:nsIn K mainGlobals "InRow" = some (some (.ref cI)))
  (ncB:nsIn K mainGlobals "Book" = some (some (.ref cB)))
  (inR:findIn K (.ref cR) "__init__" = some (some (.ref fiR)))
  (inW:findIn K (.ref cW) "__init__" = some (some (.ref fiW)))
  (inS:findIn K (.ref cS) "__init__" = some (some (.ref fiS)))
  (inI:findIn K (.ref cI) "__init__" = some (some (.ref fiI)))
  (inB:findIn K (.ref cB) "__init__" = some (some (.ref fiB)))
  (tmr:findIn K (.ref cB) "rules" = some (some (.ref fmr)))
  (tml:findIn K (.ref cB) "lifted" = some (some (.ref fml)))
  (tmp:findIn K (.ref cB) "papers" = some (some (.ref fmp)))
  (twW:findIn K (.ref cW) "weight" = some (some (.ref fmw)))
  (twS:findIn K (.ref cS) "weight" = some (some (.ref fmw)))
  (twI:findIn K (.ref cI) "weight" = some (some (.ref fmw)))
  (hiR:Y2 K fiR "__init__" "Rule.__init__" (mem 28 0))
  (niR:isFn K (.ref fiR)=true)
  (hiW:Y2 K fiW "__init__" "Within.__init__" (mem 29 0))
  (niW:isFn K (.ref fiW)=true)
  (hiS:Y2 K fiS "__init__" "Since.__init__" (mem 30 0))
  (niS:isFn K (.ref fiS)=true)
  (hiI:Y2 K fiI "__init__" "InRow.__init__" (mem 31 0))
  (niI:isFn K (.ref fiI)=true)
  (hiB:Y2 K fiB "__init__" "Book.__init__" (mem 61 0))
  (niB:isFn K (.ref fiB)=true)
  (hmw:Y2 K fmw "weight" "Rule.weight" (mem 28 1))
  (nmw:isFn K (.ref fmw)=true)
  (hmr:Y2 K fmr "rules" "Book.rules" (mem 61 1))
  (nmr:isFn K (.ref fmr)=true)
  (hmp:Y2 K fmp "papers" "Book.papers" (mem 61 2))
  (nmp:isFn K (.ref fmp)=true)
  (hml:Y2 K fml "lifted" "Book.lifted" (mem 61 3))
  (nml:isFn K (.ref fml)=true)
  (mkW:makesIn K cW=true)
  (kcW:keepIn K (.ref cW)=true)
  (LW:Kl K cW)
  (na_landsW:findIn K (.ref cW) "lands" = some none)
  (na_mostW:findIn K (.ref cW) "most" = some none)
  (na_spanW:findIn K (.ref cW) "span" = some none)
  (kwW:kitOne K (.ref cW) (.ref cW)=some true)
  (ksW:kitOne K (.ref cW) (.ref cS)=some false)
  (mkS:makesIn K cS=true)
  (kcS:keepIn K (.ref cS)=true)
  (LS:Kl K cS)
  (na_landsS:findIn K (.ref cS) "lands" = some none)
  (na_mostS:findIn K (.ref cS) "most" = some none)
  (na_leaveS:findIn K (.ref cS) "leave" = some none)
  (kwS:kitOne K (.ref cS) (.ref cW)=some false)
  (ksS:kitOne K (.ref cS) (.ref cS)=some true)
  (mkI:makesIn K cI=true)
  (kcI:keepIn K (.ref cI)=true)
  (LI:Kl K cI)
  (na_landsI:findIn K (.ref cI) "lands" = some none)
  (na_mostI:findIn K (.ref cI) "most" = some none)
  (na_leaveI:findIn K (.ref cI) "leave" = some none)
  (kwI:kitOne K (.ref cI) (.ref cW)=some false)
  (ksI:kitOne K (.ref cI) (.ref cS)=some true)
  (mkB:makesIn K cB=true)
  (kcB:keepIn K (.ref cB)=true)
  (LB:Kl K cB)
  (na_kept_rulesB:findIn K (.ref cB) "kept_rules" = some none)
  (na_kept_papersB:findIn K (.ref cB) "kept_papers" = some none)
  (rdR:readsIn K cR (.type "type")=true)
  (gsR:specialIn K (.ref cR) "__getattribute__" = some (some (.builtin "type.__getattribute__")))
  (fcR:findCls K (.ref cR) (.type "type") "__init__" = some (.val (.ref fiR)))
  (rdS:readsIn K cS (.type "type")=true)
  (gsS:specialIn K (.ref cS) "__getattribute__" = some (some (.builtin "type.__getattribute__")))
  (fcS:findCls K (.ref cS) (.type "type") "__init__" = some (.val (.ref fiS)))
  (og:specialIn K (.builtin "object.__class__") "__get__" = some (some (.builtin "getset_descriptor.__get__")))
  (ot:takesIn K (.builtin "object.__class__")=some true)
  :
  ∃fd:FuncData,(∀(s:Shared) (v:Value),BindsTo s fd ⟨[v],[]⟩ [("_law_script",v)])/\∀base:Heap,K.In base->base.Ns mainGlobals mg->FnOk l.prog w K mg base CX0 20 fa fd ["_law_script"] (spF (kap cW cS cI cB) K (clK pg 20) "law"):=by
 have e:=hfa.symm.trans (mg_of X G aL.1);cases e;obtain⟨dL,FL,bL⟩:=qkm aL.2 ((bd1 λ_ _ _ _ _ _ _ =>rfl));have z:=z.all X G;obtain⟨diR,FiR,biR⟩:=yY hiR (ps:=["self","lands","most"]) ((bd3 λ_ _ _ _ _ _ _ _ _ =>rfl));obtain⟨diW,FiW,biW⟩:=yY hiW (ps:=["self","lands","most","span"]) ((bd4 λ_ _ _ _ _ _ _ _ _ _ =>rfl));obtain⟨diS,FiS,biS⟩:=yY hiS (ps:=["self","lands","most","leave"]) ((bd4 λ_ _ _ _ _ _ _ _ _ _ =>rfl));obtain⟨diI,FiI,biI⟩:=yY hiI (ps:=["self","lands","most"]) ((bd3 λ_ _ _ _ _ _ _ _ _ =>rfl));obtain⟨diB,FiB,biB⟩:=yY hiB (ps:=["self","rules","papers"]) ((bd3 λ_ _ _ _ _ _ _ _ _ =>rfl));obtain⟨dmw,Fmw,bmw⟩:=yY hmw (ps:=["self","land"]) ((bd2 λ_ _ _ _ _ _ _ _ =>rfl));obtain⟨dmr,Fmr,bmr⟩:=yY hmr (ps:=["self"]) ((bd1 λ_ _ _ _ _ _ _ =>rfl));obtain⟨dmp,Fmp,bmp⟩:=yY hmp (ps:=["self"]) ((bd1 λ_ _ _ _ _ _ _ =>rfl));obtain⟨dml,Fml,bml⟩:=yY hml (ps:=["self","number"]) ((bd2 λ_ _ _ _ _ _ _ _ =>rfl));have mcR:=mg_of X G ncR;have mcW:=mg_of X G ncW;have mcS:=mg_of X G ncS;have mcI:=mg_of X G ncI;have mcB:=mg_of X G ncB;have rW:Kr K fmw cW cW cS "span" true:=⟨LW,na_landsW,na_mostW,na_spanW,⟨twW,nmw,hmw.kp⟩,kwW,ksW⟩;have rS:Kr K fmw cS cW cS "leave" false:=⟨LS,na_landsS,na_mostS,na_leaveS,⟨twS,nmw,hmw.kp⟩,kwS,ksS⟩;have rI:Kr K fmw cI cW cS "leave" false:=⟨LI,na_landsI,na_mostI,na_leaveI,⟨twI,nmw,hmw.kp⟩,kwI,ksI⟩;have rB:Kb K fmr fml fmp cB:=⟨LB,na_kept_rulesB,na_kept_papersB,⟨tmr,nmr,hmr.kp⟩,⟨tml,nml,hml.kp⟩,⟨tmp,nmp,hmp.kp⟩⟩;have tx:Tx (kap cW cS cI cB) K mg:=⟨z "tuple" (by decide+kernel),z "list" (by decide+kernel),z "len" (by decide+kernel),⟨_,mg_of X G v0⟩,qfU rW rS rI rB,qdO rW rS rI rB⟩;have cfR:ClsFn K cR "__init__" fiR:=⟨rdR,gsR,fcR,hiR.kp⟩;have cfS:ClsFn K cS "__init__" fiS:=⟨rdS,gsS,fcS,hiS.kp⟩;refine⟨dL,bL,λbase _ _=>qja (k:=19) (st:=top 72) ?ok FL (by kernel_rfl) (by kernel_rfl)⟩
 case ok=>
 refine⟨a.all X G ?q,z,?g,qfU rW rS rI rB,qdO rW rS rI rB,?m,?k,qhE rW rS rI rB og ot mcW mcS⟩
 case q=>repeat first | exact .nil |refine .cons (by kernel_rfl) (bd2 λ_ _ _ _ _ _ _ _ =>rfl) ?_ |refine .cons (by kernel_rfl) (bd3 λ_ _ _ _ _ _ _ _ _ =>rfl) ?_ |refine .cons (by kernel_rfl) (bd1 λ_ _ _ _ _ _ _ =>rfl) ?_ |refine .cons (by kernel_rfl) (bd4 λ_ _ _ _ _ _ _ _ _ _ =>rfl) ?_ |refine .cons (by kernel_rfl) (bd5 λ_ _ _ _ _ _ _ _ _ _ _ =>rfl) ?_ |refine .cons (by kernel_rfl) (bd6 λ_ _ _ _ _ _ _ _ _ _ _ _ =>rfl) ?_
 case g=>
  intro x d hd;unfold pg at hd;dsimp only at hd
  by_cases h0:x = "GREATEST"
  ·rw[if_pos h0] at hd;cases hd;exact⟨.int 1000000000,_,h0▸mg_of X G v0,⟨_,rfl⟩,λ_=>by simp only[Rep]⟩
  rw[if_neg h0] at hd
  by_cases h1:x = "LETTERS"
  ·rw[if_pos h1] at hd;cases hd;exact⟨.str "abcdefghijklmnopqrstuvwxyz",_,h1▸mg_of X G v1,⟨_,rfl⟩,λ_=>by simp only[Rep]⟩
  rw[if_neg h1] at hd
  by_cases h2:x = "LONGEST_NAME"
  ·rw[if_pos h2] at hd;cases hd;exact⟨.int 8,_,h2▸mg_of X G v2,⟨_,rfl⟩,λ_=>by simp only[Rep]⟩
  rw[if_neg h2] at hd
  by_cases h3:x = "MOST_LANDS"
  ·rw[if_pos h3] at hd;cases hd;exact⟨.int 6,_,h3▸mg_of X G v3,⟨_,rfl⟩,λ_=>by simp only[Rep]⟩
  rw[if_neg h3] at hd
  by_cases h4:x = "GREATEST_WEIGHT"
  ·rw[if_pos h4] at hd;cases hd;exact⟨.int 9,_,h4▸mg_of X G v4,⟨_,rfl⟩,λ_=>by simp only[Rep]⟩
  rw[if_neg h4] at hd
  by_cases h5:x = "MOST_STAYS"
  ·rw[if_pos h5] at hd;cases hd;exact⟨.int 60,_,h5▸mg_of X G v5,⟨_,rfl⟩,λ_=>by simp only[Rep]⟩
  rw[if_neg h5] at hd
  by_cases h6:x = "MOST_WISHES"
  ·rw[if_pos h6] at hd;cases hd;exact⟨.int 6,_,h6▸mg_of X G v6,⟨_,rfl⟩,λ_=>by simp only[Rep]⟩
  rw[if_neg h6] at hd
  by_cases h7:x = "MOST_RULES"
  ·rw[if_pos h7] at hd;cases hd;exact⟨.int 8,_,h7▸mg_of X G v7,⟨_,rfl⟩,λ_=>by simp only[Rep]⟩
  rw[if_neg h7] at hd
  by_cases h8:x = "MOST_PAPERS"
  ·rw[if_pos h8] at hd;cases hd;exact⟨.int 12,_,h8▸mg_of X G v8,⟨_,rfl⟩,λ_=>by simp only[Rep]⟩
  rw[if_neg h8] at hd;cases hd
 case m=>
  intro c x f hm;rcases qlz hm with ⟨hr,rfl,rfl⟩ | ⟨rfl,rfl,rfl⟩ | ⟨rfl,rfl,rfl⟩ | ⟨rfl,rfl,rfl⟩
  ·rcases qbW hr with rfl | rfl | rfl
   ·exact⟨cW,fmw,_,mem 28 1,"weight",rfl,rW.wt,by kernel_rfl,by kernel_rfl,Fmw,bmw⟩
   ·exact⟨cS,fmw,_,mem 28 1,"weight",rfl,rS.wt,by kernel_rfl,by kernel_rfl,Fmw,bmw⟩
   ·exact⟨cI,fmw,_,mem 28 1,"weight",rfl,rI.wt,by kernel_rfl,by kernel_rfl,Fmw,bmw⟩
  ·exact⟨cB,fmr,_,mem 61 1,"rules",rfl,rB.m1,by kernel_rfl,by kernel_rfl,Fmr,bmr⟩
  ·exact⟨cB,fml,_,mem 61 3,"lifted",rfl,rB.m2,by kernel_rfl,by kernel_rfl,Fml,bml⟩
  ·exact⟨cB,fmp,_,mem 61 2,"papers",rfl,rB.m3,by kernel_rfl,by kernel_rfl,Fmp,bmp⟩
 case k=>
  intro P wd base k ih f hf
  by_cases hk:k < 12
  ·exact .inl λargs=>if_pos hk
  obtain⟨j,rfl⟩:∃j,k=j+12:=⟨k - 12,by omega⟩;right
  have hf:f = "Within"\/f = "Since"\/f = "InRow"\/f = "Book":=by
   have hf:((["Within","Since","InRow","Book"]:List Str).contains f)=true:=hf
   simpa using hf
  rcases hf with rfl | rfl | rfl | rfl
  ·exact⟨cW,fiW,_,_,_,⟨mkW,inW,niW,kcW⟩,qbV (j:=j+9) tx FiW FiR biR mcR cfR (ih (j+9) (1:)) (ih (j+10) (1:)) (qaB (j+4)) (qaB (j+5)),mcW,biW,by omega,QN (c:="Within") rfl rfl λargs r=>qmJ (j:=j)⟩
  ·exact⟨cS,fiS,_,_,_,⟨mkS,inS,niS,kcS⟩,ZZ (j:=j+9) tx FiS FiR biR mcR cfR (ih (j+9) (1:)) (ih (j+10) (1:)) (qaB (j+4)) (qaB (j+5)),mcS,biS,by omega,QN (c:="Since") rfl rfl λargs r=>qmK (j:=j)⟩
  ·exact⟨cI,fiI,_,_,_,⟨mkI,inI,niI,kcI⟩,qdJ (j:=j+8) tx FiI FiS biS mcS cfS FiR biR mcR cfR (ih (j+8) (1:)) (ih (j+9) (1:)) (qaB (j+3)) (qaB (j+4)),mcI,biI,by omega,QN (c:="InRow") rfl rfl λargs r=>qmL (j:=j)⟩
  ·exact⟨cB,fiB,_,_,_,⟨mkB,inB,niB,kcB⟩,qe7 (j:=j+10) tx FiB (ih (j+10) (1:)) (qaB (j+5)),mcB,biB,by omega,QN (c:="Book") rfl rfl λargs r=>qmM (j:=j)⟩
theorem qmN{l:PySem.W.OpenLaw}{q:Program}{loose:List Str}{XP:(Str->Option Value)->Heap->Prop}{YP:World->Heap->Prop}{d:DefRec}{K:Params->Frag}{κ:KC}(hn:l.most=some 63)(hdf:d.params.defaults=[])
  (hY:∀(w:World) (h:Heap),YP w h->(K w.params).In h)
  (F:∀(w:World) (mg:PR) (fa:Addr) (h:Heap),(K w.params).In h->h.Ns mainGlobals mg->mg d.name=some (.ref fa)->
   ∃fd:FuncData,(∀(s:Shared) (u:Value),BindsTo s fd ⟨[u],[]⟩ [("_law_script",u)])/\∀base:Heap,(K w.params).In base->base.Ns mainGlobals mg->FnOk l.prog w (K w.params) mg base CX0 20 fa fd ["_law_script"] (spF κ (K w.params) (clK pg 20) "law")) :
  PySem.W.WalkO q loose XP YP l.row.toRowW d [] (λf vs=>PySem.call f vs):=
 L2.qgm (n:=63) (k:=20) (x:="_law_script") (CX:=λ_=>CX0) (sp:=λw=>spF κ (K w.params) (clK pg 20) "law") hn (2:) hdf ⟨rfl,by decide,by decide⟩ hY F (λ_ _ a ns hl _ hS=>qjb hS (qe3 ns hl)) λ_ _ _ _ _ z=>z
end K51
open PySem PySem.W PyProof.Rows
set_option maxRecDepth 100000 in
set_option maxHeartbeats 0 in
theorem PySem.Challenge.cw_daysgate_k51_plans_day_by_day_holds : PySem.Challenge.rw_daysgate_k51_plans_day_by_day.Holds := by
 w_on;refine holds_law saidX λsaid=>?_
 refine holds_open (q:=K51.Hq) (loose:=[]) (Xt:=K51.Hx) (XP:=XL K51.Hq []) (Yf:=λs=>K51.Has.map s.heap.get?) (Ya:=λw=>(K51.HK w.params).map λp=>some p.2) (YP:=InK K51.HK) (N:=9350) K51.qly (InK.of K51.HKe) InK.keeps (λs e=>xl_of s (Bool.and_eq_true_iff.mp e).1) XL.keeps (by rfl) (by rfl) (by rfl) (λs e=>recFacts_of (Bool.and_eq_true_iff.mp e).2) (by rfl) (by first | assumption | decide+kernel) (by decide+kernel) ⟨rfl,rfl,rfl,rfl,rfl,by decide+kernel⟩ ?hw ?hc
 (case hw=>w_witness2)
 k_fill
 refine K51.qmN (l:=PySem.Challenge.rw_daysgate_k51_plans_day_by_day) (κ:=(DG.kap (nat_lit 251) (nat_lit 277) (nat_lit 303) (nat_lit 477))) rfl rfl (λw h Y=>Y) ?F
 case F=>
  intro w mg fa h KX G hmg
  refine' K51.qkn KX G hmg ?_ ?_ ?_ ?_ ?_ ?_ ?_ ?_ ?_ ?_ ?_ ?_ ?_ ?_ ?_ ?_ ?_ ?_ ?_ ?_ ?_ ?_ ?_ ?_ ?_ ?_ ?_ ?_ ?_ ?_ ?_ ?_ ?_ ?_ ?_ ?_ ?_ ?_ ?_ ?_ ?_ ?_ ?_ ?_ ?_ ?_ ?_ ?_ ?_ ?_ ?_ ?_ ?_ ?_ ?_ ?_ ?_ ?_ ?_ ?_ ?_ ?_ ?_ ?_ ?_ ?_ ?_ ?_ ?_ ?_ ?_ ?_ ?_ ?_ ?_ ?_ ?_ ?_ ?_ ?_ ?_ ?_ ?_
  all_goals try first | k_is | exact⟨by k_is,by unfold DG.Y2;exact⟨_,_,_,_,_,_,_,_,_,by k_is,by k_is,by k_is⟩⟩ | (unfold DG.Y2;exact⟨_,_,_,_,_,_,_,_,_,by k_is,by k_is,by k_is⟩) | (refine⟨⟨?_,?_,?_,?_⟩,?_,?_⟩<;>k_is) | kit_is | (repeat first | exact .nil | refine .cons ⟨by k_is,by unfold DG.Y2;exact⟨_,_,_,_,_,_,_,_,_,by k_is,by k_is,by k_is⟩⟩ ?_ | refine .cons (by k_is) ?_)
#print axioms PySem.Challenge.cw_daysgate_k51_plans_day_by_day_holds
