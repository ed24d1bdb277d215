import PyProof.Rows.All
import Wide.All
import OpenK.AllK
import Wide.FinOn
import Lean
import PyProof.EqAt
import PyProof.EqKinds
import PyProof.TupleCall
import PyProof.Rows.Range3
import KE.KRevIter
import PySem.Challenge.RW_daysgate_k56_whole_plan_shown
set_option Elab.async false
set_option linter.all false
set_option maxRecDepth 100000
set_option compiler.extract_closed false
set_option bootstrap.genMatcherCode false
set_option genSizeOf false
set_option genInjectivity false
set_option backward.eqns.nonrecursive false
noncomputable section
abbrev PP:=List (PySem.Addr×PySem.Obj)
abbrev PQ:=PySem.Value->PySem.Shared->Prop
abbrev PR:=PySem.Str->Option PySem.Value
open PySem.W (Frag)
set_option hygiene false
local macro_rules
| `(%[$n:num|0])=>`(.cons (.var $n) .nil)
| `(%[$a|0])=>`(.cons $a .nil)
| `(%[$n:num,$b,*|0])=>`(.cons (.var $n) %[$b,*|0])
| `(%[$a,$b,*|0])=>`(.cons $a %[$b,*|0])
| `(%[$n:num|1])=>`(ql (pg:=pg) (st:=top $n) (by kernel_rfl) (λk cl=>by kernel_rfl))
set_option hygiene true
theorem saidX:PySem.Challenge.rw_daysgate_k56_whole_plan_shown.wellSaid=true:=by kernel_rfl
local macro_rules | `((1:))=>`(by omega) | `((2:))=>`(by decide)
local macro_rules | `(tactic| simp? only[$ls,*]) => do
  let f (s : String) (k : Lean.Name) := (s.splitOn " ").toArray.map λn => Lean.mkIdent (k ++ n.toName)
  let b <- (f "Rv.list? Rv.plain? Rv.data Rv.int? Rv.str? Rv.bl? Rv.tup? int2 seqD Rv.non? idxD sliceD truthD lenD listD intD maxD minD B1.go B2.go Ty.of Ty.go toAr toSl flR slN runD th_ok of_some slR_s slR_v slR_o slR_b slR_c slX_s slX_v slX_o ownI_s ownI_o kk_f kk_cs kk_nw at_0 at_1 at_2 ixN_app set_app emp_app xR_var xR_con xR_bin xR_neg xR_not xR_one xR_and xR_cmp xR_ite xR_idx xR_sli xR_lst xR_tup xR_rvs xR_calF xR_call xR_b1 xR_b2 xR_isc xR_fld xR_met xR_new xR_isi xR_comp yRet yBl yTmp yB1 yB2 yNeg yNot yAnd yC1 yC2 yIf yI1 yI2 yS1 yS2 yS3 yLst yTup yRvs_v yCalF yCall yF1 yG1 yG2 yIsc yDat yFld yMt3 yMt2 yMt1 yMtO yMtN yMtI yMtv yNew yIsi yComp xT_not xT_one xT_and xT_or xT_cmp xT_val yBo yTn yTa yTo yD1 yD2 yTv xF_yes xF_test xEs_nil xEs_cons yE1 yE2 xAs_nil xAs_cons yA1 yA2 xO_none xO_some yO xI_seq xI_rng xI_rng2 xI_rev xI_enum xI_zip ySeq yRng yR1 yR2 yRev yEnum yZ1 yZ2 yVal yValt yValL yValLt yValLs yValLm yX yXt yAv yAx yAxt yCons xE_s xE_v xE_o xL_s xL_l xL_z xL_o xL_b xS_expr yExpr oGo_some xS_app yApp yApp2 xS_ext yExt yExt2 xS_ret yRt xS_set ySet xS_setI ySI ySI2 ySI3 ySI4 xS_ite yIte xS_for yFor xS_whl xSs_nil xSs_cons yNext yNextr xFo_cons yFo1 yFo2 yFo2r xWh yWh1 yWh2 xP_cons yP1 yP2 yP3 eE_bin eX_bin eA_bin eE_rvs eA_neg eX_and eA_cmp eX_ite eE_idx eX_idx eA_idx eE_sli eL_sli eA_sli eA_lst eE_tup eX_tup eA_tup eE_call eL_call eX_call eA_calF eA_call eE_b1 eL_b1 eX_b1 eA_b1 eE_b2 eA_b2 eL_fld eL_met eA_met eX_new eA_new eX_comp eA_comp eE_var eE_con eL_var eX_var eX_con eA_var eA_con bAdd bAdds bAddtt bAddct bAddvt bSub bMult bDiv bMod bPow cEq cNe cLt cLe cGt cGe cIs cIsN cIn cNi mIn rgoV rgoT setIs_nil setIs_cons g_mapc g_mapn g_lenc g_lenn g_rep0 g_reps g_appc g_appn g_set0 g_sets g_last g_nott g_notf g_omap g_fe g_and g_dt g_df lend_v lend_o lend_s" `DE ++ f "Int.reduceLT Int.reduceLE Nat.reduceAdd Nat.reduceSub" .anonymous).mapM λn => `(Lean.Parser.Tactic.simpLemma| $n:ident)
  let d <- (f "sA_p sA_R sA_L sL_L rA_a rA_l rA_s rA_t rA_b rA_y" `DE ++ f "reduceIte" .anonymous).mapM λn => `(Lean.Parser.Tactic.simpLemma| ↓ $n:ident)
  let c : Array (Lean.TSyntax [`Lean.Parser.Tactic.simpStar, `Lean.Parser.Tactic.simpErase, `Lean.Parser.Tactic.simpLemma]) := (b ++ d).map (⟨·.raw⟩) ++ ls.getElems
  `(tactic| simp only[$c,*])
namespace L2
open PySem PySem.Spec PyProof.Rows
abbrev Key:=Sum Int Str
def qcA:Key->Value->Bool
 |.inl k,v=>Value.isInt k v
 |.inr x,v=>Value.isStrOf x v
def qn6(w:World):Key->Int
 |.inl k=>hashInt k
 |.inr x=>hashStr w x
theorem qE:∀{k:Key} {v:Value},qcA k v=true->(∃i t,k=Sum.inl i/\v=Value.int i t)\/(∃x t,k=Sum.inr x/\v=Value.str x t)
 |.inl i,v,h=>by obtain⟨t,e⟩:=Value.isInt_shape (k:=i) (v:=v) h;exact .inl ⟨i,t,rfl,e⟩
 |.inr x,v,h=>by obtain⟨t,e⟩:=Value.isStrOf_shape (x:=x) (v:=v) h;exact .inr ⟨x,t,rfl,e⟩
theorem qdm(i:Int)(t:Tok):qcA (.inl i) (.int i t)=true:=by simp[qcA,Value.isInt]
theorem qdn(x:Str)(t:Tok):qcA (.inr x) (.str x t)=true:=by simp[qcA,Value.isStrOf]
theorem qjC(a b:Int):decide ((Sum.inl a:Key)=Sum.inl b)=(a == b):=by
 by_cases e:a=b
 ·subst e;simp
 ·have h:¬ (Sum.inl a:Key)=Sum.inl b:=λq=>e (Sum.inl.inj q);rw[decide_eq_false h];exact(beq_eq_false_iff_ne.mpr e).symm
theorem qjD(a b:Str):decide ((Sum.inr a:Key)=Sum.inr b)=decide (a=b):=by
 by_cases e:a=b
 ·subst e;simp
 ·have h:¬ (Sum.inr a:Key)=Sum.inr b:=λq=>e (Sum.inr.inj q);rw[decide_eq_false h,decide_eq_false e]
theorem qjE(a:Int)(b:Str):decide ((Sum.inl a:Key)=Sum.inr b)=false:=decide_eq_false (λq=>nomatch q)
theorem qjF(a:Str)(b:Int):decide ((Sum.inr a:Key)=Sum.inl b)=false:=decide_eq_false (λq=>nomatch q)
noncomputable def qx(prog:Program)(w:World):PySem.KeyKind prog w Key where
 is:=qcA
 hash:=qn6 w
 inj:=λv a b ha hb=>by
  rcases qE ha with ⟨i,t,rfl,rfl⟩ | ⟨x,t,rfl,rfl⟩
  ·rcases qE hb with ⟨j,u,rfl,e⟩ | ⟨y,u,rfl,e⟩
   ·injection e with e1 _;rw[e1]
   ·exact nomatch e
  ·rcases qE hb with ⟨j,u,rfl,e⟩ | ⟨y,u,rfl,e⟩
   ·exact nomatch e
   ·injection e with e1 _;rw[e1]
 byValue:=λk v h=>by rcases qE h with ⟨i,t,rfl,rfl⟩ | ⟨x,t,rfl,rfl⟩<;>rfl
 pyHash:=λhv h=>by
  rcases qE hv with ⟨i,t,rfl,rfl⟩ | ⟨x,t,rfl,rfl⟩
  ·exact wpAny_pyHash_int h
  ·exact wpAny_pyHash_str h
 eqBool:=λhu hv h=>by
  rcases qE hu with ⟨i,t,rfl,rfl⟩ | ⟨x,t,rfl,rfl⟩
  ·rcases qE hv with ⟨j,u,rfl,rfl⟩ | ⟨y,u,rfl,rfl⟩
   ·rw[qjC] at h;exact wpAny_eqBool_int h
   ·rw[qjE] at h;exact SeqAt.EqAt.int_str i t y u _ _ _ _ h
  ·rcases qE hv with ⟨j,u,rfl,rfl⟩ | ⟨y,u,rfl,rfl⟩
   ·rw[qjF] at h;exact SeqAt.EqAt.str_int x t j u _ _ _ _ h
   ·rw[qjD] at h;exact wpAny_eqBool_str h
 «strs»:=λk x t v h=>by
  rcases qE h with ⟨i,u,rfl,e⟩ | ⟨y,u,rfl,e⟩
  ·exact nomatch e
  ·injection e with e1 _;subst e1;cases v<;>rfl
theorem qa3(prog:Program)(w:World)(i:Int)(t:Tok):(qx prog w).is (.inl i) (.int i t)=true:=qdm i t
theorem qa4(prog:Program)(w:World)(x:Str)(t:Tok):(qx prog w).is (.inr x) (.str x t)=true:=qdn x t
end L2
namespace L2
open PySem PySem.Spec PyProof.Rows
inductive V where
 | non | bl (b:Bool) | int (i:Int) | str (x:Str) | byt (b:Array UInt8) | flt (b:UInt64) | ref (a:Addr) | ty (n:String)
 deriving DecidableEq
noncomputable def qM:V->Value->Prop
 |.non,u=>u=Value.none
 |.bl b,u=>u=Value.bool b
 |.int i,u=>∃t,u=Value.int i t
 |.str x,u=>∃t,u=Value.str x t
 |.byt b,u=>∃t,u=Value.bytes b t
 |.flt b,u=>∃t,u=Value.float b t
 |.ref a,u=>u=Value.ref a
 |.ty n,u=>u=Value.type n
abbrev qA:List V->List Value->Prop:=Paired qM
theorem qA.length{xs:List V}{us:List Value}(r:qA xs us):xs.length=us.length:=Paired.length r
theorem qA.get:∀{xs:List V} {us:List Value} {i:Nat} {x:V},qA xs us->xs[i]?=some x->∃u,us[i]?=some u/\qM x u
 |_,_,_,_,.nil,e=>by simp at e
 |_,_,0,_,.cons r _,e=>by simp at e;subst e;exact⟨_,rfl,r⟩
 | _,_,i+1,x,.cons _ t,e=>by obtain⟨u,h1,h2⟩:=qA.get (i:=i) (x:=x) t (by simpa using e);exact⟨u,by simpa using h1,h2⟩
theorem qA.set{x:V}{u:Value}(r:qM x u):∀{xs:List V} {us:List Value} (i:Nat),qA xs us->qA (xs.set i x) (us.set i u)
 |_,_,_,.nil=>.nil
 |_,_,0,.cons _ t=>.cons r t
 | _,_,i+1,.cons q t=>.cons q (qA.set r i t)
theorem qA.append:∀{xs ys:List V} {us ws:List Value},qA xs us->qA ys ws->qA (xs++ys) (us++ws)
 |_,_,_,_,.nil,s=>s
 |_,_,_,_,.cons r t,s=>.cons r (qA.append t s)
theorem qA.take:∀{xs:List V} {us:List Value} (n:Nat),qA xs us->qA (xs.take n) (us.take n)
 |_,_,0,_=>.nil
 | _,_,_+1,.nil=>.nil
 | _,_,n+1,.cons r t=>.cons r (qA.take n t)
theorem qA.drop:∀{xs:List V} {us:List Value} (n:Nat),qA xs us->qA (xs.drop n) (us.drop n)
 |_,_,0,r=>r
 | _,_,_+1,.nil=>.nil
 | _,_,n+1,.cons _ t=>qA.drop n t
def qbE:Option V->Option Value->Prop
 |some v,some u=>qM v u
 |none,none=>True
 |_,_=>False
noncomputable def KV{κ:Type}:List (κ×V)->List (κ×Value)->Prop:=Paired λ(p:κ×V) (q:κ×Value)=>p.1=q.1/\qM p.2 q.2
def kV:Key->V
 |.inl i=>.int i
 |.inr x=>.str x
inductive HO where
 | lst (xs:List V)
 | tup (xs:List V)
 | dK (kvs:List (Key×V)) | dT (kvs:List (List Key×V))
 | set (S:Int->Bool) (n:Nat)
 | ins (C dx:Addr) (fs:List (Str×V))
 | own (x:Addr)
 | xd (fs:List (Str×V))
 | met (f x:Addr)
 | rng (lo hi:Int)
 | frz (o:Obj) (u:HO)
 | tbl (ps:Array Value)
 | ext (φ:Heap->Prop)
abbrev Hp:=Addr->Option HO
def upd(H:Hp)(a:Addr)(o:HO):Hp:=λb=>if b=a then some o else H b
theorem qg{H:Hp}{a:Addr}{o:HO}:upd H a o a=some o:=by unfold upd;rw[if_pos rfl]
theorem qd{H:Hp}{a b:Addr}{o:HO}(h:b≠a):upd H a o b=H b:=by unfold upd;rw[if_neg h]
theorem qY{H:Hp}{a b:Addr}{o:HO}(h:H a=some o)(h':H b=none):a≠b:=by intro e;subst e;rw[h] at h';cases h'
section
variable(P:Program)(w:World)
noncomputable def qU(H:Hp)(h:Heap)(a:Addr):HO->Prop
 |.lst xs=>xs.length<=sizeLine/\∃(its:List Value) (n:Nat),qA xs its/\h.get? a=some { cls:=.type "list",data:=.seq its.toArray n }
 |.tup xs=>xs.length<=sizeLine/\∃its:List Value,qA xs its/\IsTup h a its.toArray
 |.dK kvs=>kvs.length<=sizeLine/\(a == sysModules)=false/\∃vs,KV kvs vs/\h.DictOf (qx P w) a vs
 |.dT kvs=>kvs.length<=sizeLine/\(a == sysModules)=false/\∃xs:List (List Key×Addr×Value),
   Paired (λ(p:List Key×V) (q:List Key×Addr×Value)=>p.1=q.1/\H q.2.1=some (.tup (p.1.map kV))/\qM p.2 q.2.2) kvs xs/\
   ∃o es ep,h.get? a=some o/\o.ExactDict/\o.data=.dict es ep/\es.toList=xs.map (entryOfKey (tupleKind (qx P w)))/\(xs.map (·.1)).Nodup
 |.set S n=>h.SetOf (intKind P w) a S n
 |.ins C dx fs=>H dx=some (.own a)/\fs.length<=1000/\dx≠a/\h.get? a=some (PySem.W.instObj C dx)/\
   ∃mA,h.Ns1 dx mA/\(∀f,qbE (fs.lookup f) (mA f))/\PySem.Within mA (fs.map (·.1))
 |.own _=>∃o,h.get? a=some o
 |.xd fs=>∃mA,h.Ns1 a mA/\∀f,qbE (fs.lookup f) (mA f)
 |.rng lo hi=>∃t u v,h.get? a=some { cls:=.type "range",data:=.fields #[.int lo t,.int hi u,.int 1 v] }
 |.frz o u=>h.get? a=some o/\qU H h a u
 |.tbl ps=>h.get? a=some { cls:=.none,data:=.fields ps }
 |.met f x=>h.get? a=some (PySem.W.methodObj (.ref f) (.ref x))
 |.ext φ=>φ h/\(∃o,h.get? a=some o)/\∀h1 h2:Heap,φ h1->(∀o,h1.get? a=some o->h2.get? a=some o)->φ h2
def HOk(H:Hp)(h:Heap):Prop:=∀a o,H a=some o->qU P w H h a o
end
section
variable{P:Program}{w:World}{H H':Hp}{h h':Heap}{a:Addr}{o:HO}
theorem qU.lt(x:qU P w H h a o):a < h.objs.size:=by
 cases o with
 |lst xs=>obtain⟨_,_,_,_,e⟩:=x;exact Heap.lt_size e
 |tup xs=>obtain⟨_,_,_,p⟩:=x;exact p.lt
 |dK kvs=>obtain⟨_,_,_,_,o,_,_,e,_⟩:=x;exact Heap.lt_size e
 |dT kvs=>obtain⟨_,_,_,_,o,_,_,e,_⟩:=x;exact Heap.lt_size e
 |set S n=>obtain⟨o,_,_,_,e,_⟩:=x;exact Heap.lt_size e
 |ins C dx fs=>obtain⟨_,_,_,e,_⟩:=x;exact Heap.lt_size e
 |own y=>obtain⟨_,e⟩:=x;exact Heap.lt_size e
 |xd fs=>obtain⟨_,⟨_,_,_,e,_⟩,_⟩:=x;exact Heap.lt_size e
 |rng lo hi=>obtain⟨_,_,_,e⟩:=x;exact Heap.lt_size e
 |frz ob u=>obtain⟨e,_⟩:=x;exact Heap.lt_size e
 |tbl ps=>exact Heap.lt_size (show h.get? a=some _ from x)
 |met f y=>exact Heap.lt_size (show h.get? a=some _ from x)
 |ext φ=>obtain⟨_,⟨_,e⟩,_⟩:=x;exact Heap.lt_size e
theorem Paired.mapP{α β:Type}{F G:α->β->Prop}:∀{l₁:List α} {l₂:List β},Paired F l₁ l₂->(∀a b,F a b->G a b)->Paired G l₁ l₂
 |_,_,.nil,_=>.nil
 |_,_,.cons r t,f=>.cons (f _ _ r) (Paired.mapP t f)
theorem qU.stay(x:qU P w H h a o)(k:∀b u,(b=a\/H b=some (.own a))->h.get? b=some u->h'.get? b=some u)
  (ho:∀b,H b=some (.own a)->H' b=some (.own a)) (ht:∀b xs,H b=some (.tup xs)->H' b=some (.tup xs)):qU P w H' h' a o:=by
 induction o with
 |lst xs=>obtain⟨z,its,n,r,e⟩:=x;exact⟨z,its,n,r,k _ _ (.inl rfl) e⟩
 |tup xs=>obtain⟨z,its,r,ob,e,c⟩:=x;exact⟨z,its,r,ob,k _ _ (.inl rfl) e,c⟩
 |dK kvs=>obtain⟨z,y,vs,r,ob,es,ep,e,c⟩:=x;exact⟨z,y,vs,r,ob,es,ep,k _ _ (.inl rfl) e,c⟩
 |dT kvs=>obtain⟨z,y,xs,r,ob,es,ep,e,c⟩:=x;exact⟨z,y,xs,Paired.mapP r λp q z=>⟨z.1,ht _ _ z.2.1,z.2.2⟩,ob,es,ep,k _ _ (.inl rfl) e,c⟩
 |set S n=>obtain⟨ob,es,ep,t,e,c⟩:=x;exact⟨ob,es,ep,t,k _ _ (.inl rfl) e,c⟩
 |ins C dx fs=>obtain⟨d,z,ne,e,mA,⟨od,es,ep,e2,c⟩,r⟩:=x;exact⟨ho _ d,z,ne,k _ _ (.inl rfl) e,mA,⟨od,es,ep,k _ _ (.inr d) e2,c⟩,r⟩
 |own y=>obtain⟨ob,e⟩:=x;exact⟨ob,k _ _ (.inl rfl) e⟩
 |xd fs=>obtain⟨mA,⟨od,es,ep,e,c⟩,r⟩:=x;exact⟨mA,⟨od,es,ep,k _ _ (.inl rfl) e,c⟩,r⟩
 |rng lo hi=>obtain⟨t,u,v,e⟩:=x;exact⟨t,u,v,k _ _ (.inl rfl) e⟩
 |frz ob u ih=>obtain⟨e,q⟩:=x;exact⟨k _ _ (.inl rfl) e,ih q⟩
 |tbl ps=>have e:h.get? a=some { cls:=.none,data:=.fields ps }:=x;show h'.get? a=some { cls:=.none,data:=.fields ps };exact k a _ (.inl rfl) e
 |met f y=>have e:h.get? a=some (PySem.W.methodObj (.ref f) (.ref y)):=x;show h'.get? a=some (PySem.W.methodObj (.ref f) (.ref y));exact k a _ (.inl rfl) e
 |ext φ=>obtain⟨p,⟨o,e⟩,st⟩:=x;exact⟨st _ _ p λo q=>k _ _ (.inl rfl) q,⟨o,k _ _ (.inl rfl) e⟩,st⟩
theorem HOk.lt(x:HOk P w H h)(e:H a=some o):a < h.objs.size:=(x a o e).lt
theorem HOk.fresh(x:HOk P w H h)(e:h.objs.size<=a):H a=none:=by
 cases q:H a with
 |none=>rfl
 |some u=>exact absurd (Nat.lt_of_lt_of_le (x.lt q) e) (Nat.lt_irrefl _)
theorem HOk.kept(x:HOk P w H h)(k:∀b u,h.get? b=some u->h'.get? b=some u):HOk P w H h':=λa o e=>(x a o e).stay (λb u _ q=>k b u q) (λ_ q=>q) λ_ _ q=>q
theorem HOk.laid(x:HOk P w H h)(k:∀b u,h.get? b=some u->h'.get? b=some u)(hp:h.objs.size<=a)(new:qU P w (upd H a o) h' a o):HOk P w (upd H a o) h':=λb u e=>by
 have hn:=x.fresh hp
 by_cases hb:b=a
 ·subst hb;rw[qg] at e;cases e;exact new
 ·rw[qd hb] at e;exact(x b u e).stay (λc v _ q=>k c v q) (λc q=>by rw[qd (qY q hn)];exact q) λc xs q=>by rw[qd (qY q hn)];exact q
end
def Rd(H:Hp)(a:Addr)(u:HO):Prop:=H a=some u\/∃o,H a=some (.frz o u)
theorem Rd.ok{P:Program}{w:World}{H:Hp}{h:Heap}{a:Addr}{u:HO}(r:Rd H a u)(x:HOk P w H h):qU P w H h a u:=by
 rcases r with r | ⟨o,r⟩
 ·exact x a u r
 ·obtain⟨_,q⟩:=x a _ r;exact q
noncomputable def Mut:Option HO->Prop
 |some (.lst _)=>True
 |some (.dK _)=>True
 |some (.dT _)=>True
 |some (.set _ _)=>True
 |some (.ins _ _ _)=>True
 |some (.ext _)=>True
 |_=>False
section
variable{P:Program}{w:World}{H:Hp}{h h':Heap}{x e:Addr}{o':HO}
theorem HOk.write(ok:HOk P w H h)(mu:Mut (H x))(he:e=x\/H e=some (.own x))(k:∀b u,b≠e->h.get? b=some u->h'.get? b=some u)(heo:∃u,h'.get? e=some u)
  (new:qU P w (upd H x o') h' x o'):HOk P w (upd H x o') h':=λb u q=>by
 have nown:∀c y,H c=some (.own y)->c≠x:=λc y r z=>by subst z;rw[r] at mu;exact mu
 have ntup:∀c xs,H c=some (.tup xs)->c≠x:=λc xs r z=>by subst z;rw[r] at mu;exact mu
 by_cases hb:b=x
 ·subst hb;rw[qg] at q;cases q;exact new
 ·rw[qd hb] at q
  by_cases hbe:b=e
  ·have q':H b=some (.own x):=by
    rcases he with z | z
    ·exact absurd (hbe.trans z) hb
    ·rw[hbe];exact z
   rw[q] at q';cases q';obtain⟨v,hv⟩:=heo;exact⟨v,by rw[hbe];exact hv⟩
  ·refine(ok b u q).stay (λc v hc r=>k c v ?_ r) (λc r=>by rw[qd (nown c b r)];exact r) λc xs r=>by rw[qd (ntup c xs r)];exact r
   rcases hc with rfl | hc
   ·exact hbe
   ·rintro rfl;rcases he with z | z
    ·exact nown c b hc z
    ·rw[hc] at z;cases z;exact hb rfl
end
structure Un(fs ex:List Addr)(H H':Hp)(h h':Heap):Prop where
 keep:∀b o,h.get? b=some o->H b=none->b∉fs->b∉ex->h'.get? b=some o
 slot:∀b o,h.get? b=some o->H b=none->b∈fs->b∉ex->∃sl,h'.get? b=some { o with slots:=sl }
 free:∀b o,h.get? b=some o->H b=none->b∉ex->H' b=none
 there:∀b o,h.get? b=some o->b∉ex->∃o',h'.get? b=some o'
 tups:∀b xs,H b=some (.tup xs)->H' b=some (.tup xs)
 frzs:∀b o u,H b=some (.frz o u)->H' b=some (.frz o u)
 tbls:∀b ps,H b=some (.tbl ps)->∃more,H' b=some (.tbl (ps++more))
section
variable{fs fs' ex ex':List Addr}{H H1 H2:Hp}{h h1 h2 h':Heap}{a x e:Addr}{o:HO}
theorem Un.any(u:Un fs ex H H1 h h1){b:Addr}{ob:Obj}(q:h.get? b=some ob)(n:H b=none)(hx:b∉ex):∃sl,h1.get? b=some { ob with slots:=sl }:=by
 by_cases hb:b∈fs
 ·exact u.slot b ob q n hb hx
 ·exact⟨ob.slots,u.keep b ob q n hb hx⟩
theorem Un.kept(k:∀b u,h.get? b=some u->h'.get? b=some u):Un fs ex H H h h':=
 ⟨λb ob q _ _ _=>k b ob q,λb ob q _ _ _=>⟨ob.slots,k b ob q⟩,λ_ _ _ n _=>n,λb ob q _=>⟨ob,k b ob q⟩,λ_ _ q=>q,λ_ _ _ q=>q,λ_ ps q=>⟨#[],by rw[q];simp⟩⟩
theorem Un.refl:Un fs ex H H h h:=Un.kept λ_ _ q=>q
theorem Un.laid(k:∀b u,h.get? b=some u->h'.get? b=some u)(hp:h.objs.size<=a)(hn:H a=none):Un fs ex H (upd H a o) h h' where
 keep:=λb u q _ _ _=>k b u q
 slot:=λb u q _ _ _=>⟨u.slots,k b u q⟩
 free:=λb u q n _=>by rw[qd (Nat.ne_of_lt (Nat.lt_of_lt_of_le (Heap.lt_size q) hp))];exact n
 there:=λb u q _=>⟨u,k b u q⟩
 tups:=λb xs q=>by rw[qd (qY q hn)];exact q
 frzs:=λb u xs q=>by rw[qd (qY q hn)];exact q
 tbls:=λb ps q=>⟨#[],by rw[qd (qY q hn),q];simp⟩
theorem Un.write(mu:Mut (H x))(he:e=x\/H e=some (.own x))(k:∀b u,b≠e->h.get? b=some u->h'.get? b=some u)(heo:∃u,h'.get? e=some u):Un fs ex H (upd H x o) h h':=by
 have hx:∀b,H b=none->b≠x:=λb n z=>by subst z;rw[n] at mu;exact mu
 have hb:∀b,H b=none->b≠e:=λb n z=>by
  subst z;rcases he with r | r
  ·exact hx b n r
  ·rw[n] at r;cases r
 have hm:∀b u,H b=some u->¬ Mut (some u)->b≠x:=λb u q nm z=>by subst z;rw[q] at mu;exact nm mu
 refine⟨λb u q n _ _=>k b u (hb b n) q,λb u q n _ _=>⟨u.slots,k b u (hb b n) q⟩,λb u q n _=>by rw[qd (hx b n)];exact n,λb u q _=>?_,
  λb xs q=>by rw[qd (hm b _ q λz=>z)];exact q,λb u xs q=>by rw[qd (hm b _ q λz=>z)];exact q,λb ps q=>⟨#[],by rw[qd (hm b _ q λz=>z),q];simp⟩⟩
 by_cases hbe:b=e
 ·subst hbe;exact heo
 ·exact⟨u,k b u hbe q⟩
end
def trk(h:Heap)(H:Hp):List Addr:=(List.range h.objs.size).filter λa=>(H a).isSome
def qfl(h:Heap)(H:Hp):Heap:=PySem.W.hideAll h (trk h H)
theorem qdo(h:Heap)(H:Hp):(qfl h H).objs.size=h.objs.size:=PySem.W.hideAll_size _ _
theorem qfm{h:Heap}{H:Hp}{b:Addr}{o:Obj}(e:h.get? b=some o)(n:H b=none):(qfl h H).get? b=some o:=
 PySem.W.hideAll_get _ e λhm=>by have q:(H b).isSome=true:=(List.mem_filter.mp hm).2;rw[n] at q;simp at q
theorem qhE{h:Heap}{H:Hp}{b:Addr}{o:Obj}(e:(qfl h H).get? b=some o):h.get? b=some o/\H b=none:=by
 have e':h.get? b=some o:=PySem.W.of_hideAll (trk h H) e;refine⟨e',?_⟩
 cases q:H b with
 |none=>rfl
 |some x=>have hm:b∈trk h H:=List.mem_filter.mpr ⟨List.mem_range.mpr (Heap.lt_size e'),by simp[q]⟩;have z:(qfl h H).get? b=none:=PySem.W.hideAll_none (trk h H) hm;rw[z] at e;cases e
end L2
namespace L2
open PySem PySem.Spec PyProof.Rows
structure Mod(K:Frag)(mg:PR)(base:Heap):Prop where
 kin:K.In base
 glob:base.Ns mainGlobals mg
 blt:∃mb,base.Ns builtinsNs mb/\∀x:Str,x≠"__name__"->mb x=bootBuiltins x
 nolimit:base.NoLimit
structure Cx where
 prog:Program
 w:World
 K:Frag
 mg:PR
 base:Heap
 A:Around
 N:List Str
 s₀:Shared
 Hv:Hp
 env:Env
 outer:List Env
 stack:List Env
 ex:List Addr
 fn:Str->Bool
 calm:Bool
 pn:PP
 xe:PQ
def frs(l:List Env):List Addr:=l.filterMap (·.frame)
abbrev Cx.fs(X:Cx):List Addr:=frs X.outer
noncomputable def Vis(sc:Scope)(x:Str):Prop:=sc.names.lookup x=some .local\/sc.names.lookup x=some .cell\/sc.names.lookup x=some .free
def Loc(sc:Scope)(x:Str):Prop:=sc.names.lookup x=some .local\/sc.names.lookup x=some .cell
noncomputable def qn7(env:Env)(h:Heap)(m:PR)(x:Str)(u:Value):Prop:=
 (env.kindOf x=some .local/\m x=some u)\/((env.kindOf x=some .cell\/env.kindOf x=some .free)/\∃c,env.cells.lookup x=some c/\h.IsCell c (some u))
structure Cx.Ok(X:Cx):Prop where
 mod:Mod X.K X.mg X.base
 kind:X.env.scope.kind=.function
 glob:X.env.globals=mainGlobals
 blt:X.env.builtins=builtinsNs
 above:X.s₀.heap.objs.size<=X.env.locals
 inj:∀x y c,X.env.cells.lookup x=some c->X.env.cells.lookup y=some c->x=y
 has:∀x,(X.env.kindOf x=some .cell\/X.env.kindOf x=some .free)->∃c,X.env.cells.lookup x=some c
 cab:∀x c,X.fn x=true->X.env.cells.lookup x=some c->X.s₀.heap.objs.size<=c
 hd:X.calm=true->X.A.handled=none
 frames:X.A.frames=some X.stack
 stk:X.stack=X.outer\/(X.stack=X.env::X.outer/\X.env.frame=some X.env.locals)
 exf:∀b∈X.ex,b≠X.env.locals/\∀x c,X.env.cells.lookup x=some c->c≠b
 bs:∀b o,X.base.get? b=some o->X.s₀.heap.get? b=some o/\X.Hv b=none
 bsz:X.base.objs.size<=X.s₀.heap.objs.size
 noex:∀b o,X.base.get? b=some o->b∉X.ex
 exfs:∀b∈X.ex,b∉X.fs
 funs:X.s₀.heap.FunFrames X.base X.outer
 frf:∀b∈X.fs,X.Hv b=none
structure Inv(X:Cx)(pins:PP)(σ:List (Option V))(H:Hp)(s:Shared):Prop where
 ok:X.Ok
 os:s.os=X.s₀.os
 bare:AllBare s.gens
 base:Un X.fs X.ex X.Hv H X.s₀.heap s.heap
 loc:∃m,s.heap.Ns X.env.locals m/\∀(i:Nat) (x:Str) (v:V),X.N[i]?=some x->σ[i]?=some (some v)->Vis X.env.scope x->∃u,qM v u/\qn7 X.env s.heap m x u
 cell:∀x c,X.env.cells.lookup x=some c->∃v,s.heap.IsCell c v
 free:H X.env.locals=none
 freeC:∀x c,X.env.cells.lookup x=some c->H c=none
 pin:∀p∈X.pn++pins,s.heap.get? p.1=some p.2/\H p.1=none/\p.1≠X.env.locals/\p.1∉X.fs/\∀v,p.2.data≠.cell v
 hok:HOk X.prog X.w H s.heap
 len:σ.length=X.N.length
section
variable{X:Cx}{pins:PP}{σ:List (Option V)}{H H':Hp}{s:Shared}{h':Heap}
theorem Cx.Ok.nofr(ok:X.Ok){b:Addr}{o:Obj}(e:X.base.get? b=some o):b∉X.fs:=λhb=>by
 have:=(ok.funs.mem hb).1
 rw[e] at this;cases this
theorem Inv.bs(I:Inv X pins σ H s):∀b o,X.base.get? b=some o->s.heap.get? b=some o/\H b=none:=λb o e=>⟨I.base.keep b o (I.ok.bs b o e).1 (I.ok.bs b o e).2 (I.ok.nofr e) (I.ok.noex b o e),I.base.free b o (I.ok.bs b o e).1 (I.ok.bs b o e).2 (I.ok.noex b o e)⟩
theorem Inv.bk(I:Inv X pins σ H s):∀b o,X.base.get? b=some o->s.heap.get? b=some o:=λb o e=>(I.bs b o e).1
theorem Inv.mod(I:Inv X pins σ H s):Mod X.K X.mg X.base:=I.ok.mod
theorem Inv.kIn(I:Inv X pins σ H s):X.K.In s.heap:=I.ok.mod.kin.keeps I.bk
theorem Inv.lt(I:Inv X pins σ H s):X.env.locals < s.heap.objs.size:=let ⟨_,hn,_⟩:=I.loc;hn.lt
theorem Inv.sz(I:Inv X pins σ H s):X.s₀.heap.objs.size<=s.heap.objs.size:=Nat.le_trans I.ok.above (Nat.le_of_lt I.lt)
theorem Inv.nofs(I:Inv X pins σ H s){a:Addr}(h:s.heap.objs.size<=a):a∉X.fs:=λhb=>by obtain⟨_,o,ho,_⟩:=I.ok.funs.mem hb;exact absurd (Nat.lt_of_lt_of_le (Heap.lt_size ho) (Nat.le_trans I.sz h)) (Nat.lt_irrefl _)
theorem Inv.cne(I:Inv X pins σ H s):∀x c,X.env.cells.lookup x=some c->c≠X.env.locals:=λx c e z=>by obtain⟨v,o,ho,hd⟩:=I.cell x c e;obtain⟨m,⟨o',es,ep,ho',hd',_⟩,_⟩:=I.loc;rw[z,ho'] at ho;cases ho;rw[hd'] at hd;cases hd
theorem Inv.funs(I:Inv X pins σ H s):s.heap.FunFrames X.base X.outer:=by
 have all:∀(l:List Env),(∀b∈frs l,b∈X.fs)->X.s₀.heap.FunFrames X.base l->s.heap.FunFrames X.base l:=by
  intro l
  induction l with
  |nil=>intro _ _;trivial
  |cons env r ih=>intro hs hl;obtain⟨hk,⟨L,o,hf,hn,ho,hd⟩,hr⟩:=hl;have hL:L∈X.fs:=hs L (by unfold frs;rw[List.filterMap_cons,hf];exact List.mem_cons_self);obtain⟨sl,e⟩:=I.base.slot L o ho (I.ok.frf L hL) hL λz=>I.ok.exfs L z hL;exact⟨hk,⟨L,_,hf,hn,e,hd⟩,ih (λb hb=>hs b (by unfold frs;rw[List.filterMap_cons,hf];exact List.mem_cons_of_mem _ hb)) hr⟩
 exact all X.outer (λ_ hb=>hb) I.ok.funs
theorem Inv.stack(I:Inv X pins σ H s):s.heap.FunFrames X.base X.stack:=by
 rcases I.ok.stk with e | ⟨e,hf⟩
 ·rw[e];exact I.funs
 ·rw[e];obtain⟨m,hn,_⟩:=I.loc;refine .cons (by rw[I.ok.kind];decide) hf hn ?_ I.funs;exact Heap.get?_none_of_le (Nat.le_trans I.ok.bsz I.ok.above)
theorem Inv.stkSub(I:Inv X pins σ H s):∀b∈frs X.stack,b∈X.env.locals::X.fs:=λb hb=>by
 rcases I.ok.stk with e | ⟨e,hf⟩
 ·rw[e] at hb;exact List.mem_cons_of_mem _ hb
 ·rw[e] at hb;unfold frs at hb;rw[List.filterMap_cons,hf] at hb;exact hb
theorem Inv.stkFree(I:Inv X pins σ H s):∀b∈frs X.stack,H b=none:=λb hb=>by
 rcases List.mem_cons.mp (I.stkSub b hb) with e | hb
 ·rw[e];exact I.free
 ·obtain⟨_,o,ho,_⟩:=I.ok.funs.mem hb;exact I.base.free b o ho (I.ok.frf b hb) λz=>I.ok.exfs b z hb
theorem Inv.step{g':Array GenState}{t':Nat}{d':Drawn}{ch:List Addr}(I:Inv X pins σ H s)
  (hch:∀b∈ch,(b∈X.ex\/X.s₀.heap.objs.size<=b)/\b≠X.env.locals/\(∀x c,X.env.cells.lookup x=some c->c≠b)/\∀p∈X.pn++pins,p.1≠b)
  (keep:∀b o,b≠X.env.locals->b∉X.fs->b∉ch->s.heap.get? b=some o->H b=none->h'.get? b=some o)
  (slot:∀b o,b≠X.env.locals->b∈X.fs->b∉ch->s.heap.get? b=some o->H b=none->∃sl,h'.get? b=some { o with slots:=sl }) (free:∀b o,b∉ch->s.heap.get? b=some o->H b=none->H' b=none)
  (there:∀b o,b∉ch->s.heap.get? b=some o->∃o',h'.get? b=some o')
  (tups:∀b xs,H b=some (.tup xs)->H' b=some (.tup xs)) (frzs:∀b o u,H b=some (.frz o u)->H' b=some (.frz o u)) (tbls:∀b ps,H b=some (.tbl ps)->∃more,H' b=some (.tbl (ps++more)))
  (ns:∀m,s.heap.Ns X.env.locals m->h'.Ns X.env.locals m) (hok:HOk X.prog X.w H' h') (hg:AllBare g') :
  Inv X pins σ H' { s with heap:=h',gens:=g',drawn:=d',toks:=t' }:=by
 have neL:∀b o,X.s₀.heap.get? b=some o->b≠X.env.locals:=λb o e=>Nat.ne_of_lt (Nat.lt_of_lt_of_le (Heap.lt_size e) I.ok.above)
 have neC:∀b o,X.s₀.heap.get? b=some o->b∉X.ex->b∉ch:=λb o e hx hb=>by
  rcases (hch b hb).1 with z | z
  ·exact hx z
  ·exact absurd (Nat.lt_of_lt_of_le (Heap.lt_size e) z) (Nat.lt_irrefl _)
 have cellK:∀x c,X.env.cells.lookup x=some c->∀v,s.heap.IsCell c v->h'.IsCell c v:=λx c e v ⟨o,ho,hd⟩=>by
  have nch:c∉ch:=λz=>(hch c z).2.2.1 x c e rfl
  by_cases hc:c∈X.fs
  ·obtain⟨sl,q⟩:=slot c o (I.cne x c e) hc nch ho (I.freeC x c e);exact⟨_,q,hd⟩
  ·exact⟨o,keep c o (I.cne x c e) hc nch ho (I.freeC x c e),hd⟩
 refine⟨I.ok,I.os,hg,⟨λb o e n hb hx=>?_,λb o e n hb hx=>?_,λb o e n hx=>?_,λb o e hx=>?_,λb xs e=>tups b xs (I.base.tups b xs e),λb o xs e=>frzs b o xs (I.base.frzs b o xs e),λb ps e=>?_⟩,?_,λx c e=>?_,?_,λx c e=>?_,λp hp=>?_,hok,I.len⟩
 ·exact keep b o (neL b o e) hb (neC b o e hx) (I.base.keep b o e n hb hx) (I.base.free b o e n hx)
 ·obtain⟨sl,e1⟩:=I.base.slot b o e n hb hx;obtain⟨sl',e2⟩:=slot b _ (neL b o e) hb (neC b o e hx) e1 (I.base.free b o e n hx);exact⟨sl',e2⟩
 ·obtain⟨o',e1⟩:=I.base.there b o e hx;exact free b o' (neC b o e hx) e1 (I.base.free b o e n hx)
 ·obtain⟨o',e1⟩:=I.base.there b o e hx;exact there b o' (neC b o e hx) e1
 ·obtain⟨m1,e1⟩:=I.base.tbls b ps e;obtain⟨m2,e2⟩:=tbls b _ e1;exact⟨m1++m2,by rw[e2,Array.append_assoc]⟩
 ·obtain⟨m,hn,hl⟩:=I.loc;refine⟨m,ns m hn,λi x v e1 e2 e3=>?_⟩;obtain⟨u,r,l⟩:=hl i x v e1 e2 e3;refine⟨u,r,?_⟩;rcases l with l | ⟨k,c,e,z⟩
  ·exact .inl l
  ·exact .inr ⟨k,c,e,cellK x c e _ z⟩
 ·obtain⟨v,z⟩:=I.cell x c e;exact⟨v,cellK x c e v z⟩
 ·obtain⟨m,⟨o,_,_,ho,_⟩,_⟩:=I.loc;exact free _ o (λz=>(hch _ z).2.1 rfl) ho I.free
 ·obtain⟨v,o,ho,hd⟩:=I.cell x c e;exact free c o (λz=>(hch c z).2.2.1 x c e rfl) ho (I.freeC x c e)
 ·obtain⟨e,n,ne,nf,d⟩:=I.pin p hp;have nch:p.1∉ch:=λz=>(hch p.1 z).2.2.2 p hp rfl;exact⟨keep p.1 p.2 ne nf nch e n,free p.1 p.2 nch e n,ne,nf,d⟩
theorem Inv.un{t':Nat}(I:Inv X pins σ H s)(u:Un X.fs [] H H' s.heap h')(hok:HOk X.prog X.w H' h'):Inv X pins σ H' { s with heap:=h',toks:=t' }:=by
 obtain⟨m,⟨o,es,ep,ho,r⟩,_⟩:=id I.loc;obtain⟨sl,hL⟩:=u.any ho I.free (by simp)
 exact I.step (g':=s.gens) (d':=s.drawn) (ch:=[]) (λ_ z=>nomatch z) (λb o _ hb _ e n=>u.keep b o e n hb (by simp)) (λb o _ hb _ e n=>u.slot b o e n hb (by simp)) (λb o _ e n=>u.free b o e n (by simp)) (λb o _ e=>u.there b o e (by simp)) u.tups u.frzs u.tbls (λm' hm=>by obtain⟨o',es',ep',ho',r'⟩:=hm;rw[ho] at ho';cases ho';exact⟨_,es',ep',hL,r'⟩) hok I.bare
theorem Inv.call{g':Array GenState}{t':Nat}{d':Drawn}{ch:List Addr}(I:Inv X pins σ H s)(u:Un (frs X.stack) ch H H' s.heap h')(hok:HOk X.prog X.w H' h')(hg:AllBare g')
  (hch:∀b∈ch,(b∈X.ex\/X.s₀.heap.objs.size<=b)/\b≠X.env.locals/\(∀x c,X.env.cells.lookup x=some c->c≠b)/\∀p∈X.pn++pins,p.1≠b) :
  Inv X pins σ H' { s with heap:=h',gens:=g',drawn:=d',toks:=t' }:=by
 obtain⟨m,⟨o,es,ep,ho,r⟩,_⟩:=id I.loc;obtain⟨sl,hL⟩:=u.any ho I.free λz=>(hch _ z).2.1 rfl
 exact I.step (ch:=ch) hch (λb o hL hb hc e n=>u.keep b o e n (λz=>(List.mem_cons.mp (I.stkSub b z)).elim hL hb) hc) (λb o _ _ hc e n=>u.any e n hc) (λb o hc e n=>u.free b o e n hc) (λb o hc e=>u.there b o e hc) u.tups u.frzs u.tbls (λm' hm=>by obtain⟨o',es',ep',ho',r'⟩:=hm;rw[ho] at ho';cases ho';exact⟨_,es',ep',hL,r'⟩) hok hg
theorem Inv.turned{t':Nat}{it:Addr}(I:Inv X pins σ H s)(k:∀b o,b≠it->s.heap.get? b=some o->h'.get? b=some o)(hn:H it=none)(hL:it≠X.env.locals)
  (h1:it∈X.ex\/X.s₀.heap.objs.size<=it) (h2:∀x c,X.env.cells.lookup x=some c->c≠it) (h3:∀p∈X.pn++pins,p.1≠it):Inv X pins σ H { s with heap:=h',toks:=t' }:=by
 have nit:∀b u,H b=some u->b≠it:=λb u e z=>by rw[z,hn] at e;cases e
 refine I.step (g':=s.gens) (d':=s.drawn) (ch:=[it]) (λb hb=>?_) (λb o _ _ hc e _=>k b o (λz=>hc (by simp[z])) e) (λb o _ _ hc e _=>⟨o.slots,k b o (λz=>hc (by simp[z])) e⟩) (λ_ _ _ _ n=>n)
  (λb o hc e=>⟨o,k b o (λz=>hc (by simp[z])) e⟩) (λ_ _ e=>e) (λ_ _ _ e=>e) (λb ps e=>⟨#[],by rw[e];simp⟩) (λm hm=>?_) (λb u e=>?_) I.bare
 ·have e:b=it:=by simpa using hb
  subst e;exact⟨h1,hL,h2,h3⟩
 ·obtain⟨o,es,ep,ho,r⟩:=hm;exact⟨o,es,ep,k _ o (Ne.symm hL) ho,r⟩
 ·refine(I.hok b u e).stay (λc v hc q=>k c v ?_ q) (λ_ q=>q) λ_ _ q=>q;rcases hc with z | z
  ·rw[z];exact nit b u e
  ·exact nit c _ z
theorem Inv.tok(I:Inv X pins σ H s)(t:Nat):Inv X pins σ H { s with toks:=t }:=I.un (h':=s.heap) (t':=t) Un.refl I.hok
theorem Inv.kept{t':Nat}(I:Inv X pins σ H s)(k:∀b u,s.heap.get? b=some u->h'.get? b=some u):Inv X pins σ H { s with heap:=h',toks:=t' }:=I.un (Un.kept k) (I.hok.kept k)
theorem Inv.laid{a:Addr}{o:HO}{t':Nat}(I:Inv X pins σ H s)(k:∀b u,s.heap.get? b=some u->h'.get? b=some u)(hp:s.heap.objs.size<=a)(new:qU X.prog X.w (upd H a o) h' a o) :
  Inv X pins σ (upd H a o) { s with heap:=h',toks:=t' }:=I.un (Un.laid k hp (I.hok.fresh hp)) (I.hok.laid k hp new)
theorem Inv.write{x e:Addr}{o:HO}{t':Nat}(I:Inv X pins σ H s)(mu:Mut (H x))(he:e=x\/H e=some (.own x))(k:∀b u,b≠e->s.heap.get? b=some u->h'.get? b=some u)(heo:∃u,h'.get? e=some u)
  (new:qU X.prog X.w (upd H x o) h' x o):Inv X pins σ (upd H x o) { s with heap:=h',toks:=t' }:=I.un (Un.write mu he k heo) (I.hok.write mu he k heo new)
theorem Inv.pins_of{pins':PP}(I:Inv X pins σ H s)(h:∀p∈pins',s.heap.get? p.1=some p.2/\H p.1=none/\p.1≠X.env.locals/\p.1∉X.fs/\∀v,p.2.data≠.cell v):Inv X pins' σ H s:=
 ⟨I.ok,I.os,I.bare,I.base,I.loc,I.cell,I.free,I.freeC,λp hp=>(List.mem_append.mp hp).elim (λz=>I.pin p (List.mem_append_left _ z)) (h p),I.hok,I.len⟩
theorem qbF{N:List Str}(hN:N.Nodup){i j:Nat}{x:Str}(a:N[i]?=some x)(b:N[j]?=some x):i=j:=by obtain⟨h1,e1⟩:=List.getElem?_eq_some_iff.mp a;obtain⟨h2,e2⟩:=List.getElem?_eq_some_iff.mp b;exact(List.getElem_inj hN).mp (e1.trans e2.symm)
theorem ZU{M:Model}{A:Around}{E:PQ}{i:Nat}{x:Str}{v:V}{u:Value}{Q:Unit->Shared->Prop}(I:Inv X pins σ H s)(hN:X.N.Nodup)(hi:X.N[i]?=some x)(hx:Loc X.env.scope x)(r:qM v u)
  (h:∀s',Inv X pins (σ.set i (some v)) H s'->(∃a,Heap.SameBut a s.heap s'.heap/\(a=X.env.locals\/X.env.cells.lookup x=some a))->Q () s') (hf:X.fn x=true\/X.env.scope.names.lookup x=some .local:=by first | exact .inl rfl | exact .inr rfl | assumption):wpAny M A (storeName X.env x u) Q E s:=by
 obtain⟨m,hn,hl⟩:=id I.loc;have hcls:(X.env.scope.kind == .class||(X.env.scope.kind == .module&&X.env.locals != X.env.globals))=false:=by rw[I.ok.kind];rfl
 have hiσ:i < σ.length:=by rw[I.len];exact(List.getElem?_eq_some_iff.mp hi).1
 have cne:=I.cne
 have tracked:∀{a:Addr} {h':Heap},(∃o,s.heap.get? a=some o/\H a=none)->Heap.SameBut a s.heap h'->HOk X.prog X.w H h':=λ{a h'} ha hs b ob e=>by
  obtain⟨_,_,hfree⟩:=ha;refine(I.hok b ob e).stay (λc w' hc q=>(hs.2 c ?_).trans q) (λ_ q=>q) λ_ _ q=>q;rintro rfl;rcases hc with rfl | hc
  ·rw[hfree] at e;cases e
  ·rw[hfree] at hc;cases hc
 rcases hx with hk | hk
 ·refine wpAny_storeName_local hk hn (λh' hn' hs=>?_) hcls;obtain⟨oL,_,_,hoL,_⟩:=id hn;refine h _ ⟨I.ok,I.os,I.bare,⟨λb o e n hb hx=>?_,λb o e n hb hx=>?_,I.base.free,λb o e hx=>?_,I.base.tups,I.base.frzs,I.base.tbls⟩,⟨_,hn',λj y v' e1 e2 e3=>?_⟩,λy c e=>?_,I.free,I.freeC,λp hp=>?_,tracked ⟨oL,hoL,I.free⟩ hs,by simpa using I.len⟩ ⟨_,hs,.inl rfl⟩
  ·exact(hs.2 b (Nat.ne_of_lt (Nat.lt_of_lt_of_le (Heap.lt_size e) I.ok.above))).trans (I.base.keep b o e n hb hx)
  ·obtain⟨sl,e1⟩:=I.base.slot b o e n hb hx;exact⟨sl,(hs.2 b (Nat.ne_of_lt (Nat.lt_of_lt_of_le (Heap.lt_size e) I.ok.above))).trans e1⟩
  ·obtain⟨o',e1⟩:=I.base.there b o e hx;exact⟨o',(hs.2 b (Nat.ne_of_lt (Nat.lt_of_lt_of_le (Heap.lt_size e) I.ok.above))).trans e1⟩
  ·by_cases hj:j=i
   ·subst hj;rw[hi] at e1;cases e1;rw[List.getElem?_set_self hiσ] at e2;cases e2;exact⟨u,r,.inl ⟨hk,by simp⟩⟩
   ·rw[List.getElem?_set_ne (Ne.symm hj)] at e2;obtain⟨u',r',q⟩:=hl j y v' e1 e2 e3;refine⟨u',r',?_⟩;rcases q with ⟨k,e⟩ | ⟨k,c,e,z⟩
    ·refine .inl ⟨k,?_⟩
     have:y≠x:=λe=>hj (qbF hN e1 (e▸hi))
     simp[this,e]
    ·exact .inr ⟨k,c,e,z.sameBut hs (cne y c e)⟩
  ·obtain⟨w',z⟩:=I.cell y c e;exact⟨w',z.sameBut hs (cne y c e)⟩
  ·obtain⟨e,n,ne,nf,d⟩:=I.pin p hp;exact⟨(hs.2 p.1 ne).trans e,n,ne,nf,d⟩
 ·have hfn:X.fn x=true:=by
   rcases hf with z | z
   ·exact z
   ·rw[z] at hk;cases hk
  obtain⟨c,hc⟩:=I.ok.has x (.inl hk);obtain⟨w',z⟩:=I.cell x c hc;refine wpAny_storeName_cell I.ok.kind hk hc z (λh' hc' hs=>?_);obtain⟨oc,hoc,hocd⟩:=id z;refine h { s with heap:=h' } ⟨I.ok,I.os,I.bare,⟨λb o e n hb hx=>?_,λb o e n hb hx=>?_,I.base.free,λb o e hx=>?_,I.base.tups,I.base.frzs,I.base.tbls⟩,⟨m,hn.sameBut hs (Ne.symm (cne x c hc)),λj y v' e1 e2 e3=>?_⟩,λy c' e=>?_,I.free,I.freeC,λp hp=>?_,tracked ⟨oc,hoc,I.freeC x c hc⟩ hs,by simpa using I.len⟩ ⟨c,hs,.inr hc⟩
  ·exact(hs.2 b (Nat.ne_of_lt (Nat.lt_of_lt_of_le (Heap.lt_size e) (I.ok.cab x c hfn hc)))).trans (I.base.keep b o e n hb hx)
  ·obtain⟨sl,e1⟩:=I.base.slot b o e n hb hx;exact⟨sl,(hs.2 b (Nat.ne_of_lt (Nat.lt_of_lt_of_le (Heap.lt_size e) (I.ok.cab x c hfn hc)))).trans e1⟩
  ·obtain⟨o',e1⟩:=I.base.there b o e hx;exact⟨o',(hs.2 b (Nat.ne_of_lt (Nat.lt_of_lt_of_le (Heap.lt_size e) (I.ok.cab x c hfn hc)))).trans e1⟩
  ·by_cases hj:j=i
   ·subst hj;rw[hi] at e1;cases e1;rw[List.getElem?_set_self hiσ] at e2;cases e2;exact⟨u,r,.inr ⟨.inl hk,c,hc,hc'⟩⟩
   ·rw[List.getElem?_set_ne (Ne.symm hj)] at e2;obtain⟨u',r',q⟩:=hl j y v' e1 e2 e3;refine⟨u',r',?_⟩;rcases q with q | ⟨k,c',e,z'⟩
    ·exact .inl q
    ·refine .inr ⟨k,c',e,z'.sameBut hs ?_⟩;rintro rfl;exact hj (qbF hN e1 (I.ok.inj _ _ _ e hc▸hi))
  ·by_cases hcc:c'=c
   ·subst hcc;exact⟨_,hc'⟩
   ·obtain⟨w2,z2⟩:=I.cell y c' e;exact⟨w2,z2.sameBut hs hcc⟩
  ·obtain⟨e,n,ne,nf,d⟩:=I.pin p hp;refine⟨(hs.2 p.1 ?_).trans e,n,ne,nf,d⟩;intro q;rw[q,hoc] at e;have q':oc=p.2:=Option.some.inj e;exact d w' (by rw[<-q'];exact hocd)
theorem qbG{M:Model}{A:Around}{E:PQ}{i:Nat}{x:Str}{v:V}{u:Value}{Q:Unit->Shared->Prop}(I:Inv X pins σ H s)(hN:X.N.Nodup)(hi:X.N[i]?=some x)(hx:Loc X.env.scope x)(r:qM v u)
  (h:∀s',Inv X pins (σ.set i (some v)) H s'->Q () s') (hf:X.fn x=true\/X.env.scope.names.lookup x=some .local:=by first | exact .inl rfl | exact .inr rfl | assumption):wpAny M A (storeName X.env x u) Q E s:=
 ZU I hN hi hx r (λs' I' _=>h s' I') hf
theorem Inv.call'{s':Shared}{ch:List Addr}(I:Inv X pins σ H s)(ho:s'.os=s.os)(u:Un (frs X.stack) ch H H' s.heap s'.heap)(hok:HOk X.prog X.w H' s'.heap)(hg:AllBare s'.gens)
  (hch:∀b∈ch,(b∈X.ex\/X.s₀.heap.objs.size<=b)/\b≠X.env.locals/\(∀x c,X.env.cells.lookup x=some c->c≠b)/\∀p∈X.pn++pins,p.1≠b):Inv X pins σ H' s':=by
 obtain⟨h',g',d',t',o'⟩:=s';have e:o'=s.os:=ho;subst e;exact I.call (g':=g') (t':=t') (d':=d') u hok hg hch
end
abbrev XK:=Value->Option Addr->Hp->Prop
abbrev St:=List (Option V)
abbrev VK:=V->Hp->Prop
abbrev TE:=St->Hp->VK->Prop
abbrev TT:=St->Hp->(Bool->Hp->Prop)->Prop
abbrev TA:=St->Hp->(List V->Hp->Prop)->Prop
structure Ends where
 nx:St->Hp->Prop
 rt:VK
 bk:St->Hp->Prop:=λ_ _=>False
 ct:St->Hp->Prop:=λ_ _=>False
abbrev TS:=Ends->St->Hp->Prop
noncomputable def EP(X:Cx)(pins:PP)(σ:St)(Q:VK)(u:Value)(s':Shared):Prop:=∃v H',Inv X pins σ H' s'/\qM v u/\Q v H'
noncomputable def TP(X:Cx)(pins:PP)(σ:St)(Q:Bool->Hp->Prop)(b:Bool)(s':Shared):Prop:=∃H',Inv X pins σ H' s'/\Q b H'
noncomputable def AP(X:Cx)(pins:PP)(σ:St)(Q:List V->Hp->Prop)(us:List Value)(s':Shared):Prop:=∃vs H',Inv X pins σ H' s'/\qA vs us/\Q vs H'
noncomputable def SP(X:Cx)(pins:PP)(D:Ends)(f:Flow)(s':Shared):Prop:=
 match f with
 |.next=>∃σ' H',Inv X pins σ' H' s'/\D.nx σ' H'
 |.brk=>∃σ' H',Inv X pins σ' H' s'/\D.bk σ' H'
 |.cont=>∃σ' H',Inv X pins σ' H' s'/\D.ct σ' H'
 |.ret u=>∃v σ' H',Inv X pins σ' H' s'/\qM v u/\D.rt v H'
noncomputable def PE(X:Cx)(e:Expr)(t:TE):Prop:=
 ∀(pins:PP) (s:Shared) (σ:St) (H:Hp) (Q:VK),Inv X pins σ H s->t σ H Q->wpAny (model X.prog X.w) X.A (eval e X.env) (EP X pins σ Q) X.xe s
noncomputable def PT(X:Cx)(e:Expr)(t:TT):Prop:=
 ∀(pins:PP) (s:Shared) (σ:St) (H:Hp) (Q:Bool->Hp->Prop),Inv X pins σ H s->t σ H Q->wpAny (model X.prog X.w) X.A (isTrue e X.env (eval e X.env)) (TP X pins σ Q) X.xe s
noncomputable def PW(X:Cx)(e:Expr)(t:TT):Prop:=
 ∀(whole:Sem Value) (pins:PP) (s:Shared) (σ:St) (H:Hp) (Q:Bool->Hp->Prop),Inv X pins σ H s->t σ H Q->wpAny (model X.prog X.w) X.A (isTrue e X.env whole) (TP X pins σ Q) X.xe s
theorem PW.pt{X:Cx}{e:Expr}{t:TT}(h:PW X e t):PT X e t:=h _
noncomputable def PA(X:Cx)(es:List Expr)(t:TA):Prop:=
 ∀(pos:Pos) (pins:PP) (s:Shared) (σ:St) (H:Hp) (Q:List V->Hp->Prop),Inv X pins σ H s->t σ H Q->wpAny (model X.prog X.w) X.A (spliced (backTo pos (starEach es X.env))) (AP X pins σ Q) X.xe s
noncomputable def PS(X:Cx)(st:Stmt)(t:TS):Prop:=
 ∀(pins:PP) (s:Shared) (σ:St) (H:Hp) (D:Ends),Inv X pins σ H s->t D σ H->wpAny (model X.prog X.w) X.A (exec st X.env) (SP X pins D) X.xe s
noncomputable def PSs(X:Cx)(st:List Stmt)(t:TS):Prop:=
 ∀(pins:PP) (s:Shared) (σ:St) (H:Hp) (D:Ends),Inv X pins σ H s->t D σ H->wpAny (model X.prog X.w) X.A (execs st X.env) (SP X pins D) X.xe s
theorem thn{α:Type}{t:Sem α}{Q Q':α->Shared->Prop}{M:Model}{A:Around}{E:PQ}{s:Shared}(h:wpAny M A t Q E s)(hQ:∀a s,Q a s->Q' a s):wpAny M A t Q' E s:=wpAny_mono h hQ λ_ _ x=>x
end L2
namespace L2
open PySem PySem.Spec PyProof.Rows
section
variable{X:Cx}
theorem bin{a b:Expr}{ta tb:TE}(ha:PE X a ta)(hb:PE X b tb){pins:PP}{s:Shared}{σ:St}{H:Hp}{R:V->V->Hp->Prop}(I:Inv X pins σ H s)(h:ta σ H λx H1=>tb σ H1 λy H2=>R x y H2)
  {α:Type} {Q:α->Shared->Prop} {f:Value->Value->Sem α}
  (hf:∀v u s2 x y H2,Inv X pins σ H2 s2->qM x v->qM y u->R x y H2->wpAny (model X.prog X.w) X.A (f v u) Q X.xe s2) :
  wpAny (model X.prog X.w) X.A (eval a X.env) (λv s₁=>wpAny (model X.prog X.w) X.A (eval b X.env) (λu s₂=>wpAny (model X.prog X.w) X.A (f v u) Q X.xe s₂) X.xe s₁) X.xe s:=by
 refine thn (ha pins s σ H _ I h) λv s1 hq1=>?_;obtain⟨x,H1,I1,r1,q1⟩:=hq1;refine thn (hb pins s1 σ H1 _ I1 q1) λu s2 hq1=>?_;obtain⟨y,H2,I2,r2,q2⟩:=hq1;exact hf v u s2 x y H2 I2 r1 r2 q2
def qmt(i:Nat):TE:=λσ H Q=>∃v,σ[i]?=some (some v)/\Q v H
def tC(v:V):TE:=λ_ H Q=>Q v H
theorem qdp{i:Nat}{x:Str}{pos:Pos}(hN:X.N[i]?=some x)(hv:Vis X.env.scope x)(hd:(x == ("__debug__" : Str))=false:=by decide)(hcd:(x == ("__classdict__" : Str))=false:=by decide):PE X (.Name x pos) (qmt i):=by
 intro pins s σ H Q I h;obtain⟨v,e,h⟩:=h;obtain⟨m,hn,hl⟩:=I.loc;obtain⟨u,r,l⟩:=hl i x v hN e hv;have fin:EP X pins σ Q u s:=⟨v,H,I,r,h⟩;rcases l with ⟨hk,hm⟩ | ⟨hk,c,hc,hcell⟩
 ·exact wpAny_Name (wpAny_loadName_local I.ok.kind hk hn hm fin) hd
 ·rcases hk with hk | hk
  ·exact wpAny_Name (wpAny_loadName_cell I.ok.kind hk hc hcell fin) hd
  ·exact wpAny_Name (wpAny_loadName_free I.ok.kind hk hc hcell fin hcd) hd
theorem Qm{i j pos}:PE X (.Constant (.int i) j pos) (tC (.int i)):=λ_ _ _ H _ I h=>wpAny_Constant_int ⟨.int i,H,I.tok _,⟨_,rfl⟩,h⟩
theorem qmG{b j pos}:PE X (.Constant (.bool b) j pos) (tC (.bl b)):=λ_ _ _ H _ I h=>Constant_bool ⟨.bl b,H,I,rfl,h⟩
theorem qjG{j pos}:PE X (.Constant .none j pos) (tC .non):=λ_ _ _ H _ I h=>Constant_none ⟨.non,H,I,rfl,h⟩
theorem qjH{x j pos}:PE X (.Constant (.str x) j pos) (tC (.str x)):=λ_ _ _ H _ I h=>Calls.Constant_str ⟨.str x,H,I.tok _,⟨_,rfl⟩,h⟩
def Gl(X:Cx)(x:Str):Prop:=X.env.kindOf x=some .globalImplicit
theorem Jy{E:PQ}{pins:PP}{s:Shared}{σ:St}{H:Hp}{x:Str}{u:Value}{pos:Pos}{Q:PQ}(I:Inv X pins σ H s)(hg:Gl X x)(hm:X.mg x=some u)(h:Q u s)
  (hd:(x == ("__debug__" : Str))=false:=by decide):wpAny (model X.prog X.w) X.A (eval (.Name x pos) X.env) Q E s:=
 Calls.Name_function_global I.ok.kind hg (Calls.loadGlobal_global (by rw[I.ok.glob];exact I.mod.glob.keeps I.bk) hm h) hd
theorem JN{E:PQ}{pins:PP}{s:Shared}{σ:St}{H:Hp}{x:Str}{u:Value}{pos:Pos}{Q:PQ}(I:Inv X pins σ H s)(hg:Gl X x)(hm:X.mg x=none)(hv:bootBuiltins x=some u)(h:Q u s)
  (hn:x≠"__name__":=by decide) (hd:(x == ("__debug__" : Str))=false:=by decide):wpAny (model X.prog X.w) X.A (eval (.Name x pos) X.env) Q E s:=by
 obtain⟨mb,h1,h2⟩:=I.mod.blt;exact Calls.Name_function_global I.ok.kind hg (Calls.loadGlobal_builtin (by rw[I.ok.glob];exact I.mod.glob.keeps I.bk) hm (by rw[I.ok.blt];exact h1.keeps I.bk) ((h2 x hn).trans hv) h) hd
theorem Yh{x:Str}{v:V}{u:Value}{pos:Pos}(hg:Gl X x)(hm:X.mg x=some u)(r:qM v u)(hd:(x == ("__debug__" : Str))=false:=by decide):PE X (.Name x pos) (tC v):=
 λ_ _ _ H _ I h=>Jy I hg hm ⟨v,H,I,r,h⟩ hd
theorem Yi{x:Str}{v:V}{u:Value}{pos:Pos}(hg:Gl X x)(hm:X.mg x=none)(hv:bootBuiltins x=some u)(r:qM v u)(hn:x≠"__name__":=by decide)(hd:(x == ("__debug__" : Str))=false:=by decide):PE X (.Name x pos) (tC v):=
 λ_ _ _ H _ I h=>JN I hg hm hv ⟨v,H,I,r,h⟩ hn hd
variable{a b:Expr}{ta tb:TE}{pos:Pos}
def tB(t:TE):TT:=λσ H Q=>t σ H λx H1=>∃c,x=.bl c/\Q c H1
theorem ZV{e:Expr}{t:TE}(h:PE X e t)(he:∀whole,isTrue e X.env whole=(do let v<-whole;standAt e.pos;holding [v] (truthy v)):=by intro _;rfl):PT X e (tB t):=by intro pins s σ H Q I hw;refine isTrue_plain (thn (h pins s σ H _ I hw) λv s1 ⟨x,H1,I1,r1,q1⟩=>?_) (he _);obtain⟨d,rfl,q⟩:=q1;cases r1;exact wpAny_truthy_bool ⟨H1,I1,q⟩
variable{tA tB':TT}{rest:List Expr}
def qn8(t:TT):TT:=λσ H Q=>t σ H λc H1=>Q (!c) H1
theorem qhF(ha:PT X a tA):PW X (.BoolOp .And [a] pos) tA:=by
 intro wh pins s σ H Q I h;refine isTrue_and (thn (ha pins s σ H Q I h) λc s1 e=>?_)
 cases c with
 |true=>exact isTrue_and_nil e
 |false=>exact e
theorem qjI(ha:PT X a tA):PW X (.BoolOp .Or [a] pos) tA:=by
 intro wh pins s σ H Q I h;refine isTrue_or (thn (ha pins s σ H Q I h) λc s1 e=>?_)
 cases c with
 |false=>exact isTrue_or_nil e
 |true=>exact e
theorem Qn(ha:PT X a tA):PT X (.UnaryOp .Not a pos) (qn8 tA):=by intro pins s σ H Q I h;exact isTrue_not (ha pins s σ H (λc H1=>Q (!c) H1) I h)
noncomputable def qmH(ta tb:TE):TE:=λσ H Q=>ta σ H λx H1=>∃c,x=.bl c/\if c=true then tb σ H1 Q else Q (.bl false) H1
def qmI(ta:TE):TE:=λσ H Q=>ta σ H λx H1=>∃c,x=.bl c/\Q (.bl (!c)) H1
theorem qjJ{op}{t:TE}(h:PE X a t):PE X (.BoolOp op [a] pos) t:=λpins s σ H Q I hw=>BoolOp_one (h pins s σ H Q I hw)
theorem qjK(ha:PE X a ta)(hb:PE X (.BoolOp .And (b::rest) pos) tb):PE X (.BoolOp .And (a::b::rest) pos) (qmH ta tb):=by
 intro pins s σ H Q I h;refine BoolOp_and (thn (ha pins s σ H _ I h) λv s1 hq1=>?_);obtain⟨x,H1,I1,r1,q1⟩:=hq1;obtain⟨c,rfl,q1⟩:=q1;cases r1;refine wpAny_truthy_bool ?_
 cases c with
 |true=>exact hb pins s1 σ H1 Q I1 q1
 |false=>exact⟨.bl false,H1,I1,rfl,q1⟩
theorem qjL(ha:PE X a ta):PE X (.UnaryOp .Not a pos) (qmI ta):=by intro pins s σ H Q I h;refine UnaryOp_ (thn (ha pins s σ H _ I h) λv s1 hq1=>?_);obtain⟨x,H1,I1,r1,q1⟩:=hq1;obtain⟨c,rfl,q1⟩:=q1;cases r1;exact not_of (wpAny_truthy_bool ⟨.bl (!c),H1,I1,rfl,q1⟩)
def tIf(t:TT)(ta tb:TE):TE:=λσ H Q=>t σ H λc H1=>if c=true then ta σ H1 Q else tb σ H1 Q
theorem qfn{c:Expr}(hc:PT X c tA)(ha:PE X a ta)(hb:PE X b tb):PE X (.IfExp c a b pos) (tIf tA ta tb):=by
 intro pins s σ H Q I h;refine wpAny_IfExp (thn (hc pins s σ H _ I h) λd s1 hq1=>?_);obtain⟨H1,I1,q1⟩:=hq1
 cases d with
 |true=>exact ha pins s1 σ H1 Q I1 q1
 |false=>exact hb pins s1 σ H1 Q I1 q1
end
end L2
namespace L2
open PySem PySem.Spec PyProof.Rows
noncomputable def SqL(K:Frag)(H:Hp)(a:Addr)(xs:List V):Prop:=
 Rd H a (.lst xs)\/
  ∃(o:Obj) (its:Array Value) (n:Nat),K.lookup a=some o/\o.cls=.type "list"/\o.dict=none/\o.data=.seq its n/\its.size<=sizeLine/\qA xs its.toList
noncomputable def SqT(K:Frag)(H:Hp)(a:Addr)(xs:List V):Prop:=
 Rd H a (.tup xs)\/
  ∃(o:Obj) (its:Array Value) (n:Nat),K.lookup a=some o/\o.cls=.type "tuple"/\o.data=.seq its n/\its.size<=sizeLine/\qA xs its.toList
noncomputable def qn9:Value->Option V
 |.none=>some .non
 |.bool b=>some (.bl b)
 |.int i _=>some (.int i)
 |.str x _=>some (.str x)
 |.bytes b _=>some (.byt b)
 |.float b _=>some (.flt b)
 |.ref a=>some (.ref a)
 |.type n=>some (.ty n)
 |_=>none
theorem qM.abs{x:V}{u:Value}(r:qM x u):qn9 u=some x:=by
 cases x with
 |non=>cases r;rfl
 |bl _=>cases r;rfl
 |int _=>obtain⟨t,rfl⟩:=r;rfl
 |str _=>obtain⟨t,rfl⟩:=r;rfl
 |byt _=>obtain⟨t,rfl⟩:=r;rfl
 |flt _=>obtain⟨t,rfl⟩:=r;rfl
 |ref _=>cases r;rfl
 |ty _=>cases r;rfl
theorem qM.inj{x y:V}{u:Value}(r:qM x u)(q:qM y u):x=y:=Option.some.inj (r.abs.symm.trans q.abs)
theorem qA.inj:∀{xs ys:List V} {us:List Value},qA xs us->qA ys us->xs=ys
 |_,_,_,.nil,.nil=>rfl
 | _,_,_,.cons r t,.cons r' t'=>by rw[r.inj r',qA.inj t t']
section
variable{X:Cx}{pins:PP}{σ:St}{H:Hp}{s:Shared}{a:Addr}{xs ys:List V}
theorem SqL.of{K:Frag}(h:H a=some (.lst xs)):SqL K H a xs:=.inl (.inl h)
theorem SqT.of{K:Frag}(h:H a=some (.tup xs)):SqT K H a xs:=.inl (.inl h)
theorem Inv.list(I:Inv X pins σ H s)(h:SqL X.K H a xs):∃its:List Value,qA xs its/\PlainL s.heap a its.toArray/\xs.length<=sizeLine:=by
 rcases h with h | ⟨o,its,n,hk,hc,hd,hs,hz,r⟩
 ·obtain⟨z,its,n,r,e⟩:=h.ok I.hok;exact⟨its,r,⟨_,n,e,rfl,rfl,rfl⟩,z⟩
 ·refine⟨its.toList,r,⟨o,n,I.kIn a o hk,hc,hd,by simpa using hs⟩,?_⟩;have e:=r.length;simp only[Array.length_toList] at e;omega
theorem Inv.tuple(I:Inv X pins σ H s)(h:SqT X.K H a xs):∃its:List Value,qA xs its/\IsTup s.heap a its.toArray/\xs.length<=sizeLine:=by
 rcases h with h | ⟨o,its,n,hk,hc,hs,hz,r⟩
 ·obtain⟨z,its,r,p⟩:=h.ok I.hok;exact⟨its,r,p,z⟩
 ·refine⟨its.toList,r,⟨o,I.kIn a o hk,hc,n,by simpa using hs⟩,?_⟩;have e:=r.length;simp only[Array.length_toList] at e;omega
theorem Inv.list_inj(I:Inv X pins σ H s)(h:SqL X.K H a xs)(h':SqL X.K H a ys):xs=ys:=by
 obtain⟨its,r,⟨o,n,e,_,_,d⟩,_⟩:=I.list h;obtain⟨its',r',⟨o',n',e',_,_,d'⟩,_⟩:=I.list h';rw[e] at e';cases e';rw[d] at d';injection d' with d1 _
 have:its=its':=by simpa using congrArg Array.toList d1
 subst this;exact r.inj r'
theorem Inv.tuple_inj(I:Inv X pins σ H s)(h:SqT X.K H a xs)(h':SqT X.K H a ys):xs=ys:=by
 obtain⟨its,r,⟨o,e,_,n,d⟩,_⟩:=I.tuple h;obtain⟨its',r',⟨o',e',_,n',d'⟩,_⟩:=I.tuple h';rw[e] at e';cases e';rw[d] at d';injection d' with d1 _
 have:its=its':=by simpa using congrArg Array.toList d1
 subst this;exact r.inj r'
end
abbrev Cx.wish(X:Cx)(E:PQ):Cx:={ X with xe:=E }
abbrev Cx.nox(X:Cx):Cx:=X.wish λ_ _=>False
theorem Cx.Ok.wish{X:Cx}(ok:X.Ok)(E:PQ):(X.wish E).Ok:=
 ⟨ok.mod,ok.kind,ok.glob,ok.blt,ok.above,ok.inj,ok.has,ok.cab,ok.hd,ok.frames,ok.stk,ok.exf,ok.bs,ok.bsz,ok.noex,ok.exfs,ok.funs,ok.frf⟩
theorem Cx.Ok.unwish{X:Cx}{E:PQ}(ok:(X.wish E).Ok):X.Ok:=
 ⟨ok.mod,ok.kind,ok.glob,ok.blt,ok.above,ok.inj,ok.has,ok.cab,ok.hd,ok.frames,ok.stk,ok.exf,ok.bs,ok.bsz,ok.noex,ok.exfs,ok.funs,ok.frf⟩
section
variable{X:Cx}{pins:PP}{σ:St}{H:Hp}{s:Shared}{E:PQ}
theorem Inv.wish(I:Inv X pins σ H s)(E:PQ):Inv (X.wish E) pins σ H s:=⟨I.ok.wish E,I.os,I.bare,I.base,I.loc,I.cell,I.free,I.freeC,I.pin,I.hok,I.len⟩
theorem Inv.unwish(I:Inv (X.wish E) pins σ H s):Inv X pins σ H s:=⟨I.ok.unwish,I.os,I.bare,I.base,I.loc,I.cell,I.free,I.freeC,I.pin,I.hok,I.len⟩
theorem SP.unwish{D:Ends}{f:Flow}{s':Shared}(h:SP (X.wish E) pins D f s'):SP X pins D f s':=by
 cases f with
 |next=>obtain⟨σ',H',I,q⟩:=h;exact⟨σ',H',I.unwish,q⟩
 |brk=>obtain⟨σ',H',I,q⟩:=h;exact⟨σ',H',I.unwish,q⟩
 |cont=>obtain⟨σ',H',I,q⟩:=h;exact⟨σ',H',I.unwish,q⟩
 |ret u=>obtain⟨v,σ',H',I,r,q⟩:=h;exact⟨v,σ',H',I.unwish,r,q⟩
theorem PSs.nox{st:List Stmt}{t:TS}(h:PSs X.nox st t):PSs X st t:=λpins s σ H D I hw=>wpAny_mono (h pins s σ H D (I.wish _) hw) (λ_ _ q=>q.unwish) λ_ _ z=>False.elim z
end
section
variable{X:Cx}{st:Stmt}{rest:List Stmt}{t u:TS}{e:Expr}{te:TE}{pos:Pos}
def qjM:TS:=λD σ H=>D.nx σ H
def qoa(t u:TS):TS:=λD σ H=>t { D with nx:=u D } σ H
theorem Jz:PSs X [] qjM:=λ_ _ σ H _ I h=>wpAny_execs_nil ⟨σ,H,I,h⟩
theorem qV(h1:PS X st t)(h2:PSs X rest u):PSs X (st::rest) (qoa t u):=by
 intro pins s σ H D I h;refine wpAny_execs_cons (thn (h1 pins s σ H { D with nx:=u D } I h) λf s1 q=>?_)
 cases f with
 |next=>obtain⟨σ',H',I',q⟩:=q;exact h2 pins s1 σ' H' D I' q
 |ret v=>exact q
 |brk=>exact q
 |cont=>exact q
theorem z8(h1:PS X st t):PSs X [st] t:=by
 intro pins s σ H D I h;refine wpAny_execs_cons (thn (h1 pins s σ H D I h) λf s1 q=>?_)
 cases f with
 |next=>exact wpAny_execs_nil q
 |ret v=>exact q
 |brk=>exact q
 |cont=>exact q
theorem qhG:PS X (.Pass pos) qjM:=λ_ _ σ H _ I h=>wpAny_Pass ⟨σ,H,I,h⟩
theorem Inv.quiet{pins:PP}{σ:St}{H:Hp}{s:Shared}(I:Inv X pins σ H s):interactive X.env=false:=by simp[interactive,I.ok.kind]
def qmJ(te:TE):TS:=λD σ H=>te σ H λ_ H1=>D.nx σ H1
theorem yJ(he:PE X e te)(hs:swapsWith e none pos.line X.env=pure false:=by rfl):PS X (.Expr e pos) (qmJ te):=by intro pins s σ H D I h;exact wpAny_Expr_any (thn (he pins s σ H _ I h) λv s1 ⟨x,H1,I1,r1,q1⟩=>⟨σ,H1,I1,q1⟩) I.quiet hs
def qob(te:TE):TS:=λD σ H=>te σ H D.rt
theorem qdq(he:PE X e te):PS X (.Return (some e) pos) (qob te):=by intro pins s σ H D I h;exact wpAny_Return_some (thn (he pins s σ H _ I h) λv s1 ⟨x,H1,I1,r1,q1⟩=>⟨x,σ,H1,I1,r1,q1⟩)
def qmK:TS:=λD _ H=>D.rt .non H
theorem qhH:PS X (.Return none pos) qmK:=λ_ _ σ H _ I h=>wpAny_Return_none ⟨.non,σ,H,I,rfl,h⟩
def qoc(c:TT)(t u:TS):TS:=λD σ H=>c σ H λb H1=>if b=true then t D σ H1 else u D σ H1
theorem qcB{c:Expr}{a b:List Stmt}{tc:TT}(hc:PT X c tc)(ha:PSs X a t)(hb:PSs X b u):PS X (.If c a b pos) (qoc tc t u):=by
 intro pins s σ H D I h;refine wpAny_If (thn (hc pins s σ H _ I h) λd s1 hq1=>?_);obtain⟨H1,I1,q1⟩:=hq1
 cases d with
 |true=>exact ha pins s1 σ H1 D I1 q1
 |false=>exact hb pins s1 σ H1 D I1 q1
def qjN:TS:=λ_ _ _=>False
theorem yW:PS X st qjN:=λ_ _ _ _ _ _ h=>h.elim
end
abbrev TG:=V->St->Hp->(St->Hp->Prop)->Prop
abbrev TGs:=List V->St->Hp->(St->Hp->Prop)->Prop
noncomputable def PG(X:Cx)(target:Expr)(t:TG):Prop:=
 ∀(pins:PP) (s:Shared) (σ:St) (H:Hp) (v:V) (u:Value) (Q:St->Hp->Prop),Inv X pins σ H s->qM v u->t v σ H Q->
  wpAny (model X.prog X.w) X.A (assign target X.env u) (λ_ s'=>∃σ' H',Inv X pins σ' H' s'/\Q σ' H') X.xe s
noncomputable def PGs(X:Cx)(ts:List Expr)(t:TGs):Prop:=
 ∀(pins:PP) (s:Shared) (σ:St) (H:Hp) (vs:List V) (us:List Value) (Q:St->Hp->Prop),Inv X pins σ H s->qA vs us->t vs σ H Q->
  wpAny (model X.prog X.w) X.A (assignInOrder ((assignEach ts X.env).map (·.2)) us) (λ_ s'=>∃σ' H',Inv X pins σ' H' s'/\Q σ' H') X.xe s
abbrev qmL:=V->V->V->Hp->(Hp->Prop)->Prop
noncomputable def qnE(X:Cx)(t:qmL):Prop:=
 ∀(pins:PP) (s:Shared) (σ:St) (H:Hp) (o i v:V) (ov iv u:Value) (Q:Hp->Prop),Inv X pins σ H s->qM o ov->qM i iv->qM v u->t o i v H Q->
  wpAny (model X.prog X.w) X.A (setItem ov iv u) (λ_ s'=>∃H',Inv X pins σ H' s'/\Q H') X.xe s
section
variable{X:Cx}{pos:Pos}
def qfo(i:Nat):TG:=λv σ H Q=>Q (σ.set i (some v)) H
theorem qhI{i:Nat}{x:Str}(hN:X.N.Nodup)(hi:X.N[i]?=some x)(hx:Loc X.env.scope x)(hf:X.fn x=true\/X.env.scope.names.lookup x=some .local:=by first | exact .inl rfl | exact .inr rfl | assumption):PG X (.Name x pos) (qfo i):=by intro pins s σ H v u Q I r h;exact wpAny_assign_Name (qbG I hN hi hx r (λs' I'=>⟨_,H,I',h⟩) hf)
def qod:TGs:=λvs σ H Q=>vs=[]/\Q σ H
def qmM(t:TG)(u:TGs):TGs:=λvs σ H Q=>∃v r,vs=v::r/\t v σ H λσ' H'=>u r σ' H' Q
theorem qhJ:PGs X [] qod:=by intro pins s σ H vs us Q I r h;obtain⟨e,h⟩:=h;subst e;cases r;exact assignInOrder_nil ⟨σ,H,I,h⟩
theorem qfp{e:Expr}{es:List Expr}{t:TG}{u:TGs}(h1:PG X e t)(h2:PGs X es u)
  (hs:(assignEach (e::es) X.env).map (·.2)=assign e X.env::(assignEach es X.env).map (·.2):=by rfl):PGs X (e::es) (qmM t u):=by
 intro pins s σ H vs us Q I r h;obtain⟨v,vr,e1,h⟩:=h;subst e1
 cases r with
 |cons r rr=>rw[hs];refine assignInOrder_cons (thn (h1 pins s σ H _ _ _ I r h) λ_ s1 hq1=>?_);obtain⟨σ1,H1,I1,q1⟩:=hq1;exact h2 pins s1 σ1 H1 _ _ Q I1 rr q1
noncomputable def qoe(K:Frag)(n:Nat)(t:TGs):TG:=λv σ H Q=>∃a xs,v=.ref a/\SqT K H a xs/\xs.length=n/\t xs σ H Q
theorem qjO{es:List Expr}{k:Nat}{t:TGs}{n:Nat}(hc:X.calm=true)(h:PGs X es t)
  (hn:(assignEach es X.env).length=n:=by rfl) (hst:(assignEach es X.env).findIdx? (·.1)=none:=by rfl):PG X (.Tuple es k pos) (qoe X.K n t):=by
 intro pins s σ H v u Q I r hw;obtain⟨a,xs,e1,hq,hl,hw⟩:=hw;subst e1;cases r;obtain⟨its,rv,ht,hz⟩:=I.tuple hq;refine assign_Tuple_tuple (I.ok.hd hc) ht (by simp[hn,<-hl,rv.length]) hst λh' hx=>?_;have I1:Inv X pins σ H { s with heap:=h' }:=I.kept (t':=s.toks) λb o e=>hx b o (Nat.ne_of_lt (Heap.lt_size e)) e;exact h pins _ σ H xs _ Q I1 (by simpa using rv) hw
noncomputable def qof(to ti:TE)(t:qmL):TG:=λv σ H Q=>to σ H λo H1=>ti σ H1 λi H2=>t o i v H2 λH3=>Q σ H3
theorem qjP{o i:Expr}{to ti:TE}{t:qmL}(ho:PE X o to)(hi:PE X i ti)(hs:qnE X t)
  (ha:∀v,assign (.Subscript o i pos) X.env v=(do
   let ov<-holding [v] (eval o X.env)
   let iv<-holding [v,ov] (eval i X.env)
   standAt pos
   holding [v,ov,iv] (setItem ov iv v)
   release [v,ov,iv] []):=by intro _;rfl):PG X (.Subscript o i pos) (qof to ti t):=by
 intro pins s σ H v u Q I r h;rw[ha];refine wpAny_bind (wpAny_holding (thn (ho pins s σ H _ I h) λov s1 hq1=>?_));obtain⟨x,H1,I1,r1,q1⟩:=hq1;refine wpAny_bind (wpAny_holding (thn (hi pins s1 σ H1 _ I1 q1) λiv s2 hq1=>?_));obtain⟨y,H2,I2,r2,q2⟩:=hq1;refine wpAny_bind (wpAny_standAt (wpAny_bind (wpAny_holding (thn (hs pins s2 σ H2 x y v ov iv u _ I2 r1 r2 r q2) λ_ s3 hq1=>?_))));obtain⟨H3,I3,q3⟩:=hq1;exact wpAny_release ⟨σ,H3,I3,q3⟩
def qmN(te:TE)(g:TG):TS:=λD σ H=>te σ H λx H1=>g x σ H1 D.nx
theorem qjQ{tg e:Expr}{te:TE}{g:TG}(he:PE X e te)(hg:PG X tg g)(hs:swapsWithSole [tg] e pos.line X.env=pure false:=by rfl)(hw:swappedStores [tg] e X.env=pure none:=by rfl)
  (h1:(assignEach [tg] X.env).map (·.2)=[assign tg X.env]:=by rfl):PS X (.Assign [tg] e pos) (qmN te g):=by
 intro pins s σ H D I h;refine wpAny_Assign_stores (thn (he pins s σ H _ I h) λv s1 ⟨x,H1,I1,r1,q1⟩=>?_) hs hw;rw[h1];exact thn (hg pins s1 σ H1 x v _ I1 r1 q1) λ_ s2 q=>q
theorem qgK{i:Nat}{x:Str}{e:Expr}{te:TE}{pos':Pos}(hN:X.N.Nodup)(hi:X.N[i]?=some x)(hx:Loc X.env.scope x)(he:PE X e te)(hs:swapsWith e (some (.Name x pos')) pos.line X.env=pure false:=by rfl)(hf:X.fn x=true\/X.env.scope.names.lookup x=some .local:=by first | exact .inl rfl | exact .inr rfl | assumption) :
  PS X (.Assign [.Name x pos'] e pos) (qmN te (qfo i)):=by
 intro pins s σ H D I h;refine wpAny_Assign_Name (thn (he pins s σ H _ I h) λv s1 ⟨y,H1,I1,r1,q1⟩=>?_) hs;exact qbG I1 hN hi hx r1 (λs2 I2=>⟨_,H1,I2,q1⟩) hf
end
section
variable{X:Cx}{pos:Pos}
noncomputable def qjR(c:TT)(tb:TS):TS:=λD σ H=>∃W:Nat->St->Hp->Prop,(∃m,W m σ H)/\∀m σ H,W m σ H->
 c σ H λb H1=>if b=true then∃N:St->Hp->Prop,(∀σ' H',N σ' H'->∃m',m' < m/\W m' σ' H')/\tb { D with nx:=N,ct:=N,bk:=D.nx } σ H1 else D.nx σ H1
theorem qfq{c:Expr}{body:List Stmt}{tc:TT}{tb:TS}(hp:PassesOwn (model X.prog X.w) X.A X.env X.xe)(hc:PT X c tc)(hb:PSs X body tb):PS X (.While c body [] pos) (qjR tc tb):=by
 intro pins s σ H D I h;obtain⟨W,⟨m0,w0⟩,turn⟩:=h;refine wpAny_While (codeAny_whileLoop (λn s'=>∃σ' H',Inv X pins σ' H' s'/\W n σ' H') ?_ m0 ⟨σ,H,I,w0⟩);rintro n s1 ⟨σ1,H1,I1,w1⟩;refine wpAny_passesOwn hp (thn (hc pins s1 σ1 H1 _ I1 (turn n σ1 H1 w1)) λb s2 hq1=>?_);obtain⟨H2,I2,q2⟩:=hq1
 cases b with
 |true=>
  obtain⟨N,hN,q2⟩:=q2;rw[if_pos rfl];refine wpAny_passesOwn hp (thn (hb pins s2 σ1 H2 _ I2 q2) λf s3 q3=>?_)
  cases f with
  |next=>obtain⟨σ3,H3,I3,n3⟩:=q3;obtain⟨m',hm,w3⟩:=hN σ3 H3 n3;exact⟨m',hm,σ3,H3,I3,w3⟩
  |cont=>obtain⟨σ3,H3,I3,n3⟩:=q3;obtain⟨m',hm,w3⟩:=hN σ3 H3 n3;exact⟨m',hm,σ3,H3,I3,w3⟩
  |brk=>exact q3
  |ret v=>exact q3
 |false=>rw[if_neg Bool.false_ne_true];exact wpAny_execs_nil ⟨σ1,H2,I2,q2⟩
end
structure It where
 go:Nat->Hp->Prop
 yld:Nat->Hp->V->Hp->Prop
 stop:Nat->Hp->Prop
noncomputable def qcC(X:Cx)(pins:PP)(H:Hp)(b:Addr):Prop:=
 H b=none/\b≠X.env.locals/\b∉X.fs/\(b∈X.ex\/X.s₀.heap.objs.size<=b)/\(∀x c,X.env.cells.lookup x=some c->c≠b)/\∀p∈X.pn++pins,p.1≠b
theorem Inv.fpOk{X:Cx}{pins:PP}{σ:St}{H H':Hp}{s:Shared}{b:Addr}(I:Inv X pins σ H s)(hb:s.heap.objs.size<=b)(hn:H' b=none):qcC X pins H' b:=by
 refine⟨hn,Nat.ne_of_gt (Nat.lt_of_lt_of_le I.lt hb),I.nofs hb,.inr (Nat.le_trans I.sz hb),λx c e z=>?_,λp hp z=>?_⟩
 ·obtain⟨v,q⟩:=I.cell x c e;exact absurd (Nat.lt_of_lt_of_le q.lt (by rw[z];exact hb)) (Nat.lt_irrefl _)
 ·exact absurd (Nat.lt_of_lt_of_le (Heap.lt_size (I.pin p hp).1) (by rw[z];exact hb)) (Nat.lt_irrefl _)
structure Turn(P:Program)(w:World)(K:Frag)(tg:Expr)(J:It)(fp:List Addr)(it:Addr)(tn:Nat->Heap->Prop):Prop where
 mem:it∈fp
 obj:∀i h,tn i h->∀b∈fp,∃o,h.get? b=some o/\∀v,o.data≠.cell v
 keep:∀i h h',tn i h->(∀b∈fp,∀o,h.get? b=some o->h'.get? b=some o)->tn i h'
 item:∀(X:Cx),X.prog=P->X.w=w->X.K=K->X.calm=true->∀(i:Nat) (pins:PP) (s:Shared) (σ:St) (H:Hp) (E:PQ),Inv X pins σ H s->(∀b∈fp,qcC X pins H b)->tn i s.heap->J.go i H->
  wpAny (model P w) X.A (pyNext (.ref it)) (λr s1=>∃u,r=some u/\
   wpAny (model P w) X.A (letOwnedTupleGo tg (.ref it) u) (λ_ s2=>∃x H',Inv X pins σ H' s2/\qM x u/\J.yld i H x H'/\tn (i+1) s2.heap/\∀b∈fp,H' b=none) E s1) E s
 done:∀(X:Cx),X.prog=P->X.w=w->X.K=K->X.calm=true->∀(i:Nat) (pins:PP) (s:Shared) (σ:St) (H:Hp) (E:PQ),Inv X pins σ H s->(∀b∈fp,qcC X pins H b)->tn i s.heap->J.stop i H->
  wpAny (model P w) X.A (pyNext (.ref it)) (λr s1=>r=none/\Inv X pins σ H s1) E s
 self:∀(A:Around) (i:Nat) (s:Shared) (Q:PQ) (E:PQ),tn i s.heap->Q (.ref it) s->wpAny (model P w) A (pyIter (.ref it)) Q E s
abbrev TI:=St->Hp->(It->Hp->Prop)->Prop
noncomputable def PIE(X:Cx)(pins:PP)(σ:St)(tg:Expr)(R:It->Hp->Prop)(itv:Value)(s2:Shared):Prop:=
 ∃(it:Addr) (fp:List Addr) (tn:Nat->Heap->Prop) (J:It) (H':Hp),itv=.ref it/\Inv X pins σ H' s2/\Turn X.prog X.w X.K tg J fp it tn/\tn 0 s2.heap/\(∀b∈fp,qcC X pins H' b)/\R J H'
noncomputable def PI(X:Cx)(tg iter:Expr)(wi:TI):Prop:=
 ∀(pins:PP) (s:Shared) (σ:St) (H:Hp) (R:It->Hp->Prop),Inv X pins σ H s->wi σ H R->
  wpAny (model X.prog X.w) X.A (eval iter X.env) (λv s1=>wpAny (model X.prog X.w) X.A (pyIter v) (PIE X pins σ tg R) X.xe s1) X.xe s
theorem qdr{M:Model}{A:Around}{E:PQ}{s:Shared}{tg:Expr}{it:Addr}{u:Value}{o:Obj}{n:String}{vs:Array Value}{Q:Unit->Shared->Prop}(ho:s.heap.get? it=some o)(hc:o.cls=.type n)(hd:o.data=.fields vs)
  (hn:["enumerate","zip","dict_itemiterator","dict_reverseitemiterator","odict_iterator","itertools.zip_longest","itertools.pairwise"].contains n=false) (hQ:Q () s):wpAny M A (letOwnedTupleGo tg (.ref it) u) Q E s:=by
 unfold letOwnedTupleGo
 cases tg<;>first
  | exact wpAny_pure hQ
  | (cases u<;>first
    | exact wpAny_pure hQ
    | (refine wpAny_bind (wpAny_load ho ?_)
       rw[hc,hd];show wpAny M A (if (["enumerate","zip","dict_itemiterator","dict_reverseitemiterator","odict_iterator","itertools.zip_longest","itertools.pairwise"].contains n&&vs[0]? == some (rawInt _))=true then _ else _) Q E s;rw[if_neg (by intro h;rw[hn,Bool.false_and] at h;cases h)];exact wpAny_pure hQ))
noncomputable def Itl(K:Frag)(a:Addr):It:=
 ⟨λi H=>∃xs x,SqL K H a xs/\xs[i]?=some x,λi H x H'=>H'=H/\∀xs,SqL K H a xs->xs[i]?=some x,λi H=>∃xs,SqL K H a xs/\xs.length<=i⟩
noncomputable def Itt(K:Frag)(a:Addr):It:=
 ⟨λi H=>∃xs x,SqT K H a xs/\xs[i]?=some x,λi H x H'=>H'=H/\∀xs,SqT K H a xs->xs[i]?=some x,λi H=>∃xs,SqT K H a xs/\xs.length<=i⟩
def Itr(lo:Int)(n:Nat):It:=⟨λi _=>i < n,λi H x H'=>H'=H/\x=.int (lo+i),λi _=>n<=i⟩
theorem qds{P:Program}{w:World}{K:Frag}{tg:Expr}(a it:Addr):Turn P w K tg (Itl K a) [it] it (λi h=>h.IsListIter it a i) where
 mem:=by simp
 obj:=λi h st b hb=>by
  have e:b=it:=by simpa using hb
  subst e;obtain⟨o,e,c,d⟩:=st;exact⟨o,e,λv z=>by rw[d] at z;cases z⟩
 keep:=λi h h' st k=>st.at λo e=>k it (by simp) o e
 item:=by intro X hP hw hK hc i pins s σ H E I hf st hg;subst hP hw hK;obtain⟨xs,x,hq,hx⟩:=hg;obtain⟨its,rv,p,hz⟩:=I.list hq;obtain⟨u,hu,ru⟩:=rv.get hx;obtain⟨f0,f1,f2,f3,f4,f5⟩:=hf it (by simp);refine wpAny_pyNext_list_item st p.isList (x:=u) (by simpa using hu) λh' st' sb=>?_;have I1:Inv X pins σ H { s with heap:=h' }:=I.turned (t':=s.toks) (λb o hb e=>(sb.2 b hb).trans e) f0 f1 f3 f4 f5;obtain⟨o,e,c,d⟩:=id st';exact⟨u,rfl,qdr (s:={ s with heap:=h' }) e c d (2:) ⟨x,H,I1,ru,⟨rfl,λys hy=>by rw[I.list_inj hy hq];exact hx⟩,st',λb hb=>(hf b hb).1⟩⟩
 done:=by intro X hP hw hK hc i pins s σ H E I hf st hg;subst hP hw hK;obtain⟨xs,hq,hx⟩:=hg;obtain⟨its,rv,p,hz⟩:=I.list hq;obtain⟨f0,f1,f2,f3,f4,f5⟩:=hf it (by simp);have hl:=rv.length;exact wpAny_pyNext_list_end (I.ok.hd hc) st p.isList (by simp;omega) λh' eb=>⟨rfl,I.turned (t':=s.toks) (λb o hb e=>eb b o hb e) f0 f1 f3 f4 f5⟩
 self:=λ_ _ _ _ _ st h=>wpAny_pyIter_listiter st h
theorem qcD{P:Program}{w:World}{K:Frag}{tg:Expr}(a it:Addr):Turn P w K tg (Itt K a) [it] it (λi h=>h.IsTupleIter it a i) where
 mem:=by simp
 obj:=λi h st b hb=>by
  have e:b=it:=by simpa using hb
  subst e;obtain⟨o,e,c,d⟩:=st;exact⟨o,e,λv z=>by rw[d] at z;cases z⟩
 keep:=λi h h' st k=>st.at λo e=>k it (by simp) o e
 item:=by intro X hP hw hK hc i pins s σ H E I hf st hg;subst hP hw hK;obtain⟨xs,x,hq,hx⟩:=hg;obtain⟨its,rv,p,hz⟩:=I.tuple hq;obtain⟨u,hu,ru⟩:=rv.get hx;obtain⟨f0,f1,f2,f3,f4,f5⟩:=hf it (by simp);refine wpAny_pyNext_tuple_item st (show s.heap.IsTuple a its.toArray from p) (x:=u) (by simpa using hu) λh' st' sb=>?_;have I1:Inv X pins σ H { s with heap:=h' }:=I.turned (t':=s.toks) (λb o hb e=>(sb.2 b hb).trans e) f0 f1 f3 f4 f5;obtain⟨o,e,c,d⟩:=id st';exact⟨u,rfl,qdr (s:={ s with heap:=h' }) e c d (2:) ⟨x,H,I1,ru,⟨rfl,λys hy=>by rw[I.tuple_inj hy hq];exact hx⟩,st',λb hb=>(hf b hb).1⟩⟩
 done:=by intro X hP hw hK hc i pins s σ H E I hf st hg;subst hP hw hK;obtain⟨xs,hq,hx⟩:=hg;obtain⟨its,rv,p,hz⟩:=I.tuple hq;obtain⟨f0,f1,f2,f3,f4,f5⟩:=hf it (by simp);have hl:=rv.length;exact wpAny_pyNext_tuple_end (I.ok.hd hc) st (show s.heap.IsTuple a its.toArray from p) (by simp;omega) λh' eb=>⟨rfl,I.turned (t':=s.toks) (λb o hb e=>eb b o hb e) f0 f1 f3 f4 f5⟩
 self:=λ_ _ _ _ _ st h=>wpAny_pyIter_tupleiter st h
theorem qcE{P:Program}{w:World}{K:Frag}{tg:Expr}(it:Addr)(lo:Int)(n:Nat):Turn P w K tg (Itr lo n) [it] it (λi h=>IsRangeIter h it (lo+(i:Nat) * 1) ((n:Int) - (i:Nat)) 1) where
 mem:=by simp
 obj:=λi h st b hb=>by
  have e:b=it:=by simpa using hb
  subst e
  exact⟨_,st,λv z=>by have z':Data.fields _=Data.cell v:=z;cases z'⟩
 keep:=λi h h' st k=>k it (by simp) _ st
 item:=by intro X hP hw hK hc i pins s σ H E I hf st hg;subst hP hw hK;obtain⟨f0,f1,f2,f3,f4,f5⟩:=hf it (by simp);have W:=Walks.range (prog:=X.prog) (w:=X.w) (I.ok.hd hc) it lo 1 n;refine W.item i s _ _ hg st λv h' tk hv st' kk=>?_;obtain⟨t,rfl⟩:=hv;have I1:Inv X pins σ H { s with heap:=h',toks:=tk }:=I.turned (λb o hb e=>kk b o (by simpa using hb) e) f0 f1 f3 f4 f5;refine⟨_,rfl,qdr (s:={ s with heap:=h',toks:=tk }) (n:="range_iterator") st' rfl rfl (2:) ⟨.int (lo+i),H,I1,⟨t,?_⟩,⟨rfl,rfl⟩,st',λb hb=>(hf b hb).1⟩⟩;rw[Int.mul_one]
 done:=by intro X hP hw hK hc i pins s σ H E I hf st hg;subst hP hw hK;obtain⟨f0,f1,f2,f3,f4,f5⟩:=hf it (by simp);exact wpAny_pyNext_range_end (I.ok.hd hc) st (by have:n<=i:=hg;omega) λh' eb=>⟨rfl,I.turned (t':=s.toks) (λb o hb e=>eb b o hb e) f0 f1 f3 f4 f5⟩
 self:=λ_ _ _ _ _ st h=>wpAny_pyIter_rangeiter st h
end L2
namespace L2
open PySem PySem.Spec PyProof.Rows
section
variable{X:Cx}{tg:Expr}
theorem qbH{pins:PP}{σ:St}{H:Hp}{s:Shared}{R:It->Hp->Prop}{E:PQ}{lo hi:Int}{t u v:Tok}{tk:Nat}(I:Inv X pins σ H s)(h1:-(2 ^ 62)<=lo)(h2:lo < 2 ^ 62)(h3:-(2 ^ 62)<=hi)(h4:hi < 2 ^ 62)
  (q:R (Itr lo (hi - lo).toNat) H):wpAny (model X.prog X.w) X.A (pyIter (.ref s.heap.objs.size)) (PIE X pins σ tg R) E { s with heap:=s.heap.push { cls:=.type "range",data:=.fields #[.int lo t,.int hi u,.int 1 v] },toks:=tk }:=by
 refine wpAny_pyIter_range (IsRange.new ..) (small_one h1 h2 h3 h4) ?_;have I1:Inv X pins σ H { s with heap:=s.heap.push { cls:=.type "range",data:=.fields #[.int lo t,.int hi u,.int 1 v] },toks:=tk }:=I.kept λb o e=>Heap.get?_push_of_some _ e
 refine⟨(s.heap.push { cls:=.type "range",data:=.fields #[.int lo t,.int hi u,.int 1 v] }).objs.size,[(s.heap.push { cls:=.type "range",data:=.fields #[.int lo t,.int hi u,.int 1 v] }).objs.size],_,_,H,rfl,
  I1.kept (t':=tk) λb o e=>Heap.get?_push_of_some _ e,qcE _ lo (hi - lo).toNat,?_,λb hb=>?_,q⟩
 ·have e1:lo+((0:Nat):Int) * 1=lo:=by simp
  have e2:(((hi - lo).toNat:Nat):Int) - ((0:Nat):Int)=Builtin.Range.rangeSize lo hi 1:=by rw[rangeSize_one];split<;>omega
  show IsRangeIter _ _ (lo+((0:Nat):Int) * 1) ((((hi - lo).toNat:Nat):Int) - ((0:Nat):Int)) 1;rw[e1,e2];exact Heap.get?_push_size _ rfl
 ·have e:b=(s.heap.push { cls:=.type "range",data:=.fields #[.int lo t,.int hi u,.int 1 v] }).objs.size:=by simpa using hb
  subst e;exact I1.fpOk (Nat.le_refl _) (I1.hok.fresh (Nat.le_refl _))
noncomputable def qmO(ta:TA):TI:=λσ H R=>ta σ H λvs H1=>∃j:Int,vs=[.int j]/\-(2 ^ 62)<=j/\j < 2 ^ 62/\R (Itr 0 j.toNat) H1
noncomputable def qmP(ta:TA):TI:=λσ H R=>ta σ H λvs H1=>∃i j:Int,vs=[.int i,.int j]/\(-(2 ^ 62)<=i/\i < 2 ^ 62/\-(2 ^ 62)<=j/\j < 2 ^ 62)/\R (Itr i (j - i).toNat) H1
theorem qdt{a:Expr}{ta:TA}{p pos:Pos}(hg:Gl X "range")(hm:X.mg "range" = none)(ha:PA X [a] ta)(hs:starEach [a] X.env=[(false,eval a X.env)]:=by rfl):PI X tg (.Call (.Name "range" p) [a] [] pos) (qmO ta):=by
 intro pins s σ H R I h;refine Call_ (JN I hg hm boot_range (PyProof.Rows.callWith_type1 (thn (ha pos pins s σ H _ I h) λus s1 ⟨vs,H1,I1,r1,q1⟩=>?_) hs rfl));obtain⟨j,e,q1,q2,q⟩:=q1;subst e
 cases r1 with
 |cons r rr=>cases rr;obtain⟨t,rfl⟩:=r;exact call_range_1 (qbH I1 (1:) (1:) q1 q2 (by simpa using q))
theorem qdu{a b:Expr}{ta:TA}{p pos:Pos}(hg:Gl X "range")(hm:X.mg "range" = none)(ha:PA X [a,b] ta)(hs:starEach [a,b] X.env=[(false,eval a X.env),(false,eval b X.env)]:=by rfl)(hs2:starEach [b] X.env=[(false,eval b X.env)]:=by rfl) :
  PI X tg (.Call (.Name "range" p) [a,b] [] pos) (qmP ta):=by
 intro pins s σ H R I h;refine Call_ (JN I hg hm boot_range (PyProof.Rows.callWith_type1 (thn (ha pos pins s σ H _ I h) λus s1 ⟨vs,H1,I1,r1,q1⟩=>?_) (by rw[hs,hs2]) (by rw[hs2];rfl)));obtain⟨i,j,e,⟨q1,q2,q3,q4⟩,q⟩:=q1;subst e
 cases r1 with
 |cons r rr=>
  cases rr with
  | cons r' rr=>cases rr;obtain⟨t,rfl⟩:=r;obtain⟨t',rfl⟩:=r';exact call_range_2 (qbH I1 q1 q2 q3 q4 q)
noncomputable def qog(wi:TI)(g:TG)(tb:TS):TS:=λD σ H=>wi σ H λJ H1=>∃W:Nat->Nat->St->Hp->Prop,(∃m,W 0 m σ H1)/\∀i m σ H,W i m σ H->
 (J.stop i H/\D.nx σ H)\/(J.go i H/\∃N:St->Hp->Prop,(∀σ' H',N σ' H'->∃m',m' < m/\W (i+1) m' σ' H')/\∀x H',J.yld i H x H'->g x σ H' λσ2 H2=>tb { D with nx:=N,ct:=N,bk:=D.nx } σ2 H2)
def ZX(fp:List Addr)(h:Heap):List (Addr×Obj):=fp.filterMap λb=>(h.get? b).map λo=>(b,o)
theorem yw{fp:List Addr}{h:Heap}{b:Addr}{o:Obj}(hb:b∈fp)(e:h.get? b=some o):(b,o)∈ZX fp h:=List.mem_filterMap.mpr ⟨b,hb,by rw[e];rfl⟩
theorem qdv{fp:List Addr}{h:Heap}{p:Addr×Obj}(hp:p∈ZX fp h):p.1∈fp/\h.get? p.1=some p.2:=by
 obtain⟨b,hb,e⟩:=List.mem_filterMap.mp hp
 cases q:h.get? b with
 |none=>rw[q] at e;cases e
 |some o=>rw[q] at e;have e':(b,o)=p:=Option.some.inj e;subst e';exact⟨hb,q⟩
theorem Inv.pinned{pins:PP}{σ:St}{H:Hp}{s:Shared}{fp:List Addr}(I:Inv X pins σ H s)(hf:∀b∈fp,qcC X pins H b)(ho:∀b∈fp,∃o,s.heap.get? b=some o/\∀v,o.data≠.cell v):Inv X (pins++ZX fp s.heap) σ H s:=
 I.pins_of λp hp=>(List.mem_append.mp hp).elim (λz=>I.pin p (List.mem_append_right _ z)) λz=>by obtain⟨hb,e⟩:=qdv z;obtain⟨f0,f1,f2,_⟩:=hf p.1 hb;obtain⟨o,e',d⟩:=ho p.1 hb;rw[e] at e';cases e';exact⟨e,f0,f1,f2,d⟩
theorem Inv.unpinned{pins pl:PP}{σ:St}{H:Hp}{s:Shared}(I:Inv X (pins++pl) σ H s):Inv X pins σ H s:=I.pins_of λp hp=>I.pin p (List.mem_append_right _ (List.mem_append_left _ hp))
theorem qjS{iter:Expr}{body:List Stmt}{wi:TI}{g:TG}{tb:TS}{pos:Pos}(hp:PassesOwn (model X.prog X.w) X.A X.env X.xe)(hc:X.calm=true)(hi:PI X tg iter wi)(hg:PG X tg g)(hb:PSs X body tb)
  (hs:∀x,foldedSetIterable iter X.env x=pure x:=by intro _;rfl):PS X (.For tg iter body [] pos) (qog wi g tb):=by
 intro pins s σ H D I h;refine wpAny_For (thn (hi pins s σ H _ I h) λv s1 h1=>thn h1 λitv s2 h2=>?_) hs;obtain⟨it,fp,tn,J,H2,e,I2,T,st2,f2,W,⟨m0,w0⟩,turn⟩:=h2;subst e;have stat:∀{H':Hp},(∀b∈fp,H' b=none)->∀b∈fp,qcC X pins H' b:=λhn b hb=>⟨hn b hb,(f2 b hb).2⟩;refine codeAny_forLoop_any (λn s'=>∃i σ' H',Inv X pins σ' H' s'/\tn i s'.heap/\(∀b∈fp,H' b=none)/\W i n σ' H') ?_ m0 ⟨0,σ,H2,I2,st2,λb hb=>(f2 b hb).1,w0⟩;rintro n s3 ⟨i,σ3,H3,I3,st3,fr3,w3⟩;rcases turn i n σ3 H3 w3 with ⟨stop,qn⟩ | ⟨go,N,hN,step⟩
 ·refine wpAny_passesOwn hp (thn (T.done X rfl rfl rfl hc i pins s3 σ3 H3 X.xe I3 (stat fr3) st3 stop) λr s4 hq1=>?_);obtain⟨hr,I4⟩:=hq1;subst hr;exact wpAny_execs_nil ⟨σ3,H3,I4,qn⟩
 ·refine wpAny_passesOwn hp (thn (T.item X rfl rfl rfl hc i pins s3 σ3 H3 X.xe I3 (stat fr3) st3 go) λr s4 hq1=>?_);obtain⟨u,hr,h4⟩:=hq1;subst hr;refine wpAny_passesOwn hp (thn h4 λ_ s5 hq1=>?_);obtain⟨x,H5,I5,r5,y5,st5,fr5⟩:=hq1;have I5':=I5.pinned (stat fr5) (T.obj _ _ st5);refine wpAny_passesOwn hp (thn (hg _ s5 σ3 H5 x u _ I5' r5 (step x H5 y5)) λ_ s6 hq1=>?_);obtain⟨σ6,H6,I6,q6⟩:=hq1;refine wpAny_passesOwn hp (thn (hb _ s6 σ6 H6 _ I6 q6) λf s7 q7=>?_)
  have again:∀{σ7:St} {H7:Hp},Inv X (pins++ZX fp s5.heap) σ7 H7 s7->N σ7 H7->∃m,m < n/\∃i σ' H',Inv X pins σ' H' s7/\tn i s7.heap/\(∀b∈fp,H' b=none)/\W i m σ' H':=λ{σ7 H7} I7 n7=>by obtain⟨m',hm,w7⟩:=hN σ7 H7 n7;refine⟨m',hm,i+1,σ7,H7,I7.unpinned,T.keep _ _ _ st5 λb hb o e=>(I7.pin (b,o) (List.mem_append_right _ (List.mem_append_right _ (yw hb e)))).1,λb hb=>?_,w7⟩;obtain⟨o,e,d⟩:=T.obj _ _ st5 b hb;exact(I7.pin (b,o) (List.mem_append_right _ (List.mem_append_right _ (yw hb e)))).2.1
  cases f with
  |next=>obtain⟨σ7,H7,I7,n7⟩:=q7;exact again I7 n7
  |cont=>obtain⟨σ7,H7,I7,n7⟩:=q7;exact again I7 n7
  |brk=>obtain⟨σ7,H7,I7,q7⟩:=q7;exact⟨σ7,H7,I7.unpinned,q7⟩
  |ret v=>obtain⟨x7,σ7,H7,I7,r7,q7⟩:=q7;exact⟨x7,σ7,H7,I7.unpinned,r7,q7⟩
end
end L2
namespace L2
open PySem PySem.Spec PyProof.Rows
abbrev R2:=V->V->Hp->VK->Prop
noncomputable def OpR(X:Cx)(f:Value->Value->Sem Value)(r:R2):Prop:=
 ∀(pins:PP) (s:Shared) (σ:St) (H:Hp) (x y:V) (v u:Value) (Q:VK),Inv X pins σ H s->qM x v->qM y u->r x y H Q->
  wpAny (model X.prog X.w) X.A (f v u) (EP X pins σ Q) X.xe s
noncomputable def UnR(X:Cx)(f:Value->Sem Value)(r:V->Hp->VK->Prop):Prop:=
 ∀(pins:PP) (s:Shared) (σ:St) (H:Hp) (x:V) (v:Value) (Q:VK),Inv X pins σ H s->qM x v->r x H Q->
  wpAny (model X.prog X.w) X.A (f v) (EP X pins σ Q) X.xe s
noncomputable def zV(X:Cx)(f:Value)(r:List V->Hp->VK->Prop):Prop:=
 ∀(pins:PP) (s:Shared) (σ:St) (H:Hp) (xs:List V) (us:List Value) (Q:VK),Inv X pins σ H s->qA xs us->r xs H Q->
  wpAny (model X.prog X.w) X.A (call f us) (EP X pins σ Q) X.xe s
noncomputable def qoh(X:Cx)(r:V->Hp->(Bool->Hp->Prop)->Prop):Prop:=
 ∀(pins:PP) (s:Shared) (σ:St) (H:Hp) (x:V) (v:Value) (Q:Bool->Hp->Prop),Inv X pins σ H s->qM x v->r x H Q->
  wpAny (model X.prog X.w) X.A (truthy v) (TP X pins σ Q) X.xe s
def tOp(r:R2)(ta tb:TE):TE:=λσ H Q=>ta σ H λx H1=>tb σ H1 λy H2=>r x y H2 Q
def tUn(r:V->Hp->VK->Prop)(ta:TE):TE:=λσ H Q=>ta σ H λx H1=>r x H1 Q
noncomputable def rI(C:Int->Int->Prop)(g:Int->Int->V):R2:=λx y H Q=>∃i j,x=.int i/\y=.int j/\C i j/\Q (g i j) H
def rI0(g:Int->Int->V):R2:=λx y H Q=>∃i j,x=.int i/\y=.int j/\Q (g i j) H
def rU(g:Int->V):V->Hp->VK->Prop:=λx H Q=>∃i,x=.int i/\Q (g i) H
section
variable{X:Cx}{a b c:Expr}{ta tb tc:TE}{pos:Pos}
theorem qmQ(ha:PE X a ta)(hb:PE X b tb){pins:PP}{s:Shared}{σ:St}{H:Hp}{R:V->V->Hp->Prop}(I:Inv X pins σ H s)
  (h:ta σ H λx H1=>tb σ H1 λy H2=>R x y H2) {Q:PQ} {f:Value->Value->Sem Value}
  (hf:∀v u s2 x y H2,Inv X pins σ H2 s2->qM x v->qM y u->R x y H2->wpAny (model X.prog X.w) X.A (f v u) Q X.xe s2) :
  wpAny (model X.prog X.w) X.A (eval a X.env) (λv s₁=>wpAny (model X.prog X.w) X.A (eval b X.env) (λu s₂=>wpAny (model X.prog X.w) X.A (f v u) Q X.xe s₂) X.xe s₁) X.xe s:=by
 refine thn (ha pins s σ H _ I h) λv s1 hq1=>?_;obtain⟨x,H1,I1,r1,q1⟩:=hq1;refine thn (hb pins s1 σ H1 _ I1 q1) λu s2 hq1=>?_;obtain⟨y,H2,I2,r2,q2⟩:=hq1;exact hf v u s2 x y H2 I2 r1 r2 q2
theorem qmR{op:Operator}{r:R2}(ho:OpR X (binaryOp op) r)(ha:PE X a ta)(hb:PE X b tb):PE X (.BinOp a op b pos) (tOp r ta tb):=by intro pins s σ H Q I h;exact wpAny_BinOp (qmQ ha hb I h λv u s2 x y H2 I2 rx ry q=>ho pins s2 σ H2 x y v u Q I2 rx ry q)
theorem qjT{op:UnaryOp}{r:V->Hp->VK->Prop}(ho:UnR X (unaryOp op) r)(ha:PE X a ta):PE X (.UnaryOp op a pos) (tUn r ta):=by intro pins s σ H Q I h;exact UnaryOp_ (thn (ha pins s σ H _ I h) λv s1 ⟨x,H1,I1,r1,q1⟩=>ho pins s1 σ H1 x v Q I1 r1 q1)
theorem opI{f:Value->Value->Sem Value}{C:Int->Int->Prop}{g:Int->Int->Int}
  (rule:∀(i j:Int) (t u:Tok) (s:Shared) (Q:PQ) (E:PQ),C i j->Q (.int (g i j) s.toks) { s with toks:=s.toks+1 }->wpAny (model X.prog X.w) X.A (f (.int i t) (.int j u)) Q E s) :
  OpR X f (rI C λi j=>.int (g i j)):=by
 intro pins s σ H x y v u Q I rx ry h;obtain⟨i,j,rfl,rfl,hc,q⟩:=h;obtain⟨t,rfl⟩:=rx;obtain⟨t',rfl⟩:=ry;exact rule i j t t' s _ _ hc ⟨.int (g i j),H,I.tok _,⟨_,rfl⟩,q⟩
theorem qnF{f:Value->Value->Sem Value}{g:Int->Int->Int}
  (rule:∀(i j:Int) (t u:Tok) (s:Shared) (Q:PQ) (E:PQ),Q (.int (g i j) s.toks) { s with toks:=s.toks+1 }->wpAny (model X.prog X.w) X.A (f (.int i t) (.int j u)) Q E s) :
  OpR X f (rI0 λi j=>.int (g i j)):=by
 intro pins s σ H x y v u Q I rx ry h;obtain⟨i,j,rfl,rfl,q⟩:=h;obtain⟨t,rfl⟩:=rx;obtain⟨t',rfl⟩:=ry;exact rule i j t t' s _ _ ⟨.int (g i j),H,I.tok _,⟨_,rfl⟩,q⟩
theorem qmu{f:Value->Value->Sem Value}{g:Int->Int->Bool}
  (rule:∀(i j:Int) (t u:Tok) (s:Shared) (Q:PQ) (E:PQ),Q (.bool (g i j)) s->wpAny (model X.prog X.w) X.A (f (.int i t) (.int j u)) Q E s) :
  OpR X f (rI0 λi j=>.bl (g i j)):=by
 intro pins s σ H x y v u Q I rx ry h;obtain⟨i,j,rfl,rfl,q⟩:=h;obtain⟨t,rfl⟩:=rx;obtain⟨t',rfl⟩:=ry;exact rule i j t t' s _ _ ⟨.bl (g i j),H,I,rfl,q⟩
def qoi(i j:Int):Prop:=0 < j/\j < 1073741824
def qoj(i j:Int):Prop:=0<=j/\j<=1000000/\i.natAbs < 2 ^ 64
def qmv(i j:Int):Prop:=(-(2 ^ 64) < i/\i < 2 ^ 64)\/(-(2 ^ 64) < j/\j < 2 ^ 64)
theorem qmv.ok{i j:Int}(h:qmv i j):IntMulOk i j:=by
 rcases h with ⟨h1,h2⟩ | ⟨h1,h2⟩
 ·exact .of_left (intBits_le_64 h1 h2)
 ·exact .of_right (intBits_le_64 h1 h2)
theorem qjU:OpR X (binaryOp .Add) (rI0 λi j=>.int (i+j)):=qnF λ_ _ _ _ _ _ _ q=>add_int q
theorem qjV:OpR X (binaryOp .Sub) (rI0 λi j=>.int (i - j)):=qnF λ_ _ _ _ _ _ _ q=>sub_int q
theorem qjW:OpR X (binaryOp .Mult) (rI qmv λi j=>.int (i * j)):=opI λ_ _ _ _ _ _ _ hc q=>mul_int q hc.ok
theorem qhK:OpR X (binaryOp .FloorDiv) (rI qoi λi j=>.int (i / j)):=opI λi j _ _ _ _ _ hc q=>by have h1:(0:Int) < j:=hc.1;have h2:j < 1073741824:=hc.2;exact floordiv_int (1:) (by rw[Int.fdiv_eq_ediv_of_nonneg i (1:)];exact q) (.inl (PyProof.noPylong_small (1:)))
theorem qjX:OpR X (binaryOp .Mod) (rI (λ_ j=>0 < j) λi j=>.int (i % j)):=opI λi j _ _ _ _ _ hc q=>by have h1:(0:Int) < j:=hc;exact mod_int' (1:) (by rw[Int.fmod_eq_emod_of_nonneg i (1:)];exact q)
theorem qjY:OpR X (binaryOp .Pow) (rI qoj λi j=>.int (i ^ j.toNat)):=opI λ_ _ _ _ _ _ _ hc q=>pow_int_small hc.1 hc.2.1 hc.2.2 q
theorem unI{f:Value->Sem Value}{g:Int->Int}
  (rule:∀(i:Int) (t:Tok) (s:Shared) (Q:PQ) (E:PQ),Q (.int (g i) s.toks) { s with toks:=s.toks+1 }->wpAny (model X.prog X.w) X.A (f (.int i t)) Q E s) :
  UnR X f (rU λi=>.int (g i)):=by
 intro pins s σ H x v Q I rx h;obtain⟨i,rfl,q⟩:=h;obtain⟨t,rfl⟩:=rx;exact rule i t s _ _ ⟨.int (g i),H,I.tok _,⟨_,rfl⟩,q⟩
theorem qgL:UnR X (unaryOp .USub) (rU λi=>.int (-i)):=unI λ_ _ _ _ _ q=>neg_int q
end
section
variable{X:Cx}{a b c:Expr}{ta tb tc:TE}{pos:Pos}
theorem qbI{pins:PP}{σ:St}{H:Hp}{s:Shared}{Q:VK}{k k':Bool}(I:Inv X pins σ H s)(q:Q (.bl k) H)(e:k=k'):EP X pins σ Q (.bool k') s:=by subst e;exact⟨.bl k,H,I,rfl,q⟩
theorem qmS:OpR X (compareOp .Lt) (rI0 λi j=>.bl (decide (i < j))):=qmu λ_ _ _ _ _ _ _ q=>lt_int q
theorem qmT:OpR X (compareOp .LtE) (rI0 λi j=>.bl (decide (i<=j))):=qmu λ_ _ _ _ _ _ _ q=>le_int q
theorem qmU:OpR X (compareOp .Gt) (rI0 λi j=>.bl (decide (j < i))):=qmu λ_ _ _ _ _ _ _ q=>gt_int q
theorem qmV:OpR X (compareOp .GtE) (rI0 λi j=>.bl (decide (j<=i))):=qmu λ_ _ _ _ _ _ _ q=>ge_int q
theorem qdw:OpR X (compareOp .In) (λx y H Q=>∃i j,x=.str i/\y=.str j/\Q (.bl (!(Builtin.Str.occurrences j i 0 j.length 1).isEmpty)) H):=by intro pins s σ H x y v u Q I rx ry h;obtain⟨i,j,rfl,rfl,q⟩:=h;obtain⟨t,rfl⟩:=rx;obtain⟨t',rfl⟩:=ry;exact in_str (qbI I q rfl)
theorem qjZ:OpR X (compareOp .Is) (λx y H Q=>y=.non/\Q (.bl (decide (x=.non))) H):=by
 intro pins s σ H x y v u Q I rx ry h;obtain⟨rfl,q⟩:=h;cases ry;refine is_none_gen (qbI I q ?_)
 cases x<;>first
  | (cases rx;rfl)
  | (obtain⟨t,rfl⟩:=rx;rfl)
theorem qhL:OpR X (compareOp .IsNot) (λx y H Q=>y=.non/\Q (.bl (!decide (x=.non))) H):=by
 intro pins s σ H x y v u Q I rx ry h;obtain⟨rfl,q⟩:=h;cases ry;refine isnot_none_gen (qbI I q ?_)
 cases x<;>first
  | (cases rx;rfl)
  | (obtain⟨t,rfl⟩:=rx;rfl)
theorem ZZ:OpR X (compareOp .NotIn) (λx y H Q=>∃i j,x=.str i/\y=.str j/\Q (.bl (!(!(Builtin.Str.occurrences j i 0 j.length 1).isEmpty))) H):=by intro pins s σ H x y v u Q I rx ry h;obtain⟨i,j,rfl,rfl,q⟩:=h;obtain⟨t,rfl⟩:=rx;obtain⟨t',rfl⟩:=ry;exact notIn_str (qbI I q rfl)
theorem qhM{op:CmpOp}{r:R2}(ho:OpR X (compareOp op) r)(ha:PE X a ta)(hb:PE X b tb)(hm:behindInMarks op b=false):PE X (.Compare a [op] [b] pos) (tOp r ta tb):=by intro pins s σ H Q I h;exact wpAny_Compare1 (qmQ ha hb I h λv u s2 x y H2 I2 rx ry q=>ho pins s2 σ H2 x y v u Q I2 rx ry q) hm
def qmW(t:TE):TT:=λσ H Q=>t σ H λx H'=>∃k,x=.bl k/\Q k H'
theorem qhN{op:CmpOp}{r:R2}(ho:OpR X (compareOp op) r)(ha:PE X a ta)(hb:PE X b tb)(hm:behindInMarks op b=false):PT X (.Compare a [op] [b] pos) (qmW (tOp r ta tb)):=by
 intro pins s σ H Q I h
 refine wpAny_isTrue_Compare1 (thn (ha pins s σ H _ I h) λv s1 ⟨x,H1,I1,r1,q1⟩=>thn (hb pins s1 σ H1 _ I1 q1) λu s2 ⟨y,H2,I2,r2,q2⟩=>thn (ho pins s2 σ H2 x y v u _ I2 r1 r2 q2) λc s3 ⟨z,H3,I3,r3,k,e,q3⟩=>?_) hm
 subst e;cases r3;exact wpAny_truthy_bool ⟨H3,I3,q3⟩
noncomputable def qmw(K:Frag)(x:V)(H:Hp)(k:Bool):Prop:=
 match x with
 |.non=>k=false
 |.bl b=>k=b
 |.int i=>k=(i != 0)
 |.str y=>y.length<=sizeLine/\k=((y.length:Int) != 0)
 |.byt y=>y.size<=sizeLine/\k=((y.size:Int) != 0)
 |.ref p=>(∃xs,SqL K H p xs/\k = !xs.isEmpty)\/(∃xs,SqT K H p xs/\k = !xs.isEmpty)\/∃kvs,H p=some (.dK kvs)/\k = !kvs.isEmpty
 |_=>False
theorem qcF{κ:Type}{kvs:List (κ×V)}{vs:List (κ×Value)}(r:KV kvs vs):(!vs.isEmpty) = !kvs.isEmpty:=by cases r<;>rfl
theorem Qo{xs:List V}{its:List Value}(r:qA xs its):(!its.toArray.isEmpty) = !xs.isEmpty:=by cases r<;>simp
theorem Yj:(sizeLine:Nat) < 2 ^ 63:=by rw[sizeLine_eq];decide
theorem qj0:qoh X (λx H Q=>∃k,qmw X.K x H k/\Q k H):=by
 intro pins s σ H x v Q I rx h;obtain⟨k,e,q⟩:=h;have hl:=Yj;have hs:sizeLine=16777216:=sizeLine_eq
 cases x with
 |non=>cases rx;have e':k=false:=e;subst e';exact truthy_none ⟨H,I,q⟩
 |bl b=>cases rx;have e':k=b:=e;subst e';exact wpAny_truthy_bool ⟨H,I,q⟩
 |int i=>obtain⟨t,rfl⟩:=rx;have e':k=(i != 0):=e;subst e';exact PySem.P.truthy_int ⟨H,I,q⟩
 |str y=>obtain⟨t,rfl⟩:=rx;obtain⟨hy,e'⟩:y.length<=sizeLine/\k=((y.length:Int) != 0):=e;subst e';exact PySem.P.truthy_str (1:) ⟨H,I.tok _,q⟩
 |byt y=>obtain⟨t,rfl⟩:=rx;obtain⟨hy,e'⟩:y.size<=sizeLine/\k=((y.size:Int) != 0):=e;subst e';exact PySem.W.truthy_bytes (1:) ⟨H,I.tok _,q⟩
 |ref p=>
  cases rx;have e':(∃xs,SqL X.K H p xs/\k = !xs.isEmpty)\/(∃xs,SqT X.K H p xs/\k = !xs.isEmpty)\/∃kvs,H p=some (.dK kvs)/\k = !kvs.isEmpty:=e;rcases e' with ⟨xs,hx,e'⟩ | ⟨xs,hx,e'⟩ | ⟨kvs,hx,e'⟩
  ·subst e';obtain⟨its,r,pl,hz⟩:=I.list hx;have hlen:=r.length;exact wpAny_truthy_list pl.isList (by simp only[List.size_toArray];omega) ⟨H,I.tok _,by rw[Qo r];exact q⟩
  ·subst e';obtain⟨its,r,pl,hz⟩:=I.tuple hx;have hlen:=r.length;exact truthy_tuple pl (by simp only[List.size_toArray];omega) ⟨H,I.tok _,by rw[Qo r];exact q⟩
  ·subst e';obtain⟨hz,hS,vs,r,m⟩:kvs.length<=sizeLine/\(p == sysModules)=false/\∃vs,KV kvs vs/\s.heap.DictOf (qx X.prog X.w) p vs:=I.hok p _ hx;have hlen:kvs.length=vs.length:=Paired.length r;exact wpAny_truthy_dict hS m (1:) ⟨H,I.tok _,by rw[qcF r];exact q⟩
 |_=>exact(show False from e).elim
theorem qfr(ha:PE X a ta)(he:∀whole,isTrue a X.env whole=(do let v<-whole;standAt a.pos;holding [v] (truthy v))) :
  PT X a (λσ H Q=>ta σ H λx H'=>∃k,qmw X.K x H' k/\Q k H'):=by
 intro pins s σ H Q I h;exact isTrue_plain (thn (ha pins s σ H _ I h) λv s1 ⟨x,H1,I1,r1,q1⟩=>qj0 pins s1 σ H1 x v Q I1 r1 q1) (he _)
theorem qcG:OpR X (binaryOp .Add) (λx y H Q=>∃i j,x=.str i/\y=.str j/\i.length+j.length<=sizeLine/\Q (.str (i++j)) H):=by intro pins s σ H x y v u Q I rx ry h;obtain⟨i,j,rfl,rfl,hz,q⟩:=h;obtain⟨t,rfl⟩:=rx;obtain⟨t',rfl⟩:=ry;exact add_str (λt' tk=>⟨.str (i++j),H,I.tok _,⟨_,rfl⟩,q⟩) hz
theorem Yk{x:V}{us:List Value}(r:qA [x] us):∃u,us=[u]/\qM x u:=by
 cases r with
 |cons r1 r2=>cases r2;exact⟨_,rfl,r1⟩
theorem qa5{x y:V}{us:List Value}(r:qA [x,y] us):∃u w',us=[u,w']/\qM x u/\qM y w':=by
 cases r with
 |cons r1 r2=>
  cases r2 with
  |cons r3 r4=>cases r4;exact⟨_,_,rfl,r1,r3⟩
theorem qdx(hc:X.calm=true):zV X (.builtin "max") (λxs H Q=>∃i j,xs=[.int i,.int j]/\Q (.int (if j > i then j else i)) H):=by
 intro pins s σ H xs us Q I r h;obtain⟨i,j,rfl,q⟩:=h;obtain⟨u,w',rfl,⟨t,rfl⟩,⟨t',rfl⟩⟩:=qa5 r;refine max_two_ints (I.ok.hd hc) λh' tk k=>⟨_,H,I.kept k,?_,q⟩
 by_cases hj:j > i
 ·rw[if_pos hj,if_pos hj];exact⟨_,rfl⟩
 ·rw[if_neg hj,if_neg hj];exact⟨_,rfl⟩
theorem qdy(hc:X.calm=true):zV X (.builtin "min") (λxs H Q=>∃i j,xs=[.int i,.int j]/\Q (.int (if j < i then j else i)) H):=by
 intro pins s σ H xs us Q I r h;obtain⟨i,j,rfl,q⟩:=h;obtain⟨u,w',rfl,⟨t,rfl⟩,⟨t',rfl⟩⟩:=qa5 r;refine min_two_ints (I.ok.hd hc) λh' tk k=>⟨_,H,I.kept k,?_,q⟩
 by_cases hj:j < i
 ·rw[if_pos hj,if_pos hj];exact⟨_,rfl⟩
 ·rw[if_neg hj,if_neg hj];exact⟨_,rfl⟩
theorem Z0:zV X (.type "int") (λxs H Q=>(∃i,xs=[.int i]/\Q (.int i) H)\/∃k,xs=[.bl k]/\Q (.int (if k then 1 else 0)) H):=by
 intro pins s σ H xs us Q I r h;rcases h with ⟨i,rfl,q⟩ | ⟨k,rfl,q⟩
 ·obtain⟨u,rfl,t,rfl⟩:=Yk r;exact call_int_int ⟨.int i,H,I,⟨_,rfl⟩,q⟩
 ·obtain⟨u,rfl,r1⟩:=Yk r;cases r1;exact call_int_bool ⟨.int (if k then 1 else 0),H,I.tok _,⟨_,rfl⟩,q⟩
end
end L2
namespace L2
open PySem PySem.Spec PyProof.Rows
structure ObjM(h:Heap)(x dx C:Addr)(mA:PR):Prop where
 obj:h.get? x=some (PySem.W.instObj C dx)
 ns:h.Ns1 dx mA
 ne:dx≠x
theorem qdz{h:Heap}{dx:Addr}{mA:PR}(n:h.Ns1 dx mA):∃od,h.get? dx=some od/\∀name,PySem.W.lookIn name od=some (mA name):=by
 obtain⟨o,es,ep,ho,hd,hk,_,hm⟩:=n;refine⟨o,ho,λname=>?_⟩;have e:=hm name;unfold nsFind findBy at e;rw[<-Array.find?_toList] at e;unfold PySem.W.lookIn;rw[hd];dsimp only;split
 ·rename_i y q;rw[q] at e;exact congrArg some e
 ·rename_i q;rw[q] at e
  have a:es.toList.any (·.refKey)=false:=by rw[List.any_eq_false];intro y hy;obtain⟨z,t,hkey⟩:=hk y (Array.mem_toList_iff.mp hy);simp[DictEntry.refKey,hkey]
  have a':¬ es.toList.any (·.refKey)=true:=by rw[a];exact Bool.false_ne_true
  rw[if_neg a'];exact congrArg some e
theorem ObjM.look{h:Heap}{x dx C:Addr}{mA:PR}(I:ObjM h x dx C mA):∃od,PySem.W.InstAt h x (PySem.W.instObj C dx) C (some od)/\∀name,PySem.W.lookIn name od=some (mA name):=
 let ⟨od,ho,hl⟩:=qdz I.ns
 ⟨od,⟨I.obj,rfl,rfl,ho⟩,hl⟩
section
variable{prog:Program}{w:World}{A:Around}{E:PQ}{s:Shared}{K:Frag}{x dx C f:Addr}{mA:PR}{name:Str}{v:Value}
theorem qhO{expr:Bool}{Q:PQ}(X:K.In s.heap)(I:ObjM s.heap x dx C mA)(hg:PySem.W.plainGet K C name=true)(hh:PySem.W.hasDictIn K C=true)
  (ha:PySem.W.findIn K (.ref C) name=some none) (hv:mA name=some v) (hv':PySem.W.handedIn v=true) (h:Q v { s with toks:=s.toks+1 }) :
  wpAny (model prog w) A (getAttr (.ref x) name expr) Q E s:=by
 obtain⟨od,J,hl⟩:=I.look;exact PySem.W.get_value X J (PySem.W.plainGet_of hg).1 (PySem.W.findObj_own hh ha rfl (by rw[hl,hv])) hv' h
theorem qfs{pl:Sem Bool}{Q:Value×List Value->Shared->Prop}(X:K.In s.heap)(I:ObjM s.heap x dx C mA)(hg:PySem.W.plainGet K C name=true)
  (hf:PySem.W.findIn K (.ref C) name=some (some (.ref f))) (ht:PySem.W.isFn K (.ref f)=true) (hv:mA name=none) (h:Q (.ref f,[.ref x]) s) :
  wpAny (model prog w) A (getMethod (.ref x) name pl) Q E s:=by
 obtain⟨od,J,hl⟩:=I.look;exact PySem.W.method_fn X J (PySem.W.plainGet_of hg).1 (PySem.W.plainGet_of hg).2 hf (beq_iff_eq.mp ht) (by show(PySem.W.lookIn name od).map (·.isSome)=some false;rw[hl,hv];rfl) h
theorem qhP{ns:List Str}{Q:Unit->Shared->Prop}(X:K.In s.heap)(I:ObjM s.heap x dx C mA)
  (hs:PySem.W.findIn K (.ref C) "__setattr__" = some (some (.builtin "object.__setattr__"))) (hp:PySem.W.plainOver K C=true) (ht:PySem.W.takerIn K C name=some none) (hh:PySem.W.hasDictIn K C=true)
  (hw:PySem.Within mA ns) (hsz:ns.length<=sizeLine)
  (h:∀h',ObjM h' x dx C (λy=>if y=name then some v else mA y)->Heap.SameBut dx s.heap h'->Q () { s with heap:=h',toks:=s.toks+2 }) :
  wpAny (model prog w) A (setAttr (.ref x) name v) Q E s:=by
 obtain⟨od,J,hl⟩:=I.look;refine PySem.W.set_plain X J hs (PySem.W.osa_open (s:={ s with toks:=s.toks+1 }) (r:=none) X J hp ht λb=>?_);obtain⟨cd,hc,hd'⟩:=PySem.W.any_some hh;have hx:s.heap.get? x=some ⟨.ref C,some dx,.plain,#[]⟩:=I.obj;refine wpAny_bind (wpAny_pure (wpAny_bind (wpAny_bind (wpAny_loadPart hx (wpAny_bind (PySem.W.Looks.here (s:={ s with toks:=s.toks+1 }) (PySem.W.looks_clsIn X hc) ?_))))));rw[hd'];refine wpAny_pure (a:=some dx) (wpAny_bind (wpAny_pure (wpAny_bind ?_)));refine wpAny_nsSet1 (s:={ s with toks:=s.toks+1 }) I.ns λh' hn2 hs2=>?_;obtain⟨oD,esD,epD,hoD,hdD,hcD⟩:=hn2.count (PySem.Within.cons name v hw);refine wpAny_bind (wpAny_lookBehind hoD (by rw[hdD];exact pastItsLine_dict (Nat.le_trans hcD (by rw[List.length_cons];omega))) ?_);exact wpAny_pure (h _ ⟨(hs2.2 _ (Ne.symm I.ne)).trans I.obj,hn2,I.ne⟩ hs2)
theorem qft{R:Result->Shared->Prop}{vs:List Value}{kw:List (Str×Value)}(X:K.In s.heap)(hm:PySem.W.makesIn K C=true)
  (hi:PySem.W.findIn K (.ref C) "__init__" = some (some (.ref f))) (hf:PySem.W.typeIn K (.ref f)=some (.type "function"))
  (h:codeAny (model prog w) (A.under (.builtin "type.__call__" ⟨.ref C::vs,kw⟩)) (.call (.ref f) ⟨.ref (s.heap.objs.size+1)::vs,kw⟩) (PySem.W.InitBack (s.heap.objs.size+1) R)
   { s with heap:=(s.heap.push PySem.W.emptyDict).push (PySem.W.instObj C s.heap.objs.size) }) :
  codeAny (model prog w) A (.call (.ref C) ⟨vs,kw⟩) R s:=by
 obtain⟨hh,g,d,t,os⟩:=s;exact PySem.W.make_core (PySem.W.makes_of X hm) (PySem.W.looks_findIn X hi) (λself=>PySem.W.bind_fn X self hf) (.inl rfl) h
end
noncomputable def qaZ(f:Str)(v:V):List (Str×V)->List (Str×V)
 |[]=>[(f,v)]
 | (g,x)::r=>if g=f then (g,v)::r else (g,x)::qaZ f v r
theorem Yl(f g:Str)(v:V):∀fs:List (Str×V),(qaZ f v fs).lookup g=if g=f then some v else fs.lookup g
 |[]=>by
  show List.lookup g [(f,v)]=_
  by_cases h:g=f
  ·have hb:(g == f)=true:=beq_iff_eq.mpr h;simp only[List.lookup,hb,if_pos h]
  ·have hb:(g == f)=false:=beq_eq_false_iff_ne.mpr h;simp only[List.lookup,hb,if_neg h]
 | (k,x)::r=>by
  have ih:=Yl f g v r;rw[show qaZ f v ((k,x)::r)=(if k=f then (k,v)::r else (k,x)::qaZ f v r) from rfl]
  by_cases hk:k=f
  ·rw[if_pos hk]
   by_cases h:g=k
   ·have hb:(g == k)=true:=beq_iff_eq.mpr h;simp only[List.lookup,hb,if_pos (h.trans hk)]
   ·have hb:(g == k)=false:=beq_eq_false_iff_ne.mpr h;simp only[List.lookup,hb,if_neg (λe:g=f=>h (e.trans hk.symm))]
  ·rw[if_neg hk]
   by_cases h:g=k
   ·have hb:(g == k)=true:=beq_iff_eq.mpr h;simp only[List.lookup,hb,if_neg (λe:g=f=>hk (h.symm.trans e))]
   ·have hb:(g == k)=false:=beq_eq_false_iff_ne.mpr h;simp only[List.lookup,hb];exact ih
theorem Ym(f:Str)(v:V):∀fs:List (Str×V),f∈(qaZ f v fs).map (·.1)/\∀g,g∈fs.map (·.1)->g∈(qaZ f v fs).map (·.1)
 |[]=>⟨by simp[qaZ],λg h=>by simp at h⟩
 | (k,x)::r=>by
  obtain⟨i1,i2⟩:=Ym f v r;rw[show qaZ f v ((k,x)::r)=(if k=f then (k,v)::r else (k,x)::qaZ f v r) from rfl]
  by_cases hk:k=f
  ·rw[if_pos hk];subst hk;exact⟨by simp,λg h=>by simpa using h⟩
  ·rw[if_neg hk];refine⟨?_,λg h=>?_⟩
   ·rw[List.map_cons];exact List.mem_cons_of_mem _ i1
   ·rw[List.map_cons] at h ⊢;rcases List.mem_cons.mp h with e | e
    ·exact List.mem_cons.mpr (.inl e)
    ·exact List.mem_cons_of_mem _ (i2 g e)
theorem Yn(f:Str)(v:V):∀fs:List (Str×V),(qaZ f v fs).length<=fs.length+1
 |[]=>by simp[qaZ]
 | (k,x)::r=>by
  have ih:=Yn f v r;rw[show qaZ f v ((k,x)::r)=(if k=f then (k,v)::r else (k,x)::qaZ f v r) from rfl]
  by_cases hk:k=f
  ·rw[if_pos hk,List.length_cons,List.length_cons];omega
  ·rw[if_neg hk,List.length_cons,List.length_cons];omega
theorem qbE.some_of{v:V}{o:Option Value}(r:qbE (some v) o):∃u,o=some u/\qM v u:=by
 cases o with
 |none=>exact(show False from r).elim
 |some u=>exact⟨u,rfl,r⟩
theorem qbE.none_of{o:Option Value}(r:qbE none o):o=none:=by
 cases o with
 |none=>rfl
 |some u=>exact(show False from r).elim
theorem qdA{v:V}{u:Value}(r:qM v u):PySem.W.handedIn u=true:=by
 cases v with
 |non=>cases (show u=Value.none from r);rfl
 |bl b=>cases (show u=Value.bool b from r);rfl
 |int i=>obtain⟨t,e⟩:=(show∃t,u=Value.int i t from r);cases e;rfl
 |str x=>obtain⟨t,e⟩:=(show∃t,u=Value.str x t from r);cases e;rfl
 |byt b=>obtain⟨t,e⟩:=(show∃t,u=Value.bytes b t from r);cases e;rfl
 |flt b=>obtain⟨t,e⟩:=(show∃t,u=Value.float b t from r);cases e;rfl
 |ref a=>cases (show u=Value.ref a from r);rfl
 |ty n=>cases (show u=Value.type n from r);rfl
section
variable{P:Program}{w:World}{H H':Hp}{h h':Heap}{a C dx:Addr}{fs fs':List (Str×V)}
theorem QW(hok:HOk P w H h)(e:H a=some (.ins C dx fs)):∃mA,ObjM h a dx C mA/\(∀f,qbE (fs.lookup f) (mA f))/\PySem.Within mA (fs.map (·.1))/\fs.length<=1000/\H dx=some (.own a):=by obtain⟨d,z,ne,ob,mA,n,r,q⟩:=(show qU P w H h a (.ins C dx fs) from hok a _ e);exact⟨mA,⟨ob,n,ne⟩,r,q,z,d⟩
end
structure Cls(K:Frag)(C:Addr):Prop where
 pg:PySem.W.plainGet K C Str.empty=true
 hd:PySem.W.hasDictIn K C=true
 po:PySem.W.plainOver K C=true
 sa:PySem.W.findIn K (.ref C) "__setattr__" = some (some (.builtin "object.__setattr__"))
theorem Cls.get{K:Frag}{C:Addr}(c:Cls K C)(f:Str):PySem.W.plainGet K C f=true:=c.pg
def zz(K:Frag)(C:Addr)(f:Str):Prop:=PySem.W.findIn K (.ref C) f=some none
theorem zz.taker{K:Frag}{C:Addr}{f:Str}(n:zz K C f):PySem.W.takerIn K C f=some none:=by unfold PySem.W.takerIn;rw[show PySem.W.findIn K (.ref C) f=some none from n];rfl
structure Meth(K:Frag)(C:Addr)(m:Str)(f:Addr):Prop where
 at_:PySem.W.findIn K (.ref C) m=some (some (.ref f))
 fn:PySem.W.isFn K (.ref f)=true
 kp:PySem.W.keepIn K (.ref f)=true
section
variable{X:Cx}{pins:PP}{σ:St}{H:Hp}{s:Shared}{a C dx:Addr}{fs:List (Str×V)}{f:Str}{v:V}{A:Around}{E:PQ}
theorem qcH{b:Bool}{Q:PQ}(I:Inv X pins σ H s)(e:H a=some (.ins C dx fs))(c:Cls X.K C)(n:zz X.K C f)(l:fs.lookup f=some v)
  (h:∀u s',Inv X pins σ H s'->qM v u->Q u s'):wpAny (model X.prog X.w) A (getAttr (.ref a) f b) Q E s:=by
 obtain⟨mA,O,r,_,_,_⟩:=QW I.hok e;obtain⟨u,hu,ru⟩:=qbE.some_of (v:=v) (o:=mA f) (by rw[<-l];exact r f);exact qhO I.kIn O (c.get f) c.hd n hu (qdA ru) (h u _ (I.tok _) ru)
theorem Qp{m:Str}{g:Addr}{pl:Sem Bool}{Q:Value×List Value->Shared->Prop}(I:Inv X pins σ H s)(e:H a=some (.ins C dx fs))(c:Cls X.K C)(k:Meth X.K C m g)(l:fs.lookup m=none)
  (h:Q (.ref g,[.ref a]) s):wpAny (model X.prog X.w) A (getMethod (.ref a) m pl) Q E s:=by
 obtain⟨mA,O,r,_,_,_⟩:=QW I.hok e;have hn:mA m=none:=qbE.none_of (by rw[<-l];exact r m);exact qfs I.kIn O (c.get m) k.at_ k.fn hn h
theorem qcI{y:V}{u:Value}{Q:Unit->Shared->Prop}(I:Inv X pins σ H s)(e:H a=some (.ins C dx fs))(c:Cls X.K C)(n:zz X.K C f)(hl:fs.length < 1000)(ry:qM y u)
  (h:∀s',Inv X pins σ (upd H a (.ins C dx (qaZ f y fs))) s'->Q () s'):wpAny (model X.prog X.w) A (setAttr (.ref a) f u) Q E s:=by
 obtain⟨mA,O,r,wi,_,ho⟩:=QW I.hok e;have hz:(fs.map (·.1)).length<=sizeLine:=by rw[List.length_map,sizeLine_eq];omega
 refine qhP I.kIn O c.sa c.po n.taker c.hd wi hz λh' O' sb=>h _ ?_;have hd:∃o,h'.get? dx=some o:=let ⟨o,_,_,e',_⟩:=O'.ns;⟨o,e'⟩;refine I.write (x:=a) (e:=dx) (by rw[e];exact True.intro) (.inr ho) (λb q hb z=>(sb.2 b hb).trans z) hd ?_;refine⟨by rw[qd O.ne];exact ho,?_,O.ne,O'.obj,_,O'.ns,λg=>?_,λg hg=>?_⟩
 ·have:=Yn f y fs;omega
 ·show qbE ((qaZ f y fs).lookup g) (if g=f then some u else mA g);rw[Yl]
  by_cases q:g=f
  ·rw[if_pos q,if_pos q];exact ry
  ·rw[if_neg q,if_neg q];exact r g
 ·by_cases q:g=f
  ·rw[q];exact(Ym f y fs).1
  ·refine(Ym f y fs).2 g (wi g λz=>hg ?_);show(if g=f then some u else mA g)=none;rw[if_neg q];exact z
theorem Inv.made(I:Inv X pins σ H s):Inv X pins σ (upd (upd H s.heap.objs.size (.own (s.heap.objs.size+1))) (s.heap.objs.size+1) (.ins C s.heap.objs.size []))
  { s with heap:=(s.heap.push PySem.W.emptyDict).push (PySem.W.instObj C s.heap.objs.size) }:=by
 have e1:(s.heap.push PySem.W.emptyDict).get? s.heap.objs.size=some PySem.W.emptyDict:=Heap.get?_push_size s.heap rfl
 have e2:((s.heap.push PySem.W.emptyDict).push (PySem.W.instObj C s.heap.objs.size)).get? (s.heap.objs.size+1)=some (PySem.W.instObj C s.heap.objs.size):=by
  have:=Heap.get?_push_size (s.heap.push PySem.W.emptyDict) (o:=PySem.W.instObj C s.heap.objs.size) rfl
  rwa[Heap.size_push] at this
 have e3:(s.heap.push PySem.W.emptyDict).Ns s.heap.objs.size (λ_=>none):=⟨PySem.W.emptyDict,#[],_,e1,rfl,(λe he=>absurd he (by simp)),λ_=>rfl⟩;have I1:=I.laid (a:=s.heap.objs.size) (o:=.own (s.heap.objs.size+1)) (h':=s.heap.push PySem.W.emptyDict) (t':=s.toks) (λb u q=>Heap.get?_push_of_some _ q) (Nat.le_refl _) ⟨_,e1⟩;refine I1.laid (a:=s.heap.objs.size+1) (o:=.ins C s.heap.objs.size []) (t':=s.toks) (λb u q=>Heap.get?_push_of_some _ q) (Nat.le_of_eq (Heap.size_push _ _)) ?_;have ne:s.heap.objs.size≠s.heap.objs.size+1:=Nat.ne_of_lt (Nat.lt_succ_self _);refine⟨by rw[qd ne,qg],Nat.zero_le _,ne,e2,λ_=>none,(Heap.Ns1.of_empty e3).at λo q=>Heap.get?_push_of_some _ q,λ_=>True.intro,λy hy=>absurd rfl hy⟩
theorem qhQ{prog:Program}{w:World}{env:Env}{e:Expr}{f:Str}{pos:Pos}{s:Shared}{Q:PQ}(hb:attributeBase e f env (eval e env)=eval e env)
  (h:wpAny (model prog w) A (eval e env) (λo s₁=>wpAny (model prog w) A (getAttr o f true) Q E s₁) E s):wpAny (model prog w) A (eval (.Attribute e f pos) env) Q E s:=
 Attribute_any_ h (by rw[arm_eval_Attribute,hb])
end
noncomputable def qok(K:Frag)(ta:TE)(f:Str):TE:=λσ H Q=>ta σ H λx H1=>∃a C dx fs v,x=.ref a/\H1 a=some (.ins C dx fs)/\Cls K C/\zz K C f/\fs.lookup f=some v/\Q v H1
noncomputable def qol(K:Frag)(ta tv:TE)(f:Str):TS:=λD σ H=>tv σ H λy H1=>ta σ H1 λx H2=>∃a C dx fs,x=.ref a/\H2 a=some (.ins C dx fs)/\Cls K C/\zz K C f/\fs.length < 1000/\
 D.nx σ (upd H2 a (.ins C dx (qaZ f y fs)))
section
variable{X:Cx}{o e value:Expr}{f:Str}{pos pos' tpos:Pos}{ta tv:TE}
theorem qj1(he:PE X e ta)(hb:attributeBase e f X.env (eval e X.env)=eval e X.env):PE X (.Attribute e f pos) (qok X.K ta f):=by intro pins s σ H Q I h;refine qhQ hb (thn (he pins s σ H _ I h) λu s1 hq1=>?_);obtain⟨x,H1,I1,rx,a,C,dx,fs,v,ex,ea,c,n,l,q⟩:=hq1;subst ex;obtain rfl:u=Value.ref a:=rx;exact qcH I1 ea c n l λu' s2 I2 ru=>⟨v,H1,I2,ru,q⟩
theorem Qq(ha:PE X o ta)(hv:PE X value tv)(hs:swapsWith value (some (.Attribute o f pos')) pos.line X.env=pure false):PS X (.Assign [.Attribute o f pos'] value pos) (qol X.K ta tv f):=by intro pins s σ H D I h;refine plainObj_wpAny_Assign_Attribute (thn (hv pins s σ H _ I h) λu s1 ⟨y,H1,I1,ry,q⟩=>thn (ha pins s1 σ H1 _ I1 q) λov s2 ⟨x,H2,I2,rx,a,C,dx,fs,ex,ea,c,n,l,q2⟩=>?_) hs;subst ex;obtain rfl:ov=Value.ref a:=rx;exact qcI I2 ea c n l ry λs3 I3=>⟨σ,_,I3,q2⟩
end
section
variable{X:Cx}{pins:PP}{σ:St}{H:Hp}{s:Shared}{A:Around}{E:PQ}{Q:PQ}{c:Value}{b:Bool}
inductive TyOf(K:Frag)(H:Hp):V->Value->Prop where
 | non:TyOf K H .non (.type "NoneType")
 | bl (x:Bool):TyOf K H (.bl x) (.type "bool")
 | int (i:Int):TyOf K H (.int i) (.type "int")
 | str (x:Str):TyOf K H (.str x) (.type "str")
 | flt (x:UInt64):TyOf K H (.flt x) (.type "float")
 | lst {a:Addr} {xs:List V} (e:H a=some (.lst xs)):TyOf K H (.ref a) (.type "list")
 | frz {a:Addr} {o:Obj} {xs:List V} (e:H a=some (.frz o (.lst xs))):TyOf K H (.ref a) (.type "list")
 | tup {a:Addr} {xs:List V} (e:H a=some (.tup xs)):TyOf K H (.ref a) (.type "tuple")
 | dK {a:Addr} {kvs:List (Key×V)} (e:H a=some (.dK kvs)):TyOf K H (.ref a) (.type "dict")
 | dT {a:Addr} {kvs:List (List Key×V)} (e:H a=some (.dT kvs)):TyOf K H (.ref a) (.type "dict")
 | ins {a C dx:Addr} {fs:List (Str×V)} (e:H a=some (.ins C dx fs)) (cl:Cls K C) (ha:PySem.W.findIn K (.ref C) "__class__" = some (some (.builtin "object.__class__")))
   (hn:PySem.W.specialIn K (.builtin "object.__class__") "__get__" = some (some (.builtin "getset_descriptor.__get__"))) (htk:PySem.W.takesIn K (.builtin "object.__class__")=some true)
   (hm:PySem.W.mroIn K C (.type "object")=some true):TyOf K H (.ref a) (.ref C)
theorem Z1{x:V}{u t:Value}(I:Inv X pins σ H s)(rx:qM x u)(ty:TyOf X.K H x t)(e:PySem.W.kitOne X.K t c=some b)(h:∀tk,Q (.bool b) { s with toks:=tk }) :
  wpAny (model X.prog X.w) A (call (.builtin "isinstance") [u,c]) Q E s:=by
 cases ty with
 |non=>cases (show u=Value.none from rx);exact PySem.W.kia_one PySem.W.kitx_none I.kIn True.intro e (λz=>nomatch z) h
 |bl y=>cases (show u=Value.bool y from rx);exact PySem.W.kia_one PySem.W.kitx_bool I.kIn True.intro e (λz=>nomatch z) h
 |int i=>obtain⟨t,q⟩:=(show∃t,u=Value.int i t from rx);cases q;exact PySem.W.kia_one PySem.W.kitx_int I.kIn True.intro e (λz=>nomatch z) h
 |str y=>obtain⟨t,q⟩:=(show∃t,u=Value.str y t from rx);cases q;exact PySem.W.kia_one PySem.W.kitx_str I.kIn True.intro e (λz=>nomatch z) h
 |flt y=>obtain⟨t,q⟩:=(show∃t,u=Value.float y t from rx);cases q;exact PySem.W.kia_one PySem.W.kitx_float I.kIn True.intro e (λz=>nomatch z) h
 |@lst a xs ea=>
  cases (show u=Value.ref a from rx)
  obtain⟨_,_,n,_,h1⟩:=(show qU X.prog X.w H s.heap a (.lst xs) from I.hok a _ ea);exact PySem.W.kia_one PySem.W.kitx_list I.kIn ⟨_,h1,rfl⟩ e (λz=>nomatch z) h
 |@frz a ob xs ea=>
  cases (show u=Value.ref a from rx)
  obtain⟨_,_,_,n,_,h1⟩:=(show qU X.prog X.w H s.heap a (.frz ob (.lst xs)) from I.hok a _ ea);exact PySem.W.kia_one PySem.W.kitx_list I.kIn ⟨_,h1,rfl⟩ e (λz=>nomatch z) h
 |@tup a xs ea=>
  cases (show u=Value.ref a from rx)
  obtain⟨_,_,_,p⟩:=(show qU X.prog X.w H s.heap a (.tup xs) from I.hok a _ ea);obtain⟨o,h1,h2,_⟩:=p;exact PySem.W.kia_one PySem.W.kitx_tuple I.kIn ⟨o,h1,h2⟩ e (λz=>nomatch z) h
 |@dK a kvs ea=>
  cases (show u=Value.ref a from rx)
  obtain⟨_,_,vs,_,p⟩:=(show qU X.prog X.w H s.heap a (.dK kvs) from I.hok a _ ea);obtain⟨o,es,ep,h1,h2,_⟩:=p;exact PySem.W.kia_one PySem.W.kitx_dict I.kIn ⟨o,h1,h2.1⟩ e (λz=>nomatch z) h
 |@dT a kvs ea=>
  cases (show u=Value.ref a from rx)
  obtain⟨_,_,xs,_,o,es,ep,h1,h2,_⟩:=(show qU X.prog X.w H s.heap a (.dT kvs) from I.hok a _ ea);exact PySem.W.kia_one PySem.W.kitx_dict I.kIn ⟨o,h1,h2.1⟩ e (λz=>nomatch z) h
 |@ins a C dx fs ea cl ha hn htk hm=>
  cases (show u=Value.ref a from rx)
  obtain⟨mA,O,_⟩:=QW I.hok ea;obtain⟨od,J,_⟩:=O.look;exact PySem.W.kia_one (PySem.W.kitx_own (cl.get _) cl.hd ha hn htk hm) I.kIn J e (λz=>nomatch z) h
end
end L2
namespace L2
open PySem PySem.Spec PyProof.Rows
structure Room(k:Nat)(A:Around):Prop where
 hd:A.handled=none
 dp:A.depth+3 * k+5 < recursionLimit
 un:A.units+16 * k+200 < cLine
theorem Room.deeper{k:Nat}{A:Around}(r:Room (k+1) A)(env:Env):Room k (A.deeper env):=
 ⟨r.hd,by have:=r.dp;show A.depth+1+3 * k+5 < _;omega,by have:=r.un;show A.units+3+16 * k+200 < _;omega⟩
theorem qcJ{A:Around}{C:Addr}{us:List Value}{kw:List (Str×Value)}:(A.under (.builtin "type.__call__" ⟨.ref C::us,kw⟩)).depth=A.depth+1:=by first | rfl | simp[Around.under,Code.weight,Code.isCreation,Code.isGuard,Code.isCaller,Code.frames,Code.isFrame,guardIds]
theorem qcK{A:Around}{C:Addr}{us:List Value}{kw:List (Str×Value)}:(A.under (.builtin "type.__call__" ⟨.ref C::us,kw⟩)).units=A.units+1:=by first | rfl | simp[Around.under,Code.cUnits,Code.frames,Code.isFrame]
theorem Room.make{k:Nat}{A:Around}(r:Room (k+1) A)(C:Addr)(us:List Value)(kw:List (Str×Value)):Room k (A.under (.builtin "type.__call__" ⟨.ref C::us,kw⟩)):=
 ⟨r.hd,by have:=r.dp;rw[qcJ];omega,by have:=r.un;rw[qcK];omega⟩
theorem Room.depth{k:Nat}{A:Around}(r:Room k A):A.depth < recursionLimit:=by have:=r.dp;omega
def qju:TA:=λ_ H Q=>Q [] H
def qfu(ta:TE)(tr:TA):TA:=λσ H Q=>ta σ H λx H1=>tr σ H1 λxs H2=>Q (x::xs) H2
section
variable{X:Cx}{e:Expr}{es:List Expr}{te:TE}{t:TA}{pos:Pos}
theorem qB:PA X [] qju:=λ_ _ _ _ H Q I h=>Calls.spliced_nil ⟨[],H,I,.nil,h⟩
theorem qh(ha:PE X e te)(hr:PA X es t)(hs:starEach (e::es) X.env=(false,eval e X.env)::starEach es X.env:=by rfl):PA X (e::es) (qfu te t):=by intro pos pins s σ H Q I h;rw[hs];show wpAny _ _ (spliced ((false,eval e X.env)::backTo pos (starEach es X.env))) _ _ s;refine Calls.spliced_cons (thn (ha pins s σ H _ I h) λu s1 hq1=>?_);obtain⟨x,H1,I1,r1,q1⟩:=hq1;exact thn (hr pos pins s1 σ H1 _ I1 q1) λus s2 ⟨xs,H2,I2,r2,q2⟩=>⟨x::xs,H2,I2,.cons r1 r2,q2⟩
noncomputable def qom(t:TA):TE:=λσ H Q=>t σ H λxs H1=>xs.length<=sizeLine/\∀p,H1 p=none->Q (.ref p) (upd H1 p (.tup xs))
noncomputable def qon(t:TA):TE:=λσ H Q=>t σ H λxs H1=>xs.length<=sizeLine/\∀p,H1 p=none->Q (.ref p) (upd H1 p (.lst xs))
theorem qj2{x1}(h:PA X es t):PE X (.Tuple es x1 pos) (qom t):=by intro pins s σ H Q I hq;refine wpAny_Tuple_spliced (thn (h pos pins s σ H _ I hq) λus s1 ⟨xs,H1,I1,r,z,q⟩=>⟨by rw[<-r.length];exact z,?_⟩);have hf:H1 s1.heap.objs.size=none:=I1.hok.fresh (Nat.le_refl _);refine⟨.ref s1.heap.objs.size,upd H1 s1.heap.objs.size (.tup xs),I1.laid (t':=s1.toks) (λb u e=>Heap.get?_push_of_some _ e) (Nat.le_refl _) ?_,rfl,q _ hf⟩;exact⟨z,us,r,⟨_,Heap.get?_push_size _ rfl,rfl,_,rfl⟩⟩
theorem qj3(h:PA X es t):PE X (.List es pos) (qon t):=by intro pins s σ H Q I hq;refine wpAny_List_spliced (thn (h pos pins s σ H _ I hq) λus s1 ⟨xs,H1,I1,r,z,q⟩=>⟨by rw[<-r.length];exact z,?_⟩);have hf:H1 s1.heap.objs.size=none:=I1.hok.fresh (Nat.le_refl _);refine⟨.ref s1.heap.objs.size,upd H1 s1.heap.objs.size (.lst xs),I1.laid (t':=s1.toks) (λb u e=>Heap.get?_push_of_some _ e) (Nat.le_refl _) ?_,rfl,q _ hf⟩;exact⟨z,us,0,r,Heap.get?_push_size _ rfl⟩
end
abbrev Sp:=List V->Hp->VK->XK->Prop
abbrev CXT:=List Env->Hp->Shared->XK->Value->Shared->Prop
structure Env0(P:Program)(w:World)(K:Frag)(mg:PR)(base:Heap)(A:Around)(outer:List Env)(s:Shared)(H:Hp):Prop where
 frames:A.frames=some outer
 mod:Mod K mg base
 bs:∀b o,base.get? b=some o->s.heap.get? b=some o/\H b=none
 bsz:base.objs.size<=s.heap.objs.size
 funs:s.heap.FunFrames base outer
 frf:∀b∈frs outer,H b=none
 hok:HOk P w H s.heap
 bare:AllBare s.gens
noncomputable def CE(outer:List Env)(P:Program)(w:World)(H:Hp)(s:Shared)(Q:VK)(u:Value)(s':Shared):Prop:=
 ∃v H',s'.os=s.os/\AllBare s'.gens/\Un (frs outer) [] H H' s.heap s'.heap/\HOk P w H' s'.heap/\qM v u/\Q v H'
noncomputable def CR(CX:CXT)(outer:List Env)(P:Program)(w:World)(H:Hp)(s:Shared)(Q:VK)(E:XK)(r:Result)(s':Shared):Prop:=
 match r with
 |.ok (.ret u)=>CE outer P w H s Q u s'
 |.ok _=>False
 |.error e=>CX outer H s E e s'
structure FnOk(P:Program)(w:World)(K:Frag)(mg:PR)(base:Heap)(CX:CXT)(k:Nat)(f:Addr)(fd:FuncData)(ps:List Str)(sp:Sp):Prop where
 len:∀vs H Q E,sp vs H Q E->vs.length=ps.length
 run:∀(A:Around) (outer:List Env) (s:Shared) (H:Hp) (args:Args) (us:List Value) (vs:List V) (Q:VK) (E:XK),Room k A->Env0 P w K mg base A outer s H->BindsTo s fd args (ps.zip us)->qA vs us->sp vs H Q E->
  codeAny (model P w) A (.call (.ref f) args) (CR CX outer P w H s Q E) s
theorem Env0.make{P:Program}{w:World}{K:Frag}{mg:PR}{base:Heap}{A:Around}{outer:List Env}{s:Shared}{H:Hp}(e:Env0 P w K mg base A outer s H)(C:Addr)(us:List Value)(kw:List (Str×Value)) :
  Env0 P w K mg base (A.under (.builtin "type.__call__" ⟨.ref C::us,kw⟩)) outer s H:=⟨by first | exact e.frames | (simpa [Around.under,Code.envs,Code.isFrame,pushEnvs] using e.frames),e.mod,e.bs,e.bsz,e.funs,e.frf,e.hok,e.bare⟩
section
variable{X:Cx}{pins:PP}{σ:St}{H:Hp}{s s':Shared}
theorem Inv.env0(I:Inv X pins σ H s):Env0 X.prog X.w X.K X.mg X.base X.A X.stack s H:=
 ⟨I.ok.frames,I.ok.mod,I.bs,Nat.le_trans I.ok.bsz I.sz,I.stack,I.stkFree,I.hok,I.bare⟩
theorem Inv.after{Q:VK}{u:Value}(I:Inv X pins σ H s)(h:CE X.stack X.prog X.w H s Q u s'):EP X pins σ Q u s':=by obtain⟨v,H',os,bare,un,hok,r,q⟩:=h;obtain⟨hh,g,d,t,os'⟩:=s';obtain rfl:os'=s.os:=os;exact⟨v,H',I.call (h':=hh) (g':=g) (d':=d) (t':=t) (ch:=[]) un hok bare (λb z=>absurd z (by simp)),r,q⟩
end
def qdB(sp:Sp)(dvs:List V)(E:XK)(t:TA):TE:=λσ H Q=>t σ H λvs H1=>sp (vs++dvs) H1 Q E
noncomputable def qhR(C:Addr)(m:Str)(sp:Sp)(dvs:List V)(E:XK)(ta:TE)(t:TA):TE:=λσ H Q=>ta σ H λx H1=>∃a dx fs,x=.ref a/\H1 a=some (.ins C dx fs)/\fs.lookup m=none/\
 t σ H1 λvs H2=>sp (x::(vs++dvs)) H2 Q E
noncomputable def qhS(C:Addr)(sp:Sp)(dvs:List V)(E:XK)(t:TA):TE:=λσ H Q=>t σ H λvs H1=>∀x dx,H1 x=none->H1 dx=none->dx≠x->
 sp (.ref x::(vs++dvs)) (upd (upd H1 dx (.own x)) x (.ins C dx [])) (λv H2=>v=.non/\Q (.ref x) H2) E
noncomputable def zn(K:Frag)(fd:FuncData)(ps:List Str)(ds:List Value):Prop:=
 ∀(s:Shared) (us:List Value),K.In s.heap->(us++ds).length=ps.length->BindsTo s fd ⟨us,[]⟩ (ps.zip (us++ds))
theorem zn.all{K:Frag}{fd:FuncData}{ps:List Str}(h:∀us:List Value,us.length=ps.length->bindArgs fd ⟨us,[]⟩=pure (ps.zip us)):zn K fd ps []:=λs us _ hl=>by rw[List.append_nil] at hl ⊢;exact .of_eq (h us hl)
noncomputable def yz(CX:CXT)(X:Cx)(E:XK):Prop:=∀(pins:PP) (σ:St) (H:Hp) (s:Shared) (e:Value) (s':Shared),Inv X pins σ H s->CX X.stack H s E e s'->X.xe e s'
section
variable{X:Cx}{CX:CXT}{k:Nat}{f C:Addr}{fd:FuncData}{ps:List Str}{sp:Sp}{dvs:List V}{ds:List Value}{E:XK}{x m:Str}{p pos apos:Pos}{e o:Expr}{es:List Expr}{ta:TE}{t:TA}
theorem Z2{pins:PP}{σ:St}{H:Hp}{s:Shared}{Q:VK}{us:List Value}{vs:List V}(F:FnOk X.prog X.w X.K X.mg X.base CX k f fd ps sp)(hr:Room k X.A)(hb:zn X.K fd ps ds)(hd:qA dvs ds)(hx:yz CX X E)
  (I:Inv X pins σ H s) (r:qA vs us) (h:sp (vs++dvs) H Q E):wpAny (model X.prog X.w) X.A (call (.ref f) us) (EP X pins σ Q) X.xe s:=by
 have r2:qA (vs++dvs) (us++ds):=r.append hd;have hl:(us++ds).length=ps.length:=by rw[<-r2.length];exact F.len _ _ _ _ h
 refine wpAny_call (codeAny_mono (F.run X.A X.stack s H ⟨us,[]⟩ (us++ds) (vs++dvs) Q E hr I.env0 (hb s us I.kIn hl) r2 h) λr s' hq=>?_)
 cases r with
 |error e=>exact hx pins σ H s e s' I hq
 |ok fl=>
  cases fl with
  |ret u=>exact I.after hq
  |next=>exact False.elim hq
  |brk=>exact False.elim hq
  |cont=>exact False.elim hq
theorem j7(F:FnOk X.prog X.w X.K X.mg X.base CX k f fd ps sp)(hr:Room k X.A)(hg:Gl X x)(hm:X.mg x=some (.ref f))(hk:PySem.W.keepIn X.K (.ref f)=true)(hb:zn X.K fd ps ds)(hd:qA dvs ds)(hx:yz CX X E)
  (ha:PA X (e::es) t) (hdb:(x == ("__debug__" : Str))=false:=by decide) (he:starEach (e::es) X.env=(false,eval e X.env)::starEach es X.env:=by rfl) (hpl:(backTo pos (starEach es X.env)).any (·.1)=false:=by rfl) :
  PE X (.Call (.Name x p) (e::es) [] pos) (qdB sp dvs E t):=by
 intro pins s σ H Q I h;refine wpAny_Call_Name_kw (Jy I hg hm ?_ hdb);refine PySem.W.callWith_K (h₀:=X.base) I.ok.mod.kin hk (thn (ha pos pins s σ H _ I h) λus s1 ⟨vs,H1,I1,r,q⟩=>⟨I1.kIn,?_⟩) he hpl;exact Z2 F hr hb hd hx I1 r q
theorem qbJ(F:FnOk X.prog X.w X.K X.mg X.base CX k f fd ps sp)(hr:Room k X.A)(hg:Gl X x)(hm:X.mg x=some (.ref f))(hk:PySem.W.keepIn X.K (.ref f)=true)(hb:zn X.K fd ps ds)(hd:qA dvs ds)(hx:yz CX X E)
  (hdb:(x == ("__debug__" : Str))=false:=by decide):PE X (.Call (.Name x p) [] [] pos) (qdB sp dvs E qju):=by
 intro pins s σ H Q I h;refine wpAny_Call_Name_kw (Jy I hg hm ?_ hdb);exact PySem.W.callWith_K0 I.kIn hk (Z2 (us:=[]) F hr hb hd hx I .nil h)
theorem qhT{pl:Sem Bool}(he:PE X o ta)(c:Cls X.K C)(hm:Meth X.K C m f)(F:FnOk X.prog X.w X.K X.mg X.base CX k f fd ps sp)(hr:Room k X.A)(hb:zn X.K fd ps ds)(hd:qA dvs ds)(hx:yz CX X E)(ha:PA X (e::es) t)
  (hst:starEach (e::es) X.env=(false,eval e X.env)::starEach es X.env:=by rfl) (hpl:(backTo pos (starEach es X.env)).any (·.1)=false:=by rfl)
  (ht:eval (.Call (.Attribute o m apos) (e::es) [] pos) X.env=(do
   let ov<-eval o X.env
   standAt apos.atName
   let (f,first)<-holding [ov] (getMethod ov m pl)
   callWith pos f first (backTo pos (starEach (e::es) X.env)) (backToKw pos (keywordEach [] X.env))):=by rfl) :
  PE X (.Call (.Attribute o m apos) (e::es) [] pos) (qhR C m sp dvs E ta t):=by
 intro pins s σ H Q I h;refine PySem.W.methodCall_KW (pl:=pl) (thn (he pins s σ H _ I h) λu s1 ⟨x,H1,I1,rx,a,dx,fs,ex,ea,l,q⟩=>?_) ht;subst ex;obtain rfl:u=Value.ref a:=rx;refine Qp I1 ea c hm l ?_;refine PySem.W.callWith_K (first:=[.ref a]) (h₀:=X.base) I.ok.mod.kin hm.kp (thn (ha pos pins s1 σ H1 _ I1 q) λus s2 ⟨vs,H2,I2,r,q2⟩=>⟨I2.kIn,?_⟩) hst hpl;exact Z2 (us:=.ref a::us) (vs:=.ref a::vs) F hr hb hd hx I2 (.cons rfl r) q2
theorem qfv{pl:Sem Bool}(he:PE X o ta)(c:Cls X.K C)(hm:Meth X.K C m f)(F:FnOk X.prog X.w X.K X.mg X.base CX k f fd ps sp)(hr:Room k X.A)(hb:zn X.K fd ps ds)(hd:qA dvs ds)(hx:yz CX X E)
  (ht:eval (.Call (.Attribute o m apos) [] [] pos) X.env=(do
   let ov<-eval o X.env
   standAt apos.atName
   let (f,first)<-holding [ov] (getMethod ov m pl)
   callWith pos f first (backTo pos (starEach [] X.env)) (backToKw pos (keywordEach [] X.env))):=by rfl) :
  PE X (.Call (.Attribute o m apos) [] [] pos) (qhR C m sp dvs E ta qju):=by
 intro pins s σ H Q I h;refine PySem.W.methodCall_KW (pl:=pl) (thn (he pins s σ H _ I h) λu s1 ⟨x,H1,I1,rx,a,dx,fs,ex,ea,l,q⟩=>?_) ht;subst ex;obtain rfl:u=Value.ref a:=rx;refine Qp I1 ea c hm l ?_;exact PySem.W.callWith_K0 (first:=[.ref a]) I1.kIn hm.kp (Z2 (us:=[.ref a]) (vs:=[.ref a]) F hr hb hd hx I1 %[rfl|0] q)
structure Mk(K:Frag)(C f:Addr):Prop where
 makes:PySem.W.makesIn K C=true
 init:PySem.W.findIn K (.ref C) "__init__" = some (some (.ref f))
 fn:PySem.W.isFn K (.ref f)=true
 kp:PySem.W.keepIn K (.ref C)=true
theorem qbK{pins:PP}{σ:St}{H:Hp}{s:Shared}{Q:VK}{us:List Value}{vs:List V}(M:Mk X.K C f)(F:FnOk X.prog X.w X.K X.mg X.base CX k f fd ps sp)(hr:Room (k+1) X.A)(hb:zn X.K fd ps ds)(hd:qA dvs ds)
  (hx:yz CX X E) (I:Inv X pins σ H s) (r:qA vs us)
  (h:∀x dx,H x=none->H dx=none->dx≠x->sp (.ref x::(vs++dvs)) (upd (upd H dx (.own x)) x (.ins C dx [])) (λv H2=>v=.non/\Q (.ref x) H2) E) :
  wpAny (model X.prog X.w) X.A (call (.ref C) us) (EP X pins σ Q) X.xe s:=by
 have hq:=h (s.heap.objs.size+1) s.heap.objs.size (I.hok.fresh (Nat.le_succ _)) (I.hok.fresh (Nat.le_refl _)) (Nat.ne_of_lt (Nat.lt_succ_self _));have I2:=Inv.made (C:=C) I;have r2:qA (V.ref (s.heap.objs.size+1)::(vs++dvs)) (Value.ref (s.heap.objs.size+1)::(us++ds)):=.cons rfl (r.append hd)
 have hl:(Value.ref (s.heap.objs.size+1)::us++ds).length=ps.length:=by have e:=r2.length;rw[F.len _ _ _ _ hq] at e;exact e.symm
 refine wpAny_call (qft (f:=f) I.kIn M.makes M.init (beq_iff_eq.mp M.fn) (codeAny_mono (F.run _ X.stack _ _ ⟨Value.ref (s.heap.objs.size+1)::us,[]⟩ (Value.ref (s.heap.objs.size+1)::(us++ds)) _ _ E (hr.make C us [])
  (I2.env0.make C us []) (hb _ (Value.ref (s.heap.objs.size+1)::us) I2.kIn hl) r2 hq) λr s' hq'=>?_))
 cases r with
 |error e=>exact hx pins σ _ _ e s' I2 hq'
 |ok fl=>
  cases fl with
  |ret u=>obtain⟨v,H',I3,rv,ev,q3⟩:=I2.after hq';subst ev;exact⟨rv,⟨V.ref (s.heap.objs.size+1),H',I3,rfl,q3⟩⟩
  |next=>exact False.elim hq'
  |brk=>exact False.elim hq'
  |cont=>exact False.elim hq'
theorem qhU(M:Mk X.K C f)(F:FnOk X.prog X.w X.K X.mg X.base CX k f fd ps sp)(hr:Room (k+1) X.A)(hg:Gl X x)(hm:X.mg x=some (.ref C))(hb:zn X.K fd ps ds)(hd:qA dvs ds)(hx:yz CX X E)
  (ha:PA X (e::es) t) (hdb:(x == ("__debug__" : Str))=false:=by decide) (he:starEach (e::es) X.env=(false,eval e X.env)::starEach es X.env:=by rfl) (hpl:(backTo pos (starEach es X.env)).any (·.1)=false:=by rfl) :
  PE X (.Call (.Name x p) (e::es) [] pos) (qhS C sp dvs E t):=by
 intro pins s σ H Q I h;refine wpAny_Call_Name_kw (Jy I hg hm ?_ hdb);refine PySem.W.callWith_K (h₀:=X.base) I.ok.mod.kin M.kp (thn (ha pos pins s σ H _ I h) λus s1 ⟨vs,H1,I1,r,q⟩=>⟨I1.kIn,?_⟩) he hpl;exact qbK M F hr hb hd hx I1 r q
theorem qfw(M:Mk X.K C f)(F:FnOk X.prog X.w X.K X.mg X.base CX k f fd ps sp)(hr:Room (k+1) X.A)(hg:Gl X x)(hm:X.mg x=some (.ref C))(hb:zn X.K fd ps ds)(hd:qA dvs ds)(hx:yz CX X E)
  (hdb:(x == ("__debug__" : Str))=false:=by decide):PE X (.Call (.Name x p) [] [] pos) (qhS C sp dvs E qju):=by
 intro pins s σ H Q I h;refine wpAny_Call_Name_kw (Jy I hg hm ?_ hdb);exact PySem.W.callWith_K0 I.kIn M.kp (qbK (us:=[]) M F hr hb hd hx I .nil h)
end
structure FnScope(N P:List Str)(sc:Scope):Prop where
 kind:sc.kind=.function
 co:sc.isCoroutine=false
 gen:sc.isGenerator=false
 nd:N.Nodup
 pre:N.take P.length=P
 par:∀x∈P,sc.names.lookup x=some .local\/sc.names.lookup x=some .cell
 nofree:∀y∈sc.names,y.2≠.free
theorem Z3{kindOf:Str->Option NameKind}{x:Str}:∀{binds:List (Str×Value)} {m:PR},(∀v,(x,v)∉binds)->bindL kindOf binds m x=m x
 |[],_,_=>rfl
 | (n,v)::r,m,h=>by
  unfold bindL;rw[Z3 λw hw=>h w (List.mem_cons_of_mem _ hw)];split
  ·have:x≠n:=by rintro rfl;exact h v List.mem_cons_self
   simp[this]
  ·rfl
theorem Z4{kindOf:Str->Option NameKind}{x:Str}:∀{binds:List (Str×Value)} {m:PR},(∀v,(x,v)∉binds)->bindC kindOf binds m x=m x
 |[],_,_=>rfl
 | (n,v)::r,m,h=>by
  unfold bindC;rw[Z4 λw hw=>h w (List.mem_cons_of_mem _ hw)];split
  ·rfl
  ·have:x≠n:=by rintro rfl;exact h v List.mem_cons_self
   simp[this]
theorem Z5{kindOf:Str->Option NameKind}{x:Str}{v:Value}:∀{P:List Str} {vs:List Value} {i:Nat} {m:PR},P.Nodup->P[i]?=some x->vs[i]?=some v->kindOf x=some .local->
  bindL kindOf (P.zip vs) m x=some v
 |[],_,_,_,_,h,_,_=>by simp at h
 | _::_,[],_,_,_,_,h,_=>by simp at h
 | p::P,w::vs,0,m,nd,h1,h2,hk=>by simp at h1 h2;subst h1;subst h2;show bindL kindOf ((p,w)::P.zip vs) m p=_;unfold bindL;rw[Z3 λv hv=>(List.nodup_cons.mp nd).1 (List.of_mem_zip hv).1,if_pos hk];simp
 | p::P,w::vs,i+1,m,nd,h1,h2,hk=>by show bindL kindOf ((p,w)::P.zip vs) m x=_;unfold bindL;exact Z5 (i:=i) (List.nodup_cons.mp nd).2 (by simpa using h1) (by simpa using h2) hk
theorem Z6{kindOf:Str->Option NameKind}{x:Str}{v:Value}:∀{P:List Str} {vs:List Value} {i:Nat} {m:PR},P.Nodup->P[i]?=some x->vs[i]?=some v->kindOf x≠some .local->
  bindC kindOf (P.zip vs) m x=some v
 |[],_,_,_,_,h,_,_=>by simp at h
 | _::_,[],_,_,_,_,h,_=>by simp at h
 | p::P,w::vs,0,m,nd,h1,h2,hk=>by simp at h1 h2;subst h1;subst h2;show bindC kindOf ((p,w)::P.zip vs) m p=_;unfold bindC;rw[Z4 λv hv=>(List.nodup_cons.mp nd).1 (List.of_mem_zip hv).1,if_neg hk];simp
 | p::P,w::vs,i+1,m,nd,h1,h2,hk=>by show bindC kindOf ((p,w)::P.zip vs) m x=_;unfold bindC;exact Z6 (i:=i) (List.nodup_cons.mp nd).2 (by simpa using h1) (by simpa using h2) hk
def Yo(N:List Str)(vs:List V):St:=vs.map some++List.replicate (N.length - vs.length) none
noncomputable def qhV(CX:CXT)(P:Program)(w:World)(K:Frag)(mg:PR)(base:Heap)(N:List Str)(qual:Str)(scope:Scope)(f:Addr)(cd:Value)(A:Around)(outer:List Env)(s:Shared)(H:Hp)(E:XK):Cx where
 prog:=P
 w:=w
 K:=K
 mg:=mg
 base:=base
 A:=A.deeper (envOfC qual scope s.heap.objs.size f cd)
 N:=N
 s₀:=s
 Hv:=H
 env:=envOfC qual scope s.heap.objs.size f cd
 outer:=outer
 stack:=envOfC qual scope s.heap.objs.size f cd::outer
 ex:=[]
 calm:=true
 fn:=λ_=>true
 pn:=[]
 xe:=λe s'=>wpAny (model P w) (A.deeper (envOfC qual scope s.heap.objs.size f cd)) (leaving (envOfC qual scope s.heap.objs.size f cd) e) (λ_ s''=>CX outer H s E e s'') (λe' s''=>CX outer H s E e' s'') s'
theorem qbL{sc:Scope}{n:Nat}{x:Str}(h:sc.names.lookup x=some .cell):∃c,(cellsFrom n sc.names []).lookup x=some c:=by have q:=PySem.W.cellsFrom_some sc.names n [] (.inl h);exact Option.isSome_iff_exists.mp q
theorem qdC{CX:CXT}{P:Program}{w:World}{K:Frag}{mg:PR}{base:Heap}{N ps:List Str}{qual:Str}{scope:Scope}{f:Addr}{cd:Value}{A:Around}{outer:List Env}{s s1:Shared}{H:Hp}{E:XK}{us:List Value}{vs:List V}
  (S:FnScope N ps scope) (hd:A.handled=none) (e0:Env0 P w K mg base A outer s H) (hl:vs.length=ps.length) (r:qA vs us)
  (x:InCallC s s.heap.objs.size (bindL (envOfC qual scope s.heap.objs.size f cd).kindOf (ps.zip us) λ_=>none) (cellsFrom (s.heap.objs.size+1) scope.names []) (bindC (envOfC qual scope s.heap.objs.size f cd).kindOf (ps.zip us) λ_=>none) s1) :
  Inv (qhV CX P w K mg base N qual scope f cd A outer s H E) [] (Yo N vs) H s1:=by
 have hpl:ps.length<=N.length:=by have:=congrArg List.length S.pre;rw[List.length_take] at this;omega
 obtain⟨h1,tk,rfl,hk⟩:=x.done;have noA:∀b:Addr,b∉(qhV CX P w K mg base N qual scope f cd A outer s H E).ex:=λb z=>absurd (show b∈([]:List Addr) from z) (by simp)
 refine⟨⟨e0.mod,S.kind,rfl,rfl,Nat.le_refl _,λy z c h1 h2=>?_,λy hy=>?_,λy c _ h=>?_,λ_=>hd,Around.frames_deeper e0.frames,.inr ⟨rfl,rfl⟩,λb z=>absurd z (noA b),e0.bs,e0.bsz,λb _ _=>noA b,λb z=>absurd z (noA b),e0.funs,e0.frf⟩,
  rfl,e0.bare,Un.kept hk,⟨_,x.toInCall.ns,λi y v h1 h2 h3=>?_⟩,λy c h=>⟨_,x.cell y c h⟩,e0.hok.fresh (Nat.le_refl _),λy c h=>?_,λp hp=>absurd (show p∈([]:PP) from hp) (by simp),e0.hok.kept hk,?_⟩
 ·exact name_of_addr x.apart (PySem.mem_of_lookup h1) (PySem.mem_of_lookup h2)
 ·have hy:scope.names.lookup y=some .cell\/scope.names.lookup y=some .free:=hy;rcases hy with hy | hy
  ·exact qbL hy
  ·exact absurd rfl (S.nofree _ (PySem.mem_of_lookup hy))
 ·exact Nat.le_of_lt (x.above y c (PySem.mem_of_lookup h))
 ·have hi:i < vs.length:=by
   unfold Yo at h2
   by_cases hi:i < vs.length
   ·exact hi
   ·rw[List.getElem?_append_right (by simpa using hi)] at h2;rw[List.getElem?_replicate] at h2
    split at h2<;>cases h2
  have ha:vs[i]?=some v:=by
   unfold Yo at h2;rw[List.getElem?_append_left (by simpa using hi),List.getElem?_map] at h2
   cases e:vs[i]? with
   |none=>rw[e] at h2;cases h2
   |some a=>rw[e] at h2;cases h2;rfl
  obtain⟨u,hu,rv⟩:=r.get ha
  have hp:ps[i]?=some y:=by rw[<-S.pre,List.getElem?_take_of_lt (1:)];exact h1
  have ndP:ps.Nodup:=by rw[<-S.pre];exact S.nd.sublist (List.take_sublist _ _)
  refine⟨u,rv,?_⟩;rcases S.par y (List.mem_of_getElem? hp) with k | k
  ·exact .inl ⟨k,Z5 ndP hp hu k⟩
  ·obtain⟨c,e⟩:=qbL (n:=s.heap.objs.size+1) k;refine .inr ⟨.inl k,c,e,?_⟩;have q:=x.cell y c e;rw[Z6 ndP hp hu (by show scope.names.lookup y≠_;rw[k];decide)] at q;exact q
 ·exact e0.hok.fresh (Nat.le_of_lt (x.above y c (PySem.mem_of_lookup h)))
 ·unfold Yo;show _=N.length;rw[List.length_append,List.length_map,List.length_replicate];omega
theorem qmX{CX:CXT}{P:Program}{w:World}{K:Frag}{mg:PR}{base:Heap}{k:Nat}{f:Addr}{name qual:Str}{params:Arguments}{body:List Stmt}{scope:Scope}{dV kV doc pm cdv ct oc:Value}{an od:Option Addr}
  {osl:Array (Option Value)} {N ps:List Str} {sp:Sp} (lk:K.lookup f=some ⟨oc,od,.func (PySem.W.fnOf name qual params body scope dV kV doc pm an cdv ct),osl⟩) (hcd:PySem.W.codeIn K cdv qual=true) (S:FnScope N ps scope)
  (len:∀vs H Q E,sp vs H Q E->vs.length=ps.length)
  (hbody:∀(A:Around) (outer:List Env) (s:Shared) (H:Hp) (vs:List V) (Q:VK) (E:XK),Room k (A.deeper (envOfC qual scope s.heap.objs.size f cdv))->sp vs H Q E->
   ∃t,PSs (qhV CX P w K mg base N qual scope f cdv A outer s H E) body t/\t { nx:=λ_ H'=>Q .non H',rt:=Q } (Yo N vs) H) :
  FnOk P w K mg base CX (k+1) f (PySem.W.fnOf name qual params body scope dV kV doc pm an cdv ct) ps sp:=by
 refine⟨len,λA outer s H args us vs Q E hr e0 hb r hsp=>?_⟩;have hl:=len _ _ _ _ hsp;have KX:K.In s.heap:=e0.mod.kin.keeps λb o e=>(e0.bs b o e).1;have lim:s.heap.NoLimit:=e0.mod.nolimit.keeps λb o e=>(e0.bs b o e).1
 have hkind:∀y∈ps.zip us,scope.names.lookup y.1=some .local\/(scope.names.lookup y.1=some .cell/\((cellsFrom (s.heap.objs.size+1) scope.names []).lookup y.1).isSome=true):=λ⟨n,v⟩ hy=>by
  rcases S.par n (List.of_mem_zip hy).1 with q | q
  ·exact .inl q
  ·exact .inr ⟨q,PySem.W.cellsFrom_some _ _ _ (.inl q)⟩
 refine codeAny_call_function hr.depth (KX _ _ lk) rfl S.co S.gen rfl (PySem.W.codeRec_of KX hcd) (hb _ _ _ _ ?_);refine wpAny_newFunctionEnv_cells S.kind hkind λenv he s1 x=>?_;subst he;refine⟨lim.keeps x.toInCall.keep,codeAny_func ?_⟩;obtain⟨t,ht,hq⟩:=hbody A outer s H vs Q E (hr.deeper _) hsp;have I:Inv (qhV CX P w K mg base N qual scope f cdv A outer s H E) [] (Yo N vs) H s1:=qdC S hr.hd e0 hl r x;refine wpAny_mono (ht [] s1 (Yo N vs) H _ I hq) (λfl s' hs=>?_) λe s' hs=>hs
 have fin:∀{σ':St} {H':Hp} {v:V} {u:Value},Inv (qhV CX P w K mg base N qual scope f cdv A outer s H E) [] σ' H' s'->qM v u->Q v H'->CE outer P w H s Q u s':=
  λ{σ' H' v u} J rv q=>⟨v,H',J.os,J.bare,J.base,J.hok,rv,q⟩
 cases fl with
 |ret u=>obtain⟨v,σ',H',J,rv,q⟩:=hs;exact fin J rv q
 |next=>obtain⟨σ',H',J,q⟩:=hs;exact fin (v:=V.non) (u:=Value.none) J rfl q
 |brk=>obtain⟨_,_,_,q⟩:=hs;exact False.elim q
 |cont=>obtain⟨_,_,_,q⟩:=hs;exact False.elim q
end L2
namespace L2
open PySem PySem.Spec PyProof.Rows
section
variable{X:Cx}{x:Str}{p pos:Pos}{e:Expr}{es:List Expr}{t:TA}{id T:String}{r:List V->Hp->VK->Prop}
def tCB(r:List V->Hp->VK->Prop)(t:TA):TE:=λσ H Q=>t σ H λvs H1=>r vs H1 Q
theorem zo(hc:zV X (.builtin id) r)(hg:Gl X x)(hm:X.mg x=none)(hv:bootBuiltins x=some (.builtin id))(ha:PA X (e::es) t)(hn:x≠"__name__":=by decide)(hdb:(x == ("__debug__" : Str))=false:=by decide)
  (he:starEach (e::es) X.env=(false,eval e X.env)::starEach es X.env:=by rfl) (hpl:(backTo pos (starEach es X.env)).any (·.1)=false:=by rfl):PE X (.Call (.Name x p) (e::es) [] pos) (tCB r t):=by
 intro pins s σ H Q I h;refine wpAny_Call_Name_kw (JN I hg hm hv ?_ hn hdb);exact PyProof.Rows.callWith_builtin1 (thn (ha pos pins s σ H _ I h) λus s1 ⟨vs,H1,I1,r1,q1⟩=>hc pins s1 σ H1 vs us Q I1 r1 q1) he hpl
theorem jf(hc:zV X (.type T) r)(hg:Gl X x)(hm:X.mg x=none)(hv:bootBuiltins x=some (.type T))(ha:PA X (e::es) t)(hn:x≠"__name__":=by decide)(hdb:(x == ("__debug__" : Str))=false:=by decide)
  (he:starEach (e::es) X.env=(false,eval e X.env)::starEach es X.env:=by rfl) (hpl:(backTo pos (starEach es X.env)).any (·.1)=false:=by rfl):PE X (.Call (.Name x p) (e::es) [] pos) (tCB r t):=by
 intro pins s σ H Q I h;refine wpAny_Call_Name_kw (JN I hg hm hv ?_ hn hdb);exact PyProof.Rows.callWith_type1 (thn (ha pos pins s σ H _ I h) λus s1 ⟨vs,H1,I1,r1,q1⟩=>hc pins s1 σ H1 vs us Q I1 r1 q1) he hpl
end
end L2
namespace HT
open PySem PyProof.Rows
section
variable{prog:Program}{w:World}{A:Around}{E:PQ}{s:Shared}
noncomputable def sIx(n d:Nat):Option Int->Nat
 |none=>d
 |some v=>if v < 0 then (v+(n:Int)).toNat else min v.toNat n
theorem qbM(n d:Nat):sIx n d none=d:=rfl
theorem QX(n d k:Nat):sIx n d (some (k:Int))=min k n:=by show(if (k:Int) < 0 then ((k:Int)+(n:Int)).toNat else min (k:Int).toNat n)=min k n;rw[if_neg (1:),Int.toNat_natCast]
end
end HT
namespace L2
open PySem PySem.Spec PyProof.Rows
abbrev TO:=St->Hp->(Option Int->Hp->Prop)->Prop
noncomputable def PO(X:Cx)(e:Option Expr)(t:TO):Prop:=
 ∀(pins:PP) (s:Shared) (σ:St) (H:Hp) (Q:Option Int->Hp->Prop),Inv X pins σ H s->t σ H Q->
  wpAny (model X.prog X.w) X.A (evalPart e X.env) (λu s'=>∃o H',Inv X pins σ H' s'/\IsPart u o/\Q o H') X.xe s
def qhW:TO:=λ_ H Q=>Q none H
def qmY(t:TE):TO:=λσ H Q=>t σ H λx H1=>∃i,x=.int i/\Q (some i) H1
section
variable{X:Cx}{e:Expr}{te:TE}{lo hi:Option Expr}{tl th:TO}{pos p2:Pos}
theorem qa6:PO X none qhW:=by intro pins s σ H Q I h;rw[evalPart_none];exact wpAny_pure ⟨none,H,I,.none,h⟩
theorem qhX(h:PE X e te):PO X (some e) (qmY te):=by intro pins s σ H Q I hw;rw[evalPart_some];refine thn (h pins s σ H _ I hw) λu s1 hq1=>?_;obtain⟨x,H1,I1,r1,q1⟩:=hq1;obtain⟨i,rfl,q⟩:=q1;obtain⟨t,rfl⟩:=r1;exact⟨some i,H1,I1,.int i t,q⟩
noncomputable def SlR(X:Cx)(r:V->Option Int->Option Int->Hp->VK->Prop):Prop:=
 ∀(pins:PP) (s:Shared) (σ:St) (H:Hp) (x:V) (v vl vu:Value) (lo hi:Option Int) (sl:Addr) (Q:VK),Inv X pins σ H s->qM x v->s.heap.IsSliceOf sl vl vu .none->IsPart vl lo->IsPart vu hi->r x lo hi H Q->
  ∃T id,typeLookup (.type T) "__getitem__" = pure (some (.builtin id))/\s.TypeIs v T/\wpAny (model X.prog X.w) X.A (getItem v (.ref sl)) (EP X pins σ Q) X.xe s
noncomputable def tSl(r:V->Option Int->Option Int->Hp->VK->Prop)(te:TE)(tl th:TO):TE:=λσ H Q=>te σ H λx H1=>tl σ H1 λl H2=>th σ H2 λu H3=>r x l u H3 Q
theorem qfx{r:V->Option Int->Option Int->Hp->VK->Prop}(hr:SlR X r)(he:PE X e te)(hl:PO X lo tl)(hu:PO X hi th):PE X (.Subscript e (.Slice lo hi none p2) pos) (tSl r te tl th):=by intro pins s σ H Q I h;refine Subscript_ (thn (he pins s σ H _ I h) λv s1 hq1=>?_);obtain⟨x,H1,I1,r1,q1⟩:=hq1;refine wpAny_Slice (thn (hl pins s1 σ H1 _ I1 q1) λvl s2 ⟨l,H2,I2,pl,q2⟩=>thn (hu pins s2 σ H2 _ I2 q2) λvu s3 hq1=>?_);obtain⟨u,H3,I3,pu,q3⟩:=hq1;rw[evalPart_none];refine wpAny_pure ?_;have I4:Inv X pins σ H3 { s3 with heap:=s3.heap.push { cls:=.type "slice",data:=.fields #[vl,vu,.none] } }:=I3.kept (t':=s3.toks) λb ob q=>Heap.get?_push_of_some _ q;obtain⟨T,id,hT,ht,hg⟩:=hr pins { s3 with heap:=s3.heap.push { cls:=.type "slice",data:=.fields #[vl,vu,.none] } } σ H3 x v vl vu l u s3.heap.objs.size Q I4 r1 (Heap.IsSliceOf.new ..) pl pu q3;show wpAny (model X.prog X.w) X.A (subscriptTail e (.Slice lo hi none p2) v (.ref s3.heap.objs.size)) (EP X pins σ Q) X.xe { s3 with heap:=s3.heap.push { cls:=.type "slice",data:=.fields #[vl,vu,.none] } };exact tail_any (ops:=[.ref s3.heap.objs.size,v]) ht hT hg (by with_unfolding_all rfl)
noncomputable def qjv(xs:List V)(lo hi:Option Int):List V:=(xs.drop (HT.sIx xs.length 0 lo)).take (HT.sIx xs.length xs.length hi - HT.sIx xs.length 0 lo)
theorem qa7(xs:List V)(lo hi:Option Int):(qjv xs lo hi).length<=xs.length:=by unfold qjv;rw[List.length_take,List.length_drop];omega
end
end L2
namespace L2
open PySem PySem.Spec PyProof.Rows
noncomputable def ixN(n:Nat)(i:Int):Option Nat:=if 0<=i then (if i < n then some i.toNat else none) else if -(n:Int)<=i then some (i+n).toNat else none
def atI{α:Type}(xs:List α)(i:Int):Option α:=(ixN xs.length i).bind λj=>xs[j]?
theorem qdD{n:Nat}{i:Int}{j:Nat}(h:ixN n i=some j):seqIndex? i n=some j/\j < n/\-(n:Int)<=i/\i < n:=by
 unfold ixN at h
 by_cases h0:0<=i
 ·rw[if_pos h0] at h
  by_cases h1:i < n
  ·rw[if_pos h1] at h;have e:i.toNat=j:=Option.some.inj h;exact⟨by rw[seqIndex_of h0 h1,e],by omega,by omega,h1⟩
  ·rw[if_neg h1] at h;cases h
 ·rw[if_neg h0] at h
  by_cases h1:-(n:Int)<=i
  ·rw[if_pos h1] at h;have e:(i+n).toNat=j:=Option.some.inj h;exact⟨by rw[seqIndex_neg (1:) h1,e],by omega,h1,by omega⟩
  ·rw[if_neg h1] at h;cases h
theorem qa8{α:Type}{xs:List α}{i:Int}{v:α}(h:atI xs i=some v):∃j,seqIndex? i xs.length=some j/\xs[j]?=some v/\j < xs.length/\-(xs.length:Int)<=i/\i < xs.length:=by
 unfold atI at h
 cases e:ixN xs.length i with
 |none=>rw[e] at h;cases h
 |some j=>rw[e] at h;obtain⟨h1,h2,h3,h4⟩:=qdD e;exact⟨j,h1,h,h2,h3,h4⟩
theorem qfy{α:Type}(xs:List α)(v:α):atI (xs++[v]) (-1)=some v:=by
 have hl:(xs++[v]).length=xs.length+1:=by simp
 have e:ixN (xs++[v]).length (-1)=some xs.length:=by
  unfold ixN;rw[hl,if_neg (2:),if_pos (1:)]
  congr 1
  omega
 unfold atI;rw[e];show(xs++[v])[xs.length]?=some v;simp
def qdE(b:Expr):Prop:=∀o i,subscripted b false o i=operate [o,i] (getItem o i)
noncomputable def IxR(X:Cx)(r:R2):Prop:=
 ∀(value slice:Expr) (pins:PP) (s:Shared) (σ:St) (H:Hp) (x y:V) (v u:Value) (Q:VK),Inv X pins σ H s->qM x v->qM y u->r x y H Q->
  subscripted slice false v u=operate [v,u] (getItem v u)->wpAny (model X.prog X.w) X.A (subscriptTail value slice v u) (EP X pins σ Q) X.xe s
noncomputable def MtR(X:Cx)(id:String)(r:V->List V->Hp->VK->Prop):Prop:=
 ∀(pins:PP) (s:Shared) (σ:St) (H:Hp) (x:V) (xs:List V) (v:Value) (us:List Value) (Q:VK),Inv X pins σ H s->qM x v->qA xs us->r x xs H Q->
  wpAny (model X.prog X.w) X.A (call (.builtin id) (v::us)) (EP X pins σ Q) X.xe s
section
variable{X:Cx}{a b:Expr}{ta tb:TE}{pos:Pos}
theorem qmZ{r:R2}(hr:IxR X r)(ha:PE X a ta)(hb:PE X b tb)(hs:qdE b):PE X (.Subscript a b pos) (tOp r ta tb):=by intro pins s σ H Q I h;exact Subscript_ (qmQ ha hb I h λv u s2 x y H2 I2 rx ry q=>hr a b pins s2 σ H2 x y v u Q I2 rx ry q (hs _ _))
noncomputable def qoo(K:Frag):R2:=λx y H Q=>∃p xs i v,x=.ref p/\y=.int i/\SqL K H p xs/\atI xs i=some v/\Q v H
noncomputable def qop(K:Frag):R2:=λx y H Q=>∃p xs i v,x=.ref p/\y=.int i/\SqT K H p xs/\atI xs i=some v/\Q v H
noncomputable def qoq:R2:=λx y H Q=>∃z i c,x=.str z/\y=.int i/\z.length<=sizeLine/\atI z.cps.toList i=some c/\Q (.str ⟨#[c]⟩) H
theorem qhY:IxR X (qoo X.K):=by
 intro value slice pins s σ H x y v u Q I rx ry h hs;obtain⟨p,xs,i,z,rfl,rfl,hq,he,q⟩:=h;cases rx;obtain⟨t,rfl⟩:=ry;obtain⟨its,r,pl,hz⟩:=I.list hq;obtain⟨j,h1,h2,h3,h4,h5⟩:=qa8 he;obtain⟨w,ew,rw'⟩:=r.get h2;have hl:=r.length;have hn:=Yj;have fin:EP X pins σ Q w s:=⟨z,H,I,rw',q⟩
 by_cases h0:0<=i
 ·have hj:i.toNat=j:=by
   rw[seqIndex_of h0 h5] at h1;exact Option.some.inj h1
  exact item_listR pl.isList h0 (1:) (by rw[hj];simpa using ew) fin hs
 ·have hj:(i+(its.toArray.size:Int)).toNat=j:=by
   rw[seqIndex_neg (1:) h4] at h1;rw[List.size_toArray,<-hl];exact Option.some.inj h1
  exact subscriptTail_builtinR (x:=w) pl.isList.typeIs slot_list_getitem.lookup
   (wpAny_getItem_list_neg (Q:=λr s'=>r=w/\EP X pins σ Q r s') pl.isList (1:) (by rw[List.size_toArray]<;>omega) (1:) (by rw[hj];simpa using ew) ⟨rfl,fin⟩) hs
theorem qj4:IxR X (qop X.K):=by
 intro value slice pins s σ H x y v u Q I rx ry h hs;obtain⟨p,xs,i,z,rfl,rfl,hq,he,q⟩:=h;cases rx;obtain⟨t,rfl⟩:=ry;obtain⟨its,r,pl,hz⟩:=I.tuple hq;obtain⟨j,h1,h2,h3,h4,h5⟩:=qa8 he;obtain⟨w,ew,rw'⟩:=r.get h2;have hl:=r.length;have hn:=Yj;have fin:EP X pins σ Q w s:=⟨z,H,I,rw',q⟩
 exact subscriptTail_builtinR (x:=w) pl.typeIs slot_tuple_getitem.lookup
  (getItem_tuple (j:=j) (Q:=λr s'=>r=w/\EP X pins σ Q r s') pl (1:) (1:) (by rw[List.size_toArray,<-hl];exact h1) (by simpa using ew) ⟨rfl,fin⟩) hs
theorem qj5:IxR X qoq:=by
 intro value slice pins s σ H x y v u Q I rx ry h hs;obtain⟨z,i,c,rfl,rfl,hz,he,q⟩:=h;obtain⟨t,rfl⟩:=rx;obtain⟨t',rfl⟩:=ry;obtain⟨j,h1,h2,h3,h4,h5⟩:=qa8 he;have hl:z.cps.toList.length=z.length:=by simp[Str.length]
 rw[hl] at h1 h4 h5;have hn:=Yj
 exact tail_any (typeIs_str s z t) slot_str_getitem.lookup (getItem_str (c:=c) (by have e1:decide (i < -(2 ^ 63:Int))=false:=decide_eq_false (1:);have e2:decide (i≥2 ^ 63)=false:=decide_eq_false (1:);rw[e1,e2,Bool.or_false]) (by rw[h1];simpa using h2) ⟨.str ⟨#[c]⟩,H,I.tok _,⟨_,rfl⟩,q⟩) hs
theorem qcL(its:List Value)(n j:Nat)(u:Value):Obj.mapSeq (·.setIfInBounds j u) { cls:=.type "list",data:=.seq its.toArray n }={ cls:=.type "list",data:=.seq (its.set j u).toArray n }:=by simp[Obj.mapSeq]
theorem Inv.lst{pins:PP}{σ:St}{H:Hp}{s:Shared}{p:Addr}{xs:List V}(I:Inv X pins σ H s)(h:H p=some (.lst xs)) :
  ∃(its:List Value) (n:Nat),qA xs its/\s.heap.get? p=some { cls:=.type "list",data:=.seq its.toArray n }/\xs.length<=sizeLine:=by
 obtain⟨z,its,n,r,e⟩:=I.hok p _ h;exact⟨its,n,r,e,z⟩
theorem Inv.lstUpd{pins:PP}{σ:St}{H:Hp}{s:Shared}{p:Addr}{xs ys:List V}{its its':List Value}{n n':Nat}{f:Obj->Obj}(I:Inv X pins σ H s)(h:H p=some (.lst xs))
  (ho:s.heap.get? p=some { cls:=.type "list",data:=.seq its.toArray n }) (hf:f { cls:=.type "list",data:=.seq its.toArray n }={ cls:=.type "list",data:=.seq its'.toArray n' }) (r:qA ys its') (hz:ys.length<=sizeLine) (t:Nat) :
  Inv X pins σ (upd H p (.lst ys)) { s with heap:=s.heap.update p f,toks:=t }:=by
 have e:(s.heap.update p f).get? p=some { cls:=.type "list",data:=.seq its'.toArray n' }:=by rw[Heap.get?_update_self f ho (by rw[hf]<;>rfl),hf]
 refine I.write (x:=p) (e:=p) (by rw[h];trivial) (.inl rfl) (λb u hb q=>(Heap.get?_update_other _ _ (Ne.symm hb)).trans q) ⟨_,e⟩ ?_;exact⟨hz,its',n',r,e⟩
noncomputable def qm0:V->V->V->Hp->(Hp->Prop)->Prop:=λo i v H Q=>∃p xs k j,o=.ref p/\i=.int k/\H p=some (.lst xs)/\ixN xs.length k=some j/\Q (upd H p (.lst (xs.set j v)))
theorem qfz:qnE X qm0:=by
 intro pins s σ H o i v ov iv u Q I ro ri rv h;obtain⟨p,xs,k,j,rfl,rfl,hp,hj,q⟩:=h;cases ro;obtain⟨t,rfl⟩:=ri;obtain⟨its,n,r,ho,hz⟩:=I.lst hp;obtain⟨h1,h2,h3,h4⟩:=qdD hj;have hl:=r.length;have hn:=Yj
 have I':Inv X pins σ (upd H p (.lst (xs.set j v))) { s with heap:=s.heap.update p (Obj.mapSeq (·.setIfInBounds j u)) }:=
  I.lstUpd hp ho (qcL its n j u) (r.set rv j) (by rw[List.length_set];exact hz) s.toks
 by_cases h0:0<=k
 ·have hk:k.toNat=j:=by
   rw[seqIndex_of h0 h4] at h1;exact Option.some.inj h1
  exact PySem.W.ki_setAt ho h0 (1:) (by rw[List.size_toArray,<-hl];exact h4) (by rw[hk];exact⟨_,I',q⟩)
 ·have hk:(k+(its.toArray.size:Int)).toNat=j:=by
   rw[seqIndex_neg (1:) h3] at h1;rw[List.size_toArray,<-hl];exact Option.some.inj h1
  exact PySem.W.ki_setBack ho (1:) (by rw[List.size_toArray,<-hl];exact h3) (1:) (by rw[hk];exact⟨_,I',q⟩)
theorem Z7(lo hi:Option Int)(n:Nat):(sliceBounds lo hi none n).1=((HT.sIx n 0 lo:Nat):Int)/\(sliceBounds lo hi none n).2.1=((HT.sIx n n hi:Nat):Int)/\(sliceBounds lo hi none n).2.2=1:=by
 refine⟨?_,?_,rfl⟩
 ·cases lo with
  |none=>simp[sliceBounds,HT.sIx]
  |some i=>
   simp only[sliceBounds,HT.sIx,Option.getD_none,show(1:Int) > 0 by decide,if_true]
   by_cases h:i < 0
   ·simp only[h,if_true]<;>omega
   ·simp only[h,if_false]<;>omega
 ·cases hi with
  |none=>simp[sliceBounds,HT.sIx]
  |some i=>
   simp only[sliceBounds,HT.sIx,Option.getD_none,show(1:Int) > 0 by decide,if_true]
   by_cases h:i < 0
   ·simp only[h,if_true]<;>omega
   ·simp only[h,if_false]<;>omega
theorem QY(its:List Value)(lo hi:Option Int):slicePick its.toArray lo hi none=((its.drop (HT.sIx its.length 0 lo)).take (HT.sIx its.length its.length hi - HT.sIx its.length 0 lo)).toArray:=by obtain⟨h1,h2,h3⟩:=Z7 lo hi its.toArray.size;unfold slicePick;rw[h1,h2,h3];simp only[sliceRange_one,pick_run,List.size_toArray]<;>rfl
noncomputable def qor(K:Frag):V->Option Int->Option Int->Hp->VK->Prop:=λx lo hi H Q=>∃a xs,x=.ref a/\SqL K H a xs/\∀p,H p=none->Q (.ref p) (upd H p (.lst (qjv xs lo hi)))
theorem qhZ:SlR X (qor X.K):=by intro pins s σ H x v vl vu lo hi sl Q I rx hs pl pu h;obtain⟨a,xs,rfl,hx,q⟩:=h;cases rx;obtain⟨its,r,ht,hz⟩:=I.list hx;have hlen:=r.length;refine⟨"list",_,slot_list_getitem.lookup,ht.isList.typeIs,?_⟩;refine wpAny_getItem_list_slice ht.isList hs pl pu .none (by simp) ?_ (by rw[List.size_toArray]<;>omega);rw[QY,<-hlen];refine⟨.ref s.heap.objs.size,_,I.laid (t':=s.toks) (o:=.lst (qjv xs lo hi)) (λb ob q=>Heap.get?_push_of_some _ q) (Nat.le_refl _) ?_,rfl,q _ (I.hok.fresh (Nat.le_refl _))⟩;exact⟨Nat.le_trans (qa7 xs lo hi) hz,_,0,(r.drop (HT.sIx xs.length 0 lo)).take (HT.sIx xs.length xs.length hi - HT.sIx xs.length 0 lo),Heap.get?_push_size _ rfl⟩
def Yp:V->Bool
 |.non=>true
 |.bl _=>true
 |.int _=>true
 |.str _=>true
 |_=>false
noncomputable def eqV:V->V->Bool
 |.non,.non=>true
 |.bl a,.bl b=>a == b
 |.bl a,.int b=>(if a then 1 else 0) == b
 |.int a,.bl b=>a == (if b then 1 else 0)
 |.int a,.int b=>a == b
 |.str a,.str b=>a == b
 |_,_=>false
theorem qj6{A:Around}{s:Shared}{y x:V}{u v:Value}(ry:qM y u)(rx:qM x v)(fy:Yp y=true)(fx:Yp x=true):SeqAt.EqAt A s u v (eqV y x):=by
 cases y with
 |non=>
  cases ry
  cases x with
  |non=>cases rx;exact SeqAt.EqAt.same _
  |bl b=>cases rx;exact SeqAt.EqAt.none_bool b
  |int b=>obtain⟨t,rfl⟩:=rx;exact SeqAt.EqAt.none_int b t
  |str b=>obtain⟨t,rfl⟩:=rx;exact SeqAt.EqAt.none_str b t
  |_=>exact absurd (show false=true from fx) Bool.false_ne_true
 |bl a=>
  cases ry
  cases x with
  |non=>cases rx;exact SeqAt.EqAt.bool_none a
  |bl b=>cases rx;exact SeqAt.EqAt.bool_bool a b
  |int b=>obtain⟨t,rfl⟩:=rx;exact SeqAt.EqAt.bool_int a b t
  |str b=>obtain⟨t,rfl⟩:=rx;exact SeqAt.EqAt.bool_str a b t
  |_=>exact absurd (show false=true from fx) Bool.false_ne_true
 |int a=>
  obtain⟨t',rfl⟩:=ry
  cases x with
  |non=>cases rx;exact SeqAt.EqAt.int_none a t'
  |bl b=>cases rx;exact SeqAt.EqAt.int_bool a t' b
  |int b=>obtain⟨t,rfl⟩:=rx;exact SeqAt.EqAt.int_int a t' b t
  |str b=>obtain⟨t,rfl⟩:=rx;exact SeqAt.EqAt.int_str a t' b t
  |_=>exact absurd (show false=true from fx) Bool.false_ne_true
 |str a=>
  obtain⟨t',rfl⟩:=ry
  cases x with
  |non=>cases rx;exact SeqAt.EqAt.str_none a t'
  |bl b=>cases rx;exact SeqAt.EqAt.str_bool a t' b
  |int b=>obtain⟨t,rfl⟩:=rx;exact SeqAt.EqAt.str_int a t' b t
  |str b=>obtain⟨t,rfl⟩:=rx;exact SeqAt.EqAt.str_str a t' b t
  |_=>exact absurd (show false=true from fx) Bool.false_ne_true
 |_=>exact absurd (show false=true from fy) Bool.false_ne_true
noncomputable def eqU(x:V)(u:Value):Bool:=match u with
 |.none=>eqV .non x
 |.bool b=>eqV (.bl b) x
 |.int i _=>eqV (.int i) x
 |.str z _=>eqV (.str z) x
 |_=>false
theorem qgM{x y:V}{u:Value}(r:qM y u)(f:Yp y=true):eqU x u=eqV y x:=by
 cases y with
 |non=>cases r;rfl
 |bl b=>cases r;rfl
 |int i=>obtain⟨t,rfl⟩:=r;rfl
 |str z=>obtain⟨t,rfl⟩:=r;rfl
 |_=>exact absurd (show false=true from f) Bool.false_ne_true
theorem Yq{x:V}:∀{xs:List V} {us:List Value},qA xs us->xs.all Yp=true->us.any (eqU x)=xs.any λy=>eqV y x
 |_,_,.nil,_=>rfl
 | y::xs,u::us,.cons r t,f=>by rw[List.all_cons,Bool.and_eq_true] at f;rw[List.any_cons,List.any_cons,qgM r f.1,Yq t f.2]
theorem yY{A:Around}{s:Shared}{x:V}{v:Value}(rx:qM x v)(fx:Yp x=true):∀{xs:List V} {us:List Value},qA xs us->xs.all Yp=true->∀u∈us,SeqAt.EqAt A s u v (eqU x u)
 |_,_,.nil,_=>λu hu=>by cases hu
 | y::xs,u::us,.cons r t,f=>λu' hu=>by
  rw[List.all_cons,Bool.and_eq_true] at f;rcases List.mem_cons.mp hu with rfl | hu
  ·rw[qgM r f.1];exact qj6 r rx f.1 fx
  ·exact yY rx fx t f.2 u' hu
def inV(x:V)(xs:List V):Bool:=xs.any λy=>eqV y x
noncomputable def rIn(K:Frag)(neg:Bool):R2:=λx y H Q=>∃p xs,y=.ref p/\(SqL K H p xs\/SqT K H p xs)/\Yp x=true/\xs.all Yp=true/\Q (.bl (if neg then !inV x xs else inV x xs)) H
theorem qdF:OpR X (compareOp .In) (rIn X.K false):=by
 intro pins s σ H x y v u Q I rx ry h;obtain⟨p,xs,rfl,hq,fx,fs,q⟩:=h;cases ry;rcases hq with hq | hq
 ·obtain⟨its,r,pl,hz⟩:=I.list hq;refine SeqAt.in_listAt (eqU x) pl.isList (λw hw=>yY rx fx r fs w (by simpa using hw)) ⟨.bl _,H,I,rfl,?_⟩;rw[show its.toArray.any (eqU x)=its.any (eqU x) by simp,Yq r fs];exact q
 ·obtain⟨its,r,pl,hz⟩:=I.tuple hq;refine SeqAt.in_tupleAt (eqU x) pl (λw hw=>yY rx fx r fs w (by simpa using hw)) ⟨.bl _,H,I,rfl,?_⟩;rw[show its.toArray.any (eqU x)=its.any (eqU x) by simp,Yq r fs];exact q
theorem Z8:OpR X (compareOp .NotIn) (rIn X.K true):=by
 intro pins s σ H x y v u Q I rx ry h;obtain⟨p,xs,rfl,hq,fx,fs,q⟩:=h;cases ry;rcases hq with hq | hq
 ·obtain⟨its,r,pl,hz⟩:=I.list hq;refine SeqAt.notIn_listAt (eqU x) pl.isList (λw hw=>yY rx fx r fs w (by simpa using hw)) ⟨.bl _,H,I,rfl,?_⟩;rw[show its.toArray.any (eqU x)=its.any (eqU x) by simp,Yq r fs];exact q
 ·obtain⟨its,r,pl,hz⟩:=I.tuple hq;refine SeqAt.notIn_tupleAt (eqU x) pl (λw hw=>yY rx fx r fs w (by simpa using hw)) ⟨.bl _,H,I,rfl,?_⟩;rw[show its.toArray.any (eqU x)=its.any (eqU x) by simp,Yq r fs];exact q
theorem JO:zV X (.builtin "len") (λxs H Q=>∃p ys,xs=[.ref p]/\(SqL X.K H p ys\/SqT X.K H p ys)/\Q (.int ys.length) H):=by
 intro pins s σ H xs us Q I r h;obtain⟨p,ys,rfl,hq,q⟩:=h;obtain⟨u,rfl,rx⟩:=Yk r;cases rx;have hn:=Yj;rcases hq with hq | hq
 ·obtain⟨its,r',pl,hz⟩:=I.list hq;have hlen:=r'.length;exact Calls.call_len_list pl.isList (by simp only[List.size_toArray]<;>omega) ⟨.int ys.length,H,I.tok _,⟨s.toks+1,by rw[List.size_toArray,hlen]⟩,q⟩
 ·obtain⟨its,r',pl,hz⟩:=I.tuple hq;have hlen:=r'.length;exact len_tuple pl (by simp only[List.size_toArray]<;>omega) ⟨.int ys.length,H,I.tok _,⟨s.toks+1,by rw[List.size_toArray,hlen]⟩,q⟩
theorem Z9:zV X (.builtin "len") (λxs H Q=>∃z,xs=[.str z]/\z.length<=sizeLine/\Q (.int z.length) H):=by intro pins s σ H xs us Q I r h;obtain⟨z,rfl,hz,q⟩:=h;obtain⟨u,rfl,t,rfl⟩:=Yk r;have hn:=Yj;exact len_str (1:) ⟨.int z.length,H,I.tok _,⟨_,rfl⟩,q⟩
theorem j8:zV X (.type "list") (λxs H Q=>∃p ys,xs=[.ref p]/\(SqL X.K H p ys\/SqT X.K H p ys)/\∀l,H l=none->Q (.ref l) (upd H l (.lst ys))):=by
 intro pins s σ H xs us Q I r h;obtain⟨p,ys,rfl,hq,q⟩:=h;obtain⟨u,rfl,rx⟩:=Yk r;cases rx
 have fin:∀(its:List Value),qA ys its->ys.length<=sizeLine->∀(h':Heap) (c':Nat),(∀b o',s.heap.get? b=some o'->h'.get? b=some o')->
   h'.get? s.heap.objs.size=some { cls:=.type "list",dict:=none,data:=.seq its.toArray c',slots:=#[] }->EP X pins σ Q (.ref s.heap.objs.size) { s with heap:=h' }:=λits r' hz h' c' kp e=>
  ⟨.ref s.heap.objs.size,_,I.laid (t':=s.toks) kp (Nat.le_refl _) (show qU X.prog X.w _ h' _ (.lst ys) from⟨hz,its,c',r',e⟩),rfl,q _ (I.hok.fresh (Nat.le_refl _))⟩
 rcases hq with hq | hq
 ·obtain⟨its,r',pl,hz⟩:=I.list hq;have hlen:=r'.length;obtain⟨o,ho,hc,n,hd⟩:=pl.isList;exact call_list_seq p (.inl rfl) ho hc hd (λh' c' kp e=>fin its r' hz h' c' kp e) (by simp only[List.size_toArray]<;>omega)
 ·obtain⟨its,r',pl,hz⟩:=I.tuple hq;have hlen:=r'.length;obtain⟨o,ho,hc,n,hd⟩:=pl;exact call_list_seq p (.inr rfl) ho hc hd (λh' c' kp e=>fin its r' hz h' c' kp e) (by simp only[List.size_toArray]<;>omega)
theorem QZ:zV X (.type "tuple") (λxs H Q=>∃p ys,xs=[.ref p]/\((SqL X.K H p ys/\∀l,H l=none->Q (.ref l) (upd H l (.tup ys)))\/(SqT X.K H p ys/\Q (.ref p) H))):=by
 intro pins s σ H xs us Q I r h;obtain⟨p,ys,rfl,h⟩:=h;obtain⟨u,rfl,rx⟩:=Yk r;cases rx;rcases h with ⟨hq,q⟩ | ⟨hq,q⟩
 ·obtain⟨its,r',pl,hz⟩:=I.list hq;have hlen:=r'.length;refine call_tuple_list pl.isList (λh' kp=>?_) (by simp only[List.size_toArray]<;>omega);have I1:Inv X pins σ H { s with heap:=h' }:=I.kept (t':=s.toks) kp
  have I2:Inv X pins σ (upd H h'.objs.size (.tup ys)) { s with heap:=h'.push { cls:=.type "tuple",data:=.seq its.toArray } }:=
   I1.laid (t':=s.toks) (λb o e=>Heap.get?_push_of_some _ e) (Nat.le_refl _) (show qU X.prog X.w _ _ _ (.tup ys) from⟨hz,its,r',IsTup.new _ _⟩)
  exact⟨.ref h'.objs.size,_,I2,rfl,q _ (I1.hok.fresh (Nat.le_refl _))⟩
 ·obtain⟨its,r',pl,hz⟩:=I.tuple hq;exact call_tuple_same pl ⟨.ref p,H,I,rfl,q⟩
noncomputable def tyV(K:Frag)(T:String)(x:V)(H:Hp):Prop:=match x with
 |.str _=>T = "str"
 |.int _=>T = "int"
 |.ref p=>(T = "list"/\∃xs,SqL K H p xs)\/(T = "tuple"/\∃o,K.lookup p=some o/\o.cls=.type "tuple"/\o.dict=none)\/
   (T = "dict"/\((∃kvs,H p=some (.dK kvs))\/∃kvs,H p=some (.dT kvs)))\/(T = "set"/\∃S n,H p=some (.set S n))
 |_=>False
theorem qj7{pins:PP}{σ:St}{H:Hp}{s:Shared}{T:String}{x:V}{v:Value}(I:Inv X pins σ H s)(r:qM x v)(ty:tyV X.K T x H) :
  s.TypeIs v T/\∀a,v=.ref a->∃ob,s.heap.get? a=some ob/\ob.dict=none:=by
 cases x with
 |str z=>
  obtain⟨t,rfl⟩:=r
  cases (show T = "str" from ty)
  exact⟨typeIs_str s z t,λ_ e=>nomatch e⟩
 |int i=>
  obtain⟨t,rfl⟩:=r
  cases (show T = "int" from ty)
  exact⟨typeIs_int s i t,λ_ e=>nomatch e⟩
 |ref p=>
  cases r;rcases ty with ⟨rfl,xs,hq⟩ | ⟨rfl,o,hk,hc,hd⟩ | ⟨rfl,hk⟩ | ⟨rfl,S,n,hk⟩
  ·obtain⟨its,_,pl,_⟩:=I.list hq;refine⟨pl.isList.typeIs,λa e=>?_⟩;cases e;obtain⟨o,n,e,c,hd,_⟩:=pl;exact⟨o,e,hd⟩
  ·refine⟨⟨o,I.kIn p o hk,hc⟩,λa e=>?_⟩;cases e;exact⟨o,I.kIn _ o hk,hd⟩
  ·have z:∃o,s.heap.get? p=some o/\o.ExactDict:=by
    rcases hk with ⟨kvs,hk⟩ | ⟨kvs,hk⟩
    ·obtain⟨_,_,_,_,o,_,_,e,ex,_⟩:=I.hok p _ hk;exact⟨o,e,ex⟩
    ·obtain⟨_,_,_,_,o,_,_,e,ex,_⟩:=I.hok p _ hk;exact⟨o,e,ex⟩
   obtain⟨o,e,ex⟩:=z;refine⟨⟨o,e,ex.1⟩,λa e2=>?_⟩;cases e2;exact⟨o,e,ex.2.1⟩
  ·obtain⟨o,_,_,_,e,ex,_⟩:=I.hok p _ hk;refine⟨⟨o,e,ex.1⟩,λa e2=>?_⟩;cases e2;exact⟨o,e,ex.2.1⟩
 |_=>exact False.elim ty
noncomputable def tBM(K:Frag)(T:String)(r:V->List V->Hp->VK->Prop)(to:TE)(t:TA):TE:=λσ H Q=>to σ H λx H1=>tyV K T x H1/\t σ H1 λxs H2=>r x xs H2 Q
variable{o e:Expr}{es:List Expr}{to:TE}{t:TA}{name:Str}{apos cpos:Pos}{T id:String}{r:V->List V->Hp->VK->Prop}
theorem qh0(pa:PlainAttrs T)(slot:Slot T name id)(hty:typeOf (.builtin id)=pure (.type "method_descriptor"))(hm:MtR X id r)(ho:PE X o to)(ha:PA X (e::es) t)
  (hbase:attributeBase o name X.env (eval o X.env)=eval o X.env:=by rfl)
  (hfew:((backTo cpos (starEach (e::es) X.env)).all (λx=>!x.1)&&(backToKw cpos (keywordEach [] X.env)).all (λx=>x.1.isSome)
   && decide ((e::es).length+([]:List Keyword).length+(if ([]:List Keyword).isEmpty then 0 else 1) < 30))=true:=by rfl)
  (hline:(apos.endLine == cpos.line)=true:=by rfl) (hs:starEach (e::es) X.env=(false,eval e X.env)::starEach es X.env:=by rfl) (hplain:(backTo cpos (starEach es X.env)).any (·.1)=false:=by rfl) :
  PE X (.Call (.Attribute o name apos) (e::es) [] cpos) (tBM X.K T r to t):=by
 intro pins s σ H Q I h;refine wpAny_Call_method_late hbase hfew hline rfl (thn (ho pins s σ H _ I h) λv s1 hq1=>?_);obtain⟨x,H1,I1,r1,ty,q1⟩:=hq1;obtain⟨h1,h2⟩:=qj7 I1 r1 ty;refine⟨T,id,pa,slot,hty,h1,h2,?_⟩;have hA:=ha cpos pins s1 σ H1 _ I1 q1;rw[hs] at hA ⊢;refine Calls.callWith_builtin (by show(false||(backTo cpos (starEach es X.env)).any (·.1))=false;rw[hplain]<;>rfl) (Calls.evalArgs_plain ?_);exact thn hA λus s2 ⟨vs,H2,I2,r2,q2⟩=>hm pins s2 σ H2 x vs v us Q I2 r1 r2 q2
end
end L2
namespace L2
open PySem PySem.Spec PyProof.Rows
noncomputable def MtM(X:Cx)(id:String)(r:V->List V->Hp->VK->Prop):Prop:=
 ∀(pins:PP) (s:Shared) (σ:St) (H:Hp) (x:V) (xs:List V) (v:Value) (us:List Value) (Q:VK),Inv X pins σ H s->qM x v->qA xs us->r x xs H Q->
  wpAny (model X.prog X.w) X.A (call (.builtin id) (v::us)) (EP X pins σ Q) X.xe s
theorem qA.one:∀{x:V} {us:List Value},qA [x] us->∃u,us=[u]/\qM x u
 |_,_,.cons r .nil=>⟨_,rfl,r⟩
theorem qA.reverse{xs:List V}{us:List Value}(h:qA xs us):qA xs.reverse us.reverse:=by
 induction h with
 |nil=>exact .nil
 |cons r t ih=>rw[List.reverse_cons,List.reverse_cons];exact qA.append ih %[r|0]
section
variable{X:Cx}{pins:PP}{σ:St}{H:Hp}{s:Shared}{l b:Addr}{xs ys zs:List V}
theorem Inv.lset{its its':List Value}{n:Nat}{f:Array Value->Array Value}{t':Nat}(I:Inv X pins σ H s)(hH:H l=some (.lst xs))
  (e:s.heap.get? l=some { cls:=.type "list",data:=.seq its.toArray n }) (hf:f its.toArray=its'.toArray) (hv:qA ys its') (hz:ys.length<=sizeLine) :
  Inv X pins σ (upd H l (.lst ys)) { s with heap:=s.heap.update l (Obj.mapSeq f),toks:=t' }:=by
 have q:=PySem.IsL.update e f;rw[hf] at q;refine I.write (x:=l) (e:=l) (by rw[hH];exact trivial) (.inl rfl) (λb' u hb hu=>(Heap.get?_update_other s.heap (Obj.mapSeq f) (Ne.symm hb)).trans hu) ⟨_,q⟩ ?_;exact⟨hz,its',_,hv,q⟩
theorem Inv.lnew{its:List Value}{t':Nat}(I:Inv X pins σ H s)(hv:qA ys its)(hz:ys.length<=sizeLine) :
  Inv X pins σ (upd H s.heap.objs.size (.lst ys)) { s with heap:=s.heap.push { cls:=.type "list",data:=.seq its.toArray },toks:=t' }:=
 I.laid (λ_ _ q=>Heap.get?_push_of_some _ q) (Nat.le_refl _) ⟨hz,its,0,hv,Heap.get?_push_size _ rfl⟩
theorem Inv.fresh(I:Inv X pins σ H s):H s.heap.objs.size=none:=I.hok.fresh (Nat.le_refl _)
theorem Inv.lstM(I:Inv X pins σ H s)(hH:H l=some (.lst xs)):xs.length<=sizeLine/\∃(its:List Value) (n:Nat),qA xs its/\xs.length=its.length/\s.heap.get? l=some { cls:=.type "list",data:=.seq its.toArray n }:=by obtain⟨z,its,n,r,e⟩:=I.hok l _ hH;exact⟨z,its,n,r,r.length,e⟩
theorem qfA{n:Nat}(h:n<=sizeLine):Builtin.List.listTooLong n=false:=by unfold Builtin.List.listTooLong;exact decide_eq_false (1:)
end
section
variable{X:Cx}
noncomputable def qh1:V->List V->Hp->VK->Prop:=λx vs H Q=>∃l xs y,x=.ref l/\vs=[y]/\H l=some (.lst xs)/\xs.length < sizeLine/\Q .non (upd H l (.lst (xs++[y])))
theorem qdG:MtM X "list.append" qh1:=by intro pins s σ H x vs v us Q I rx rv h;obtain⟨l,xs,y,rfl,rfl,hH,hz,q⟩:=h;cases rx;obtain⟨u,rfl,ru⟩:=rv.one;obtain⟨z,its,n,r,hl,e⟩:=I.lstM hH;refine call_meets F.slot_list_append ⟨_,e,rfl⟩ F.entry_list_append (F.args_list_append_2 _ _) (PySem.list_append l its.toArray n u (by rw[List.size_toArray];omega)) ⟨e,?_⟩;refine⟨.non,_,I.lset (its':=its++[u]) hH e (by simp) (r.append %[ru|0]) ?_,rfl,q⟩;rw[List.length_append,List.length_singleton];omega
noncomputable def qh2:V->List V->Hp->VK->Prop:=λx vs H Q=>∃l b xs zs,x=.ref l/\vs=[.ref b]/\H l=some (.lst xs)/\H b=some (.lst zs)/\xs.length+zs.length<=sizeLine/\Q .non (upd H l (.lst (xs++zs)))
theorem qdH:MtM X "list.extend" qh2:=by
 intro pins s σ H x vs v us Q I rx rv h;obtain⟨l,b,xs,zs,rfl,rfl,hH,hB,hz,q⟩:=h;cases rx;obtain⟨u,rfl,ru⟩:=rv.one;cases ru;obtain⟨z,its,n,r,hl,e⟩:=I.lstM hH;obtain⟨z2,its2,n2,r2,hl2,e2⟩:=I.lstM hB;have hsz:its.toArray.size+its2.toArray.size<=sizeLine:=by rw[List.size_toArray,List.size_toArray];omega
 have hlong:¬ (!its.toArray.isEmpty&&Builtin.List.listTooLong (its.toArray.size+its2.toArray.size))=true:=by rw[qfA hsz,Bool.and_false];exact Bool.false_ne_true
 refine call_meets F.slot_list_extend ⟨_,e,rfl⟩ F.entry_list_extend (F.args_list_extend_2 _ _)
  (AutoSeq1.list_extend_list_list_0 l its.toArray n b its2.toArray n2 hlong (by rw[List.size_toArray];omega) (1:)) ⟨e,e2,?_⟩
 refine⟨.non,_,I.lset (its':=its++its2) hH e (by simp) (r.append r2) ?_,rfl,q⟩;rw[List.length_append];omega
noncomputable def qos:R2:=λx y H Q=>∃l b xs zs,x=.ref l/\y=.ref b/\H l=some (.lst xs)/\H b=some (.lst zs)/\xs.length+zs.length<=sizeLine/\∀p,H p=none->Q (.ref p) (upd H p (.lst (xs++zs)))
theorem qj8:OpR X (binaryOp .Add) qos:=by
 intro pins s σ H x y v u Q I rx ry h;obtain⟨l,b,xs,zs,rfl,rfl,hH,hB,hz,q⟩:=h;cases rx;cases ry;obtain⟨z,its,n,r,hl,e⟩:=I.lstM hH;obtain⟨z2,its2,n2,r2,hl2,e2⟩:=I.lstM hB;refine PySem.P.add_list e e2 ?_ (by rw[List.size_toArray,List.size_toArray];omega);have ea:its.toArray++its2.toArray=(its++its2).toArray:=by simp
 rw[ea];exact⟨.ref _,_,I.lnew (t':=s.toks) (r.append r2) (by rw[List.length_append];omega),rfl,q _ I.fresh⟩
end
end L2
namespace Att
open PySem PySem.W PySem.Calls PyProof.Rows
theorem Yr{P:Params}{h:Heap}:∀(ns:List Int) (vs:List Value),WellAll P h vs (ns.map WData.int)->IntsAre vs ns:=by
 intro ns
 induction ns with
 |nil=>intro vs w;rw[List.map_nil] at w;cases w;exact .nil
 |cons n ns ih=>
  intro vs w;rw[List.map_cons] at w
  cases w with
  |cons a b=>cases a;exact .cons _ _ (ih _ b)
theorem qdI{l:OpenLaw}{n:Nat}(hn:l.most=some n){P:Params}{h:Heap}{args:List WData}{vals:List Value}
  (hpre:l.row.toRowW.claim.pre args=true) (hwl:WellAll P h vals args) :
  ∃a vs ns,vals=[Value.ref a]/\args=[WData.list (ns.map WData.int)]/\h.get? a=some { cls:=.type "list",data:=.seq vs.toArray }/\IntsAre vs ns/\ns.length<=n:=by
 have hsh:WShape.hasAll [] args [.list .int]=true:=(pre_splitW hpre).1;have hc:l.pre.holds [] { args:=args }=true:=(pre_splitW hpre).2;obtain⟨d,r,rfl,h1,h2⟩:=hasAllW_cons hsh;obtain rfl:=hasAllW_nil h2;obtain⟨xs,rfl,h3⟩:=hasW_list h1;obtain⟨ns,rfl⟩:=items_int h3
 have hlen:ns.length<=n:=by
  unfold OpenLaw.pre at hc
  have h4:(WTm.not (.lt (.lit (.int (n:Int))) (.len (.arg 0)))).holds [] { args:=[.list (ns.map .int)] }=true:=by have h4:=(holds_andW hc).1;rw[hn] at h4;exact h4
  have h5:=condW_of h4 (w_not (w_lt w_lit (w_len_list (w_arg rfl))));rw[List.length_map] at h5;refine Nat.le_of_not_lt λq=>?_;have q':(n:Int) < ((ns.length:Nat):Int):=by omega
  first
   | (rw[decide_eq_true q'] at h5;exact absurd h5 (2:))
   | (simp at h5;omega)
 cases hwl with
 |cons w1 w2=>
  cases w2
  cases w1 with
  |list ho hall=>exact⟨_,_,ns,rfl,rfl,ho,Yr ns _ hall,hlen⟩
theorem qdJ(l:OpenLaw)(args:List WData):l.row.toRowW.claim.post args (.bool true) args=true:=
 postW_of (r:=l.row.toRowW) (X:=(true == true))
  (show WShape.has [] (.bool true) .bool=true by first | rfl | decide | simp[WShape.has,WShape.arms,WShape.armsAll])
  (show(WTm.eq .res (.lit (.bool true))).value [] { args:=args,res:=some (.bool true),after:=args }=some (.bool (true == true)) from w_eq_bool (w_res rfl) w_lit) rfl
theorem qa9{l:OpenLaw}{n:Nat}{q:Program}{loose:List Str}{XP:(Str->Option Value)->Heap->Prop}{YP:World->Heap->Prop}{d:DefRec}
  (hn:l.most=some n) (hdf:d.params.defaults=[])
  (call:∀(w:World) (s₀ s₁:Shared) (mg mb:PR) (fa:Addr) (o:Obj) (pm cd doc:Value) (a:Addr) (vs:List Value) (ns:List Int),
   Ground q loose [] XP w s₀ mg mb s₁.heap->YP w s₁.heap->
   s₁.heap.get? fa=some o->o.data=.func (docDef d.name d.params d.body d.scope pm cd doc)->s₁.heap.CodeRec cd d.name->mg d.name=some (.ref fa)->
   s₁.heap.get? a=some { cls:=.type "list",data:=.seq vs.toArray }->IntsAre vs ns->ns.length<=n->s₁.gens=#[]->
   codeAny (model l.prog w) callerA (.call (.ref fa) ⟨[.ref a],[]⟩) (λr s'=>r=.ok (.ret (.bool true))/\OldK s₁.heap s'.heap/\s'.os=s₁.os/\AllBare s'.gens) s₁) :
  WalkO q loose XP YP l.row.toRowW d [] (λf vs=>PySem.call f vs):=by
 intro w s₀ s₁ mg mb G Y fa o pm cd doc dV kV ho hd hcd hD hmg hg args vals as hpre hlay hrd hwl hlo;obtain rfl:dV=.none:=Dflts.none hD hdf;obtain rfl:kV=.none:=Dflts.noKw hD;obtain⟨a,vs,ns,rfl,rfl,hobj,hints,hlen⟩:=qdI hn hpre hwl;refine enter_call (codeAny_mono (call w s₀ s₁ mg mb fa o pm cd doc a vs ns G Y ho (fd_plain hd) hcd hmg hobj hints hlen hg) λr s' hq=>?_);obtain⟨rfl,h2,h3,h4⟩:=hq;exact⟨.inl ⟨.bool true,.bool true,[],rfl,λ_=>rfl,.bool true,qdJ l _,λ_=>⟨List.Pairwise.nil,λ_ hm=>(nomatch hm)⟩⟩,h2,h3,h4⟩
end Att
namespace L2
open PySem PySem.Spec PyProof.Rows
theorem qaa:∀{vs:List Value} {ns:List Int},IntsAre vs ns->qA (ns.map V.int) vs
 |_,_,.nil=>.nil
 |_,_,.cons n t h=>.cons ⟨t,rfl⟩ (qaa h)
def qm1(H:Hp):Prop:=∀b,H b=none\/∃o xs,H b=some (.frz o (.lst xs))
theorem qfB{P:Program}{w:World}{K:Frag}{mg mb:PR}{CX:CXT}{k:Nat}{fa a:Addr}{fd:FuncData}{x:Str}{sp:Sp}{s₁:Shared}{vs:List Value}{ns:List Int}
  (KX:K.In s₁.heap) (hns:s₁.heap.Ns mainGlobals mg) (hb:s₁.heap.Ns builtinsNs mb) (hbb:∀x:Str,x≠"__name__"->mb x=bootBuiltins x) (hlim:s₁.heap.NoLimit) (hg:s₁.gens=#[])
  (ha:s₁.heap.get? a=some { cls:=.type "list",data:=.seq vs.toArray }) (hi:IntsAre vs ns) (hl:ns.length<=sizeLine) (hr:Room k callerA)
  (F:∀base:Heap,K.In base->base.Ns mainGlobals mg->FnOk P w K mg base CX k fa fd [x] sp) (hbind:∀(s:Shared) (u:Value),BindsTo s fd ⟨[u],[]⟩ [(x,u)])
  (hsp:∀H:Hp,qm1 H->SqL K H a (ns.map V.int)->sp [.ref a] H (λv _=>v=.bl true) λ_ _ _=>False)
  (hCX:∀H e s',CX [] H s₁ (λ_ _ _=>False) e s'->False) :
  codeAny (model P w) callerA (.call (.ref fa) ⟨[.ref a],[]⟩) (λr s'=>r=.ok (.ret (.bool true))/\OldK s₁.heap s'.heap/\s'.os=s₁.os/\AllBare s'.gens) s₁:=by
 have rv:=qaa hi;have lenV:=hi.length
 have core:∀H:Hp,qm1 H->SqL K H a (ns.map V.int)->HOk P w H s₁.heap->(∀b,H b≠none->b=a)->(H a≠none->K.lookup a=none)->
   codeAny (model P w) callerA (.call (.ref fa) ⟨[.ref a],[]⟩) (λr s'=>r=.ok (.ret (.bool true))/\OldK s₁.heap s'.heap/\s'.os=s₁.os/\AllBare s'.gens) s₁:=by
  intro H hO hS hok hA hK;have base_of:∀{b:Addr} {o:Obj},s₁.heap.get? b=some o->H b=none->(qfl s₁.heap H).get? b=some o:=λe n=>qfm e n
  have noA:∀{b:Addr} {o:Obj} {es:Array DictEntry} {ep:Nat},s₁.heap.get? b=some o->o.data=.dict es ep->H b=none:=λ{b o es ep} e d=>by
   cases q:H b with
   |none=>rfl
   |some u=>have e':b=a:=hA b (by rw[q];simp);subst e';rw[ha] at e;cases e;have d':Data.seq vs.toArray _=Data.dict es ep:=d;cases d'
  have nsK:∀{b:Addr} {m:PR},s₁.heap.Ns b m->(qfl s₁.heap H).Ns b m:=λ{b m} ⟨o,es,ep,e,d,r⟩=>⟨o,es,ep,base_of e (noA e d),d,r⟩
  have hKb:K.In (qfl s₁.heap H):=λb o e=>base_of (KX b o e) (by
   cases q:H b with
   |none=>rfl
   |some u=>have e':b=a:=hA b (by rw[q];simp);subst e';rw[hK (by rw[q];simp)] at e;cases e)
  have hM:Mod K mg (qfl s₁.heap H):=⟨hKb,nsK hns,⟨mb,nsK hb,hbb⟩,let ⟨mc,h1,h2⟩:=hlim;⟨mc,nsK h1,h2⟩⟩;have e0:Env0 P w K mg (qfl s₁.heap H) callerA [] s₁ H:=⟨rfl,hM,λb o e=>qhE e,Nat.le_of_eq (qdo _ _),trivial,λb hb=>absurd (show b∈([]:List Addr) from hb) (by simp),hok,.of_eq hg⟩;refine codeAny_mono ((F _ hKb (nsK hns)).run callerA [] s₁ H ⟨[.ref a],[]⟩ [.ref a] [.ref a] _ _ hr e0 (hbind s₁ (.ref a)) %[rfl|0] (hsp H hO hS)) λr s' h=>?_
  cases r with
  |error e=>exact(hCX H e s' h).elim
  |ok fl=>
   cases fl with
   |next=>exact False.elim h
   |brk=>exact False.elim h
   |cont=>exact False.elim h
   |ret u=>
    obtain⟨v,H',os,bare,un,hok',r',q⟩:=h;have q':v=.bl true:=q;subst q';obtain rfl:u=Value.bool true:=r';refine⟨rfl,OldK.of_keep λb o e=>?_,os,bare⟩
    cases q:H b with
    |none=>exact un.keep b o e q (by intro z;exact absurd (show b∈([]:List Addr) from z) (by simp)) (by simp)
    |some u=>
     rcases hO b with z | ⟨ob,xs,z⟩
     ·rw[q] at z;cases z
     ·have z2:=un.frzs b ob _ z;obtain⟨e1,_⟩:=hok b _ z;obtain⟨e2,_⟩:=hok' b _ z2;rw[e] at e1;cases e1;exact e2
 cases hk:K.lookup a with
 |some o=>have e:=KX a o hk;rw[ha] at e;cases e;refine core (λ_=>none) (λ_=>.inl rfl) (.inr ⟨_,vs.toArray,_,hk,rfl,rfl,rfl,by rw[List.size_toArray,lenV];exact hl,by simpa using rv⟩) (λb u z=>by have z':(none:Option HO)=some u:=z;cases z') (λb z=>absurd rfl z) λz=>absurd rfl z
 |none=>
  refine core (λb=>if b=a then some (.frz { cls:=.type "list",data:=.seq vs.toArray } (.lst (ns.map V.int))) else none) (λb=>?_) (.inl (.inr ⟨{ cls:=.type "list",data:=.seq vs.toArray },if_pos rfl⟩)) (λb u z=>?_) (λb z=>?_) λ_=>hk
  ·by_cases hb:b=a
   ·exact .inr ⟨_,_,if_pos hb⟩
   ·exact .inl (if_neg hb)
  ·by_cases hb:b=a
   ·have z':=(if_pos hb).symm.trans z;cases z';subst hb;exact⟨ha,by rw[List.length_map];exact hl,vs,_,rv,ha⟩
   ·have z':=(if_neg hb).symm.trans z;cases z'
  ·by_cases hb:b=a
   ·exact hb
   ·exact absurd (if_neg hb) z
end L2
namespace L2
open PySem PySem.Spec PyProof.Rows
theorem qh3{l:PySem.W.OpenLaw}{n k:Nat}{q:Program}{loose:List Str}{XP:(Str->Option Value)->Heap->Prop}{YP:World->Heap->Prop}{d:DefRec}{K:Params->Frag}{CX:World->CXT}{sp:World->Sp}{x:Str}
  (hn:l.most=some n) (hn2:n<=sizeLine) (hdf:d.params.defaults=[]) (hr:Room k callerA)
  (hY:∀(w:World) (h:Heap),YP w h->(K w.params).In h)
  (F:∀(w:World) (mg:PR) (fa:Addr) (h:Heap),(K w.params).In h->h.Ns mainGlobals mg->mg d.name=some (.ref fa)->
   ∃fd:FuncData,(∀(s:Shared) (u:Value),BindsTo s fd ⟨[u],[]⟩ [(x,u)])/\
    ∀base:Heap,(K w.params).In base->base.Ns mainGlobals mg->FnOk l.prog w (K w.params) mg base (CX w) k fa fd [x] (sp w))
  (hsp:∀(w:World) (H:Hp) (a:Addr) (ns:List Int),ns.length<=n->qm1 H->SqL (K w.params) H a (ns.map V.int)->sp w [.ref a] H (λv _=>v=.bl true) λ_ _ _=>False)
  (hCX:∀(w:World) (H:Hp) (s:Shared) (e:Value) (s':Shared),CX w [] H s (λ_ _ _=>False) e s'->False) :
  PySem.W.WalkO q loose XP YP l.row.toRowW d [] (λf vs=>PySem.call f vs):=by
 refine Att.qa9 hn hdf λw s₀ s₁ mg mb fa o pm cd doc a vs ns G Y ho hd hcd hmg hobj hints hlen hg=>?_;have KX:=hY w _ Y;obtain⟨fd,hb,hF⟩:=F w mg fa _ KX G.T.g hmg;exact qfB KX G.T.g G.T.b G.T.builtins G.T.nolimit hg hobj hints (Nat.le_trans hlen hn2) hr hF hb (λH hO hS=>hsp w H a ns hlen hO hS) λH e s'=>hCX w H s₁ e s'
end L2
namespace L2
open PySem PySem.Spec PyProof.Rows
noncomputable def qW(s:Stmt):Arguments:=match s with
 |.FunctionDef _ a _ _ _ _ _ _ _ _=>a
 |_=>{ posonlyargs:=[],args:=[],vararg:=none,kwonlyargs:=[],kw_defaults:=[],kwarg:=none,defaults:=[] }
def qI(s:Stmt):List Stmt:=match s with
 |.FunctionDef _ _ b _ _ _ _ _ _ _=>b
 |_=>[]
noncomputable def qi(s:Stmt):Scope:=match s with
 |.FunctionDef _ _ _ _ _ _ sc _ _ _=>sc
 |_=>{ kind:=.function,names:=[],isGenerator:=false,isCoroutine:=false }
abbrev CX0:CXT:=λ_ _ _ _ _ _=>False
abbrev E0:XK:=λ_ _ _=>False
theorem j9{X:Cx}:yz CX0 X E0:=λ_ _ _ _ _ _ _ h=>h.elim
structure Fun(K:Frag)(x qual:Str)(st:Stmt)(f:Addr)(fd:FuncData):Prop where
 ex:∃(oc:Value) (od:Option Addr) (kV doc pm:Value) (an:Option Addr) (cdv ct:Value) (osl:Array (Option Value)),
  fd=PySem.W.fnOf x qual (qW st) (qI st) (qi st) .none kV doc pm an cdv ct/\K.lookup f=some ⟨oc,od,.func fd,osl⟩/\PySem.W.codeIn K cdv qual=true
 kp:PySem.W.keepIn K (.ref f)=true
section
variable{P:Program}{w:World}{K:Frag}{mg:PR}{base:Heap}
theorem Fun.ok{x qual:Str}{st:Stmt}{f:Addr}{fd:FuncData}{N ps:List Str}{k:Nat}{sp:Sp}(F:Fun K x qual st f fd)(S:FnScope N ps (qi st))(len:∀vs H Q E,sp vs H Q E->vs.length=ps.length)
  (hbody:∀(cdv:Value) (A:Around) (outer:List Env) (s:Shared) (H:Hp) (vs:List V) (Q:VK) (E:XK),Room k (A.deeper (envOfC qual (qi st) s.heap.objs.size f cdv))->sp vs H Q E->
   ∃t,PSs (qhV CX0 P w K mg base N qual (qi st) f cdv A outer s H E).nox (qI st) t/\t { nx:=λ_ H'=>Q .non H',rt:=Q } (Yo N vs) H):FnOk P w K mg base CX0 (k+1) f fd ps sp:=by
 obtain⟨oc,od,kV,doc,pm,an,cdv,ct,osl,rfl,lk,hcd⟩:=F.ex;refine qmX lk hcd S len λA outer s H vs Q E hr hsp=>?_;obtain⟨t,h,q⟩:=hbody cdv A outer s H vs Q E hr hsp;exact⟨t,h.nox,q⟩
theorem Fun.binds{x qual:Str}{st:Stmt}{f:Addr}{fd:FuncData}{ps:List Str}(F:Fun K x qual st f fd)
  (h:∀(kV doc pm:Value) (an:Option Addr) (cdv ct:Value) (us:List Value),us.length=ps.length->bindArgs (PySem.W.fnOf x qual (qW st) (qI st) (qi st) .none kV doc pm an cdv ct) ⟨us,[]⟩=pure (ps.zip us)):zn K fd ps []:=by
 obtain⟨oc,od,kV,doc,pm,an,cdv,ct,osl,rfl,lk,hcd⟩:=F.ex;exact .all (h kV doc pm an cdv ct)
theorem qgN{x qual:Str}{st:Stmt}{f:Addr}{oc:Value}{od an:Option Addr}{osl:Array (Option Value)}{kV doc pm cdv ct:Value}(l:K.lookup f=some ⟨oc,od,.func (PySem.W.fnOf x qual (qW st) (qI st) (qi st) .none kV doc pm an cdv ct),osl⟩)
  (c:PySem.W.codeIn K cdv qual=true) (k:PySem.W.keepIn K (.ref f)=true):Fun K x qual st f (PySem.W.fnOf x qual (qW st) (qI st) (qi st) .none kV doc pm an cdv ct):=⟨⟨oc,od,kV,doc,pm,an,cdv,ct,osl,rfl,l,c⟩,k⟩
end
theorem qab{n:Nat}(h:n<=1000):n < sizeLine:=Nat.lt_of_le_of_lt h (2:)
section
variable{X:Cx}
theorem pv(i:Nat){x:Str}{pos:Pos}(hN:X.N[i]?=some x:=by rfl)(hv:Vis X.env.scope x:=by first | exact Or.inl rfl | exact Or.inr (Or.inl rfl) | exact Or.inr (Or.inr rfl))(hd:(x == ("__debug__" : Str))=false:=by decide)
  (hcd:(x == ("__classdict__" : Str))=false:=by decide):PE X (.Name x pos) (qmt i):=qdp hN hv hd hcd
end
def qt(H H':Hp):Prop:=∀b o,H b=some o->H' b=some o
theorem qt.seq{K:Frag}{H H':Hp}{a:Addr}{xs:List V}(e:qt H H')(h:SqL K H a xs):SqL K H' a xs:=by
 rcases h with (h | ⟨o,h⟩) | h
 ·exact .inl (.inl (e _ _ h))
 ·exact .inl (.inr ⟨o,e _ _ h⟩)
 ·exact .inr h
end L2
namespace TS
open PySem PyProof.Rows
section
variable{M:Model}{A:Around}{E:PQ}{s:Shared}{O:KeyOrd}{kf:Keyed->O.α}{κ:SortKind}{G:Keyed->Prop}
noncomputable def qfC(M:Model)(A:Around)(E:PQ)(s:Shared)(O:KeyOrd)(kf:Keyed->O.α)(κ:SortKind)(G:Keyed->Prop):Prop:=
 ∀x y,G x->G y->∀(st:SortSt) (Q:Option Bool->SortSt->Prop),kindOf st=κ->Q (some (O.blt (kf x) (kf y))) st->wpS M A E s (lt' x y) Q st
theorem qdK{arr:Array Keyed}{p:Nat}{x:Keyed}{st:SortSt}{Q:Keyed->SortSt->Prop}(e:arr[p]?=some x)(h:Q x st):wpS M A E s (elem' arr p) Q st:=by rw[elem'_eq,e];exact wpS_pure h
variable{left:Bool}{key:Keyed}{arr:Array Keyed}{base n hint:Nat}{st:SortSt}{P:Nat->Bool}
end
end TS
namespace TS
open PySem PyProof.Rows
section
variable{O:KeyOrd}{kf:Keyed->O.α}
def le(O:KeyOrd)(kf:Keyed->O.α)(x y:Keyed):Prop:=O.kle (kf x) (kf y)
noncomputable def Srt(O:KeyOrd)(kf:Keyed->O.α)(a:Array Keyed)(lo hi:Nat):Prop:=∀(i j:Nat) (x y:Keyed),lo<=i->i<=j->j < hi->a[i]?=some x->a[j]?=some y->le O kf x y
theorem Srt.pw{a:Array Keyed}(h:Srt O kf a 0 a.size):a.toList.Pairwise (le O kf):=by
 rw[List.pairwise_iff_getElem];intro i j hi hj hij;have hj':j < a.size:=by simpa using hj
 have hi':i < a.size:=by simpa using hi
 exact h i j _ _ (1:) (1:) hj' (by simp[hi']) (by simp[hj'])
variable{a b o:Array Keyed}{i j:Nat}
end
end TS
namespace TS
open PySem PyProof.Rows
section
variable{M:Model}{A:Around}{E:PQ}{s:Shared}{O:KeyOrd}{kf:Keyed->O.α}{κ:SortKind}{G:Keyed->Prop}{a b:Array Keyed}
theorem qdL{a:Array Keyed}{i:Nat}(h:i < a.size):∃x,a[i]?=some x/\x∈a.toList:=⟨a[i],Array.getElem?_eq_getElem h,by simp⟩
end
end TS
namespace TS
open PySem PyProof.Rows
section
variable{O:KeyOrd}{kf:Keyed->O.α}
noncomputable def KA(O:KeyOrd)(kf:Keyed->O.α)(xs:Array Keyed)(i:Nat):O.α:=kf (xs[i]?.getD (Value.none,Value.none))
noncomputable def Inc(O:KeyOrd)(kf:Keyed->O.α)(xs:Array Keyed)(lo hi:Nat):Prop:=∀i j,lo<=i->i<=j->j < hi->O.kle (KA O kf xs i) (KA O kf xs j)
noncomputable def Dec(O:KeyOrd)(kf:Keyed->O.α)(xs:Array Keyed)(lo hi:Nat):Prop:=∀i j,lo<=i->i<=j->j < hi->O.kle (KA O kf xs j) (KA O kf xs i)
theorem yZ{xs ys:Array Keyed}{i j:Nat}(h:xs[i]?=ys[j]?):KA O kf xs i=KA O kf ys j:=by unfold KA;rw[h]
theorem qfD{xs:Array Keyed}{i:Nat}{x:Keyed}(h:xs[i]?=some x):KA O kf xs i=kf x:=by unfold KA;rw[h];rfl
theorem Inc.srt{xs:Array Keyed}{lo hi:Nat}(h:Inc O kf xs lo hi):Srt O kf xs lo hi:=λi j x y h1 h2 h3 e1 e2=>by
 have:=h i j h1 h2 h3
 rw[qfD e1,qfD e2] at this;exact this
theorem Ys{xs:Array Keyed}{i j:Nat}(hj:j<=xs.size)(k:Nat):KA O kf (mirror xs i j ((j - i) / 2)) k=if i<=k/\k < j then KA O kf xs (i+j - 1 - k) else KA O kf xs k:=by
 have e:=getElem?_mirror_all (i:=i) hj k
 by_cases h:i<=k/\k < j
 ·rw[if_pos h] at e ⊢;exact yZ e
 ·rw[if_neg h] at e ⊢;exact yZ e
theorem zd{xs:Array Keyed}{i j:Nat}(hj:j<=xs.size)(heq:∀k,i<=k->k < j->KA O kf xs k=KA O kf xs (j - 1))(k:Nat):KA O kf (mirror xs i j ((j - i) / 2)) k=KA O kf xs k:=by
 rw[Ys hj];split
 ·rw[heq _ (1:) (1:),heq k (1:) (1:)]
 ·rfl
theorem qac{xs:Array Keyed}{src d:Nat}(hs:src < xs.size)(hd:d<=src)(k:Nat) :
  KA O kf (bubble xs src d) k=if k=src - d then KA O kf xs src else if src - d < k/\k<=src then KA O kf xs (k - 1) else KA O kf xs k:=by
 have e:=getElem?_bubble hs d hd k
 by_cases h1:k=src - d
 ·rw[if_pos h1] at e ⊢;exact yZ e
 ·rw[if_neg h1] at e ⊢
  by_cases h2:src - d < k/\k<=src
  ·rw[if_pos h2] at e ⊢;exact yZ e
  ·rw[if_neg h2] at e ⊢;exact yZ e
structure Re(lo:Nat)(xs ys:Array Keyed):Prop where
 perm:ys.Perm xs
 keep:∀k,k < lo->ys[k]?=xs[k]?
theorem Re.refl(lo:Nat)(xs:Array Keyed):Re lo xs xs:=⟨Array.Perm.refl _,λ_ _=>rfl⟩
theorem Re.trans{lo:Nat}{xs ys zs:Array Keyed}(a:Re lo xs ys)(b:Re lo ys zs):Re lo xs zs:=⟨b.perm.trans a.perm,λk h=>(b.keep k h).trans (a.keep k h)⟩
theorem Re.size{lo:Nat}{xs ys:Array Keyed}(a:Re lo xs ys):ys.size=xs.size:=a.perm.size_eq
theorem Re.mirror{lo i j:Nat}{xs:Array Keyed}(hi:lo<=i)(hj:j<=xs.size):Re lo xs (mirror xs i j ((j - i) / 2)):=⟨mirror_perm _ _ _ _,λk h=>by rw[getElem?_mirror_all hj k,if_neg (1:)]⟩
theorem Re.bubble{lo src d:Nat}{xs:Array Keyed}(hs:src < xs.size)(hd:lo+d<=src):Re lo xs (bubble xs src d):=⟨bubble_perm _ _ _,λk h=>by rw[getElem?_bubble hs d (1:),if_neg (1:),if_neg (1:)]⟩
theorem Re.mem{lo:Nat}{xs ys:Array Keyed}(a:Re lo xs ys){G:Keyed->Prop}(h:∀x∈xs.toList,G x):∀x∈ys.toList,G x:=λx hx=>h x ((Array.perm_iff_toList_perm.mp a.perm).mem_iff.mp hx)
end
abbrev ASt:=Option (Option Nat)×Nat
abbrev BSt:=Option (Option Nat)×Nat×Nat
noncomputable def asc(lo a nrem:Nat):StateT SortSt Sem ASt:=
 forIn [a:nrem] ((none,a):ASt) λ_ c=>do
  let r<-ltAt' (lo+c.2) (lo+c.2 - 1)
  match r with
  |some sm=>if sm=true then pure (.done (none,c.2)) else pure (.yield (none,c.2+1))
  |_=>pure (.done (some none,c.2))
noncomputable def dsc(lo a nrem:Nat):StateT SortSt Sem BSt:=
 forIn [a:nrem] ((none,a,0):BSt) λ_ c=>do
  let r<-ltAt' (lo+c.2.1) (lo+c.2.1 - 1)
  match r with
  |some sm=>
   if sm=true then
    if c.2.2 > 0 then do
     reverseSlice' (lo+c.2.1 - (c.2.2+1)) (lo+c.2.1)
     pure (.yield (none,c.2.1+1,0))
    else pure (.yield (none,c.2.1+1,0))
   else do
    let r<-ltAt' (lo+c.2.1 - 1) (lo+c.2.1)
    match r with
    |some lg=>if lg=true then pure (.done (none,c.2.1,c.2.2)) else pure (.yield (none,c.2.1+1,c.2.2+1))
    |_=>pure (.done (some none,c.2.1,c.2.2))
  |_=>pure (.done (some none,c.2.1,c.2.2))
noncomputable def tl3(lo n nrem:Nat):StateT SortSt Sem (Option Nat):=do
 reverseSlice' lo (lo+n)
 let c<-asc lo n nrem
 match c.1 with
 |some r=>pure r
 |none=>pure (some c.2)
noncomputable def dpt(lo n nrem:Nat):StateT SortSt Sem (Option Nat):=do
 rule "list.sort.descending-run"
 let c<-dsc lo (n+1) nrem
 match c.1 with
 |some r=>pure r
 |none=>if c.2.2 > 0 then do reverseSlice' (lo+c.2.1 - (c.2.2+1)) (lo+c.2.1);tl3 lo c.2.1 nrem else tl3 lo c.2.1 nrem
theorem qm2(lo nrem:Nat):countRun' lo nrem=(do
 let c<-asc lo 1 nrem
 match c.1 with
 |some r=>pure r
 |none=>
  if (c.2 == nrem)=true then pure (some c.2)
  else if c.2 > 1 then do
   let r<-ltAt' lo (lo+c.2 - 1)
   match r with
   |some rs=>if rs=true then pure (some c.2) else do reverseSlice' lo (lo+c.2);dpt lo c.2 nrem
   |_=>pure none
  else dpt lo c.2 nrem):=by
 rw[countRun'_eq];show(forIn _ _ _ >>= _:StateT SortSt Sem (Option Nat))=asc lo 1 nrem >>= _;refine congr (congrArg Bind.bind ?_) (funext λc=>?_)
 ·delta asc
  refine congrArg (forIn _ _) (funext λ_=>funext λc=>?_);refine congrArg (λz=>_ >>= z) (funext λr=>?_)
  cases r with
  |none=>exact rfl
  |some sm=>exact rfl
 ·obtain⟨c1,c2⟩:=c
  cases c1 with
  |some r=>rfl
  |none=>
   show(ite _ _ (ite _ _ _):StateT SortSt Sem (Option Nat))=ite _ _ (ite _ _ _);refine congrArg (ite _ _) ?_;refine congr (congrArg (ite _) ?_) ?_
   ·refine congrArg (λz=>_ >>= z) (funext λr=>?_)
    cases r with
    |none=>exact rfl
    |some rs=>
     show(ite _ _ _:StateT SortSt Sem (Option Nat))=ite _ _ _;refine congrArg (ite _ _) ?_;refine congrArg (λz=>_ >>= z) (funext λ_=>?_)
     delta dpt
     refine congrArg (λz=>_ >>= z) (funext λ_=>?_);show(forIn _ _ _ >>= _:StateT SortSt Sem (Option Nat))=dsc lo (c2+1) nrem >>= _;refine congr (congrArg Bind.bind ?_) (funext λd=>?_)
     ·delta dsc
      refine congrArg (forIn _ _) (funext λ_=>funext λc=>?_);refine congrArg (λz=>_ >>= z) (funext λr=>?_)
      cases r with
      |none=>exact rfl
      |some sm=>
       show(ite _ _ _:StateT SortSt Sem (ForInStep BSt))=ite _ _ _;refine congr (congrArg (ite _) ?_) ?_
       ·exact rfl
       ·refine congrArg (λz=>_ >>= z) (funext λr=>?_)
        cases r with
        |none=>exact rfl
        |some lg=>exact rfl
     ·obtain⟨d1,d2,d3⟩:=d
      cases d1 with
      |some r=>exact rfl
      |none=>
       show(ite _ _ _:StateT SortSt Sem (Option Nat))=ite _ _ _;refine congr (congrArg (ite _) ?_) ?_
       ·refine congrArg (λz=>_ >>= z) (funext λ_=>?_)
        delta tl3
        refine congrArg (λz=>_ >>= z) (funext λ_=>?_);show(forIn _ _ _ >>= _:StateT SortSt Sem (Option Nat))=asc lo d2 nrem >>= _;refine congr (congrArg Bind.bind ?_) (funext λe=>?_)
        ·delta asc
         refine congrArg (forIn _ _) (funext λ_=>funext λc=>?_);refine congrArg (λz=>_ >>= z) (funext λr=>?_)
         cases r with
         |none=>exact rfl
         |some sm=>exact rfl
        ·obtain⟨e1,e2⟩:=e
         cases e1 with
         |some r=>exact rfl
         |none=>exact rfl
       ·delta tl3
        refine congrArg (λz=>_ >>= z) (funext λ_=>?_);show(forIn _ _ _ >>= _:StateT SortSt Sem (Option Nat))=asc lo d2 nrem >>= _;refine congr (congrArg Bind.bind ?_) (funext λe=>?_)
        ·delta asc
         refine congrArg (forIn _ _) (funext λ_=>funext λc=>?_);refine congrArg (λz=>_ >>= z) (funext λr=>?_)
         cases r with
         |none=>exact rfl
         |some sm=>exact rfl
        ·obtain⟨e1,e2⟩:=e
         cases e1 with
         |some r=>exact rfl
         |none=>exact rfl
   ·show _=dpt lo c2 nrem
    delta dpt
    refine congrArg (λz=>_ >>= z) (funext λ_=>?_);show(forIn _ _ _ >>= _:StateT SortSt Sem (Option Nat))=dsc lo (c2+1) nrem >>= _;refine congr (congrArg Bind.bind ?_) (funext λd=>?_)
    ·delta dsc
     refine congrArg (forIn _ _) (funext λ_=>funext λc=>?_);refine congrArg (λz=>_ >>= z) (funext λr=>?_)
     cases r with
     |none=>exact rfl
     |some sm=>
      show(ite _ _ _:StateT SortSt Sem (ForInStep BSt))=ite _ _ _;refine congr (congrArg (ite _) ?_) ?_
      ·exact rfl
      ·refine congrArg (λz=>_ >>= z) (funext λr=>?_)
       cases r with
       |none=>exact rfl
       |some lg=>exact rfl
    ·obtain⟨d1,d2,d3⟩:=d
     cases d1 with
     |some r=>exact rfl
     |none=>
      show(ite _ _ _:StateT SortSt Sem (Option Nat))=ite _ _ _;refine congr (congrArg (ite _) ?_) ?_
      ·refine congrArg (λz=>_ >>= z) (funext λ_=>?_)
       delta tl3
       refine congrArg (λz=>_ >>= z) (funext λ_=>?_);show(forIn _ _ _ >>= _:StateT SortSt Sem (Option Nat))=asc lo d2 nrem >>= _;refine congr (congrArg Bind.bind ?_) (funext λe=>?_)
       ·delta asc
        refine congrArg (forIn _ _) (funext λ_=>funext λc=>?_);refine congrArg (λz=>_ >>= z) (funext λr=>?_)
        cases r with
        |none=>exact rfl
        |some sm=>exact rfl
       ·obtain⟨e1,e2⟩:=e
        cases e1 with
        |some r=>exact rfl
        |none=>exact rfl
      ·delta tl3
       refine congrArg (λz=>_ >>= z) (funext λ_=>?_);show(forIn _ _ _ >>= _:StateT SortSt Sem (Option Nat))=asc lo d2 nrem >>= _;refine congr (congrArg Bind.bind ?_) (funext λe=>?_)
       ·delta asc
        refine congrArg (forIn _ _) (funext λ_=>funext λc=>?_);refine congrArg (λz=>_ >>= z) (funext λr=>?_)
        cases r with
        |none=>exact rfl
        |some sm=>exact rfl
       ·obtain⟨e1,e2⟩:=e
        cases e1 with
        |some r=>exact rfl
        |none=>exact rfl
section
variable{M:Model}{A:Around}{E:PQ}{s:Shared}{O:KeyOrd}{kf:Keyed->O.α}{κ:SortKind}{G:Keyed->Prop}
theorem Yt(L:qfC M A E s O kf κ G){st:SortSt}{i j:Nat}{Q:Option Bool->SortSt->Prop}(hk:kindOf st=κ)(hG:∀x∈(arrOf st).toList,G x)(hi:i < (arrOf st).size)(hj:j < (arrOf st).size)
  (h:Q (some (O.blt (KA O kf (arrOf st) i) (KA O kf (arrOf st) j))) st):wpS M A E s (ltAt' i j) Q st:=by
 rw[ltAt'_eq];refine wpS_bind (wpS_get ?_);obtain⟨x,ex,mx⟩:=qdL hi;obtain⟨y,ey,my⟩:=qdL hj;rw[qfD ex,qfD ey] at h;exact wpS_bind (qdK ex (wpS_bind (qdK ey (L x y (hG x mx) (hG y my) st Q hk h))))
theorem qbN{i j:Nat}{st:SortSt}{Q:Unit->SortSt->Prop}(h:Q () (setArr st (mirror (arrOf st) i j ((j - i) / 2)))):wpS M A E s (reverseSlice' i j) Q st:=by rw[reverseSlice'_eq];exact wpS_modify h
theorem qgO(L:qfC M A E s O kf κ G){st:SortSt}{lo a nrem:Nat}{Q:ASt->SortSt->Prop}(hk:kindOf st=κ)(hG:∀x∈(arrOf st).toList,G x)(hn:lo+nrem<=(arrOf st).size)(ha:1<=a)(han:a<=nrem)
  (hs:Inc O kf (arrOf st) lo (lo+a))
  (h:∀n,a<=n->n<=nrem->Inc O kf (arrOf st) lo (lo+n)->(n=nrem\/O.klt (KA O kf (arrOf st) (lo+n)) (KA O kf (arrOf st) (lo+n - 1)))->Q (none,n) st):wpS M A E s (asc lo a nrem) Q st:=by
 unfold asc;refine wpS_forRange (I:=λx c st'=>st'=st/\c=(none,x)/\Inc O kf (arrOf st) lo (lo+x)) ?step ?fin ⟨rfl,rfl,hs⟩
 case fin=>rintro c st' ⟨rfl,rfl,hs'⟩;rw[show max a nrem=nrem by omega] at hs' ⊢;exact h nrem han (Nat.le_refl _) hs' (.inl rfl)
 case step=>
  rintro x c st' hax hxn ⟨rfl,rfl,hs'⟩;dsimp only;refine wpS_bind (Yt L hk hG (1:) (1:) ?_)
  cases hb:O.blt (KA O kf (arrOf st') (lo+x)) (KA O kf (arrOf st') (lo+x - 1)) with
  |true=>simp only[if_true];exact wpS_pure (h x hax (1:) hs' (.inr hb))
  |false=>
   simp only[Bool.false_eq_true,if_false];refine wpS_pure ⟨rfl,rfl,λi j h1 h2 h3=>?_⟩
   by_cases hjx:j < lo+x
   ·exact hs' i j h1 h2 hjx
   ·have:j=lo+x:=by omega
    subst this
    by_cases e:i=lo+x
    ·subst e;exact KeyOrd.kle_refl _
    ·exact KeyOrd.kle_trans (hs' i (lo+x - 1) h1 (1:) (1:)) hb
noncomputable def qcM(O:KeyOrd)(kf:Keyed->O.α)(lo nrem:Nat)(st:SortSt)(Q:Option Nat->SortSt->Prop):Prop:=
 ∀m xs,Re lo (arrOf st) xs->1<=m->m<=nrem->Inc O kf xs lo (lo+m)->Q (some m) (setArr st xs)
theorem qcM.step{lo nrem:Nat}{st:SortSt}{Q:Option Nat->SortSt->Prop}{xs:Array Keyed}(h:qcM O kf lo nrem st Q)(r:Re lo (arrOf st) xs):qcM O kf lo nrem (setArr st xs) Q:=
 λm ys r' h1 h2 h3=>h m ys (r.trans r') h1 h2 h3
theorem qgP(L:qfC M A E s O kf κ G){st:SortSt}{lo n nrem:Nat}{Q:Option Nat->SortSt->Prop}(hk:kindOf st=κ)(hG:∀x∈(arrOf st).toList,G x)(hn:lo+nrem<=(arrOf st).size)(h1:1<=n)(hnn:n<=nrem)
  (hs:Dec O kf (arrOf st) lo (lo+n)) (h:qcM O kf lo nrem st Q):wpS M A E s (tl3 lo n nrem) Q st:=by
 unfold tl3;refine wpS_bind (qbN ?_);have r:Re lo (arrOf st) (mirror (arrOf st) lo (lo+n) ((lo+n - lo) / 2)):=Re.mirror (Nat.le_refl _) (1:);refine wpS_bind (qgO L (st:=setArr st (mirror (arrOf st) lo (lo+n) ((lo+n - lo) / 2))) hk (r.mem hG) (by have:=r.size;show lo+nrem<=(mirror (arrOf st) lo (lo+n) ((lo+n - lo) / 2)).size;omega) h1 hnn ?_ λm hm1 hm2 hs2 _=>wpS_pure (h m _ r (1:) hm2 hs2));intro i j h2 h3 h4;show O.kle (KA O kf (mirror (arrOf st) lo (lo+n) ((lo+n - lo) / 2)) i) (KA O kf (mirror (arrOf st) lo (lo+n) ((lo+n - lo) / 2)) j);rw[Ys (1:),Ys (1:),if_pos (1:),if_pos (1:)];exact hs _ _ (1:) (1:) (1:)
theorem qj9(L:qfC M A E s O kf κ G){st:SortSt}{lo n nrem:Nat}{Q:BSt->SortSt->Prop}(hk:kindOf st=κ)(hG:∀x∈(arrOf st).toList,G x)(hn:lo+nrem<=(arrOf st).size)(h1:1<=n)(hnn:n<=nrem)
  (hs:Dec O kf (arrOf st) lo (lo+n))
  (h:∀m ne xs,Re lo (arrOf st) xs->n<=m->m<=nrem->Dec O kf xs lo (lo+m)->ne+1<=m->(∀i,lo+m - (ne+1)<=i->i < lo+m->KA O kf xs i=KA O kf xs (lo+m - 1))->Q (none,m,ne) (setArr st xs)):wpS M A E s (dsc lo n nrem) Q st:=by
 unfold dsc
 refine wpS_forRange (I:=λx c st'=>∃ne xs,c=(none,x,ne)/\st'=setArr st xs/\Re lo (arrOf st) xs/\Dec O kf xs lo (lo+x)/\ne+1<=x/\(∀i,lo+x - (ne+1)<=i->i < lo+x->KA O kf xs i=KA O kf xs (lo+x - 1))) ?step ?fin
  ⟨0,arrOf st,rfl,rfl,Re.refl _ _,hs,by omega,λi a b=>by congr 1;omega⟩
 case fin=>rintro c st' ⟨ne,xs,rfl,rfl,r,hs',hq,he⟩;rw[show max n nrem=nrem by omega] at hs' hq he ⊢;exact h nrem ne xs r hnn (Nat.le_refl _) hs' hq he
 case step=>
  rintro x c st' hax hxn ⟨ne,xs,rfl,rfl,r,hs',hq,he⟩;dsimp only;have hsz:xs.size=(arrOf st).size:=r.size;refine wpS_bind (Yt L (st:=setArr st xs) hk (r.mem hG) (by show lo+x < xs.size;omega) (by show lo+x - 1 < xs.size;omega) ?_);show wpS M A E s _ _ _
  cases hb:O.blt (KA O kf (arrOf (setArr st xs)) (lo+x)) (KA O kf (arrOf (setArr st xs)) (lo+x - 1)) with
  |true=>
   have hb:O.blt (KA O kf xs (lo+x)) (KA O kf xs (lo+x - 1))=true:=hb;simp only[if_true]
   have step1:∀ys:Array Keyed,(∀k,KA O kf ys k=KA O kf xs k)->Dec O kf ys lo (lo+(x+1)):=by
    intro ys hy i j a b d;rw[hy,hy]
    by_cases hjx:j < lo+x
    ·exact hs' i j a b hjx
    ·have:j=lo+x:=by omega
     subst this
     by_cases e:i=lo+x
     ·subst e;exact KeyOrd.kle_refl _
     ·exact KeyOrd.kle_trans (KeyOrd.kle_of_klt hb) (hs' i (lo+x - 1) a (1:) (1:))
   by_cases hneq:ne > 0
   ·rw[if_pos hneq];refine wpS_bind (qbN (wpS_pure ⟨0,_,rfl,rfl,r.trans (Re.mirror (xs:=xs) (1:) (1:)),step1 _ (zd (xs:=xs) (1:) he),by omega,λi a b=>by congr 1;omega⟩))
   ·rw[if_neg hneq];exact wpS_pure ⟨0,xs,rfl,rfl,r,step1 _ (λ_=>rfl),by omega,λi a b=>by congr 1;omega⟩
  |false=>
   have hb:O.blt (KA O kf xs (lo+x)) (KA O kf xs (lo+x - 1))=false:=hb;simp only[Bool.false_eq_true,if_false];refine wpS_bind (Yt L (st:=setArr st xs) hk (r.mem hG) (by show lo+x - 1 < xs.size;omega) (by show lo+x < xs.size;omega) ?_)
   cases hc:O.blt (KA O kf (arrOf (setArr st xs)) (lo+x - 1)) (KA O kf (arrOf (setArr st xs)) (lo+x)) with
   |true=>simp only[if_true];exact wpS_pure (h x ne xs r hax (1:) hs' hq he)
   |false=>
    have hc:O.blt (KA O kf xs (lo+x - 1)) (KA O kf xs (lo+x))=false:=hc;simp only[Bool.false_eq_true,if_false];have heqx:KA O kf xs (lo+x)=KA O kf xs (lo+x - 1):=KeyOrd.kle_antisymm hc hb;refine wpS_pure ⟨ne+1,xs,rfl,rfl,r,λi j a b d=>?_,by omega,λi a b=>?_⟩
    ·by_cases hjx:j < lo+x
     ·exact hs' i j a b hjx
     ·have:j=lo+x:=by omega
      subst this
      by_cases e:i=lo+x
      ·subst e;exact KeyOrd.kle_refl _
      ·rw[heqx];exact hs' i (lo+x - 1) a (1:) (1:)
    ·rw[show lo+(x+1) - 1=lo+x by omega]
     by_cases e:i=lo+x
     ·rw[e]
     ·rw[heqx];exact he i (1:) (1:)
theorem qgQ(L:qfC M A E s O kf κ G){st:SortSt}{lo n nrem:Nat}{Q:Option Nat->SortSt->Prop}(hk:kindOf st=κ)(hG:∀x∈(arrOf st).toList,G x)(hn:lo+nrem<=(arrOf st).size)(hnn:n+1<=nrem)
  (hs:Dec O kf (arrOf st) lo (lo+(n+1))) (h:qcM O kf lo nrem st Q):wpS M A E s (dpt lo n nrem) Q st:=by
 unfold dpt;refine wpS_bind (wpS_lift (wpAny_rule ⟨rfl,?_⟩));refine wpS_bind (qj9 L hk hG hn (1:) hnn hs λm ne xs r h1 h2 h3 h4 h5=>?_);dsimp only;have hsz:xs.size=(arrOf st).size:=r.size
 by_cases hneq:ne > 0
 ·rw[if_pos hneq];have r2:Re lo xs (mirror xs (lo+m - (ne+1)) (lo+m) ((lo+m - (lo+m - (ne+1))) / 2)):=Re.mirror (1:) (1:);refine wpS_bind (qbN (qgP L hk (r2.mem (r.mem hG)) (by have:=r2.size;show lo+nrem<=(mirror xs (lo+m - (ne+1)) (lo+m) ((lo+m - (lo+m - (ne+1))) / 2)).size;omega) (1:) h2 ?_ ((h.step r).step r2)));intro i j a b d;show O.kle (KA O kf (mirror xs _ _ _) j) (KA O kf (mirror xs _ _ _) i);rw[zd (1:) h5,zd (1:) h5];exact h3 i j a b d
 ·rw[if_neg hneq];exact qgP L (st:=setArr st xs) hk (r.mem hG) (by show lo+nrem<=xs.size;omega) (1:) h2 h3 (h.step r)
theorem qm3(L:qfC M A E s O kf κ G){st:SortSt}{lo nrem:Nat}{Q:Option Nat->SortSt->Prop}(hk:kindOf st=κ)(hG:∀x∈(arrOf st).toList,G x)(hn:lo+nrem<=(arrOf st).size)(h1:1<=nrem)
  (h:qcM O kf lo nrem st Q):wpS M A E s (countRun' lo nrem) Q st:=by
 rw[qm2];refine wpS_bind (qgO L hk hG hn (Nat.le_refl 1) h1 (λi j a b d=>by have:i=j:=(1:);subst this;exact KeyOrd.kle_refl _) λn hn1 hn2 hsn hor=>?_);dsimp only
 by_cases hnn:n=nrem
 ·rw[if_pos (by simpa using hnn)];exact wpS_pure (h n _ (Re.refl _ _) hn1 hn2 hsn)
 ·rw[if_neg (by simpa using hnn)];have hlt:=hor.resolve_left hnn
  by_cases hgt:n > 1
  ·rw[if_pos hgt];refine wpS_bind (Yt L hk hG (1:) (1:) ?_)
   cases hr:O.blt (KA O kf (arrOf st) lo) (KA O kf (arrOf st) (lo+n - 1)) with
   |true=>simp only[if_true];exact wpS_pure (h n _ (Re.refl _ _) hn1 hn2 hsn)
   |false=>
    simp only[Bool.false_eq_true,if_false]
    have hall:∀k,lo<=k->k < lo+n->KA O kf (arrOf st) k=KA O kf (arrOf st) (lo+n - 1):=by intro k a b;exact KeyOrd.kle_antisymm (hsn k (lo+n - 1) a (1:) (1:)) (KeyOrd.kle_trans hr (hsn lo k (Nat.le_refl _) a b))
    have r:Re lo (arrOf st) (mirror (arrOf st) lo (lo+n) ((lo+n - lo) / 2)):=Re.mirror (Nat.le_refl _) (1:);refine wpS_bind (qbN (qgQ L hk (r.mem hG) (by have:=r.size;show lo+nrem<=(mirror (arrOf st) lo (lo+n) ((lo+n - lo) / 2)).size;omega) (1:) ?_ (h.step r)));intro i j a b d;show O.kle (KA O kf (mirror (arrOf st) _ _ _) j) (KA O kf (mirror (arrOf st) _ _ _) i);rw[zd (1:) hall,zd (1:) hall]
    by_cases hjn:j < lo+n
    ·rw[hall i (1:) (1:),hall j (1:) hjn];exact KeyOrd.kle_refl _
    ·have:j=lo+n:=by omega
     subst this
     by_cases e:i=lo+n
     ·subst e;exact KeyOrd.kle_refl _
     ·rw[hall i (1:) (1:)];exact KeyOrd.kle_of_klt hlt
  ·rw[if_neg hgt]
   have:n=1:=by omega
   subst this;refine qgQ L hk hG hn (1:) ?_ h;intro i j a b d
   by_cases e:i=j
   ·subst e;exact KeyOrd.kle_refl _
   ·have e1:i=lo:=by omega
    have e2:j=lo+1:=by omega
    subst e1 e2;exact KeyOrd.kle_of_klt (by simpa using hlt)
theorem qka(L:qfC M A E s O kf κ G){st:SortSt}{lo n ok:Nat}{Q:Bool->SortSt->Prop}(hk:kindOf st=κ)(hG:∀x∈(arrOf st).toList,G x)(hn:lo+n<=(arrOf st).size)(hok:ok<=n)(hs:Inc O kf (arrOf st) lo (lo+ok))
  (h:∀xs,Re lo (arrOf st) xs->Inc O kf xs lo (lo+n)->Q true (setArr st xs)):wpS M A E s (binarySort' lo n ok) Q st:=by
 rw[binarySort'_eq]
 refine wpS_bind (wpS_mono (wpS_forRange (I:=λk c st'=>c=(none,())/\∃xs,st'=setArr st xs/\Re lo (arrOf st) xs/\Inc O kf xs lo (lo+min k n))
  (Q:=λc st'=>c=(none,())/\∃xs,st'=setArr st xs/\Re lo (arrOf st) xs/\Inc O kf xs lo (lo+n)) ?step ?fin ?init) ?post)
 case post=>rintro c st' ⟨rfl,xs,rfl,r,hs'⟩;exact wpS_pure (h xs r hs')
 case init=>
  refine⟨rfl,arrOf st,rfl,Re.refl _ _,λi j a b d=>?_⟩
  by_cases h1:ok=0
  ·have:i=j:=by omega
   subst this;exact KeyOrd.kle_refl _
  ·exact hs i j a b (1:)
 case fin=>
  rintro c st' ⟨hc,xs,rfl,r,hs'⟩;refine⟨hc,xs,rfl,r,?_⟩
  rwa[show min (max (max ok 1) n) n=n by omega] at hs'
 case step=>
  rintro k c st' hak hkn ⟨rfl,xs,rfl,r,hs'⟩;rw[show min k n=k by omega] at hs';have hsz:xs.size=(arrOf st).size:=r.size
  refine wpS_bind (wpS_mono (wpS_forRange (I:=λx c st''=>st''=setArr st xs/\∃l u,c=(none,l,u)/\l<=u/\u<=k/\u - l<=k - x/\
    (∀i,i < l->O.kle (KA O kf xs (lo+i)) (KA O kf xs (lo+k)))/\(∀i,u<=i->i < k->O.klt (KA O kf xs (lo+k)) (KA O kf xs (lo+i))))
   (Q:=λc st''=>st''=setArr st xs/\∃l u,c=(none,l,u)/\l<=k/\
    (∀i,i < l->O.kle (KA O kf xs (lo+i)) (KA O kf xs (lo+k)))/\(∀i,l<=i->i < k->O.klt (KA O kf xs (lo+k)) (KA O kf xs (lo+i)))) ?istep ?ifin ?iinit) ?ipost)
  case iinit=>exact⟨rfl,0,k,rfl,by omega,by omega,by omega,λi hi=>by omega,λi h1 h2=>by omega⟩
  case ifin=>
   rintro c st'' ⟨rfl,l,u,rfl,a,b,d,e,f⟩
   have:l=u:=by omega
   subst this;exact⟨rfl,l,l,rfl,b,e,f⟩
  case istep=>
   rintro x c st'' _ hxk ⟨rfl,l,u,rfl,a,b,d,e,f⟩;dsimp only
   by_cases hge:l≥u
   ·rw[if_pos hge]
    have:l=u:=by omega
    subst this;exact wpS_pure ⟨rfl,l,l,rfl,b,e,f⟩
   ·rw[if_neg hge];refine wpS_bind (Yt L (st:=setArr st xs) hk (r.mem hG) (by show lo+k < xs.size;omega) (by show lo+(l+u) / 2 < xs.size;omega) ?_)
    cases hb:O.blt (KA O kf (arrOf (setArr st xs)) (lo+k)) (KA O kf (arrOf (setArr st xs)) (lo+(l+u) / 2)) with
    |true=>have hb:O.blt (KA O kf xs (lo+k)) (KA O kf xs (lo+(l+u) / 2))=true:=hb;simp only[if_true];refine wpS_pure ⟨rfl,l,(l+u) / 2,rfl,by omega,by omega,by omega,e,λi h1 h2=>?_⟩;exact KeyOrd.klt_of_klt_of_kle hb (hs' _ _ (1:) (1:) (1:))
    |false=>have hb:O.blt (KA O kf xs (lo+k)) (KA O kf xs (lo+(l+u) / 2))=false:=hb;simp only[Bool.false_eq_true,if_false];refine wpS_pure ⟨rfl,(l+u) / 2+1,u,rfl,by omega,by omega,by omega,λi h1=>?_,f⟩;exact KeyOrd.kle_trans (hs' (lo+i) (lo+(l+u) / 2) (1:) (1:) (1:)) (show O.kle _ _ from hb)
  case ipost=>
   rintro c st'' ⟨rfl,l,u,rfl,hlk,hlo,hhi⟩;show wpS _ _ _ _ (do moveDown' (lo+k) (lo+l);pure (ForInStep.yield (none,()))) _ _;rw[moveDown'_eq];have hks:lo+k < xs.size:=by omega
   refine wpS_bind (wpS_modify (wpS_pure ⟨rfl,_,rfl,r.trans (Re.bubble hks (d:=lo+k - (lo+l)) (1:)),?_⟩));rw[show min (k+1) n=k+1 by omega];intro i j a b d;show O.kle (KA O kf (bubble xs (lo+k) (lo+k - (lo+l))) i) (KA O kf (bubble xs (lo+k) (lo+k - (lo+l))) j);rw[qac hks (1:),qac hks (1:),show lo+k - (lo+k - (lo+l))=lo+l by omega]
   have lo':∀t,lo<=t->t < lo+l->O.kle (KA O kf xs t) (KA O kf xs (lo+k)):=λt h1 h2=>by
    have:=hlo (t - lo) (1:)
    rwa[show lo+(t - lo)=t by omega] at this
   have hi':∀t,lo+l<=t->t < lo+k->O.klt (KA O kf xs (lo+k)) (KA O kf xs t):=λt h1 h2=>by
    have:=hhi (t - lo) (1:) (1:)
    rwa[show lo+(t - lo)=t by omega] at this
   repeat' split
   all_goals first
    | (exfalso;omega)
    | exact KeyOrd.kle_refl _
    | exact lo' _ (1:) (1:)
    | exact KeyOrd.kle_of_klt (hi' _ (1:) (1:))
    | exact hs' _ _ (1:) (1:) (1:)
end
end TS
namespace TS
open PySem PyProof.Rows
section
variable{prog:Program}{w:World}{A:Around}{E:PQ}{s:Shared}{O:KeyOrd}{kf:Keyed->O.α}{κ:SortKind}
def qdM(s s1:Shared):Prop:=∀b o,s.heap.get? b=some o->s1.heap.get? b=some o
structure Sorts(prog:Program)(w:World)(s:Shared)(vs:List Value)(O:KeyOrd)(kf:Keyed->O.α)(κ:SortKind):Prop where
 kind:2<=vs.length->∀(A:Around) (E:PQ) (s1:Shared) (Q:SortKind->Shared->Prop),qdM s s1->Q κ s1->wpAny (model prog w) A (keyKind' vs.toArray) Q E s1
 lt:∀(A:Around) (E:PQ) (s1:Shared),qdM s s1->qfC (model prog w) A E s1 O kf κ (λx=>x∈(pairsOf vs).toList)
end
end TS
namespace TS
open PySem PyProof.Rows
noncomputable def pO:KeyOrd where
 α:=Int×Int
 blt p q:=decide (p.1 < q.1)||(decide (p.1=q.1)&&decide (p.2 < q.2))
 irrefl a:=by simp
 trans a b c h1 h2:=by simp at h1 h2 ⊢;omega
 negTrans a b c h:=by simp at h ⊢;omega
 total a b h1 h2:=by
  obtain⟨a1,a2⟩:=a;obtain⟨b1,b2⟩:=b;simp at h1 h2;have e1:a1=b1:=by omega
  subst e1;have e2:a2=b2:=by omega
  rw[e2]
def nOf:Value->Int
 |.int n _=>n
 |_=>0
noncomputable def yA(h:Heap)(v:Value):Int×Int:=match v with
 |.ref a=>match h.get? a with
  |some o=>match o.data with
   |.seq xs _=>(nOf (xs.getD 0 .none),nOf (xs.getD 1 .none))
   |_=>(0,0)
  |none=>(0,0)
 |_=>(0,0)
def qbO(h:Heap)(v:Value)(p:Int×Int):Prop:=∃a t u,v=.ref a/\IsTup h a #[.int p.1 t,.int p.2 u]
theorem qbO.pair{h:Heap}{v:Value}{p:Int×Int}(e:qbO h v p):yA h v=p:=by obtain⟨a,t,u,rfl,o,ho,hc,n,hd⟩:=e;unfold yA;simp only[ho,hd];rfl
theorem qbO.grow{s s1:Shared}{v:Value}{p:Int×Int}(e:qbO s.heap v p)(g:qdM s s1):qbO s1.heap v p:=by obtain⟨a,t,u,rfl,o,ho,hc,n,hd⟩:=e;exact⟨a,t,u,rfl,o,g a o ho,hc,n,hd⟩
section
variable{prog:Program}{w:World}{A:Around}{E:PQ}{s:Shared}
theorem qkb{x y:Value}{p q:Int×Int}{Q:Bool->Shared->Prop}(hx:qbO s.heap x p)(hy:qbO s.heap y q)(h:Q (pO.blt p q) s):wpAny (model prog w) A (keyLt' (tuples' true) x y) Q E s:=by
 obtain⟨a,t,u,rfl,o,ho,hc,n,hd⟩:=hx;obtain⟨b,t',u',rfl,o',ho',hc',n',hd'⟩:=hy;refine PySem.W.kat_lt ho hd ho' hd' ?_;show PySem.W.KatLex prog w A true _ Q [(.int p.1 t,.int q.1 t'),(.int p.2 u,.int q.2 u')] 0 s;refine PySem.W.kat_cons (wpAny_eqBool_int ?_)
 by_cases e1:p.1=q.1
 ·rw[show(p.1 == q.1)=true by simpa using e1];refine PySem.W.kat_yes (PySem.W.kat_cons (wpAny_eqBool_int ?_))
  by_cases e2:p.2=q.2
  ·rw[show(p.2 == q.2)=true by simpa using e2];refine PySem.W.kat_yes (PySem.W.kat_nil ?_)
   have:pO.blt p q=false:=by unfold pO;simp[e1,e2]
   rw[this] at h;exact h
  ·rw[show(p.2 == q.2)=false by simpa using e2];refine PySem.W.kat_no (PySem.W.kat_one _ _ (lt_int ?_))
   have:pO.blt p q=decide (p.2 < q.2):=by unfold pO;simp[e1]
   rw[this] at h;exact h
 ·rw[show(p.1 == q.1)=false by simpa using e1];refine PySem.W.kat_no ?_
  have:pO.blt p q=decide (p.1 < q.1):=by unfold pO;simp[e1]
  rw[this] at h;exact oneLt_int h
theorem qdN:∀{vs:List Value} {ps:List (Int×Int)},Paired (qbO s.heap) vs ps->∃fs,PySem.W.KatTups s.heap vs fs/\fs.length=vs.length/\∀v∈fs,∃n t,v=Value.int n t
 |_,_,.nil=>⟨[],trivial,rfl,λ_ h=>nomatch h⟩
 |_,_,.cons r rs=>by
  obtain⟨a,t,u,rfl,o,ho,hc,n,hd⟩:=r;obtain⟨fs,h1,h2,h3⟩:=qdN rs;refine⟨_::fs,PySem.W.KatTups.cons ho hc hd rfl h1,by simp[h2],λv hv=>?_⟩;rcases List.mem_cons.mp hv with rfl | hv
  ·exact⟨_,_,rfl⟩
  ·exact h3 v hv
theorem qad{vs:List Value}{x:Keyed}(h:x∈(pairsOf vs).toList):x.1=x.2/\x.1∈vs:=by rw[pairsOf_toList] at h;exact mem_zip_self h
theorem Paired.at_mem{α β:Type}{R:α->β->Prop}:∀{l:List α} {m:List β},Paired R l m->∀a∈l,∃b∈m,R a b
 |_,_,.nil,_,h=>nomatch h
 |_,_,.cons r rs,a,h=>by
  rcases List.mem_cons.mp h with rfl | h
  ·exact⟨_,List.mem_cons_self,r⟩
  ·obtain⟨b,hb,q⟩:=Paired.at_mem rs a h;exact⟨b,List.mem_cons_of_mem _ hb,q⟩
theorem Paired.grow2{s s1:Shared}(g:qdM s s1):∀{vs:List Value} {ps:List (Int×Int)},Paired (qbO s.heap) vs ps->Paired (qbO s1.heap) vs ps
 |_,_,.nil=>.nil
 |_,_,.cons r rs=>.cons (r.grow g) (Paired.grow2 g rs)
theorem qdO{vs:List Value}{ps:List (Int×Int)}(h:Paired (qbO s.heap) vs ps):Sorts prog w s vs pO (λx=>yA s.heap x.1) (tuples' true) where
 kind:=λh2 A E s1 Q g q=>by obtain⟨fs,t1,t2,t3⟩:=qdN (Paired.grow2 g h);refine PySem.W.kat_kind t1 (1:) (T:=Value.type "int") (λv hv=>?_) rfl q;obtain⟨n,t,rfl⟩:=t3 v hv;exact .now
 lt:=λA E s1 g x y hx hy st Q hk q=>by obtain⟨p,_,hp⟩:=Paired.at_mem h _ (qad hx).2;obtain⟨p',_,hp'⟩:=Paired.at_mem h _ (qad hy).2;have q:Q (some (pO.blt (yA s.heap x.1) (yA s.heap y.1))) st:=q;rw[hp.pair,hp'.pair] at q;rw[lt'_eq];refine wpS_bind (wpS_get ?_);rw[hk];refine wpS_bind (wpS_lift (wpAny_attempt (qkb (hp.grow g) (hp'.grow g) ⟨rfl,?_⟩)));exact wpS_pure q
end
theorem Paired.perm{α β:Type}{R:α->β->Prop}{us us':List β}(p:us'.Perm us):∀{xs:List α},Paired R xs us->∃xs',xs'.Perm xs/\Paired R xs' us':=by
 induction p with
 |nil=>exactλ{xs} h=>⟨xs,List.Perm.refl _,h⟩
 |cons x _ ih=>
  intro xs h
  cases h with
  |cons r rs=>obtain⟨xs',h1,h2⟩:=ih rs;exact⟨_::xs',h1.cons _,.cons r h2⟩
 |swap x y l=>
  intro xs h
  cases h with
  |cons r rs=>
   cases rs with
   | cons r' rs=>exact⟨_::_::_,List.Perm.swap ..,.cons r' (.cons r rs)⟩
 |trans _ _ ih1 ih2=>intro xs h;obtain⟨x1,h1,h2⟩:=ih2 h;obtain⟨x2,h3,h4⟩:=ih1 h2;exact⟨x2,h3.trans h1,h4⟩
end TS
namespace L2
open PySem PySem.Spec PyProof.Rows
noncomputable def P2(K:Frag)(H:Hp)(v:V)(p:Int×Int):Prop:=∃a,v=.ref a/\H a=some (.tup [.int p.1,.int p.2])
def qcN(p q:Int×Int):Prop:=p.1 < q.1\/(p.1=q.1/\p.2<=q.2)
section
variable{X:Cx}
theorem P2.raw{pins:PP}{σ:St}{H:Hp}{s:Shared}{v:V}{u:Value}{p:Int×Int}(I:Inv X pins σ H s)(h:P2 X.K H v p)(r:qM v u):TS.qbO s.heap u p:=by obtain⟨a,rfl,hq⟩:=h;obtain rfl:u=Value.ref a:=r;obtain⟨its,rv,pl,_⟩:=I.tuple (SqT.of hq);obtain⟨u1,u2,rfl,⟨t1,rfl⟩,⟨t2,rfl⟩⟩:=qa5 rv;exact⟨a,t1,t2,rfl,pl⟩
end
end L2
namespace L2
open PySem PySem.Spec PyProof.Rows
noncomputable def zq(env:Env)(ns:List (Str×NameKind))(acc:List (Str×Addr)):List (Str×Addr):=ns.foldl (λcs x=>if x.2 == .free then (x.1,(env.cells.lookup x.1).getD 0)::cs else cs) acc
theorem qgR{env:Env}:∀(ns:List (Str×NameKind)) (acc:List (Str×Addr)),(∀x∈ns,x.2=.free->∃c,env.cells.lookup x.1=some c)->
  (forIn ns acc λ(x:Str×NameKind) (cs:List (Str×Addr))=>(match x with |(name,kind)=>if kind == .free then (do let c<-cellOf env name;pure (ForInStep.yield ((name,c)::cs)):Sem (ForInStep (List (Str×Addr)))) else pure (ForInStep.yield cs)))=(pure (zq env ns acc):Sem (List (Str×Addr)))
 |[],acc,_=>by rw[List.forIn_nil];rfl
 | (n,k)::r,acc,h=>by
  rw[List.forIn_cons];have hr:=qgR (env:=env) r
  by_cases hk:k=.free
  ·subst hk;obtain⟨c,hc⟩:=h (n,.free) List.mem_cons_self rfl;have e1:cellOf env n=pure c:=by unfold cellOf;rw[hc]
   simp only[beq_self_eq_true,if_true,e1,pure_bind];rw[hr _ λx hx=>h x (List.mem_cons_of_mem _ hx)];unfold zq;simp[hc]
  ·have hb:(k == NameKind.free)=false:=by simpa using hk
   simp only[hb,Bool.false_eq_true,if_false,pure_bind];rw[hr _ λx hx=>h x (List.mem_cons_of_mem _ hx)];unfold zq;rw[List.foldl_cons];simp only[hb,Bool.false_eq_true,if_false]
theorem qgS{env:Env}{scope:Scope}(h:∀x∈scope.names,x.2=.free->∃c,env.cells.lookup x.1=some c):closureFor scope env=pure (zq env scope.names []):=by
 unfold closureFor
 have:=qgR scope.names [] h
 simp only[bind_pure_comp] at this;simp only[bind_pure_comp,id_map',this];rfl
theorem qdP{env:Env}:∀(ns:List (Str×NameKind)) (acc:List (Str×Addr)),(∀x∈ns,x.2=.free->∃c,env.cells.lookup x.1=some c)->(∀x c,acc.lookup x=some c->env.cells.lookup x=some c)->
  ∀x c,(zq env ns acc).lookup x=some c->env.cells.lookup x=some c
 |[],_,_,h=>h
 | (n,k)::r,acc,hf,h=>by
  have ih:=qdP (env:=env) r (if k == .free then (n,(env.cells.lookup n).getD 0)::acc else acc) (λx hx=>hf x (List.mem_cons_of_mem _ hx)) (λx c e=>by
   by_cases hk:k=.free
   ·subst hk;simp only[beq_self_eq_true,if_true] at e;obtain⟨c',hc⟩:=hf (n,.free) List.mem_cons_self rfl;rw[List.lookup_cons] at e
    by_cases hx:x=n
    ·subst hx;simp[hc] at e;rw[hc,e]
    ·rw[show(x == n)=false by simpa using hx] at e;exact h x c e
   ·rw[show(k == NameKind.free)=false by simpa using hk] at e;exact h x c e)
  exact ih
theorem y0{env:Env}{ns:List (Str×NameKind)}(h:∀x∈ns,x.2=.free->∃c,env.cells.lookup x.1=some c):∀x c,(zq env ns []).lookup x=some c->env.cells.lookup x=some c:=qdP ns [] h λ_ _ e=>by cases e
theorem Q0{env:Env}:∀(ns:List (Str×NameKind)) (acc:List (Str×Addr)) (x:Str) (c:Addr),acc.lookup x=some c->∃c,(zq env ns acc).lookup x=some c
 |[],_,_,c,h=>⟨c,h⟩
 | (n,k)::r,acc,x,c,h=>by
  show∃c,(zq env r (if k == .free then (n,(env.cells.lookup n).getD 0)::acc else acc)).lookup x=some c
  by_cases hk:k=.free
  ·subst hk;simp only[beq_self_eq_true,if_true]
   by_cases hx:x=n
   ·subst hx;exact Q0 r _ x ((env.cells.lookup x).getD 0) (by rw[List.lookup_cons];simp)
   ·exact Q0 r _ x c (by rw[List.lookup_cons,show(x == n)=false by simpa using hx];exact h)
  ·rw[show(k == NameKind.free)=false by simpa using hk];exact Q0 r _ x c h
theorem qba{env:Env}:∀(ns:List (Str×NameKind)) (acc:List (Str×Addr)) (x:Str),(x,NameKind.free)∈ns->∃c,(zq env ns acc).lookup x=some c
 | (n,k)::r,acc,x,h=>by
  show∃c,(zq env r (if k == .free then (n,(env.cells.lookup n).getD 0)::acc else acc)).lookup x=some c;rcases List.mem_cons.mp h with e | h
  ·injection e with e1 e2;subst e1 e2;simp only[beq_self_eq_true,if_true];exact Q0 r _ x ((env.cells.lookup x).getD 0) (by rw[List.lookup_cons];simp)
  ·exact qba r _ x h
theorem Yb{env:Env}:∀{names:List (Str×NameKind)} {x:Str},names.lookup x=some .free->
  (names.map λ(n,k)=>if (k == NameKind.free&&env.scope.kind == .function&&env.kindOf n == some .cell) then (n,NameKind.cell) else (n,k)).lookup x=some .cell\/
  (names.map λ(n,k)=>if (k == NameKind.free&&env.scope.kind == .function&&env.kindOf n == some .cell) then (n,NameKind.cell) else (n,k)).lookup x=some .free
 |[],_,h=>by simp at h
 | (n,k)::r,x,h=>by
  simp only[List.map_cons]
  by_cases hx:x=n
  ·subst hx;simp[List.lookup_cons] at h;subst h
   by_cases hc:(NameKind.free == NameKind.free&&env.scope.kind == .function&&env.kindOf x == some .cell)=true
   ·rw[if_pos hc];left;simp[List.lookup_cons]
   ·rw[if_neg hc];right;simp[List.lookup_cons]
  ·have hb:(x == n)=false:=by simpa using hx
   rw[List.lookup_cons,hb] at h;have ih:=Yb (env:=env) h
   by_cases hc:(k == NameKind.free&&env.scope.kind == .function&&env.kindOf n == some .cell)=true
   ·rw[if_pos hc];simp only[List.lookup_cons,hb];exact ih
   ·rw[if_neg hc];simp only[List.lookup_cons,hb];exact ih
theorem qdQ{env:Env}:∀{names:List (Str×NameKind)} {x:Str} {k':NameKind},(names.map λ(n,k)=>if (k == NameKind.free&&env.scope.kind == .function&&env.kindOf n == some .cell) then (n,NameKind.cell) else (n,k)).lookup x=some k'->
  k'=.cell\/k'=.free->(x,NameKind.free)∈names\/(x,NameKind.cell)∈names
 |[],_,_,h,_=>by simp at h
 | (n,k)::r,x,k',h,hk=>by
  simp only[List.map_cons] at h
  by_cases hx:x=n
  ·subst hx
   by_cases hc:(k == NameKind.free&&env.scope.kind == .function&&env.kindOf x == some .cell)=true
   ·have:k=.free:=by simp at hc;exact hc.1.1
    subst this;exact .inl List.mem_cons_self
   ·rw[if_neg hc] at h;simp[List.lookup_cons] at h;subst h;rcases hk with rfl | rfl
    ·exact .inr List.mem_cons_self
    ·exact .inl List.mem_cons_self
  ·have hb:(x == n)=false:=by simpa using hx
   have ih:=qdQ (env:=env) (names:=r) (x:=x) (k':=k') (by
    by_cases hc:(k == NameKind.free&&env.scope.kind == .function&&env.kindOf n == some .cell)=true
    ·rw[if_pos hc] at h;simp only[List.lookup_cons,hb] at h;exact h
    ·rw[if_neg hc] at h;simp only[List.lookup_cons,hb] at h;exact h) hk
   exact ih.imp (List.mem_cons_of_mem _) (List.mem_cons_of_mem _)
noncomputable def blk(X:Cx)(N:List Str)(scope:Scope)(cl:List (Str×Addr))(C:Addr)(fp:List Addr)(s2:Shared)(H2:Hp):Cx:=
 { X with N:=N,s₀:=s2,Hv:=H2,env:=compEnvC scope cl C X.env,outer:=X.stack,stack:=X.stack,ex:=fp,fn:=λ_=>false,pn:=[],xe:=λ_ _=>False }
structure BlkScope(X:Cx)(own:List Str)(fr:List Nat)(scope:Scope):Prop where
 kind:scope.kind=.function
 nocell:∀x∈scope.names,x.2≠.cell
 names:∀x∈scope.names,x.2=.local->scope.names.lookup x.1=some .local
 free:∀x∈scope.names,x.2=.free->X.env.kindOf x.1=some .cell\/X.env.kindOf x.1=some .free
 look:∀i∈fr,scope.names.lookup (X.N.getD i "")=some .free
def JP(X:Cx)(own:List Str)(fr:List Nat):List Str:=own++fr.map λi=>X.N.getD i ""
def Qc(own:List Str)(fr:List Nat)(σ:St):St:=(own.map λ_=>none)++fr.map λi=>(σ[i]?).join
section
variable{X:Cx}{pins:PP}{σ:St}{H:Hp}{s:Shared}{own:List Str}{fr:List Nat}{scope:Scope}
abbrev qdh(its:List Value)(n:Nat):Obj:={ cls:=.type "list",data:=.seq its.toArray n }
theorem qkc{C:Addr}{fp:List Addr}(B:BlkScope X own fr scope)(I:Inv X pins σ H s)(hf:∀b∈fp,qcC X pins H b)(hfo:∀b∈fp,b < s.heap.objs.size)(hC:s.heap.objs.size<=C) :
  (blk X (JP X own fr) scope (zq X.env scope.names []) C fp s H).Ok where
 mod:=I.ok.mod
 kind:=B.kind
 glob:=I.ok.glob
 blt:=I.ok.blt
 above:=hC
 inj:=λx y c h1 h2=>I.ok.inj x y c (y0 (λz hz e=>I.ok.has _ (B.free z hz e)) x c h1) (y0 (λz hz e=>I.ok.has _ (B.free z hz e)) y c h2)
 has:=λx h=>by
  have h':(x,NameKind.free)∈scope.names\/(x,NameKind.cell)∈scope.names:=by
   rcases h with h | h
   ·exact qdQ (env:=X.env) h (.inl rfl)
   ·exact qdQ (env:=X.env) h (.inr rfl)
  rcases h' with h' | h'
  ·exact qba _ _ _ h'
  ·exact absurd rfl (B.nocell _ h')
 cab:=λx c h=>nomatch h
 hd:=I.ok.hd
 frames:=I.ok.frames
 stk:=.inl rfl
 exf:=λb hb=>⟨Nat.ne_of_lt (Nat.lt_of_lt_of_le (hfo b hb) hC),λx c e=>(hf b hb).2.2.2.2.1 x c (y0 (λz hz e=>I.ok.has _ (B.free z hz e)) x c e)⟩
 bs:=I.bs
 bsz:=Nat.le_trans I.ok.bsz I.sz
 noex:=λb o e hb=>by
  rcases (hf b hb).2.2.2.1 with z | z
  ·exact I.ok.noex b o e z
  ·exact absurd (Nat.lt_of_lt_of_le (Heap.lt_size (I.ok.bs b o e).1) z) (Nat.lt_irrefl _)
 exfs:=λb hb z=>by
  rcases List.mem_cons.mp (I.stkSub b z) with e | e
  ·exact(hf b hb).2.1 e
  ·exact(hf b hb).2.2.1 e
 funs:=I.stack
 frf:=I.stkFree
theorem qdR{C D:Addr}{fp:List Addr}{h4:Heap}{tk:Nat}{n:Nat}(B:BlkScope X own fr scope)(I:Inv X pins σ H s)(hf:∀b∈fp,qcC X pins H b)(hfo:∀b∈fp,b < s.heap.objs.size)(hC:s.heap.objs.size<=C)(hD:s.heap.objs.size<=D)(hDC:D≠C)
  (k:∀b o,s.heap.get? b=some o->h4.get? b=some o) (hn:h4.Ns C λ_=>none) (hl:h4.get? D=some (qdh [] n)) :
  Inv (blk X (JP X own fr) scope (zq X.env scope.names []) C fp s H) [(D,qdh [] n)] (Qc own fr σ) H { s with heap:=h4,toks:=tk }:=by
 have sub:=y0 (env:=X.env) (ns:=scope.names) (λz hz e=>I.ok.has _ (B.free z hz e));refine⟨qkc B I hf hfo hC,rfl,I.bare,Un.kept k,⟨_,hn,λi x v h1 h2 h3=>?_⟩,λx c e=>?_,I.hok.fresh hC,λx c e=>I.freeC x c (sub x c e),λp hp=>?_,I.hok.kept k,?_⟩
 ·have h1:(JP X own fr)[i]?=some x:=h1;unfold JP at h1;unfold Qc at h2
  by_cases hi:i < own.length
  ·rw[List.getElem?_append_left (by simpa using hi),List.getElem?_map] at h2
   cases q:own[i]? with
   |none=>rw[q] at h2;cases h2
   |some a=>rw[q] at h2;cases h2
  ·rw[List.getElem?_append_right (by simpa using hi),List.getElem?_map] at h2;rw[List.getElem?_append_right (by simpa using hi),List.getElem?_map] at h1;rw[List.length_map] at h2
   cases q:fr[i - own.length]? with
   |none=>rw[q] at h2;cases h2
   |some j=>
    rw[q] at h1 h2;have h1:X.N.getD j "" = x:=Option.some.inj h1;have h2:(σ[j]?).join=some v:=Option.some.inj h2
    have h2':σ[j]?=some (some v):=by
     cases w:σ[j]? with
     |none=>rw[w] at h2;cases h2
     |some y=>rw[w] at h2;cases y with
      |none=>cases h2
      |some y=>cases h2;rfl
    have hjl:j < X.N.length:=by rw[<-I.len];exact(List.getElem?_eq_some_iff.mp h2').1
    have hN:X.N[j]?=some x:=by rw[<-h1,List.getElem?_eq_getElem hjl];simp[hjl]
    have hfree:scope.names.lookup x=some .free:=by rw[<-h1];exact B.look j (List.mem_of_getElem? q)
    have hk:=B.free (x,.free) (PySem.mem_of_lookup hfree) rfl;obtain⟨m,_,hloc⟩:=I.loc
    obtain⟨u,r,l⟩:=hloc j x v hN h2' (by
     rcases hk with z | z
     ·exact .inr (.inl z)
     ·exact .inr (.inr z))
    refine⟨u,r,.inr ⟨?_,?_⟩⟩
    ·exact Yb (env:=X.env) hfree
    ·rcases l with ⟨l,_⟩ | ⟨_,c,hc,o,ho,hd⟩
     ·have hk:X.env.kindOf x=some .cell\/X.env.kindOf x=some .free:=hk;rw[l] at hk;rcases hk with z | z<;>cases z
     ·obtain⟨c',hc'⟩:=qba (env:=X.env) scope.names [] x (PySem.mem_of_lookup hfree)
      have:=sub x c' hc'
      rw[hc] at this;cases this;exact⟨c,hc',o,k _ _ ho,hd⟩
 ·obtain⟨v,o,ho,hd⟩:=I.cell x c (sub x c e);exact⟨v,o,k _ _ ho,hd⟩
 ·have hp:p∈[(D,qdh [] n)]:=by simpa [blk] using hp
  obtain rfl:=List.mem_singleton.mp hp;refine⟨hl,I.hok.fresh hD,hDC,λz=>?_,λv e=>by cases e⟩;rcases List.mem_cons.mp (I.stkSub D z) with e | e
  ·exact Nat.ne_of_lt (Nat.lt_of_lt_of_le I.lt hD) e.symm
  ·exact I.nofs hD e
 ·show(Qc own fr σ).length=(JP X own fr).length;unfold Qc JP;simp
end
end L2
namespace L2
open PySem PySem.Spec PyProof.Rows
noncomputable def PIf(X:Cx)(ifs:List Expr)(t:TT):Prop:=
 ∀(pins:PP) (s:Shared) (σ:St) (H:Hp) (Q:Bool->Hp->Prop),Inv X pins σ H s->t σ H Q->
  wpAny (model X.prog X.w) X.A (forIn ifs true λc r=>if r=true then do let ok<-isTrue c X.env (eval c X.env);pure (ForInStep.yield ok) else pure (ForInStep.yield r)) (TP X pins σ Q) X.xe s
def qot:TT:=λ_ H Q=>Q true H
section
variable{X:Cx}{pins:PP}{σ:St}{H:Hp}{s:Shared}{own:List Str}{fr:List Nat}{scope:Scope}
theorem qh4:PIf X [] qot:=λ_ _ _ H _ I h=>wpAny_tests_nil ⟨H,I,h⟩
theorem qh5{c:Expr}{t:TT}(h:PT X c t):PIf X [c] t:=λpins s σ H Q I hw=>wpAny_tests_one (h pins s σ H Q I hw)
noncomputable def qae(J:It)(g:TG)(tc:TT)(te:TE)(fin:List V->Hp->Prop)(W:Nat->Nat->List V->St->Hp->Prop):Prop:=
 ∀i m ys σ' H',W i m ys σ' H'->(J.stop i H'/\fin ys H')\/
  (J.go i H'/\ys.length < sizeLine/\∃N:List V->St->Hp->Prop,(∀ys' σ2 H2,N ys' σ2 H2->∃m',m' < m/\W (i+1) m' ys' σ2 H2)/\
   ∀x H2,J.yld i H' x H2->g x σ' H2 λσ2 H3=>tc σ2 H3 λb H4=>if b=true then te σ2 H4 λy H5=>N (ys++[y]) σ2 H5 else N ys σ2 H4)
noncomputable def qh6(own:List Str)(fr:List Nat)(wi:TI)(g:TG)(tc:TT)(te:TE):TE:=λσ H Q=>wi σ H λJ H1=>∃W:Nat->Nat->List V->St->Hp->Prop,(∃m,W 0 m [] (Qc own fr σ) H1)/\qae J g tc te (λys H'=>∀l,H' l=none->Q (.ref l) (upd H' l (.lst ys))) W
theorem qh7{N:List Str}{cl:List (Str×Addr)}{C l:Addr}{fp:List Addr}{s4:Shared}{H':Hp}{σ':St}{its:List Value}{k:Nat}{ys:List V}(I:Inv X pins σ H s)(hf:∀b∈fp,qcC X pins H b)(hl:s.heap.objs.size<=l)
  (I4:Inv (blk X N scope cl C fp s H) [(l,qdh its k)] σ' H' s4) (rv:qA ys its) (hz:ys.length<=sizeLine):Inv X pins σ (upd H' l (.lst ys)) s4:=by
 have base:Un (frs X.stack) fp H H' s.heap s4.heap:=I4.base;have pin:=I4.pin (l,qdh its k) (List.mem_append_right _ List.mem_cons_self);have nl:∀b o,s.heap.get? b=some o->b≠l:=λb o e=>Nat.ne_of_lt (Nat.lt_of_lt_of_le (Heap.lt_size e) hl);have nh:∀b u,H' b=some u->b≠l:=λb u e=>qY e pin.2.1;refine I.call' (ch:=fp) I4.os ⟨base.keep,base.slot,λb o e n hx=>?_,base.there,λb xs e=>?_,λb o u e=>?_,λb ps e=>?_⟩ (λb u e=>?_) I4.bare (λb hb=>⟨(hf b hb).2.2.2.1,(hf b hb).2.1,(hf b hb).2.2.2.2.1,(hf b hb).2.2.2.2.2⟩)
 ·rw[qd (nl b o e)];exact base.free b o e n hx
 ·have:=base.tups b xs e
  rw[qd (nh b _ this)];exact this
 ·have:=base.frzs b o u e
  rw[qd (nh b _ this)];exact this
 ·obtain⟨more,this⟩:=base.tbls b ps e;exact⟨more,by rw[qd (nh b _ this)];exact this⟩
 ·by_cases hb:b=l
  ·subst hb;rw[qg] at e;cases e;exact⟨hz,its,k,rv,pin.1⟩
  ·rw[qd hb] at e;exact(I4.hok b u e).stay (λc v _ q=>q) (λc q=>by rw[qd (nh c _ q)];exact q) λc xs q=>by rw[qd (nh c _ q)];exact q
theorem qaf{elt iter tg:Expr}{ifs:List Expr}{pos:Pos}{g:TG}{tc:TT}{te:TE}{it:Addr}{fp:List Addr}{tn:Nat->Heap->Prop}{J:It}{fin:List V->Hp->Prop}{W:Nat->Nat->List V->St->Hp->Prop}{m0:Nat}
  {RR:Value->Addr->Result->Shared->Prop} {E:PQ} (hc:X.calm=true) (B:BlkScope X own fr scope)
  (hg:∀cl C fp s2 H2,PG (blk X (JP X own fr) scope cl C fp s2 H2) tg g) (ht:∀cl C fp s2 H2,PIf (blk X (JP X own fr) scope cl C fp s2 H2) ifs tc) (he:∀cl C fp s2 H2,PE (blk X (JP X own fr) scope cl C fp s2 H2) elt te)
  (I:Inv X pins σ H s) (T:Turn X.prog X.w X.K tg J fp it tn) (st0:tn 0 s.heap) (hf:∀b∈fp,qcC X pins H b) (w0:W 0 m0 [] (Qc own fr σ) H) (hW:qae J g tc te fin W)
  (post:∀(l C:Addr) (s4:Shared) (ys:List V) (H':Hp) (m:PR),s.heap.objs.size<=C->H' C=none->H' l=none->l≠C->s4.heap.Ns C m->Inv X pins σ (upd H' l (.lst ys)) s4->fin ys H'->RR (.ref l) C (.ok .next) s4) :
  wpAny (model X.prog X.w) X.A (newList []) (λacc s₃=>wpAny (model X.prog X.w) X.A (newFunctionEnv scope X.env.globals (zq X.env scope.names []) [] X.env.qual none .none (some X.env)) (λcenv s₄=>codeAny (model X.prog X.w) X.A (.compStart (.ListComp elt [⟨tg,iter,ifs,0⟩] scope pos) 0 (.ref it) acc { cenv with scope:=relabel scope X.env }) (RR acc cenv.locals) s₄) E s₃) E s:=by
 have hfo:∀b∈fp,b < s.heap.objs.size:=λb hb=>by obtain⟨o,e,_⟩:=T.obj _ _ st0 b hb;exact Heap.lt_size e
 refine wpAny_newObj_type (wpAny_newFunctionEnv B.nocell (by intro y hy;simp at hy) (λh1 hns hsb=>?_) B.kind);dsimp only at hns hsb ⊢;generalize hH2:s.heap.push { cls:=.type "list",dict:=none,data:=.seq ([]:List Value).toArray }=h2 at hns hsb ⊢;have hC:h2.objs.size=s.heap.objs.size+1:=by rw[<-hH2,Heap.size_push]
 have hDC:s.heap.objs.size≠h2.objs.size:=by rw[hC];exact Nat.ne_of_lt (Nat.lt_succ_self _)
 have hCle:s.heap.objs.size<=h2.objs.size:=by rw[hC];exact Nat.le_succ _
 have old:∀b o,s.heap.get? b=some o->h1.get? b=some o:=λb o e=>hsb.extBut b o (by rw[hC];exact Nat.ne_of_lt (Nat.lt_succ_of_lt (Heap.lt_size e))) (Heap.get?_push_of_some _ (hH2▸Heap.get?_push_of_some _ e));have hacc:h1.get? s.heap.objs.size=some (qdh [] 0):=hsb.extBut _ _ hDC (Heap.get?_push_of_some _ (hH2▸Heap.get?_push_size _ rfl));have hns':h1.Ns h2.objs.size λ_=>none:=hns;have I0:=qdR (tk:=s.toks+([]:List (Str×Value)).length) B I hf hfo hCle (Nat.le_refl _) hDC old hns' hacc;have st1:tn 0 h1:=T.keep _ _ _ st0 λb hb o e=>old b o e
 have loop:codeAny (model X.prog X.w) X.A (.compLoop (.ListComp elt [⟨tg,iter,ifs,0⟩] scope pos) 0 (.ref it) (.ref s.heap.objs.size) (compEnvC scope (zq X.env scope.names []) h2.objs.size X.env))
   (RR (.ref s.heap.objs.size) h2.objs.size) { s with heap:=h1,toks:=s.toks+([]:List (Str×Value)).length }:=by
  generalize hl:s.heap.objs.size=l at *;generalize hCC:h2.objs.size=C at *
  have stat:∀{H':Hp} {o:Obj},(∀b∈fp,H' b=none)->∀b∈fp,qcC (blk X (JP X own fr) scope (zq X.env scope.names []) C fp s H) [(l,o)] H' b:=λ{H' o} hn b hb=>by
   refine⟨hn b hb,λe=>?_,λz=>?_,.inl hb,λx c e z=>?_,λp hp z=>?_⟩
   ·exact Nat.ne_of_lt (Nat.lt_of_lt_of_le (hfo b hb) hCle) e
   ·rcases List.mem_cons.mp (I.stkSub b z) with e | e
    ·exact(hf b hb).2.1 e
    ·exact(hf b hb).2.2.1 e
   ·exact(hf b hb).2.2.2.2.1 x c (y0 (λz hz e=>I.ok.has _ (B.free z hz e)) x c e) z
   ·have hp:p∈[(l,o)]:=by simpa [blk] using hp
    obtain rfl:=List.mem_singleton.mp hp;exact Nat.ne_of_lt (hfo b hb) z.symm
  refine codeAny_loop rfl (λn s'=>∃i ys σ' H' its k,Inv (blk X (JP X own fr) scope (zq X.env scope.names []) C fp s H) [(l,qdh its k)] σ' H' s'/\qA ys its/\ys.length<=sizeLine/\tn i s'.heap/\(∀b∈fp,H' b=none)/\W i n ys σ' H')
   (λn s3 hI=>?_) m0 ⟨0,[],Qc own fr σ,H,[],0,I0,.nil,Nat.zero_le _,st1,λb hb=>(hf b hb).1,w0⟩
  show wpAny _ X.A ((compTurn (.ListComp elt [⟨tg,iter,ifs,0⟩] scope pos) 0 (.ref it) (.ref l) (compEnvC scope (zq X.env scope.names []) C X.env)).onRaise (λx=>do noteFrame x (compEnvC scope (zq X.env scope.names []) C X.env);theTreesLotGoes x)) _ _ s3;refine wpAny_noted ?_;rw[compTurn_list];obtain⟨i,ys,σ3,H3,its,k,I3,rv,hz,st3,fr3,w3⟩:=hI;refine wpAny_bind (wpAny_standAt (wpAny_bind ?_));rcases hW i n ys σ3 H3 w3 with ⟨stop,qn⟩ | ⟨go,hlt,N,hN,step⟩
  ·refine thn (T.done (blk X (JP X own fr) scope (zq X.env scope.names []) C fp s H) rfl rfl rfl hc i _ s3 σ3 H3 _ I3 (stat fr3) st3 stop) λr s4 hq1=>?_;obtain⟨hr,I4⟩:=hq1;subst hr;obtain⟨m,hm,_⟩:=I4.loc;exact wpAny_pure (post l C s4 ys H3 m hCle I4.free (I4.pin (l,qdh its k) (List.mem_append_right _ List.mem_cons_self)).2.1 hDC hm (qh7 I hf (Nat.le_of_eq hl) I4 rv hz) qn)
  ·refine thn (T.item (blk X (JP X own fr) scope (zq X.env scope.names []) C fp s H) rfl rfl rfl hc i _ s3 σ3 H3 _ I3 (stat fr3) st3 go) λr s4 hq1=>?_;obtain⟨u,hr,h4⟩:=hq1;subst hr;refine wpAny_bind (thn h4 λ_ s5 hq1=>?_);obtain⟨x,H5,I5,r5,y5,st5,fr5⟩:=hq1;have I5':=I5.pinned (stat fr5) (T.obj _ _ st5);refine wpAny_bind (wpAny_mono (hg _ _ _ _ _ _ s5 σ3 H5 x u _ I5' r5 (step x H5 y5)) (λ_ s6 ⟨σ6,H6,I6,q6⟩=>?_) λ_ _ z=>z.elim);refine wpAny_bind (wpAny_mono (ht _ _ _ _ _ _ s6 σ6 H6 _ I6 q6) (λb s7 ⟨H7,I7,q7⟩=>?_) λ_ _ z=>z.elim)
   have back:∀{σ8:St} {H8:Hp} {s8:Shared},Inv (blk X (JP X own fr) scope (zq X.env scope.names []) C fp s H) ([(l,qdh its k)]++ZX fp s5.heap) σ8 H8 s8->(∀b∈fp,∀o,s5.heap.get? b=some o->s8.heap.get? b=some o)/\∀b∈fp,H8 b=none:=λI8=>by refine⟨λb hb o e=>(I8.pin (b,o) (List.mem_append_right _ (List.mem_append_right _ (yw hb e)))).1,λb hb=>?_⟩;obtain⟨o,e,_⟩:=T.obj _ _ st5 b hb;exact(I8.pin (b,o) (List.mem_append_right _ (List.mem_append_right _ (yw hb e)))).2.1
   cases b with
   |false=>obtain⟨k1,k2⟩:=back I7;simp only[Bool.false_eq_true,if_false] at q7 ⊢;obtain⟨m',hm',w7⟩:=hN _ _ _ q7;exact wpAny_pure ⟨rfl,m',hm',i+1,ys,σ6,H7,its,k,I7.unpinned,rv,hz,T.keep _ _ _ st5 k1,k2,w7⟩
   |true=>
    simp only[if_true] at q7 ⊢;refine wpAny_bind (wpAny_bind (wpAny_mono (he _ _ _ _ _ _ s7 σ6 H7 _ I7 q7) (λw s8 ⟨y,H8,I8,r8,q8⟩=>?_) λ_ _ z=>z.elim));obtain⟨k1,k2⟩:=back I8;obtain⟨m',hm',w8⟩:=hN _ _ _ q8;have pin:=I8.pin (l,qdh its k) (List.mem_append_right _ (List.mem_append_left _ List.mem_cons_self));have hil:its.length=ys.length:=rv.length.symm;refine wpAny_bind (append_at pin.1 (λh9 hs9 hD9=>?_) (by rw[List.size_toArray,hil];exact hz));have new:h9.get? l=some (qdh (its++[w]) (k+1)):=by rw[hD9,List.push_toArray]
    have Ia:Inv (blk X (JP X own fr) scope (zq X.env scope.names []) C fp s H) [] σ6 H8 s8:=I8.pins_of (λp hp=>nomatch hp)
    have Ib:Inv (blk X (JP X own fr) scope (zq X.env scope.names []) C fp s H) [] σ6 H8 { s8 with heap:=h9 }:=Ia.turned (t':=s8.toks) (λb o hb e=>hs9.extBut b o hb e) pin.2.1 pin.2.2.1 (.inr (Nat.le_of_eq hl)) (λx c e z=>by
     obtain⟨v,o,ho,hd⟩:=I8.cell x c e;rw[z,pin.1] at ho;cases ho
     cases hd) (λp hp=>by
      have hp:p∈([]:PP):=by simpa [blk] using hp
      cases hp)
    have Ic:Inv (blk X (JP X own fr) scope (zq X.env scope.names []) C fp s H) [(l,qdh (its++[w]) (k+1))] σ6 H8 { s8 with heap:=h9 }:=Ib.pins_of λp hp=>by obtain rfl:=List.mem_singleton.mp hp;exact⟨new,pin.2.1,pin.2.2.1,pin.2.2.2.1,λv e=>by cases e⟩
    refine wpAny_pure (wpAny_pure ⟨rfl,m',hm',i+1,ys++[y],σ6,H8,its++[w],k+1,Ic,rv.append %[r8|0],by rw[List.length_append];exact hlt,T.keep _ _ _ st5 λb hb o e=>?_,k2,w8⟩);exact hs9.extBut b o (Nat.ne_of_lt (hfo b hb)) (k1 b hb o e)
 exact codeAny_compStart_list loop (T.self _ 0 _ _ _ st1 loop)
theorem Inv.letgo{s2 s4:Shared}{H2 H4:Hp}{C:Addr}{h':Heap}(I2:Inv X pins σ H2 s2){σ4:St}(I4:Inv X pins σ4 H4 s4)(hC:s2.heap.objs.size<=C)(hn:H4 C=none)(hs:Heap.SameBut C s4.heap h'):Inv X pins σ4 H4 { s4 with heap:=h' }:=by obtain⟨f0,f1,_,f3,f4,f5⟩:=I2.fpOk hC hn;exact I4.turned (t':=s4.toks) (λb o hb e=>hs.extBut b o hb e) f0 f1 f3 f4 f5
theorem qh8{elt iter tg:Expr}{ifs:List Expr}{pos:Pos}{g:TG}{tc:TT}{te:TE}{wi:TI}(own:List Str)(fr:List Nat)(hc:X.calm=true)(B:BlkScope X own fr scope)(hi:PI X tg iter wi)
  (hg:∀cl C fp s2 H2,PG (blk X (JP X own fr) scope cl C fp s2 H2) tg g) (ht:∀cl C fp s2 H2,PIf (blk X (JP X own fr) scope cl C fp s2 H2) ifs tc) (he:∀cl C fp s2 H2,PE (blk X (JP X own fr) scope cl C fp s2 H2) elt te)
  (hs:∀x,foldedSetIterable iter X.env x=pure x:=by intro _;rfl):PE X (.ListComp elt [⟨tg,iter,ifs,0⟩] scope pos) (qh6 own fr wi g tc te):=by
 intro pins s σ H Q I h;rw[eval_ListComp];refine wpAny_comprehension_free (use:=none) rfl hs (qgS λz hz e=>I.ok.has _ (B.free z hz e)) B.kind B.names ?_;refine thn (hi pins s σ H _ I h) λv s1 h1=>thn h1 λitv s2 h2=>?_;obtain⟨it,fp,tn,J,H2,e,I2,T,st2,f2,W,⟨m0,w0⟩,hW⟩:=h2;subst e;refine qaf hc B hg ht he I2 T st2 f2 w0 hW λl C s4 ys H' m hC nC nl hlC hm I4 fin=>?_;exact⟨m,hm,λh' hs'=>⟨.ref l,_,I2.letgo I4 hC (by rw[qd (Ne.symm hlC)];exact nC) hs',rfl,fin l nl⟩⟩
theorem qh9{elt iter tg:Expr}{ifs:List Expr}{pos pos' cpos:Pos}{g:TG}{tc:TT}{te:TE}{wi:TI}{i:Nat}{x:Str}(own:List Str)(fr:List Nat)(hN:X.N.Nodup)(hxi:X.N[i]?=some x)(hx:X.env.scope.names.lookup x=some .local)(hc:X.calm=true)(B:BlkScope X own fr scope)(hi:PI X tg iter wi)
  (hg:∀cl C fp s2 H2,PG (blk X (JP X own fr) scope cl C fp s2 H2) tg g) (ht:∀cl C fp s2 H2,PIf (blk X (JP X own fr) scope cl C fp s2 H2) ifs tc) (he:∀cl C fp s2 H2,PE (blk X (JP X own fr) scope cl C fp s2 H2) elt te)
  (hsw:swapsWith (.ListComp elt [⟨tg,iter,ifs,0⟩] scope cpos) (some (.Name x pos')) pos.line X.env=pure true:=by rfl)
  (hs:∀x,foldedSetIterable iter X.env x=pure x:=by intro _;rfl):PS X (.Assign [.Name x pos'] (.ListComp elt [⟨tg,iter,ifs,0⟩] scope cpos) pos) (qmN (qh6 own fr wi g tc te) (qfo i)):=by
 intro pins s σ H D I h;rw[exec_Assign_Name_used _ _ _ _ hsw];refine wpAny_bind (wpAny_standAt (wpAny_bind ?_));show wpAny _ X.A (do let _<-comprehension (.ListComp elt [⟨tg,iter,ifs,0⟩] scope cpos) scope X.env _ (newList []) false (eval iter X.env) (some (assign (.Name x pos') X.env))) _ _ s;refine wpAny_bind (wpAny_mono (wpAny_comprehension_free (use:=some (assign (.Name x pos') X.env)) (Q:=λ_ s'=>SP X pins D .next s') rfl hs (qgS λz hz e=>I.ok.has _ (B.free z hz e)) B.kind B.names ?_) (λ_ s' hq=>wpAny_pure (wpAny_pure hq)) λ_ _ e=>e);refine thn (hi pins s σ H _ I h) λv s1 h1=>thn h1 λitv s2 h2=>?_;obtain⟨it,fp,tn,J,H2,e,I2,T,st2,f2,W,⟨m0,w0⟩,hW⟩:=h2;subst e;refine qaf (RR:=λacc C=>compPost (model X.prog X.w) X.A X.xe (some (assign (.Name x pos') X.env)) (λ_ s'=>SP X pins D .next s') acc C) hc B hg ht he I2 T st2 f2 w0 hW λl C s4 ys H' m hC nC nl hlC hm I4 fin=>?_;show wpAny _ X.A (assign (.Name x pos') X.env (.ref l)) _ _ s4;refine wpAny_assign_Name (ZU I4 hN hxi (.inl hx) (v:=.ref l) rfl (λs5 I5 hsb=>?_) (.inr hx));obtain⟨a,sb,ha⟩:=hsb
 have hCa:C≠a:=by
  rcases ha with rfl | ha
  ·exact Nat.ne_of_gt (Nat.lt_of_lt_of_le I2.lt hC)
  ·obtain⟨v,q⟩:=I2.cell x a ha;exact Nat.ne_of_gt (Nat.lt_of_lt_of_le q.lt hC)
 exact⟨m,hm.sameBut sb hCa,λh' hs'=>⟨_,_,I2.letgo I5 hC (by rw[qd (Ne.symm hlC)];exact nC) hs',fin l nl⟩⟩
end
end L2
namespace L2
open PySem PySem.Spec PyProof.Rows
mutual
noncomputable def DV(K:Frag)(H:Hp):PyData->V->Prop
 |.none,v=>v=.non
 |.bool b,v=>v=.bl b
 |.int i,v=>v=.int i
 |.str x,v=>v=.str x
 |.list ds,v=>∃a xs,v=.ref a/\SqL K H a xs/\DVs K H ds xs
 |.tuple ds,v=>∃a xs,v=.ref a/\SqT K H a xs/\DVs K H ds xs
 |.dict _,_=>False
noncomputable def DVs(K:Frag)(H:Hp):List PyData->List V->Prop
 |[],xs=>xs=[]
 | d::ds,xs=>∃x r,xs=x::r/\DV K H d x/\DVs K H ds r
end
section
variable{X:Cx}{pins:PP}{σ:St}{H:Hp}{s:Shared}
mutual
theorem DV.reads(I:Inv X pins σ H s):∀{d:PyData} {v:V} {u:Value},DV X.K H d v->qM v u->∃as,Reads s.heap u d as
 |.none,v,u,h,r=>by
  have h:v=.non:=by simpa [DV] using h
  subst h;cases r;exact⟨_,Reads.none⟩
 |.bool b,v,u,h,r=>by
  have h:v=.bl b:=by simpa [DV] using h
  subst h;cases r;exact⟨_,Reads.bool b⟩
 |.int i,v,u,h,r=>by
  have h:v=.int i:=by simpa [DV] using h
  subst h;obtain⟨t,rfl⟩:=r;exact⟨_,Reads.int i t⟩
 |.str x,v,u,h,r=>by
  have h:v=.str x:=by simpa [DV] using h
  subst h;obtain⟨t,rfl⟩:=r;exact⟨_,Reads.str x t⟩
 |.list ds,v,u,h,r=>by
  have h:∃a xs,v=.ref a/\SqL X.K H a xs/\DVs X.K H ds xs:=by simpa [DV] using h
  obtain⟨a,xs,rfl,hq,hd⟩:=h;cases r;obtain⟨its,rv,pl,_⟩:=I.list hq;obtain⟨as,ra⟩:=DVs.reads I hd rv;obtain⟨o,ho,hc,n,hdd⟩:=pl.isList;exact⟨_,reads_list_at ho hc hdd (by simpa using ra)⟩
 |.tuple ds,v,u,h,r=>by
  have h:∃a xs,v=.ref a/\SqT X.K H a xs/\DVs X.K H ds xs:=by simpa [DV] using h
  obtain⟨a,xs,rfl,hq,hd⟩:=h;cases r;obtain⟨its,rv,pl,_⟩:=I.tuple hq;obtain⟨as,ra⟩:=DVs.reads I hd rv;obtain⟨o,ho,hc,n,hdd⟩:=pl;exact⟨_,reads_tuple_at ho hc hdd (by simpa using ra)⟩
 |.dict _,v,u,h,r=>by simp[DV] at h
theorem DVs.reads(I:Inv X pins σ H s):∀{ds:List PyData} {vs:List V} {us:List Value},DVs X.K H ds vs->qA vs us->∃as,ReadsAll s.heap us ds as
 |[],vs,us,h,r=>by
  have h:vs=[]:=by simpa [DVs] using h
  subst h;cases r;exact⟨_,ReadsAll.nil⟩
 | d::ds,vs,us,h,r=>by
  have h:∃x r,vs=x::r/\DV X.K H d x/\DVs X.K H ds r:=by simpa [DVs] using h
  obtain⟨x,rr,rfl,h1,h2⟩:=h
  cases r with
  |cons r1 r2=>obtain⟨as,ra⟩:=DV.reads I h1 r1;obtain⟨bs,rb⟩:=DVs.reads I h2 r2;exact⟨_,ReadsAll.cons ra rb⟩
end
noncomputable def qou(K:Frag):R2:=λx y H Q=>∃d e,DV K H d x/\DV K H e y/\SeqAt.shaped d=true/\SeqAt.shaped e=true/\Q (.bl (PyData.eqv d e)) H
noncomputable def qov(K:Frag):R2:=λx y H Q=>∃d e,DV K H d x/\DV K H e y/\SeqAt.shaped d=true/\SeqAt.shaped e=true/\Q (.bl (!PyData.eqv d e)) H
theorem qkd(hu:X.A.units+64 < cLine):OpR X (compareOp .Eq) (qou X.K):=by intro pins s σ H x y v u Q I rx ry h;obtain⟨d,e,hd,he,sd,se,q⟩:=h;obtain⟨as,ra⟩:=DV.reads I hd rx;obtain⟨bs,rb⟩:=DV.reads I he ry;exact eq_dataH ra rb sd se hu ⟨.bl _,H,I,rfl,q⟩
theorem qke(hu:X.A.units+64 < cLine):OpR X (compareOp .NotEq) (qov X.K):=by intro pins s σ H x y v u Q I rx ry h;obtain⟨d,e,hd,he,sd,se,q⟩:=h;obtain⟨as,ra⟩:=DV.reads I hd rx;obtain⟨bs,rb⟩:=DV.reads I he ry;exact ne_dataH ra rb sd se hu ⟨.bl _,H,I,rfl,q⟩
theorem qfE:zV X (.builtin "isinstance") (λvs H Q=>∃x n t b,vs=[x,.ty n]/\TyOf X.K H x t/\PySem.W.kitOne X.K t (.type n)=some b/\Q (.bl b) H):=by intro pins s σ H xs us Q I r h;obtain⟨x,n,t,b,rfl,ty,e,q⟩:=h;obtain⟨u,w,rfl,rx,rn⟩:=qa5 r;cases rn;exact Z1 I rx ty e λtk=>⟨.bl b,H,I.tok tk,rfl,q⟩
noncomputable def qow(te:TE)(tl th:TO)(ts:TE)(K:Frag):TE:=λσ H Q=>te σ H λx H1=>tl σ H1 λl H2=>th σ H2 λu H3=>ts σ H3 λz H4=>∃a xs st ys,x=.ref a/\SqL K H4 a xs/\z=.int st/\st≠0/\ys.length<=xs.length/\(∀its:List Value,qA xs its->qA ys (slicePick its.toArray l u (some st)).toList)/\∀p,H4 p=none->Q (.ref p) (upd H4 p (.lst ys))
theorem qdS{e st:Expr}{te ts:TE}{lo hi:Option Expr}{tl th:TO}{pos p2:Pos}(he:PE X e te)(hl:PO X lo tl)(hu:PO X hi th)(hst:PE X st ts):PE X (.Subscript e (.Slice lo hi (some st) p2) pos) (qow te tl th ts X.K):=by intro pins s σ H Q I h;refine Subscript_ (thn (he pins s σ H _ I h) λv s1 hq1=>?_);obtain⟨x,H1,I1,r1,q1⟩:=hq1;refine wpAny_Slice (thn (hl pins s1 σ H1 _ I1 q1) λvl s2 ⟨l,H2,I2,pl,q2⟩=>thn (hu pins s2 σ H2 _ I2 q2) λvu s3 hq1=>?_);obtain⟨u,H3,I3,pu,q3⟩:=hq1;rw[evalPart_some];refine thn (hst pins s3 σ H3 _ I3 q3) λvs s4 hq1=>?_;obtain⟨z,H4,I4,r4,q4⟩:=hq1;obtain⟨a,xs,k,ys,rfl,hq,rfl,h0,hle,hys,q⟩:=q4;cases r1;obtain⟨t,rfl⟩:=r4;have I5:Inv X pins σ H4 { s4 with heap:=s4.heap.push { cls:=.type "slice",data:=.fields #[vl,vu,.int k t] } }:=I4.kept (t':=s4.toks) λb ob q=>Heap.get?_push_of_some _ q;obtain⟨its,rv,ht,hz⟩:=I5.list hq;have hlen:=rv.length;show wpAny (model X.prog X.w) X.A (subscriptTail e (.Slice lo hi (some st) p2) (.ref a) (.ref s4.heap.objs.size)) (EP X pins σ Q) X.xe { s4 with heap:=s4.heap.push { cls:=.type "slice",data:=.fields #[vl,vu,.int k t] } };refine tail_any ht.isList.typeIs slot_list_getitem.lookup ?_ rfl;refine wpAny_getItem_list_slice ht.isList (Heap.IsSliceOf.new ..) pl pu (.int k t) (λe=>h0 (Option.some.inj e)) ?_ (by rw[List.size_toArray];omega);have hv:=hys its rv;generalize hP:slicePick its.toArray l u (some k)=P at hv ⊢;refine⟨.ref _,_,I5.laid (t':=s4.toks) (o:=.lst ys) (λb ob q=>Heap.get?_push_of_some _ q) (Nat.le_refl _) ?_,rfl,q _ (I5.hok.fresh (Nat.le_refl _))⟩;exact⟨by omega,P.toList,0,hv,by rw[Array.toArray_toList];exact Heap.get?_push_size _ rfl⟩
theorem qfF{xs:List V}:∀its:List Value,qA xs its->qA xs.reverse (slicePick its.toArray none none (some (-1))).toList:=λits r=>by rw[PySem.W.krv_pick];exact r.reverse
end
end L2
set_option maxHeartbeats 4000000
namespace L2
open PySem PySem.Spec PyProof.Rows
section
variable{X:Cx}
theorem Qr:∀{ns:List Int} {its:List Value},qA (ns.map V.int) its->∃xs:List (Int×Tok),its=xs.map (λp=>Value.int p.1 p.2)/\ns=xs.map (·.1)
 |[],_,.nil=>⟨[],rfl,rfl⟩
 | n::ns,_,.cons r t=>by obtain⟨xs,rfl,rfl⟩:=Qr t;obtain⟨k,rfl⟩:=r;exact⟨(n,k)::xs,rfl,rfl⟩
theorem qdT(hc:X.calm=true):zV X (.builtin "sum") (λvs H Q=>∃(p:Addr) (ns:List Int),vs=[.ref p]/\SqL X.K H p (ns.map V.int)/\Q (.int ns.sum) H):=by
 intro pins s σ H xs us Q I r h;obtain⟨p,ns,rfl,hq,q⟩:=h;obtain⟨u,rfl,rx⟩:=Yk r;cases rx;obtain⟨its,rv,pl,hz⟩:=I.list hq;obtain⟨zs,rfl,rfl⟩:=Qr rv
 have hl:s.heap.IsList p (intItems zs.toArray):=by
  have e:(zs.map λp=>Value.int p.1 p.2).toArray=intItems zs.toArray:=by simp[intItems]
  rw[<-e];exact pl.isList
 refine sum_intListG (I.ok.hd hc) hl λh' tk t' hk=>?_;refine⟨.int _,H,I.kept (t':=tk) hk,⟨t',?_⟩,q⟩;rw[preSum_eq,List.take_of_length_le (by simp)]
end
end L2
namespace L2
open PySem PySem.Spec PyProof.Rows
section
variable{κ:Type}[DecidableEq κ]
def qdU(kvs:List (κ×V))(k:κ):Option V:=(kvs.find? λkv=>decide (kv.1=k)).map (·.2)
theorem Q1{p:κ×V}{r:List (κ×V)}{k:κ}(e:p.1=k):qdU (p::r) k=some p.2:=by simp[qdU,List.find?_cons,e]
theorem Q2{p:κ×V}{r:List (κ×V)}{k:κ}(e:¬ p.1=k):qdU (p::r) k=qdU r k:=by simp[qdU,List.find?_cons,e]
theorem qbE.getD{o:Option V}{u:Option Value}{d:V}{d':Value}(r:qbE o u)(rd:qM d d'):qM (o.getD d) (u.getD d'):=by
 cases o with
 |none=>cases u with
  |none=>exact rd
  |some _=>exact(show False from r).elim
 |some _=>cases u with
  |none=>exact(show False from r).elim
  |some _=>exact r
theorem KV.val{kvs:List (κ×V)}{vs:List (κ×Value)}(r:KV kvs vs)(k:κ):qbE (qdU kvs k) (valueAt vs k):=by
 unfold KV at r
 induction r with
 |nil=>exact True.intro
 |@cons p q ps qs h t ih=>
  obtain⟨h1,h2⟩:=h
  by_cases e:p.1=k
  ·have e':q.1=k:=h1.symm.trans e;have b:valueAt (q::qs) k=some q.2:=by simp[valueAt,List.find?_cons,e']
   rw[Q1 e,b];exact h2
  ·have e':¬ q.1=k:=λz=>e (h1.trans z);have b:valueAt (q::qs) k=valueAt qs k:=by simp[valueAt,List.find?_cons,e']
   rw[Q2 e,b];exact ih
theorem KV.keys{kvs:List (κ×V)}{vs:List (κ×Value)}(r:KV kvs vs):kvs.map (·.1)=vs.map (·.1):=by
 unfold KV at r
 induction r with
 |nil=>rfl
 |cons h t ih=>rw[List.map_cons,List.map_cons,ih,h.1]
theorem KV.length{kvs:List (κ×V)}{vs:List (κ×Value)}(r:KV kvs vs):kvs.length=vs.length:=Paired.length r
end
theorem qia{P:Program}{w:World}{k:Key}{u:Value}(r:qM (kV k) u):(qx P w).is k u=true:=by
 cases k with
 |inl i=>obtain⟨t,e⟩:=(show∃t,u=Value.int i t from r);subst e;exact qa3 P w i t
 |inr x=>obtain⟨t,e⟩:=(show∃t,u=Value.str x t from r);subst e;exact qa4 P w x t
theorem qag{P:Program}{w:World}:∀{ks:List Key} {us:List Value},qA (ks.map kV) us->ItemsAre (qx P w) ks us
 |[],_,r=>by rw[List.map_nil] at r;cases r;exact .nil
 | k::ks,_,r=>by
  rw[List.map_cons] at r
  cases r with
  |cons h t=>exact .cons (qia h) (qag t)
noncomputable abbrev KT(H:Hp):List (List Key×V)->List (List Key×Addr×Value)->Prop:=Paired λp q=>p.1=q.1/\H q.2.1=some (.tup (p.1.map kV))/\qM p.2 q.2.2
theorem KT.val{H:Hp}{kvs:List (List Key×V)}{xs:List (List Key×Addr×Value)}(r:KT H kvs xs)(k:List Key):qbE (qdU kvs k) ((atKey xs k).map (·.2)):=by
 induction r with
 |nil=>exact True.intro
 |@cons p q ps qs h t ih=>
  obtain⟨h1,_,h2⟩:=h
  by_cases e:p.1=k
  ·have e':q.1=k:=h1.symm.trans e;have b:atKey (q::qs) k=some q.2:=by simp[atKey,List.find?_cons,e']
   rw[Q1 e,b];exact h2
  ·have e':¬ q.1=k:=λz=>e (h1.trans z);have b:atKey (q::qs) k=atKey qs k:=by simp[atKey,List.find?_cons,e']
   rw[Q2 e,b];exact ih
section
variable{P:Program}{w:World}{H:Hp}{h:Heap}{a:Addr}
theorem qkf{u:HO}(ok:HOk P w H h)(e:Rd H a u):qU P w H h a u:=e.ok ok
theorem qkg{kvs:List (Key×V)}(ok:HOk P w H h)(e:Rd H a (.dK kvs)):kvs.length<=sizeLine/\(a == sysModules)=false/\∃vs,KV kvs vs/\h.DictOf (qx P w) a vs:=
 show qU P w H h a (.dK kvs) from qkf ok e
theorem qgT{ks:List Key}(ok:HOk P w H h)(e:H a=some (.tup (ks.map kV))):(tupleKind (qx P w)).is h ks a:=by obtain⟨_,its,r,o,h1,h2,n,h3⟩:=(show qU P w H h a (.tup (ks.map kV)) from ok a _ e);exact⟨o,its.toArray,n,h1,h2,h3,by simpa using qag r⟩
theorem qkh{kvs:List (List Key×V)}(ok:HOk P w H h)(e:Rd H a (.dT kvs)):kvs.length<=sizeLine/\(a == sysModules)=false/\
  ∃xs,KT H kvs xs/\h.DictOfH (tupleKind (qx P w)) a xs:=by
 obtain⟨z,y,xs,r,o,es,ep,h1,h2,h3,h4,h5⟩:=(show qU P w H h a (.dT kvs) from qkf ok e);refine⟨z,y,xs,r,o,es,ep,h1,h2,h3,h4,λx hx=>?_,h5⟩
 have all:∀{l:List (List Key×V)} {m:List (List Key×Addr×Value)},KT H l m->∀x∈m,(tupleKind (qx P w)).is h x.1 x.2.1:=by
  intro l m q
  induction q with
  |nil=>intro x hx;exact nomatch hx
  |@cons p q ps qs hq t ih=>
   intro x hx;rcases List.mem_cons.mp hx with e | hx
   ·subst e;exact qgT ok (by rw[<-hq.1];exact hq.2.1)
   ·exact ih x hx
 exact all r x hx
end
noncomputable def qki(H:Hp)(a:Addr)(y:V)(r:Option V):Prop:=
 (∃kvs k,Rd H a (.dK kvs)/\y=kV k/\r=qdU kvs k)\/∃kvs k b,Rd H a (.dT kvs)/\y=.ref b/\H b=some (.tup (k.map kV))/\r=qdU kvs k
theorem qki.k{H:Hp}{a:Addr}{kvs:List (Key×V)}{k:Key}(e:H a=some (.dK kvs)):qki H a (kV k) (qdU kvs k):=.inl ⟨kvs,k,.inl e,rfl,rfl⟩
section
variable{X:Cx}{pins:PP}{σ:St}{H:Hp}{s:Shared}{a:Addr}{y v:V}{u r:Value}{o:Option V}{A:Around}{E:PQ}
theorem Inv.big(I:Inv X pins σ H s):sysModules < s.heap.objs.size:=by have h:mainGlobals < s.heap.objs.size:=(I.mod.glob.keeps I.bk).lt;exact Nat.lt_trans (2:) h
theorem qkj{P:Program}{w:World}{H':Hp}{h':Heap}{kvs:List (Key×V)}{vs:List (Key×Value)}(z:kvs.length<=sizeLine)(hd:(a == sysModules)=false)(rel:KV kvs vs)(dd:h'.DictOf (qx P w) a vs) :
  qU P w H' h' a (.dK kvs):=⟨z,hd,vs,rel,dd⟩
end
structure M2(X:Cx)(o:Expr)(m:Str)(apos:Pos)(e f:Expr)(cpos:Pos):Prop where
 base:attributeBase o m X.env (eval o X.env)=eval o X.env
 few:((backTo cpos (starEach [e,f] X.env)).all (λx=>!x.1)&&(backToKw cpos (keywordEach [] X.env)).all (λx=>x.1.isSome)
  && decide (([e,f]:List Expr).length+([]:List Keyword).length+(if ([]:List Keyword).isEmpty then 0 else 1) < 30))=true
 line:(apos.endLine == cpos.line)=true
 trees:backTo cpos (starEach [e,f] X.env)=[(false,eval e X.env),(false,eval f X.env)]
def IsD(H:Hp)(a:Addr):Prop:=(∃kvs,Rd H a (.dK kvs))\/∃kvs,Rd H a (.dT kvs)
theorem qkk{X:Cx}{pins:PP}{σ:St}{H:Hp}{s:Shared}{a:Addr}(I:Inv X pins σ H s)(d:IsD H a) :
  s.TypeIs (.ref a) "dict"/\(∀b,Value.ref a=.ref b->∃ob,s.heap.get? b=some ob/\ob.dict=none)/\(a == sysModules)=false:=by
 rcases d with ⟨kvs,e⟩ | ⟨kvs,e⟩
 ·obtain⟨_,hd,vs,_,dd⟩:=qkg I.hok e;refine⟨dd.typeIs,λb q=>?_,hd⟩;cases q;obtain⟨ob,_,_,h1,h2,_⟩:=dd;exact⟨ob,h1,h2.2.1⟩
 ·obtain⟨_,hd,xs,_,dd⟩:=qkh I.hok e;refine⟨dd.typeIs,λb q=>?_,hd⟩;cases q;obtain⟨ob,_,_,h1,h2,_⟩:=dd;exact⟨ob,h1,h2.2.1⟩
section
variable{X:Cx}{pins:PP}{σ:St}{H:Hp}{s:Shared}{a:Addr}{y d:V}{u r:Value}{o:Option V}{A:Around}{E:PQ}
theorem qkl{Q:PQ}(hu:A.units+1 < cLine)(I:Inv X pins σ H s)(g:qki H a y o)(ry:qM y u)(rd:qM d r)(h:∀w' s',Inv X pins σ H s'->qM (o.getD d) w'->Q w' s') :
  wpAny (model X.prog X.w) A (call (.builtin "dict.get") [.ref a,u,r]) Q E s:=by
 rcases g with ⟨kvs,k,e,ey,l⟩ | ⟨kvs,k,b,e,ey,eb,l⟩
 ·subst ey;obtain⟨z,hd,vs,rel,dd⟩:=qkg I.hok e;refine call_meetsIn PySem.F.slot_dict_get dd.typeIs PySem.F.entry_dict_get (PySem.F.args_dict_get_3 _ _ _) (meets_dict_get_default (qx X.prog X.w) a (qia ry) hd r) ⟨_,dd.mapOf,h _ _ (I.tok _) ?_⟩;rw[l];exact(rel.val k).getD rd
 ·subst ey
  cases (show u=Value.ref b from ry)
  obtain⟨z,hd,xs,rel,dd⟩:=qkh I.hok e;refine call_meetsIn PySem.F.slot_dict_get dd.typeIs PySem.F.entry_dict_get (PySem.F.args_dict_get_3 _ _ _) (meetsH_dict_get_default (tupleKind (qx X.prog X.w)) a b hd r) ⟨tupleKind_room_in1 hu,k,xs,qgT I.hok eb,dd,h _ _ (I.tok _) ?_⟩;rw[l];exact(rel.val k).getD rd
end
noncomputable def qkm(td ty tx:TE):TE:=λσ H Q=>td σ H λx H1=>∃a,x=.ref a/\IsD H1 a/\ty σ H1 λy H2=>tx σ H2 λz H3=>∃o,qki H3 a y o/\Q (o.getD z) H3
section
variable{X:Cx}{o e f:Expr}{apos cpos:Pos}{td ty tx:TE}
theorem qfG(hu:X.A.units+1 < cLine)(ho:PE X o td)(he:PE X e ty)(hf:PE X f tx)(m:M2 X o "get" apos e f cpos):PE X (.Call (.Attribute o "get" apos) [e,f] [] cpos) (qkm td ty tx):=by
 intro pins s σ H Q I h;refine wpAny_Call_method m.base m.few m.line PySem.F.plainAttrs_dict PySem.F.slot_dict_get PySem.F.type_dict_get (thn (ho pins s σ H _ I h) λu s1 hq1=>?_);obtain⟨x,H1,I1,rx,a,ex,d,q1⟩:=hq1;subst ex;obtain rfl:u=Value.ref a:=rx;obtain⟨t1,t2,_⟩:=qkk I1 d;refine⟨t1,t2,?_⟩;rw[m.trees]
 refine Calls.callWith_builtin rfl (Calls.evalArgs_plain (Calls.spliced_cons (thn (he pins s1 σ H1 _ I1 q1) λiv s2 ⟨y,H2,I2,ry,q2⟩=>Calls.spliced_cons (thn (hf pins s2 σ H2 _ I2 q2) λfv s3 ⟨z,H3,I3,rz,ov,g,q3⟩=>Calls.spliced_nil ?_))))
 exact qkl hu I3 g ry rz λw' s4 I4 rw'=>⟨_,H3,I4,rw',q3⟩
end
end L2
namespace L2
open PySem PySem.Spec PyProof.Rows
noncomputable def Yc(osc:Scope)(N:List Str)(fr:List Nat)(sc:Scope):Bool:=
 sc.kind == .function&&(sc.names.all λx=>x.2 != .cell&&(x.2 != .local||sc.names.lookup x.1 == some .local)&&(x.2 != .free||(osc.names.lookup x.1 == some .cell||osc.names.lookup x.1 == some .free)))&&fr.all λi=>sc.names.lookup (N.getD i "") == some .free
theorem qt.upd{H:Hp}{a:Addr}{o:HO}(h:H a=none):qt H (upd H a o):=λb u e=>by rw[qd (qY e h)];exact e
end L2
namespace L2
open PySem PySem.Spec PyProof.Rows PySem.W
theorem qfH{P:Program}{w:World}{H:Hp}{h:Heap}{a:Addr}{o:HO}(x:qU P w H h a o):∃ob,h.get? a=some ob:=by
 cases o with
 |lst xs=>obtain⟨z,its,n,r,e⟩:=x;exact⟨_,e⟩
 |tup xs=>obtain⟨z,its,r,ob,e,c⟩:=x;exact⟨_,e⟩
 |dK kvs=>obtain⟨z,y,vs,r,ob,es,ep,e,c⟩:=x;exact⟨_,e⟩
 |dT kvs=>obtain⟨z,y,xs,r,ob,es,ep,e,c⟩:=x;exact⟨_,e⟩
 |set S n=>obtain⟨ob,es,ep,t,e,c⟩:=x;exact⟨_,e⟩
 |ins C dx fs=>obtain⟨d,z,ne,e,_⟩:=x;exact⟨_,e⟩
 |own y=>obtain⟨ob,e⟩:=x;exact⟨_,e⟩
 |xd fs=>obtain⟨mA,⟨od,es,ep,e,c⟩,r⟩:=x;exact⟨_,e⟩
 |rng lo hi=>obtain⟨t,u,v,e⟩:=x;exact⟨_,e⟩
 |frz ob u=>obtain⟨e,q⟩:=x;exact⟨_,e⟩
 |tbl ps=>exact⟨_,x⟩
 |met f y=>exact⟨_,x⟩
 |ext φ=>obtain⟨p,⟨o,e⟩,st⟩:=x;exact⟨_,e⟩
section
variable{X:Cx}{pins:PP}{σ:St}{H:Hp}{s:Shared}
variable{x T':Addr}{oT:Option Addr}{oe:Obj}{vs:Array Value}{h':Heap}
theorem Inv.newH{x:Addr}(I:Inv X pins σ H s)(h:s.heap.get? x=none):H x=none:=by
 cases e:H x with
 |none=>rfl
 |some u=>obtain⟨o,q⟩:=qfH (I.hok x u e);rw[h] at q;cases q
end
end L2
namespace L2
open PySem PySem.Spec PyProof.Rows PySem.W
noncomputable def Its(x:Str):It:=⟨λi _=>i < x.cps.size,λi H v H'=>H'=H/\∃c,x.cps[i]?=some c/\v=.str ⟨#[c]⟩,λi _=>i=x.cps.size⟩
theorem qfI{P:Program}{w:World}{K:Frag}{tg:Expr}{x:Str}{t:Tok}{it:Addr}{T:String}(hT:T = "str_ascii_iterator"\/T = "str_iterator")(W:∀A':Around,A'.handled=none->Walks P w A' it [it] [it] x.cps.size (SignAt x) (λi h=>h.IsStrIter it T x t i)) :
  Turn P w K tg (Its x) [it] it (λi h=>h.IsStrIter it T x t i) where
 mem:=by simp
 obj:=λi h st b hb=>by
  have e:b=it:=by simpa using hb
  subst e;obtain⟨o,e,c,d⟩:=st;exact⟨o,e,λv z=>by rw[d] at z;cases z⟩
 keep:=λi h h' st k=>let ⟨o,e,r⟩:=st;⟨o,k it (by simp) o e,r⟩
 item:=by intro X hP hw hK hc i pins s σ H E I hf st hg;subst hP hw hK;obtain⟨f0,f1,f2,f3,f4,f5⟩:=hf it (by simp);refine(W X.A (I.ok.hd hc)).item i s _ _ hg st λv h' tk hv st' kk=>?_;obtain⟨c,u,hcx,rfl⟩:=hv;have I1:Inv X pins σ H { s with heap:=h',toks:=tk }:=I.turned (λb o hb e=>kk b o (by simpa using hb) e) f0 f1 f3 f4 f5;obtain⟨o,e1,e2,e3⟩:=id st';refine⟨_,rfl,qdr (s:={ s with heap:=h',toks:=tk }) e1 e2 e3 (by rcases hT with z | z<;>(rw[z];decide)) ⟨.str ⟨#[c]⟩,H,I1,⟨u,rfl⟩,⟨rfl,c,hcx,rfl⟩,st',λb hb=>(hf b hb).1⟩⟩
 done:=by intro X hP hw hK hc i pins s σ H E I hf st hg;subst hP hw hK;obtain rfl:i=x.cps.size:=hg;obtain⟨f0,f1,f2,f3,f4,f5⟩:=hf it (by simp);exact(W X.A (I.ok.hd hc)).done s _ _ st λh' tk kk=>⟨rfl,I.turned (λb o hb e=>kk b o (by simpa using hb) e) f0 f1 f3 f4 f5⟩
 self:=λA i s Q E st h=>by
  rcases hT with z | z
  ·subst z;exact wpAny_pyIter_striter_ascii st h
  ·subst z;exact wpAny_pyIter_striter_wide st h
end L2
namespace L2
open PySem PySem.Spec PyProof.Rows PySem.W
structure ClsFn(K:Frag)(C:Addr)(m:Str)(f:Addr):Prop where
 reads:readsIn K C (.type "type")=true
 sp:specialIn K (.ref C) "__getattribute__" = some (some (.builtin "type.__getattribute__"))
 at_:findCls K (.ref C) (.type "type") m=some (.val (.ref f))
 kp:keepIn K (.ref f)=true
section
variable{X:Cx}{CX:CXT}{k:Nat}{f C:Addr}{fd:FuncData}{ps:List Str}{sp:Sp}{dvs:List V}{ds:List Value}{E:XK}{x m:Str}{p pos apos:Pos}{e:Expr}{es:List Expr}{t:TA}
theorem Q3{pl:Sem Bool}(hC:ClsFn X.K C m f)(F:FnOk X.prog X.w X.K X.mg X.base CX k f fd ps sp)(hr:Room k X.A)(hg:Gl X x)(hm:X.mg x=some (.ref C))(hb:zn X.K fd ps ds)(hd:qA dvs ds)(hx:yz CX X E)(ha:PA X (e::es) t)
  (hdb:(x == ("__debug__" : Str))=false:=by decide) (hst:starEach (e::es) X.env=(false,eval e X.env)::starEach es X.env:=by rfl) (hpl:(backTo pos (starEach es X.env)).any (·.1)=false:=by rfl)
  (ht:eval (.Call (.Attribute (.Name x p) m apos) (e::es) [] pos) X.env=(do
   let ov<-eval (.Name x p) X.env
   standAt apos.atName
   let (f,first)<-holding [ov] (getMethod ov m pl)
   callWith pos f first (backTo pos (starEach (e::es) X.env)) (backToKw pos (keywordEach [] X.env))):=by rfl) :
  PE X (.Call (.Attribute (.Name x p) m apos) (e::es) [] pos) (qdB sp dvs E t):=by
 intro pins s σ H Q I h;refine PySem.W.methodCall_KW (pl:=pl) (Jy I hg hm ?_ hdb) ht;refine method_cls I.kIn hC.sp (cls_value I.kIn hC.reads hC.at_ rfl ?_);have I1:=I.tok (s.toks+1);refine PySem.W.callWith_K (first:=[]) (h₀:=X.base) I.ok.mod.kin hC.kp (thn (ha pos pins _ σ H _ I1 h) λus s2 z=>?_) hst hpl;obtain⟨vs,H2,I2,r,q⟩:=z;exact⟨I2.kIn,Z2 F hr hb hd hx I2 r q⟩
end
end L2
namespace L2
open PySem PySem.Spec PyProof.Rows PySem.W
noncomputable def Itz(K:Frag)(a b:Addr):It:=
 ⟨λi H=>∃xs ys x y,SqL K H a xs/\SqL K H b ys/\xs[i]?=some x/\ys[i]?=some y,
  λi H v H'=>∃T x y,v=.ref T/\H T=none/\H'=upd H T (.tup [x,y])/\∀xs ys,SqL K H a xs->SqL K H b ys->xs[i]?=some x/\ys[i]?=some y,
  λi H=>∃xs ys,SqL K H a xs/\SqL K H b ys/\(xs.length<=i\/ys.length<=i)⟩
noncomputable def ZSt(z TI TO i1 i2 a b:Addr)(i:Nat)(h:Heap):Prop:=IsZip h z TI TO .none/\IsPair h TI (.ref i1) (.ref i2)/\(∃u v,IsPair h TO u v)/\h.IsListIter i1 a i/\h.IsListIter i2 b i
theorem Inv.turnedAll{X:Cx}{pins:PP}{σ:St}{H:Hp}{s:Shared}{h':Heap}{t':Nat}{ch:List Addr}(I:Inv X pins σ H s)(k:∀b o,b∉ch->s.heap.get? b=some o->h'.get? b=some o)(hf:∀b∈ch,qcC X pins H b):Inv X pins σ H { s with heap:=h',toks:=t' }:=by
 have nch:∀{b:Addr} {u:HO},H b=some u->b∉ch:=λ{b u} e z=>by rw[(hf b z).1] at e;cases e
 refine I.step (g':=s.gens) (d':=s.drawn) (ch:=ch) (λb hb=>?_) (λb o _ _ hc e _=>k b o hc e) (λb o _ _ hc e _=>⟨o.slots,k b o hc e⟩) (λ_ _ _ _ n=>n) (λb o hc e=>⟨o,k b o hc e⟩) (λ_ _ e=>e) (λ_ _ _ e=>e) (λb ps e=>⟨#[],by rw[e];simp⟩) (λm hm=>?_) (λb u e=>?_) I.bare
 ·obtain⟨f0,f1,f2,f3,f4,f5⟩:=hf b hb;exact⟨f3,f1,f4,f5⟩
 ·obtain⟨o,es,ep,ho,r⟩:=hm;exact⟨o,es,ep,k _ o (λz=>(hf _ z).2.1 rfl) ho,r⟩
 ·refine(I.hok b u e).stay (λc v hc q=>k c v ?_ q) (λ_ q=>q) λ_ _ q=>q;rcases hc with z | z
  ·rw[z];exact nch e
  ·exact nch z
theorem Inv.turnedNew{X:Cx}{pins:PP}{σ:St}{H:Hp}{s:Shared}{h':Heap}{t':Nat}{ch:List Addr}{T:Addr}{ob:HO}(I:Inv X pins σ H s)(k:∀b o,b∉ch->s.heap.get? b=some o->h'.get? b=some o)(hf:∀b∈ch,qcC X pins H b)
  (hT:s.heap.get? T=none) (new:qU X.prog X.w (upd H T ob) h' T ob):Inv X pins σ (upd H T ob) { s with heap:=h',toks:=t' }:=by
 have hH:H T=none:=I.newH hT;have nch:∀{b:Addr} {u:HO},H b=some u->b∉ch:=λ{b u} e z=>by rw[(hf b z).1] at e;cases e
 have nT:∀{b:Addr} {u:HO},H b=some u->b≠T:=λ{b u} e z=>by rw[z,hH] at e;cases e
 have up:∀{b:Addr} {u:HO},H b=some u->upd H T ob b=some u:=λ{b u} e=>by rw[qd (nT e)];exact e
 refine I.step (g':=s.gens) (d':=s.drawn) (ch:=ch) (λb hb=>?_) (λb o _ _ hc e _=>k b o hc e) (λb o _ _ hc e _=>⟨o.slots,k b o hc e⟩) (λb o _ e n=>?_) (λb o hc e=>⟨o,k b o hc e⟩) (λ_ _ e=>up e) (λ_ _ _ e=>up e) (λb ps e=>⟨#[],by rw[up e];simp⟩) (λm hm=>?_) (λb u e=>?_) I.bare
 ·obtain⟨f0,f1,f2,f3,f4,f5⟩:=hf b hb;exact⟨f3,f1,f4,f5⟩
 ·rw[qd (λz=>by rw[z,hT] at e;cases e)];exact n
 ·obtain⟨o,es,ep,ho,r⟩:=hm;exact⟨o,es,ep,k _ o (λz=>(hf _ z).2.1 rfl) ho,r⟩
 ·by_cases hb:b=T
  ·subst hb;rw[qg] at e;cases e;exact new
  ·rw[qd hb] at e;refine(I.hok b u e).stay (λc v hc q=>k c v ?_ q) (λ_ q=>up q) λ_ _ q=>up q;rcases hc with z | z
   ·rw[z];exact nch e
   ·exact nch z
theorem qfJ{P:Program}{w:World}{K:Frag}{elts:List Expr}{kk:Nat}{pos:Pos}{z TI TO i1 i2 a b:Addr}(D:ZipApart z TI TO i1 i2 a b) :
  Turn P w K (.Tuple elts kk pos) (Itz K a b) [z,TI,TO,i1,i2] z (ZSt z TI TO i1 i2 a b) where
 mem:=by simp
 obj:=λi h st c hc=>by
  obtain⟨s1,s2,⟨u,v,s3⟩,⟨o4,s4,_,d4⟩,⟨o5,s5,_,d5⟩⟩:=st;simp at hc;rcases hc with rfl | rfl | rfl | rfl | rfl
  ·exact⟨_,s1,λv q=>by cases q⟩
  ·exact⟨_,s2,λv q=>by cases q⟩
  ·exact⟨_,s3,λv q=>by cases q⟩
  ·exact⟨_,s4,λv q=>by rw[d4] at q;cases q⟩
  ·exact⟨_,s5,λv q=>by rw[d5] at q;cases q⟩
 keep:=λi h h' st k=>by obtain⟨s1,s2,⟨u,v,s3⟩,s4,s5⟩:=st;exact⟨k z (by simp) _ s1,k TI (by simp) _ s2,⟨u,v,k TO (by simp) _ s3⟩,s4.at λo e=>k i1 (by simp) o e,s5.at λo e=>k i2 (by simp) o e⟩
 item:=by
  intro X hP hw hK hc i pins s σ H E I hf st hg;subst hP hw hK;obtain⟨xs,ys,x,y,qa,qb,hx,hy⟩:=hg;obtain⟨s1,s2,⟨u,v,s3⟩,s4,s5⟩:=st;obtain⟨ia,ra,pa,za⟩:=I.list qa;obtain⟨ib,rb,pb,zb⟩:=I.list qb;obtain⟨ux,ex,rx⟩:=ra.get hx;obtain⟨uy,ey,ry⟩:=rb.get hy;refine wpAny_pyNext_zip_item D s1 s2 s3 s4 s5 pa.isList pb.isList (x:=ux) (y:=uy) (by simpa using ex) (by simpa using ey) λh' a1 a2 a3 a4 a5 a6 kp=>?_;refine⟨_,rfl,wpAny_letOwnedTupleGo_zip (s:={ s with heap:=h' }) a1 λh2 b1 b2=>?_⟩;have two:(2:Nat)<=sizeLine:=Nat.le_of_lt (qab (2:))
  have kp2:∀c o,c∉[z,TI,TO,i1,i2]->s.heap.get? c=some o->h2.get? c=some o:=λc o hc e=>by simp at hc;exact b2.extBut c o hc.1 (kp c o hc.1 hc.2.2.1 hc.2.2.2.1 hc.2.2.2.2 e)
  have I1:Inv X pins σ H { s with heap:=h2 }:=I.turnedAll (t':=s.toks) kp2 hf
  have hnew:s.heap.get? s.heap.objs.size=none:=by
   cases q:s.heap.get? s.heap.objs.size with
   |none=>rfl
   |some o=>exact absurd (Heap.lt_size q) (Nat.lt_irrefl _)
  have hH:H s.heap.objs.size=none:=I.hok.fresh (Nat.le_refl _);have hTz:s.heap.objs.size≠z:=Nat.ne_of_gt (Heap.lt_size s1);have hT2:IsPair h2 s.heap.objs.size ux uy:=b2.extBut _ _ hTz a5;have hf2:=hf;have I2:Inv X pins σ (upd H s.heap.objs.size (.tup [x,y])) { s with heap:=h2 }:=I.turnedNew (t':=s.toks) kp2 hf hnew ⟨two,[ux,uy],.cons rx %[ry|0],_,hT2,rfl,0,rfl⟩;refine⟨.ref s.heap.objs.size,_,I2,rfl,⟨_,x,y,rfl,hH,rfl,λxs' ys' h1 h2=>?_⟩,?_,λc hc=>?_⟩
  ·rw[I.list_inj h1 qa,I.list_inj h2 qb];exact⟨hx,hy⟩
  ·exact⟨b1,b2.extBut _ _ D.TIz (kp TI _ D.TIz D.TITO D.TIi1 D.TIi2 s2),⟨_,_,b2.extBut _ _ D.TOz a2⟩,a3.extBut b2.extBut D.i1z,a4.extBut b2.extBut D.i2z⟩
  ·have hc0:=(hf c hc).1;rw[qd]
   ·exact hc0
   ·intro q
    have e:∃o,s.heap.get? c=some o:=by
     simp at hc;rcases hc with rfl | rfl | rfl | rfl | rfl
     ·exact⟨_,s1⟩
     ·exact⟨_,s2⟩
     ·exact⟨_,s3⟩
     ·obtain⟨o,e,_⟩:=s4;exact⟨o,e⟩
     ·obtain⟨o,e,_⟩:=s5;exact⟨o,e⟩
    obtain⟨o,e⟩:=e;rw[q,hnew] at e;cases e
 done:=by intro X hP hw hK hc i pins s σ H E I hf st hg;subst hP hw hK;obtain⟨xs,ys,qa,qb,hend⟩:=hg;obtain⟨s1,s2,⟨u,v,s3⟩,s4,s5⟩:=st;obtain⟨ia,ra,pa,za⟩:=I.list qa;obtain⟨ib,rb,pb,zb⟩:=I.list qb;have la:=ra.length;have lb:=rb.length;refine wpAny_pyNext_zip_end (I.ok.hd hc) D s1 s2 s3 s4 s5 pa.isList pb.isList (by simp;omega) λh' kp=>⟨rfl,I.turnedAll (t':=s.toks) (λc o hc e=>?_) hf⟩;simp at hc;exact kp c o hc.1 hc.2.2.1 hc.2.2.2.1 hc.2.2.2.2 e
 self:=λA i s Q E st h=>wpAny_pyIter_zip st.1 h
noncomputable def qox(K:Frag)(ta:TA):TI:=λσ H R=>ta σ H λvs H1=>∃a b,vs=[.ref a,.ref b]/\(∃xs,SqL K H1 a xs)/\(∃ys,SqL K H1 b ys)/\R (Itz K a b) H1
section
variable{X:Cx}
theorem qkn{ea eb:Expr}{elts:List Expr}{kk:Nat}{tpos p pos:Pos}{ta:TA}(hg:Gl X "zip")(hm:X.mg "zip" = none)(ha:PA X [ea,eb] ta)(hs:starEach [ea,eb] X.env=[(false,eval ea X.env),(false,eval eb X.env)]:=by rfl)(hs2:starEach [eb] X.env=[(false,eval eb X.env)]:=by rfl) :
  PI X (.Tuple elts kk tpos) (.Call (.Name "zip" p) [ea,eb] [] pos) (qox X.K ta):=by
 intro pins s σ H R I h;refine Call_ (JN I hg hm boot_zip (PyProof.Rows.callWith_type1 (thn (ha pos pins s σ H _ I h) λus s1 z=>?_) (by rw[hs,hs2]) (by rw[hs2];rfl)));obtain⟨vs,H1,I1,r1,a,b,rfl,⟨xs,qa⟩,⟨ys,qb⟩,q⟩:=z;obtain⟨u,v,rfl,ru,rv⟩:=qa5 r1;cases ru;cases rv;obtain⟨ia,ra,pa,za⟩:=I1.list qa;obtain⟨ib,rb,pb,zb⟩:=I1.list qb;have la:a < s1.heap.objs.size:=by obtain⟨_,e,_⟩:=pa.isList;exact Heap.lt_size e
 have lb:b < s1.heap.objs.size:=by obtain⟨_,e,_⟩:=pb.isList;exact Heap.lt_size e
 refine call_zip_2 pa.isList pb.isList λh' z1 z2 z3 z4 z5 z6 kp=>wpAny_pyIter_zip z1 ?_
 have D:ZipApart (s1.heap.objs.size+4) (s1.heap.objs.size+2) (s1.heap.objs.size+3) s1.heap.objs.size (s1.heap.objs.size+1) a b:=by constructor<;>(first | exact Nat.ne_of_lt (Nat.lt_of_lt_of_le la (Nat.le_add_right _ _)) | exact Nat.ne_of_lt (Nat.lt_of_lt_of_le lb (Nat.le_add_right _ _)) | exact Nat.ne_of_lt la | exact Nat.ne_of_lt lb | exact Nat.ne_of_lt (1:) | exact Nat.ne_of_gt (1:))
 refine⟨s1.heap.objs.size+4,[s1.heap.objs.size+4,s1.heap.objs.size+2,s1.heap.objs.size+3,s1.heap.objs.size,s1.heap.objs.size+1],_,_,H1,rfl,I1.kept (t':=s1.toks) kp,qfJ D,⟨z1,z2,⟨_,_,z3⟩,z4,z5⟩,λc hc=>?_,q⟩
 have:s1.heap.objs.size<=c:=by
  simp at hc;rcases hc with rfl | rfl | rfl | rfl | rfl
  ·exact Nat.le_add_right _ _
  ·exact Nat.le_add_right _ _
  ·exact Nat.le_add_right _ _
  ·exact Nat.le_refl _
  ·exact Nat.le_add_right _ _
 exact I1.fpOk this (I1.hok.fresh this)
end
end L2
namespace L2
open PySem PySem.Spec PyProof.Rows PySem.W PyProof
section
variable{X:Cx}
theorem qko:SlR X (λx lo hi H Q=>∃z,x=.str z/\z.length<=sizeLine/\Q (.str (Txt.slice z lo hi)) H):=by
 intro pins s σ H x v vl vu lo hi sl Q I rx hs pl pu h;obtain⟨z,rfl,hz,q⟩:=h;obtain⟨t,rfl⟩:=rx;refine⟨"str",_,F.slot_str_getitem.lookup,typeIs_str _ _ _,?_⟩;obtain⟨o,e1,e2,e3⟩:=hs
 cases pl with
 |none=>
  cases pu with
  |none=>exact wpAny_getItem_str_slice (l:=none) (u:=none) (st:=none) ⟨o,e1,e2,e3⟩ rfl (post_val_or_str ⟨Nat.le_trans (Txt.slice_le z _ _) hz,λt' k=>⟨.str _,H,I.tok k,⟨t',rfl⟩,q⟩⟩)
  |int j uj=>exact wpAny_getItem_str_slice (l:=none) (u:=some (j,uj)) (st:=none) ⟨o,e1,e2,e3⟩ rfl (post_val_or_str ⟨Nat.le_trans (Txt.slice_le z _ _) hz,λt' k=>⟨.str _,H,I.tok k,⟨t',rfl⟩,q⟩⟩)
 |int i ui=>
  cases pu with
  |none=>exact wpAny_getItem_str_slice (l:=some (i,ui)) (u:=none) (st:=none) ⟨o,e1,e2,e3⟩ rfl (post_val_or_str ⟨Nat.le_trans (Txt.slice_le z _ _) hz,λt' k=>⟨.str _,H,I.tok k,⟨t',rfl⟩,q⟩⟩)
  |int j uj=>exact wpAny_getItem_str_slice (l:=some (i,ui)) (u:=some (j,uj)) (st:=none) ⟨o,e1,e2,e3⟩ rfl (post_val_or_str ⟨Nat.le_trans (Txt.slice_le z _ _) hz,λt' k=>⟨.str _,H,I.tok k,⟨t',rfl⟩,q⟩⟩)
end
end L2
namespace L2
open PySem PySem.Spec PyProof.Rows PySem.W
noncomputable def Ite(K:Frag)(a:Addr):It:=
 ⟨λi H=>∃xs x,SqL K H a xs/\xs[i]?=some x,
  λi H v H'=>∃T x,v=.ref T/\H T=none/\H'=upd H T (.tup [.int i,x])/\∀xs,SqL K H a xs->xs[i]?=some x,
  λi H=>∃xs,SqL K H a xs/\xs.length<=i⟩
noncomputable def ESt(e it a:Addr)(i:Nat)(h:Heap):Prop:=(∃old,IsEnum h e it ((i:Nat):Int) old)/\h.IsListIter it a i
theorem qdV{P:Program}{w:World}{K:Frag}{elts:List Expr}{kk:Nat}{pos:Pos}{e it a:Addr}(hne:e≠it) :
  Turn P w K (.Tuple elts kk pos) (Ite K a) [e,it] e (ESt e it a) where
 mem:=by simp
 obj:=λi h st c hc=>by
  obtain⟨⟨old,s1⟩,⟨o4,s4,_,d4⟩⟩:=st;simp at hc;rcases hc with rfl | rfl
  ·exact⟨_,s1,λv q=>by cases q⟩
  ·exact⟨_,s4,λv q=>by rw[d4] at q;cases q⟩
 keep:=λi h h' st k=>by obtain⟨⟨old,s1⟩,s4⟩:=st;exact⟨⟨old,k e (by simp) _ s1⟩,s4.at λo e=>k it (by simp) o e⟩
 item:=by
  intro X hP hw hK hc i pins s σ H E I hf st hg;subst hP hw hK;obtain⟨xs,x,qa,hx⟩:=hg;obtain⟨⟨old,s1⟩,s4⟩:=st;obtain⟨ia,ra,pa,za⟩:=I.list qa;obtain⟨ux,ex,rx⟩:=ra.get hx;refine wpAny_pyNext_enum_item s1 s4 pa.isList (x:=ux) (by simpa using ex) hne λh' a1 a2 a3 a4 kp=>?_;refine⟨_,rfl,wpAny_letOwnedTupleGo_enum (s:={ s with heap:=h',toks:=s.toks+1 }) a1 λh2 b1 b2=>?_⟩;have two:(2:Nat)<=sizeLine:=Nat.le_of_lt (qab (2:))
  have kp2:∀c o,c∉[e,it]->s.heap.get? c=some o->h2.get? c=some o:=λc o hc q=>by simp at hc;exact b2.extBut c o hc.1 (kp c o hc.1 hc.2 q)
  have hnew:s.heap.get? s.heap.objs.size=none:=by
   cases q:s.heap.get? s.heap.objs.size with
   |none=>rfl
   |some o=>exact absurd (Heap.lt_size q) (Nat.lt_irrefl _)
  have hH:H s.heap.objs.size=none:=I.hok.fresh (Nat.le_refl _);have hTe:s.heap.objs.size≠e:=Nat.ne_of_gt (Heap.lt_size s1);have hT2:IsPair h2 s.heap.objs.size (.int i s.toks) ux:=b2.extBut _ _ hTe a3;have I2:Inv X pins σ (upd H s.heap.objs.size (.tup [.int i,x])) { s with heap:=h2,toks:=s.toks+1 }:=I.turnedNew (t':=s.toks+1) kp2 hf hnew ⟨two,[.int i s.toks,ux],.cons ⟨_,rfl⟩ %[rx|0],_,hT2,rfl,0,rfl⟩;refine⟨.ref s.heap.objs.size,_,I2,rfl,⟨_,x,rfl,hH,rfl,λxs' h1=>?_⟩,?_,λc hc=>?_⟩
  ·rw[I.list_inj h1 qa];exact hx
  ·have e1:((i+1:Nat):Int)=(i:Int)+1:=by omega
   refine⟨⟨ux,?_⟩,a2.extBut b2.extBut (Ne.symm hne)⟩;rw[e1];exact b1
  ·have hc0:=(hf c hc).1;rw[qd]
   ·exact hc0
   ·intro q
    have e:∃o,s.heap.get? c=some o:=by
     simp at hc;rcases hc with rfl | rfl
     ·exact⟨_,s1⟩
     ·obtain⟨o,e,_⟩:=s4;exact⟨o,e⟩
    obtain⟨o,e⟩:=e;rw[q,hnew] at e;cases e
 done:=by intro X hP hw hK hc i pins s σ H E I hf st hg;subst hP hw hK;obtain⟨xs,qa,hend⟩:=hg;obtain⟨⟨old,s1⟩,s4⟩:=st;obtain⟨ia,ra,pa,za⟩:=I.list qa;have la:=ra.length;refine wpAny_pyNext_enum_end (I.ok.hd hc) s1 s4 pa.isList (by simp;omega) λh' kp=>⟨rfl,I.turnedAll (t':=s.toks) (λc o hc e=>?_) hf⟩;simp at hc;exact kp c o hc.2 e
 self:=λA i s Q E st h=>by obtain⟨⟨old,s1⟩,_⟩:=st;exact wpAny_pyIter_enum s1 h
noncomputable def qm4(K:Frag)(ta:TA):TI:=λσ H R=>ta σ H λvs H1=>∃a,vs=[.ref a]/\(∃xs,SqL K H1 a xs)/\R (Ite K a) H1
section
variable{X:Cx}
theorem qib{ea:Expr}{elts:List Expr}{kk:Nat}{tpos p pos:Pos}{ta:TA}(hg:Gl X "enumerate")(hm:X.mg "enumerate" = none)(ha:PA X [ea] ta)(hs:starEach [ea] X.env=[(false,eval ea X.env)]:=by rfl) :
  PI X (.Tuple elts kk tpos) (.Call (.Name "enumerate" p) [ea] [] pos) (qm4 X.K ta):=by
 intro pins s σ H R I h;refine Call_ (JN I hg hm boot_enumerate (PyProof.Rows.callWith_type1 (thn (ha pos pins s σ H _ I h) λus s1 z=>?_) hs rfl));obtain⟨vs,H1,I1,r1,a,rfl,⟨xs,qa⟩,q⟩:=z;obtain⟨u,rfl,ru⟩:=Yk r1;cases ru;obtain⟨ia,ra,pa,za⟩:=I1.list qa;refine call_enumerate_list pa.isList λh' z1 z2 z3 kp=>wpAny_pyIter_enum z1 ?_;refine⟨s1.heap.objs.size+1,[s1.heap.objs.size+1,s1.heap.objs.size],_,_,H1,rfl,I1.kept (t':=s1.toks) kp,qdV (Nat.succ_ne_self _),⟨⟨_,z1⟩,z2⟩,λc hc=>?_,q⟩
 have:s1.heap.objs.size<=c:=by
  simp at hc;rcases hc with rfl | rfl
  ·exact Nat.le_add_right _ _
  ·exact Nat.le_refl _
 exact I1.fpOk this (I1.hok.fresh this)
end
end L2
namespace L2
open PySem PySem.Spec PyProof.Rows PySem.W
noncomputable def Itv(K:Frag)(a:Addr)(xs:List V):It:=
 ⟨λi H=>SqL K H a xs/\i < xs.length,λi H x H'=>H'=H/\xs[xs.length - 1 - i]?=some x,λi H=>SqL K H a xs/\xs.length=i⟩
theorem qfK{P:Program}{w:World}{K:Frag}{tg:Expr}(a it:Addr)(xs:List V):Turn P w K tg (Itv K a xs) [it] it (λi h=>h.IsRevIter it a ((xs.length:Int) - 1 - i)) where
 mem:=by simp
 obj:=λi h st b hb=>by
  have e:b=it:=by simpa using hb
  subst e;obtain⟨o,e,c,d⟩:=st;exact⟨o,e,λv z=>by rw[d] at z;cases z⟩
 keep:=λi h h' st k=>st.at λo e=>k it (by simp) o e
 item:=by
  intro X hP hw hK hc i pins s σ H E I hf st hg;subst hP hw hK;obtain⟨hq,hi⟩:=hg;obtain⟨its,rv,p,hz⟩:=I.list hq;have hx:xs[xs.length - 1 - i]?=some xs[xs.length - 1 - i]:=List.getElem?_eq_getElem (1:);obtain⟨u,hu,ru⟩:=rv.get hx;obtain⟨f0,f1,f2,f3,f4,f5⟩:=hf it (by simp);have e1:(xs.length:Int) - 1 - i=((xs.length - 1 - i:Nat):Int):=by omega
  rw[e1] at st;refine wpAny_pyNext_rev_item st p.isList (x:=u) (by simpa using hu) λh' st' sb=>?_;have I1:Inv X pins σ H { s with heap:=h' }:=I.turned (t':=s.toks) (λb o hb e=>(sb.2 b hb).trans e) f0 f1 f3 f4 f5;have e2:((xs.length - 1 - i:Nat):Int) - 1=(xs.length:Int) - 1 - ((i+1:Nat):Int):=by omega
  rw[e2] at st';obtain⟨o,e,c,d⟩:=id st';exact⟨u,rfl,qdr (s:={ s with heap:=h' }) e c d (2:) ⟨_,H,I1,ru,⟨rfl,hx⟩,st',λb hb=>(hf b hb).1⟩⟩
 done:=by
  intro X hP hw hK hc i pins s σ H E I hf st hg;subst hP hw hK;obtain⟨hq,hi⟩:=hg;obtain⟨f0,f1,f2,f3,f4,f5⟩:=hf it (by simp);have e1:(xs.length:Int) - 1 - i = -1:=by omega
  rw[e1] at st;exact wpAny_pyNext_rev_end (I.ok.hd hc) st λh' eb=>⟨rfl,I.turned (t':=s.toks) (λb o hb e=>eb b o hb e) f0 f1 f3 f4 f5⟩
 self:=λ_ _ _ _ _ st h=>wpAny_pyIter_revIter st h
noncomputable def qoy(K:Frag)(ta:TA):TI:=λσ H R=>ta σ H λvs H1=>∃a xs,vs=[.ref a]/\SqL K H1 a xs/\R (Itv K a xs) H1
section
variable{X:Cx}
theorem qkp{ea tg:Expr}{p pos:Pos}{ta:TA}(hg:Gl X "reversed")(hm:X.mg "reversed" = none)(ha:PA X [ea] ta)(hs:starEach [ea] X.env=[(false,eval ea X.env)]:=by rfl) :
  PI X tg (.Call (.Name "reversed" p) [ea] [] pos) (qoy X.K ta):=by
 intro pins s σ H R I h;refine Call_ (JN I hg hm boot_reversed (PyProof.Rows.callWith_type1 (thn (ha pos pins s σ H _ I h) λus s1 z=>?_) hs rfl));obtain⟨vs,H1,I1,r1,a,xs,rfl,qa,q⟩:=z;obtain⟨u,rfl,ru⟩:=Yk r1;cases ru;obtain⟨ia,ra,pa,za⟩:=I1.list qa;have la:=ra.length;refine call_reversed_list pa.isList ?_;refine wpAny_pyIter_revIter ⟨_,Heap.get?_push_size _ rfl,rfl,rfl⟩ ?_;refine⟨s1.heap.objs.size,[s1.heap.objs.size],_,_,H1,rfl,I1.kept (t':=s1.toks) λb o e=>Heap.get?_push_of_some _ e,qfK a _ xs,⟨_,Heap.get?_push_size _ rfl,rfl,?_⟩,λb hb=>?_,q⟩
 ·show Data.fields #[.ref a,rawInt ((ia.toArray.size:Int) - 1)]=_
  have:(ia.toArray.size:Int) - 1=(xs.length:Int) - 1 - ((0:Nat):Int):=by simp;omega
  rw[this]
 ·have e:b=s1.heap.objs.size:=by simpa using hb
  subst e;exact I1.fpOk (Nat.le_refl _) (I1.hok.fresh (Nat.le_refl _))
end
end L2
namespace L2
open PySem PySem.Spec PyProof.Rows
theorem qdW:∀{zs:List Str} {us:List Value},qA (zs.map V.str) us->StrsAre us zs
 |[],_,.nil=>.nil
 | z::zs,_,.cons r t=>by obtain⟨k,rfl⟩:=r;exact .cons z k (qdW t)
theorem Q4(k:Str):∀{vs:List Value} {ys:List Str},StrsAre vs ys->∀(j:Nat) (h1:j < vs.length) (h2:j < ys.length),isStrOf k vs[j]=(ys[j] == k)
 |_,_,.cons n t _,0,_,_=>rfl
 | _,_,.cons n t r,j+1,h1,h2=>Q4 k r j (Nat.lt_of_succ_lt_succ h1) (Nat.lt_of_succ_lt_succ h2)
theorem qgU{k:Str}:∀{ns:List Str} {j:Nat},j < ns.idxOf k->∀(h2:j < ns.length),(ns[j] == k)=false
 | n::r,0,h,_=>by
  by_cases e:n=k
  ·subst e;simp at h
  ·simpa using e
 | n::r,j+1,h,h2=>by
  by_cases e:n=k
  ·subst e;simp at h
  ·have hb:(n == k)=false:=by simpa using e
   have h':j < r.idxOf k:=by rw[List.idxOf_cons,hb] at h;exact Nat.lt_of_succ_lt_succ h
   exact qgU h' (Nat.lt_of_succ_lt_succ h2)
theorem qbP:∀{vs:List Value} {ys:List Str},StrsAre vs ys->vs.length=ys.length
 |_,_,.nil=>rfl
 |_,_,.cons _ _ r=>by rw[List.length_cons,List.length_cons,qbP r]
section
variable{X:Cx}
noncomputable def qkq:V->List V->Hp->VK->Prop:=λx vs H Q=>∃(l:Addr) (zs:List Str) (k:Str),x=.ref l/\vs=[.str k]/\H l=some (.lst (zs.map V.str))/\k∈zs/\Q (.int (zs.idxOf k:Nat)) H
theorem qfL:MtR X "list.index" qkq:=by
 intro pins s σ H x vs v us Q I rx rv h;obtain⟨l,zs,k,rfl,rfl,hH,hk,q⟩:=h;cases rx;obtain⟨u,rfl,ru⟩:=rv.one;obtain⟨z,its,n,r,hl,e⟩:=I.lstM hH;obtain⟨t,rfl⟩:=ru;have hi:=qdW r;have hlen:=qbP hi;have hj:zs.idxOf k < zs.length:=List.idxOf_lt_length_iff.mpr hk;have hz:zs.length<=sizeLine:=by simpa using z
 have hs:sizeLine < 2 ^ 62:=by decide+kernel
 refine call_meets F.slot_list_index ⟨_,e,rfl⟩ F.entry_list_index (F.args_list_index_2 _ _) (SeqAt.list_indexAt l its.toArray n _ _ (.str k t) (isStrOf k) (zs.idxOf k) (by simpa [hlen] using hj) (1:) ?_ ?_) ⟨e,λy hy=>(eq_isStrOf k t hi y (by simpa using hy)).at _ _,?_⟩
 ·show isStrOf k its[zs.idxOf k]=true;rw[Q4 k hi _ (1:) hj]
  simpa using List.getElem_idxOf hj
 ·intro j hjs hlt;show isStrOf k its[j]=false;rw[Q4 k hi j (by simpa using hjs) (1:)];exact qgU hlt _
 ·exact⟨.int _,H,I.tok _,⟨_,rfl⟩,q⟩
end
end L2
namespace L2
open PySem PySem.Spec PyProof.Rows
def rsz(lo hi c:Int):Nat:=if lo < hi then ((hi - lo - 1) / c+1).toNat else 0
end L2
namespace L2
open PySem PySem.Spec PyProof.Rows
section
variable{prog:Program}{w:World}{A:Around}{E:PQ}{s:Shared}
theorem qah:typeLookup (.type "list") "keys" = pure none:=am_miss_of_fast (by kernel_rfl)
theorem qkr{a:Addr}{o:Obj}{xs:Array Value}{k:Nat}{Q:Option Value->Shared->Prop}(hx:s.heap.get? a=some o)(hc:o.cls=.type "list")(hdat:o.data=.seq xs k)(hd:o.dict=none)(hA:A.handled=none)
  (h:∀h' tk,(∀b ob,s.heap.get? b=some ob->h'.get? b=some ob)->Q none { s with heap:=h',toks:=tk }):wpAny (model prog w) A (getAttr? (.ref a) "keys") Q E s:=by
 obtain⟨c,dct,dat,sl⟩:=o;simp only at hc hdat hd;subst hc hdat hd;obtain⟨hp,g,d,tk,os⟩:=s;have hT:∀tk',(⟨hp,g,d,tk',os⟩:Shared).TypeIs (.ref a) "list":=λ_=>⟨_,hx,rfl⟩;have f1:=sub_AttributeError;have f3:=PySem.F.slot_list_getattribute.lookup;have f4:=PySem.F.slot_list_getattribute.bind (.ref a);have f5:=am_list_getattr_none;unfold getAttr? getAttrBy? getAttrBy
 repeat (any_goals (first | assumption | exact hT _ | ((with_reducible show wpAny _ _ (call (Value.builtin "list.__getattribute__") _ _) _ _ _);refine call_meets PySem.F.slot_list_getattribute (hT _) am_entry_list_getattribute (PySem.F.args_list_getattribute_2 _ _) (meets_getattribute_miss_list a xs k sl _ _ qah (by decide+kernel)) ⟨hx,hA,λh' tk' e hx'=>?_⟩) | wp_step))
 obtain⟨t',u',he⟩:=hx'.there;show wpAny _ _ (getattributeRaised _ _ _ _ _ _ _) _ _ _;unfold getattributeRaised
 repeat (any_goals (first | assumption | wp_step))
 exact h _ _ hx'.keeps
theorem qbQ:entryFor table "dict.update.loop" = some Builtin.«dict.update.loop»:=entryFor_of_tree (by kernel_rfl)
theorem Yd:plainId "dict.update.loop" = true:=by decide+kernel
noncomputable def qic(prog:Program)(w:World)(h:Heap)(items:Array Value)(ps:List (Key×Value)):Prop:=items.size=ps.length/\∀(i:Nat) (kv:Key×Value),ps[i]?=some kv->∃(b:Addr) (ku:Value),items[i]?=some (.ref b)/\h.IsTuple b #[ku,kv.2]/\(qx prog w).is kv.1 ku=true
theorem qks{h0:Heap}{D I l:Addr}{items:Array Value}{ps:List (Key×Value)}{R:Result->Shared->Prop}(hD:h0.get? D=none)(hI:h0.get? I=none)(hne:D≠I)(hl:h0.IsList l items)(hps:qic prog w h0 items ps)(hz:ps.length<=sizeLine)(hh:A.handled=none) :
  ∀(k i:Nat) (t:Tok) (s:Shared),ps.length - i=k->i<=ps.length->(∀b o,h0.get? b=some o->s.heap.get? b=some o)->s.heap.IsListIter I l i->s.heap.DictOf (qx prog w) D (merged [] (ps.take i))->
   (∀h' tk,(∀b o,h0.get? b=some o->h'.get? b=some o)->h'.DictOf (qx prog w) D (merged [] ps)->R (.ok (.ret .none)) { s with heap:=h',toks:=tk })->
   codeAny (model prog w) A (.builtin "dict.update.loop" ⟨[.ref D,.ref I,.int i t,.none],[]⟩) R s:=by
 have old:∀{b:Addr} {o:Obj},h0.get? b=some o->b≠D/\b≠I:=λ{b o} e=>⟨λz=>(by rw[z,hD] at e;cases e),λz=>(by rw[z,hI] at e;cases e)⟩;intro k
 induction k with
 |zero=>
  intro i t s hk hi ho it dd hR;have hin:i=ps.length:=by omega
  subst hin;refine codeAny_builtin qbQ ?_;rw[Around.under_plainId Yd _];show wpAny _ A.in1 (pyNext (.ref I) >>= _) _ _ s;have hl':s.heap.IsList l items:=hl.at λo e=>ho _ _ e;refine wpAny_bind (wpAny_pyNext_list_end (by simpa using hh) it hl' (by simp[hps.1]) λh' eb=>?_);rw[List.take_length] at dd;show wpAny _ A.in1 (Builtin.Dict.addKeywords D [] >>= _) _ _ _;refine wpAny_bind (wpAny_pure (wpAny_pure (hR h' s.toks (λb o e=>eb b o (old e).2 (ho b o e)) ?_)));obtain⟨o,es,ep,h1,r⟩:=dd;exact⟨o,es,ep,eb D o hne h1,r⟩
 |succ k ih=>
  intro i t s hk hi ho it dd hR;have hlt:i < ps.length:=by omega
  obtain⟨kv,hkv⟩:∃kv,ps[i]?=some kv:=⟨ps[i],List.getElem?_eq_getElem _⟩;obtain⟨b,ku,h1,h2,h3⟩:=hps.2 i kv hkv;have hl':s.heap.IsList l items:=hl.at λo e=>ho _ _ e;refine codeAny_builtin qbQ ?_;rw[Around.under_plainId Yd _];show wpAny _ A.in1 (pyNext (.ref I) >>= _) _ _ s;refine wpAny_bind (wpAny_pyNext_list_item it hl' h1 λh' it' sb=>?_);have ho':∀b o,h0.get? b=some o->h'.get? b=some o:=λb o e=>(sb.2 b (old e).2).trans (ho b o e)
  have dd':h'.DictOf (qx prog w) D (merged [] (ps.take i)):=by obtain⟨o,es,ep,q,r⟩:=dd;exact⟨o,es,ep,(sb.2 D hne).trans q,r⟩
  obtain⟨ot,q1,q2,n,q3⟩:=h2;have hT:Shared.TypeIs { s with heap:=h' } (.ref b) "tuple":=⟨ot,ho' _ _ q1,q2⟩;show wpAny _ A.in1 (holding [Value.ref b] _ >>= _) _ _ _;refine wpAny_bind (wpAny_holding (wpAny_bind (wpAny_tryCatch ?_)));unfold Builtin.Dict.pairItems;refine wpAny_bind (wpAny_typeOf hT ?_);rw[if_pos (2:)];refine wpAny_bind (wpAny_seqItems (ho' _ _ q1) q3 (wpAny_pure ?_));show wpAny _ A.in1 (holding [ku,kv.2] (dictSet D ku kv.2)) _ _ _;unfold dictSet;refine wpAny_holding (wpAny_holding (wpAny_bind ((qx prog w).pyHash (k:=kv.1) h3 ?_)))
  have hmx:(merged [] (ps.take i)).length<=sizeLine:=by
   have e1:=merged_length_le ([]:List (Key×Value)) (ps.take i);have e2:(ps.take i).length<=ps.length:=by rw[List.length_take];omega
   simp only[List.length_nil] at e1;omega
  refine wpAny_dictSetHashed_pairs (s:={ s with heap:=h',toks:=s.toks+1 }) (hsz:=hmx) h3 dd' λh'' dd'' sb'=>?_;refine wpAny_pure ⟨plainId_quiet Yd _,ih (i+1) _ _ (1:) hlt (λb o e=>(sb'.2 b (old e).1).trans (ho' b o e)) ?_ ?_ hR⟩
  ·obtain⟨o,z,r⟩:=it';exact⟨o,(sb'.2 I (Ne.symm hne)).trans z,r⟩
  ·rw[merged_take_succ [] ps i kv hkv];exact dd''
theorem qcO{l:Addr}{ol:Obj}{items:Array Value}{n:Nat}{ps:List (Key×Value)}{Q:PQ}(hh:A.handled=none)(hx:s.heap.get? l=some ol)(hc:ol.cls=.type "list")(hdat:ol.data=.seq items n)(hd:ol.dict=none)(hps:qic prog w s.heap items ps)(hz:ps.length<=sizeLine)
  (h:∀h' tk,(∀b o,s.heap.get? b=some o->h'.get? b=some o)->h'.DictOf (qx prog w) s.heap.objs.size (merged [] ps)->Q (.ref s.heap.objs.size) { s with heap:=h',toks:=tk }) :
  wpAny (model prog w) A (call (.type "dict") [.ref l]) Q E s:=by
 refine callType_codes (Q₁:=λobj s₁=>obj=.ref s.heap.objs.size/\s₁={ s with heap:=s.heap.push { cls:=.type "dict",data:=.dict #[] } }) PySem.F.kt_called_dict (PySem.F.kt_typeCall_dict_1 _) PySem.F.entry_dict_init (kt_code_dict_new _ ⟨rfl,rfl⟩) ?_;rintro obj s₁ ⟨rfl,rfl⟩;have hnew:(s.heap.push { cls:=.type "dict",data:=.dict #[] }).DictOf (qx prog w) s.heap.objs.size []:=Heap.DictOf.new s.heap;have hx':(s.heap.push { cls:=.type "dict",data:=.dict #[] }).get? l=some ol:=Heap.get?_push_of_some _ hx;have hT:Shared.TypeIs { s with heap:=s.heap.push { cls:=.type "dict",data:=.dict #[] } } (.ref l) "list":=⟨ol,hx',hc⟩;refine⟨hnew.typeIs,PySem.F.args_dict_init_2 _ _,?_⟩;unfold Builtin.«dict.__init__»;refine wpAny_bind ?_;unfold Builtin.Dict.selfAndRest;refine wpAny_bind (wpAny_notOrdered_dict hnew.typeIs ?_);show wpAny _ _ (pure (s.heap.objs.size,[Value.ref l])) _ _ _;refine wpAny_pure ?_;show wpAny _ _ (Builtin.Dict.updateFrom "dict.__init__" s.heap.objs.size (.ref l) [] .none) _ _ _;unfold Builtin.Dict.updateFrom;refine wpAny_bind (wpAny_typeOf hT ?_);rw[if_pos (2:)];refine wpAny_bind (qkr hx' hc hdat hd (by simpa using hh) λh1 tk1 k1=>?_);rw[if_pos (by rfl)];refine wpAny_bind (wpAny_rule ?_);have hl1:h1.IsList l items:=⟨ol,k1 _ _ hx',hc,n,hdat⟩;refine wpAny_bind (wpAny_pyIter_list hl1 ?_);have k0:∀b o,s.heap.get? b=some o->(h1.push { cls:=.type "list_iterator",data:=.fields #[.ref l,.int 0 0] }).get? b=some o:=λb o e=>Heap.get?_push_of_some _ (k1 b o (Heap.get?_push_of_some _ e));obtain⟨od,es,ep,hod,rd⟩:=hnew;have hlt:s.heap.objs.size < h1.objs.size:=Heap.lt_size (k1 _ _ hod);have hDI:s.heap.objs.size≠h1.objs.size:=Nat.ne_of_lt hlt;refine wpAny_pure ⟨plainId_quiet Yd _,?_⟩;refine qks (h0:=s.heap) (l:=l) (items:=items) (ps:=ps) (Heap.get?_none_of_le (Nat.le_refl _)) (Heap.get?_none_of_le (Nat.le_of_lt hlt)) hDI ⟨ol,hx,hc,n,hdat⟩ hps hz (by simpa using hh) _ 0 _ _ rfl (Nat.zero_le _) k0 ?_ ?_ λh' tk ko dd=>?_
 ·exact⟨_,Heap.get?_push_size _ rfl,rfl,rfl⟩
 ·exact⟨od,es,ep,Heap.get?_push_of_some _ (k1 _ _ hod),rd⟩
 ·exact⟨rfl,h h' tk ko dd⟩
end
section
variable{X:Cx}
def kvV(kv:Str×Int):Key×V:=(.inr kv.1,.int kv.2)
theorem qgV{P:Program}{w:World}{H:Hp}{h:Heap}(ok:HOk P w H h):∀{xs:List V} {kvs:List (Str×Int)} {its:List Value},Paired (λx (kv:Str×Int)=>∃b,x=V.ref b/\H b=some (.tup [.str kv.1,.int kv.2])) xs kvs->qA xs its->
  ∃ps:List (Key×Value),KV (kvs.map kvV) ps/\Paired (λu (kv:Key×Value)=>∃b ku,u=Value.ref b/\h.IsTuple b #[ku,kv.2]/\(qx P w).is kv.1 ku=true) its ps
 |_,_,_,.nil,.nil=>⟨[],.nil,.nil⟩
 | _,_,_,.cons (b:=kv) hx hr,.cons rx rr=>by obtain⟨ps,h1,h2⟩:=qgV ok hr rr;obtain⟨b,rfl,hb⟩:=hx;obtain⟨_,its,rv,tp⟩:=(show qU P w H h b (.tup [.str kv.1,.int kv.2]) from ok b _ hb);obtain⟨u,v,rfl,ru,rv⟩:=qa5 rv;exact⟨(.inr kv.1,v)::ps,.cons ⟨rfl,rv⟩ h1,.cons ⟨b,u,rx,tp,qia (k:=.inr kv.1) ru⟩ h2⟩
theorem Paired.ix{α β:Type}{R:α->β->Prop}:∀{l:List α} {m:List β} {i:Nat} {b:β},Paired R l m->m[i]?=some b->∃a,l[i]?=some a/\R a b
 |_,_,_,_,.nil,e=>by simp at e
 |_,_,0,_,.cons h t,e=>by simp at e;subst e;exact⟨_,rfl,h⟩
 | _,_,i+1,_,.cons h t,e=>by obtain⟨a,e1,e2⟩:=Paired.ix (i:=i) t (by simpa using e);exact⟨a,by simpa using e1,e2⟩
theorem qcP(hc:X.calm=true):zV X (.type "dict") (λvs H Q=>∃(p:Addr) (xs:List V) (kvs:List (Str×Int)),vs=[.ref p]/\SqL X.K H p xs/\Paired (λx (kv:Str×Int)=>∃b,x=V.ref b/\H b=some (.tup [.str kv.1,.int kv.2])) xs kvs/\(kvs.map (·.1)).Nodup/\∀q,H q=none->Q (.ref q) (upd H q (.dK (kvs.map kvV)))):=by
 intro pins s σ H xs us Q I r h;obtain⟨p,xs,kvs,rfl,hq,hp,nd,q⟩:=h;obtain⟨u,rfl,rx⟩:=Yk r;cases rx;obtain⟨its,rv,⟨ol,n,g1,g2,g3,g4⟩,hz⟩:=I.list hq;obtain⟨ps,h1,h2⟩:=qgV I.hok hp rv;have e1:=h1.length;have e2:=h2.length;have e3:=rv.length;rw[List.length_map] at e1
 have hps:qic X.prog X.w s.heap its.toArray ps:=⟨by simpa using e2,λi kv e=>by obtain⟨u,z1,b,ku,z2,z3,z4⟩:=Paired.ix h2 e;exact⟨b,ku,by rw[<-z2];simpa using z1,z3,z4⟩⟩
 refine qcO (I.ok.hd hc) g1 g2 g4 g3 hps (1:) λh' tk ko dd=>?_
 have nk:(ps.map (·.1)).Nodup:=by
  rw[<-h1.keys,List.map_map]
  have:((λx:Key×V=>x.1) ∘ kvV)=(Sum.inr:Str->Key) ∘ (λkv:Str×Int=>kv.1):=rfl
  rw[this,<-List.map_map];exact nd.map (f:=(Sum.inr:Str->Key)) (λa b=>by simp)
 rw[merged_nil_of_nodup ps nk] at dd;refine⟨.ref _,_,I.laid (a:=s.heap.objs.size) (o:=.dK (kvs.map kvV)) (t':=tk) ko (Nat.le_refl _) (qkj (by rw[List.length_map];omega) (beq_eq_false_iff_ne.mpr (Ne.symm (Nat.ne_of_lt I.big))) h1 dd),rfl,q _ (I.hok.fresh (Nat.le_refl _))⟩
end
end L2
namespace TS
open PySem PyProof.Rows
section
variable{M:Model}{A:Around}{E:PQ}{s:Shared}{O:KeyOrd}{kf:Keyed->O.α}{κ:SortKind}{G:Keyed->Prop}{a0:Array Keyed}
noncomputable def Few(O:KeyOrd)(kf:Keyed->O.α)(a0:Array Keyed)(st:SortSt):Prop:=(arrOf st).Perm a0/\failedOf st=none/\pendingOf st=#[(0,a0.size,0)]/\Srt O kf (arrOf st) 0 a0.size
theorem qdX(L:qfC M A E s O kf κ G)(h2:2<=a0.size)(h64:a0.size < 64)(h0:∀x∈a0.toList,G x){st:SortSt}{Q:Unit->SortSt->Prop}(hk:kindOf st=κ)(hf:failedOf st=none)(ha:arrOf st=a0)(hp:pendingOf st=#[])
  (h:∀st',(arrOf st').Perm a0->failedOf st'=none->Srt O kf (arrOf st') 0 a0.size->Q () st'):wpS M A E s sortRuns' Q st:=by
 rw[sortRuns'_eq];refine wpS_bind (wpS_get ?_);dsimp only
 have hmr:minRun' a0.size a0.size 0=a0.size:=by
  obtain⟨f,hf⟩:∃f,a0.size=f+1:=⟨a0.size - 1,by omega⟩
  have:minRun' (f+1) a0.size 0=a0.size:=by rw[minRun'_succ,if_pos h64];rfl
  rwa[<-hf] at this
 simp only[ha,hmr];have done:∀st',kindOf st'=κ->failedOf st'=none->pendingOf st'=#[]->(arrOf st').Perm a0->Srt O kf (arrOf st') 0 a0.size->Few O kf a0 (setPending st' ((pendingOf st').push (0,a0.size,0))):=λst' _ b c d e=>⟨d,b,by show(pendingOf st').push _=_;rw[c];rfl,e⟩
 refine wpS_bind (wpS_mono (wpS_forRange
  (I:=λx c st'=>(x=0/\c=(none,0)/\st'=st)\/(1<=x/\c=(none,a0.size)/\Few O kf a0 st'))
  (Q:=λc st'=>c=(none,a0.size)/\Few O kf a0 st') ?step ?fin (.inl ⟨rfl,rfl,rfl⟩)) ?post)
 case fin=>
  rintro c st' (⟨hx,_,_⟩ | ⟨_,hc,hD⟩)
  ·omega
  ·exact⟨hc,hD⟩
 case step=>
  rintro x c st' _ hx (⟨rfl,rfl,rfl⟩ | ⟨hx1,rfl,hD⟩)
  ·dsimp only;rw[if_neg (1:)];simp only[Nat.sub_zero,Nat.min_self,Nat.zero_add];refine wpS_bind (qm3 L hk (by rw[ha];exact h0) (by rw[ha];omega) (1:) λm xs r m1 m2 im=>?_);dsimp only;rw[ha] at r;rw[Nat.zero_add] at im
   by_cases hlt:m < a0.size
   ·rw[if_pos hlt];refine wpS_bind (wpS_lift (wpAny_rule ⟨rfl,?_⟩));refine wpS_bind (qka L (st:=setArr st' xs) hk (r.mem h0) (by show 0+a0.size<=xs.size;rw[r.size];omega) (1:) (by rw[Nat.zero_add];exact im) λys r2 im2=>?_);simp only[Bool.not_true,Bool.false_eq_true,if_false];refine wpS_bind (wpS_get ?_);have hb:(pendingOf (setArr (setArr st' xs) ys)).back?=none:=by rw[show pendingOf (setArr (setArr st' xs) ys)=pendingOf st' from rfl,hp];rfl
    rw[hb];dsimp only;rw[Nat.zero_add] at im2;exact wpS_bind (wpS_modify (wpS_pure (.inr ⟨by omega,rfl,done _ hk hf hp (r2.perm.trans r.perm) im2.srt⟩)))
   ·rw[if_neg hlt];have hm:m=a0.size:=by omega
    subst hm;refine wpS_bind (wpS_get ?_);have hb:(pendingOf (setArr st' xs)).back?=none:=by rw[show pendingOf (setArr st' xs)=pendingOf st' from rfl,hp];rfl
    rw[hb];dsimp only;exact wpS_bind (wpS_modify (wpS_pure (.inr ⟨by omega,rfl,done _ hk hf hp r.perm im.srt⟩)))
  ·dsimp only;rw[if_pos (Nat.le_refl _)];exact wpS_pure ⟨rfl,hD⟩
 case post=>
  rintro c st' ⟨rfl,hD⟩;dsimp only;refine wpS_bind (wpS_mono (wpS_forRange (I:=λ_ c st''=>st''=st'/\c=(none,())) (Q:=λc st''=>st''=st'/\c=(none,())) ?_ (λ_ _ hh=>hh) ⟨rfl,rfl⟩) ?_)
  ·rintro x c st'' _ _ ⟨rfl,rfl⟩;refine wpS_bind (wpS_get ?_);rw[if_pos (by rw[hD.2.2.1];exact Nat.le_refl 1)];exact wpS_pure ⟨rfl,rfl⟩
  ·rintro c st'' ⟨rfl,rfl⟩;exact wpS_pure (h _ hD.1 hD.2.1 hD.2.2.2)
end
section
variable{prog:Program}{w:World}{A:Around}{E:PQ}{s:Shared}{O:KeyOrd}{kf:Keyed->O.α}{κ:SortKind}
theorem qdY{s0:Shared}{a:Addr}{vs:List Value}{n:Nat}{P:PySem.Fin->Shared->Prop}(S:Sorts prog w s0 vs O kf κ)(ho:s.heap.get? a=some (seqObj "list" vs.toArray n))(hsz:vs.length<=sizeLine)(h64:vs.length < 64)
  (hg:∀b o,s0.heap.get? b=some o->s.heap.get? b=some o/\b≠a)
  (h:∀st':SortSt,(arrOf st').Perm (pairsOf vs)->Srt O kf (arrOf st') 0 (pairsOf vs).size->P (.done (.ret .none)) { s with heap:=sortedHeap s.heap a vs ((arrOf st').map (·.2)) }) :
  wpAny (model prog w) A (Builtin.«list.sort» ⟨[.ref a],[]⟩) P E s:=by
 rw[list_sort_plain];have ha:a < s.heap.objs.size:=Heap.lt_size ho;have hv:vs.toArray.size=vs.length:=by simp
 refine wpAny_bind (listItems_at ho rfl (wpAny_bind (listUpdate_at ho rfl ?_ (by rw[hv];exact hsz) (Nat.zero_le _))));obtain⟨n1,ho1⟩:∃n1,(s.heap.update a (Obj.mapSeq λ_=>#[])).get? a=some (seqObj "list" #[] n1):=⟨_,get?_update_seq ho (λ_=>#[])⟩;refine wpAny_bind (seqEpoch_at ho1 rfl (wpAny_bind (wpAny_newTuple ?_ (by simpa using hsz))));refine wpAny_bind (wpAny_newList (wpAny_holding ?_) (Nat.zero_le _));generalize hh:(((s.heap.update a (Obj.mapSeq λ_=>#[])).push (seqObj "tuple" vs.toArray 0)).push (seqObj "list" #[] 0))=h6
 have ho6:h6.get? a=some (seqObj "list" #[] n1):=by rw[<-hh];exact Heap.get?_push_of_some _ (Heap.get?_push_of_some _ ho1)
 have grown:qdM s0 { s with heap:=h6 }:=λb o e=>by obtain⟨e1,ne⟩:=hg b o e;show h6.get? b=some o;rw[<-hh];exact Heap.get?_push_of_some _ (Heap.get?_push_of_some _ (by rw[Heap.get?_update_ne _ _ _ _ ne];exact e1))
 have fin:∀st':SortSt,(arrOf st').Perm (pairsOf vs)->Srt O kf (arrOf st') 0 (pairsOf vs).size->P (.done (.ret .none)) { s with heap:=h6.update a (Obj.mapSeq λ_=>(arrOf st').map (·.2)) }:=λst' a1 a2=>by
  have:=h st' a1 a2
  unfold sortedHeap at this;rw[hh] at this;exact this
 have small:∀st':SortSt,(arrOf st').Perm (pairsOf vs)->((arrOf st').map (·.2)).size<=sizeLine+1:=λst' hp=>by rw[Array.size_map,hp.size_eq,pairsOf_size];omega
 show wpAny (model prog w) A _ P E { s with heap:=h6 };dsimp only
 by_cases h2:vs.toArray.size < 2
 ·rw[if_pos h2,if_pos h2];refine wpAny_bind (wpAny_pure ?_);rw[StateT.run_pure];refine wpAny_bind (wpAny_pure ?_);dsimp only;refine wpAny_bind (seqEpoch_at ho6 rfl ?_);refine wpAny_bind (listUpdate_at ho6 rfl ?_ (Nat.zero_le _) (small (SortSt.mk' general' (vs.toArray.zip vs.toArray) #[] 7 none) (Array.Perm.refl _)));simp only[bne_self_eq_false,Bool.false_eq_true,if_false];refine wpAny_pure (fin (SortSt.mk' general' (vs.toArray.zip vs.toArray) #[] 7 none) (Array.Perm.refl _) ?_);intro i j x y _ b c d e
  have:i=j:=by rw[pairsOf_size] at c;omega
  subst this;rw[d] at e;cases e;exact KeyOrd.kle_refl _
 ·rw[if_neg h2,if_neg h2];refine wpAny_bind (S.kind (1:) A E _ _ grown ?_)
  refine wpAny_bind (wpAny_mono (qdX (S.lt A E _ grown) (a0:=pairsOf vs) (by rw[pairsOf_size];omega) (by rw[pairsOf_size];exact h64) (st:=SortSt.mk' κ (vs.toArray.zip vs.toArray) #[] 7 none) (λx hx=>hx) rfl rfl rfl rfl
   (Q:=λ_ st'=>(arrOf st').Perm (pairsOf vs)/\failedOf st'=none/\Srt O kf (arrOf st') 0 (pairsOf vs).size) λst' a1 a2 a3=>⟨a1,a2,a3⟩) ?_ λ_ _ e=>e)
  rintro⟨⟨⟩,st'⟩ s' ⟨rfl,hp,hf,hs⟩;dsimp only;refine wpAny_bind (seqEpoch_at ho6 rfl (wpAny_bind (listUpdate_at ho6 rfl ?_ (Nat.zero_le _) (small st' hp))));rw[hf];simp only[bne_self_eq_false,Bool.false_eq_true,if_false];exact wpAny_pure (fin st' hp hs)
theorem qai{l:Addr}{vs:List Value}{Q:PQ}(S:Sorts prog w s vs O kf κ)(hl:s.heap.IsList l vs.toArray)(hsz:vs.length<=sizeLine)(h64:vs.length < 64)
  (h:∀st':SortSt,(arrOf st').Perm (pairsOf vs)->Srt O kf (arrOf st') 0 (pairsOf vs).size->Q (.ref (s.heap.objs.size+1)) { s with heap:=sortedAll s.heap vs ((arrOf st').map (·.2)) }) :
  wpAny (model prog w) A (call (.builtin "sorted") [.ref l]) Q E s:=by
 refine Calls.call_function_entry kind_sorted plain_sorted entry_sorted (args_sorted1 _) ?_;unfold Builtin.«sorted»;refine wpAny_bind (m:=checkCount "sorted" 1 1 _) (wpAny_pure (wpAny_bind (collect_list hl ?_ hsz)));refine wpAny_bind (wpAny_newList ?_ hsz);have hz:((s.heap.push (seqObj "list" #[] 0)).update s.heap.objs.size (Obj.mapSeq (· ++ vs.toArray))).objs.size=s.heap.objs.size+1:=by rw[Heap.size_update,size_push']
 show wpAny _ _ _ _ _ { s with heap:=((s.heap.push (seqObj "list" #[] 0)).update s.heap.objs.size (Obj.mapSeq (· ++ vs.toArray))).push (seqObj "list" vs.toArray 0) };rw[hz];generalize hh:((s.heap.push (seqObj "list" #[] 0)).update s.heap.objs.size (Obj.mapSeq (· ++ vs.toArray))).push (seqObj "list" vs.toArray 0)=h6
 have hoL:h6.get? (s.heap.objs.size+1)=some (seqObj "list" vs.toArray 0):=by rw[<-hh,<-hz];exact Heap.get?_push_size _ rfl
 have old:∀b o,s.heap.get? b=some o->h6.get? b=some o/\b≠s.heap.objs.size+1:=λb o e=>by have hlt:b < s.heap.objs.size:=Heap.lt_size e;refine⟨?_,Nat.ne_of_lt (Nat.lt_succ_of_lt hlt)⟩;rw[<-hh];refine Heap.get?_push_of_some _ ?_;rw[Heap.get?_update_ne _ _ _ _ (Nat.ne_of_lt hlt)];exact Heap.get?_push_of_some _ e
 have hr:∀st':SortSt,(arrOf st').Perm (pairsOf vs)->Srt O kf (arrOf st') 0 (pairsOf vs).size->Q (.ref (s.heap.objs.size+1)) { s with heap:=sortedHeap h6 (s.heap.objs.size+1) vs ((arrOf st').map (·.2)) }:=λst' a1 a2=>by
  have:=h st' a1 a2
  unfold sortedAll at this;rw[hh] at this;exact this
 refine wpAny_bind (wpAny_holding (wpAny_call_entry slot_list_sort ⟨_,hoL,rfl⟩ entry_list_sort (qdY S hoL hsz h64 old λst' a1 a2=>⟨_,rfl,?_⟩) (args_list_sort _)));exact wpAny_pure ⟨_,rfl,hr st' a1 a2⟩
end
end TS
namespace L2
open PySem PySem.Spec PyProof.Rows
section
variable{X:Cx}
theorem Q5:zV X (.builtin "sorted") (λvs H Q=>∃p xs ps,vs=[.ref p]/\SqL X.K H p xs/\xs.length < 64/\Paired (P2 X.K H) xs ps/\
  ∀l ys qs,H l=none->Paired (P2 X.K H) ys qs->ys.Perm xs->qs.Perm ps->qs.Pairwise qcN->Q (.ref l) (upd H l (.lst ys))):=by
 intro pins s σ H xs us Q I r h;obtain⟨p,xs,ps,rfl,hq,h64,hp,q⟩:=h;obtain⟨u,rfl,rx⟩:=Yk r;cases rx;obtain⟨its,rv,pl,hz⟩:=I.list hq;have hlen:=rv.length
 have three:∀{xs:List V} {its:List Value} {ps:List (Int×Int)},qA xs its->Paired (P2 X.K H) xs ps->Paired (λ(z:V×(Int×Int)) u=>qM z.1 u/\P2 X.K H z.1 z.2/\TS.qbO s.heap u z.2) (xs.zip ps) its/\Paired (TS.qbO s.heap) its ps/\xs.length=ps.length:=by
  intro xs its ps a b
  induction a generalizing ps with
  |nil=>cases b;exact⟨.nil,.nil,rfl⟩
  |cons r rs ih=>
   cases b with
   |cons b bs=>obtain⟨i1,i2,i3⟩:=ih bs;have t:=P2.raw I b r;exact⟨.cons ⟨r,b,t⟩ i1,.cons t i2,by simp[i3]⟩
 obtain⟨t1,t2,t3⟩:=three rv hp;refine TS.qai (TS.qdO t2) pl.isList (1:) (1:) λst' pm sr=>?_
 have hl:(arrOf st').toList.Perm (its.zip its):=by
  have:=Array.perm_iff_toList_perm.mp pm
  rwa[pairsOf_toList] at this
 have hout:((arrOf st').map (·.2)).toList.Perm its:=by
  rw[Array.toList_map]
  have:=hl.map (·.2)
  rwa[List.map_snd_zip (Nat.le_refl _)] at this
 obtain⟨zs,z1,z2⟩:=TS.Paired.perm hout t1
 have hys:(zs.map (·.1)).Perm xs:=by
  have:=z1.map (·.1)
  rwa[List.map_fst_zip (1:)] at this
 have hqs:(zs.map (·.2)).Perm ps:=by
  have:=z1.map (·.2)
  rwa[List.map_snd_zip (1:)] at this
 have hv:qA (zs.map (·.1)) ((arrOf st').map (·.2)).toList:=by
  clear z1 hys hqs;generalize ((arrOf st').map (·.2)).toList=ol at z2
  induction z2 with
  |nil=>exact .nil
  |cons r _ ih=>exact .cons r.1 ih
 have hP:Paired (P2 X.K H) (zs.map (·.1)) (zs.map (·.2)):=by
  clear z1 hys hqs hv;generalize ((arrOf st').map (·.2)).toList=ol at z2
  induction z2 with
  |nil=>exact .nil
  |cons r _ ih=>exact .cons r.2.1 ih
 have hkeys:((arrOf st').map (·.2)).toList.map (TS.yA s.heap)=zs.map (·.2):=by
  clear z1 hys hqs hv hP;generalize ((arrOf st').map (·.2)).toList=ol at z2
  induction z2 with
  |nil=>rfl
  |cons r _ ih=>rw[List.map_cons,List.map_cons,ih,r.2.2.pair]
 have hsrt:(zs.map (·.2)).Pairwise qcN:=by
  rw[<-hkeys,Array.toList_map,List.map_map];have h0:(arrOf st').size=(pairsOf its).size:=pm.size_eq;rw[<-h0] at sr
  have:=sr.pw
  refine List.pairwise_map.mpr ?_;refine List.Pairwise.imp_of_mem (λ{a b} ha hb hab=>?_) this;have ea:=(mem_zip_self (hl.mem_iff.mp ha)).1;have eb:=(mem_zip_self (hl.mem_iff.mp hb)).1;have hab:TS.pO.blt (TS.yA s.heap b.1) (TS.yA s.heap a.1)=false:=hab;rw[ea,eb] at hab;unfold TS.pO at hab;simp at hab;show qcN (TS.yA s.heap a.2) (TS.yA s.heap b.2);unfold qcN;omega
 obtain⟨e,he⟩:=sortedAll_at s.heap its ((arrOf st').map (·.2));have hz2:(zs.map (·.1)).length<=sizeLine:=by rw[hys.length_eq];exact hz
 refine⟨.ref (s.heap.objs.size+1),_,I.laid (t':=s.toks) (λb o eb=>sortedAll_old eb) (Nat.le_succ _) (show qU X.prog X.w _ _ _ (.lst (zs.map (·.1))) from⟨hz2,_,e,hv,?_⟩),rfl,q _ _ _ (I.hok.fresh (Nat.le_succ _)) hP hys hqs hsrt⟩;rw[Array.toArray_toList];exact he
end
end L2
namespace DE
open PySem L2
inductive D where
 | non | bl (b:Bool) | int (n:Int) | str (s:Str) | lst (l:List D) | tup (l:List D) | ins (c:Str) (ns:List Str) (l:List D)
 deriving Inhabited
abbrev KC:=Str->Option Addr
mutual
noncomputable def Rep(κ:KC)(G:Hp):D->V->Prop
 |.non,v=>v=.non
 |.bl b,v=>v=.bl b
 |.int n,v=>v=.int n
 |.str s,v=>v=.str s
 |.lst ds,v=>∃a xs,v=.ref a/\G a=some (.lst xs)/\qo κ G ds xs
 |.tup ds,v=>∃a xs,v=.ref a/\G a=some (.tup xs)/\qo κ G ds xs
 |.ins c ns ds,v=>∃p dx C xs,κ c=some C/\v=.ref p/\G p=some (.ins C dx (ns.zip xs))/\xs.length=ns.length/\qo κ G ds xs
noncomputable def qo(κ:KC)(G:Hp):List D->List V->Prop
 |[],xs=>xs=[]
 | d::ds,xs=>∃x r,xs=x::r/\Rep κ G d x/\qo κ G ds r
end
mutual
theorem Rep.same{κ:KC}{G G':Hp}(e:qt G G'):∀{d:D} {v:V},Rep κ G d v->Rep κ G' d v
 |.non,v,h=>by simp only[Rep] at h ⊢;exact h
 |.bl b,v,h=>by simp only[Rep] at h ⊢;exact h
 |.int i,v,h=>by simp only[Rep] at h ⊢;exact h
 |.str x,v,h=>by simp only[Rep] at h ⊢;exact h
 |.lst ds,v,h=>by simp only[Rep] at h ⊢;obtain⟨a,xs,rfl,h1,h2⟩:=h;exact⟨a,xs,rfl,e _ _ h1,qo.same e h2⟩
 |.tup ds,v,h=>by simp only[Rep] at h ⊢;obtain⟨a,xs,rfl,h1,h2⟩:=h;exact⟨a,xs,rfl,e _ _ h1,qo.same e h2⟩
 |.ins c ns ds,v,h=>by simp only[Rep] at h ⊢;obtain⟨p,dx,C,xs,hc,rfl,h1,hl,h2⟩:=h;exact⟨p,dx,C,xs,hc,rfl,e _ _ h1,hl,qo.same e h2⟩
theorem qo.same{κ:KC}{G G':Hp}(e:qt G G'):∀{ds:List D} {vs:List V},qo κ G ds vs->qo κ G' ds vs
 |[],vs,h=>by simp only[qo] at h ⊢;exact h
 | d::ds,vs,h=>by simp only[qo] at h ⊢;obtain⟨x,r,rfl,h1,h2⟩:=h;exact⟨x,r,rfl,Rep.same e h1,qo.same e h2⟩
end
section
variable{κ:KC}{G G':Hp}
theorem qo.nil:qo κ G [] []:=by simp only[qo]
theorem qo.cons{d:D}{ds:List D}{v:V}{vs:List V}(h:Rep κ G d v)(t:qo κ G ds vs):qo κ G (d::ds) (v::vs):=by simp only[qo];exact⟨v,vs,rfl,h,t⟩
theorem qo.len:∀{ds:List D} {vs:List V},qo κ G ds vs->ds.length=vs.length
 |[],vs,h=>by simp only[qo] at h;subst h;rfl
 | d::ds,vs,h=>by simp only[qo] at h;obtain⟨x,r,rfl,h1,h2⟩:=h;simp[qo.len h2]
theorem qo.app:∀{ds es:List D} {vs us:List V},qo κ G ds vs->qo κ G es us->qo κ G (ds++es) (vs++us)
 | [],es,vs,us,h,h'=>by simp only[qo] at h;subst h;exact h'
 | d::ds,es,vs,us,h,h'=>by simp only[qo] at h;obtain⟨x,r,rfl,h1,h2⟩:=h;exact qo.cons h1 (qo.app h2 h')
theorem qo.snoc{ds:List D}{vs:List V}{d:D}{v:V}(h:qo κ G ds vs)(h':Rep κ G d v):qo κ G (ds++[d]) (vs++[v]):=h.app %[h'|0]
theorem qo.drop:∀(n:Nat) {ds:List D} {vs:List V},qo κ G ds vs->qo κ G (ds.drop n) (vs.drop n)
 |0,_,_,h=>h
 | n+1,[],vs,h=>by simp only[qo] at h;subst h;exact .nil
 | n+1,d::ds,vs,h=>by simp only[qo] at h;obtain⟨x,r,rfl,h1,h2⟩:=h;exact qo.drop n h2
theorem qo.take:∀(n:Nat) {ds:List D} {vs:List V},qo κ G ds vs->qo κ G (ds.take n) (vs.take n)
 |0,_,_,h=>by simpa using qo.nil
 | n+1,[],vs,h=>by simp only[qo] at h;subst h;exact .nil
 | n+1,d::ds,vs,h=>by simp only[qo] at h;obtain⟨x,r,rfl,h1,h2⟩:=h;exact qo.cons h1 (qo.take n h2)
theorem qo.atD:∀{ds:List D} {vs:List V} {i:Nat} {d:D},qo κ G ds vs->ds[i]?=some d->∃v,vs[i]?=some v/\Rep κ G d v
 |[],vs,i,d,h,e=>by simp at e
 | d::ds,vs,0,d',h,e=>by simp only[qo] at h;obtain⟨x,r,rfl,h1,h2⟩:=h;simp at e;subst e;exact⟨x,rfl,h1⟩
 | d::ds,vs,i+1,d',h,e=>by simp only[qo] at h;obtain⟨x,r,rfl,h1,h2⟩:=h;obtain⟨v',e1,e2⟩:=qo.atD (i:=i) h2 (by simpa using e);exact⟨v',by simpa using e1,e2⟩
theorem qo.set:∀{ds:List D} {vs:List V} (i:Nat) {d:D} {v:V},qo κ G ds vs->Rep κ G d v->qo κ G (ds.set i d) (vs.set i v)
 | [],vs,i,d,v,h,h'=>by simp only[qo] at h;subst h;exact .nil
 | d::ds,vs,0,d',v,h,h'=>by simp only[qo] at h;obtain⟨x,r,rfl,h1,h2⟩:=h;exact qo.cons h' h2
 | d::ds,vs,i+1,d',v,h,h'=>by simp only[qo] at h;obtain⟨x,r,rfl,h1,h2⟩:=h;exact qo.cons h1 (qo.set i h2 h')
end
inductive Sl where
 | no | val (d:D) | own (l:List D) | bor (l:List D) | scr (l:List D)
abbrev Env:=List Sl
noncomputable def SlR(κ:KC)(K:Frag)(G H Hv:Hp):Sl->Option (Option V)->Prop
 |.no,_=>True
 |.val d,o=>∃v,o=some (some v)/\Rep κ G d v
 |.own ds,o=>∃a xs,o=some (some (.ref a))/\H a=some (.lst xs)/\Hv a=none/\G a=none/\qo κ G ds xs
 |.bor ds,o=>∃a xs,o=some (some (.ref a))/\Hv a=some (.lst xs)/\qo κ G ds xs
 |.scr ds,o=>∃a xs,o=some (some (.ref a))/\SqL K Hv a xs/\qo κ G ds xs
noncomputable def qcQ(ρ:Env)(σ:St)(a:Addr):Prop:=∃(i:Nat) (l:List D),ρ[i]?=some (.own l)/\σ[i]?=some (some (.ref a))
structure ER(κ:KC)(K:Frag)(Gv Hv G H:Hp)(ρ:Env)(σ:St):Prop where
 len:ρ.length=σ.length
 sub:qt G H
 base:qt Hv H
 g0:qt Gv G
 fresh:∀a o,G a=some o->(∃o',Gv a=some o')\/Hv a=none
 sl:∀(i:Nat) (s:Sl),ρ[i]?=some s->SlR κ K G H Hv s σ[i]?
 ap:∀(i j:Nat) (a:Addr) (l m:List D),ρ[i]?=some (.own l)->ρ[j]?=some (.own m)->σ[i]?=some (some (.ref a))->σ[j]?=some (some (.ref a))->i=j
structure Po(κ:KC)(K:Frag)(Gv Hv:Hp)(σ:St)(G H:Hp)(ρ:Env)(G' H':Hp)(ρ':Env):Prop where
 er:ER κ K Gv Hv G' H' ρ' σ
 hs:qt H H'
 gs:qt G G'
 new:∀a o,G' a=some o->(∃o',G a=some o')\/H a=none\/qcQ ρ σ a
 fz:∀(i:Nat) (l:List D),ρ'[i]?=some (.own l)->ρ[i]?=some (.own l)
theorem qt.none{H H':Hp}(e:qt H H'){a:Addr}(h:H' a=none):H a=none:=by
 cases q:H a with
 |none=>rfl
 |some o=>rw[e a o q] at h;cases h
section
variable{κ:KC}{K:Frag}{Gv Hv G H G' H' G'' H'':Hp}{ρ ρ' ρ'':Env}{σ:St}
theorem Po.refl(h:ER κ K Gv Hv G H ρ σ):Po κ K Gv Hv σ G H ρ G H ρ:=⟨h,λ_ _ e=>e,λ_ _ e=>e,λ_ o e=>.inl ⟨o,e⟩,λ_ _ e=>e⟩
theorem Po.trans(a:Po κ K Gv Hv σ G H ρ G' H' ρ')(b:Po κ K Gv Hv σ G' H' ρ' G'' H'' ρ''):Po κ K Gv Hv σ G H ρ G'' H'' ρ'':=
 ⟨b.er,λc o e=>b.hs c o (a.hs c o e),λc o e=>b.gs c o (a.gs c o e),λc o e=>by
  rcases b.new c o e with ⟨o',z⟩ | z | ⟨i,l,z1,z2⟩
  ·exact a.new c o' z
  ·exact .inr (.inl (qt.none a.hs z))
  ·exact .inr (.inr ⟨i,l,a.fz i l z1,z2⟩),λi l e=>a.fz i l (b.fz i l e)⟩
theorem SlR.grow(hs:qt H H')(gs:qt G G')(nw:∀a xs,H a=some (.lst xs)->Hv a=none->G a=none->G' a=none){s:Sl}{o:Option (Option V)}(h:SlR κ K G H Hv s o):SlR κ K G' H' Hv s o:=by
 cases s with
 |no=>trivial
 |val d=>obtain⟨v,e,r⟩:=h;exact⟨v,e,r.same gs⟩
 |own ds=>obtain⟨a,xs,e,h1,h2,h3,h4⟩:=h;exact⟨a,xs,e,hs _ _ h1,h2,nw a xs h1 h2 h3,h4.same gs⟩
 |bor ds=>obtain⟨a,xs,e,h1,h4⟩:=h;exact⟨a,xs,e,h1,h4.same gs⟩
 |scr ds=>obtain⟨a,xs,e,h1,h4⟩:=h;exact⟨a,xs,e,h1,h4.same gs⟩
theorem Po.more(h:ER κ K Gv Hv G H ρ σ)(hs:qt H H')(gs:qt G G')(sub:qt G' H')(new:∀a o,G' a=some o->(∃o',G a=some o')\/H a=none):Po κ K Gv Hv σ G H ρ G' H' ρ:=by
 refine⟨⟨h.len,sub,λb o e=>hs b o (h.base b o e),λb o e=>gs b o (h.g0 b o e),λa o e=>?_,λi s e=>(h.sl i s e).grow hs gs λa xs h1 h2 h3=>?_,h.ap⟩,hs,gs,λa o e=>?_,λ_ _ e=>e⟩
 ·rcases new a o e with ⟨o',z⟩ | z
  ·exact h.fresh a o' z
  ·exact .inr (qt.none h.base z)
 ·cases q:G' a with
  |none=>rfl
  |some o=>
   rcases new a o q with ⟨o',z⟩ | z
   ·rw[h3] at z;cases z
   ·rw[h1] at z;cases z
 ·rcases new a o e with z | z
  ·exact .inl z
  ·exact .inr (.inl z)
theorem Po.room(h:ER κ K Gv Hv G H ρ σ)(hs:qt H H'):Po κ K Gv Hv σ G H ρ G H' ρ:=
 Po.more h hs (λ_ _ e=>e) (λb o e=>hs b o (h.sub b o e)) λ_ o e=>.inl ⟨o,e⟩
theorem Po.lay(h:ER κ K Gv Hv G H ρ σ){a:Addr}{o:HO}(ha:H a=none):Po κ K Gv Hv σ G H ρ (upd G a o) (upd H a o) ρ:=by
 have ga:G a=none:=qt.none h.sub ha;refine Po.more h (qt.upd ha) (qt.upd ga) (λb u e=>?_) λb u e=>?_
 ·by_cases hb:b=a
  ·subst hb;rw[qg] at e ⊢;exact e
  ·rw[qd hb] at e ⊢;exact h.sub b u e
 ·by_cases hb:b=a
  ·subst hb;exact .inr ha
  ·rw[qd hb] at e;exact .inl ⟨u,e⟩
end
inductive Rv where
 | val (d:D) | tmp (l:List D) | cell (l:List D) | scr (l:List D)
noncomputable def RvR(κ:KC)(K:Frag)(Hv Hb G H:Hp)(ρ:Env)(σ:St):Rv->V->Prop
 |.val d,v=>Rep κ G d v
 |.tmp ds,v=>∃a xs,v=.ref a/\H a=some (.lst xs)/\Hb a=none/\Hv a=none/\G a=none/\¬ qcQ ρ σ a/\qo κ G ds xs
 |.cell ds,v=>∃a xs,v=.ref a/\H a=some (.lst xs)/\qo κ G ds xs
 |.scr ds,v=>∃a xs,v=.ref a/\SqL K H a xs/\qo κ G ds xs
section
variable{κ:KC}{K:Frag}{Gv Hv Hb G H G' H':Hp}{ρ ρ':Env}{σ:St}
theorem RvR.keep{r:Rv}{v:V}(h:RvR κ K Hv Hb G H ρ σ r v)(p:Po κ K Gv Hv σ G H ρ G' H' ρ'):RvR κ K Hv Hb G' H' ρ' σ r v:=by
 cases r with
 |val d=>exact Rep.same p.gs h
 |tmp ds=>
  obtain⟨a,xs,rfl,h1,h2,h3,h4,h5,h6⟩:=h;refine⟨a,xs,rfl,p.hs _ _ h1,h2,h3,?_,λ⟨i,l,z1,z2⟩=>h5 ⟨i,l,p.fz i l z1,z2⟩,h6.same p.gs⟩
  cases q:G' a with
  |none=>rfl
  |some o=>
   rcases p.new a o q with ⟨o',z⟩ | z | z
   ·rw[h4] at z;cases z
   ·rw[h1] at z;cases z
   ·exact absurd z h5
 |cell ds=>obtain⟨a,xs,rfl,h1,h6⟩:=h;exact⟨a,xs,rfl,p.hs _ _ h1,h6.same p.gs⟩
 |scr ds=>obtain⟨a,xs,rfl,h1,h6⟩:=h;exact⟨a,xs,rfl,p.hs.seq h1,h6.same p.gs⟩
theorem RvR.back{Hc:Hp}{r:Rv}{v:V}(h:RvR κ K Hv Hc G H ρ σ r v)(e:qt Hb Hc):RvR κ K Hv Hb G H ρ σ r v:=by
 cases r with
 |val d=>exact h
 |tmp ds=>obtain⟨a,xs,rfl,h1,h2,h3,h4,h5,h6⟩:=h;exact⟨a,xs,rfl,h1,qt.none e h2,h3,h4,h5,h6⟩
 |cell ds=>exact h
 |scr ds=>exact h
noncomputable def Rv.list?:Rv->Option (List D)
 |.val (.lst l)=>some l
 |.tmp l=>some l
 |.cell l=>some l
 |.scr l=>some l
 |_=>none
noncomputable def Rv.plain?:Rv->Option (List D)
 |.val (.lst l)=>some l
 |.tmp l=>some l
 |.cell l=>some l
 |_=>none
theorem RvR.plain(er:ER κ K Gv Hv G H ρ σ){r:Rv}{v:V}{l:List D}(h:RvR κ K Hv Hb G H ρ σ r v)(e:r.plain?=some l):∃a xs,v=.ref a/\H a=some (.lst xs)/\qo κ G l xs:=by
 cases r with
 |val d=>
  cases d<;>simp only[Rv.plain?] at e<;>try (cases e)
  simp only[RvR,Rep] at h;obtain⟨a,xs,rfl,h1,h2⟩:=h;exact⟨a,xs,rfl,er.sub _ _ h1,h2⟩
 |tmp ds=>simp only[Rv.plain?] at e;cases e;obtain⟨a,xs,rfl,h1,_,_,_,_,h6⟩:=h;exact⟨a,xs,rfl,h1,h6⟩
 |cell ds=>simp only[Rv.plain?] at e;cases e;exact h
 |scr ds=>simp only[Rv.plain?] at e;cases e
theorem RvR.list(er:ER κ K Gv Hv G H ρ σ){r:Rv}{v:V}{l:List D}(h:RvR κ K Hv Hb G H ρ σ r v)(e:r.list?=some l):∃a xs,v=.ref a/\SqL K H a xs/\qo κ G l xs:=by
 cases r with
 |scr ds=>simp only[Rv.list?] at e;cases e;exact h
 |val d=>
  have e':(Rv.val d).plain?=some l:=by cases d<;>simp only[Rv.list?] at e<;>first | (cases e;rfl) | cases e
  obtain⟨a,xs,h1,h2,h3⟩:=h.plain er e';exact⟨a,xs,h1,SqL.of h2,h3⟩
 |tmp ds=>obtain⟨a,xs,h1,h2,h3⟩:=h.plain er (l:=l) e;exact⟨a,xs,h1,SqL.of h2,h3⟩
 |cell ds=>obtain⟨a,xs,h1,h2,h3⟩:=h.plain er (l:=l) e;exact⟨a,xs,h1,SqL.of h2,h3⟩
theorem Po.freeze{a:Addr}{xs:List V}{G1 H1:Hp}{ρ1:Env}(p:Po κ K Gv Hv σ G H ρ G1 H1 ρ1)(h1:H1 a=some (.lst xs))(h2:H a=none)(h3:Hv a=none)(h4:G1 a=none)(h5:¬ qcQ ρ1 σ a):Po κ K Gv Hv σ G H ρ (upd G1 a (.lst xs)) H1 ρ1:=by
 have gs:qt G1 (upd G1 a (.lst xs)):=qt.upd h4;have er:=p.er;refine⟨⟨er.len,λb u e=>?_,er.base,λb o e=>gs b o (er.g0 b o e),λb o e=>?_,λi s e=>?_,er.ap⟩,p.hs,λb o e=>gs b o (p.gs b o e),λb o e=>?_,p.fz⟩
 ·by_cases hb:b=a
  ·subst hb;rw[qg] at e;cases e;exact h1
  ·rw[qd hb] at e;exact er.sub b u e
 ·by_cases hb:b=a
  ·subst hb;exact .inr h3
  ·rw[qd hb] at e;exact er.fresh b o e
 ·have q:=er.sl i s e
  cases s with
  |no=>trivial
  |val d=>obtain⟨v,z,r⟩:=q;exact⟨v,z,r.same gs⟩
  |own ds=>obtain⟨b,ys,z,q1,q2,q3,q4⟩:=q;have hb:b≠a:=λw=>h5 ⟨i,ds,e,by rw[<-w];exact z⟩;exact⟨b,ys,z,q1,q2,by rw[qd hb];exact q3,q4.same gs⟩
  |bor ds=>obtain⟨b,ys,z,q1,q4⟩:=q;exact⟨b,ys,z,q1,q4.same gs⟩
  |scr ds=>obtain⟨b,ys,z,q1,q4⟩:=q;exact⟨b,ys,z,q1,q4.same gs⟩
 ·by_cases hb:b=a
  ·subst hb;exact .inr (.inl h2)
  ·rw[qd hb] at e;exact p.new b o e
theorem ER.froze{i:Nat}{l:List D}(h:ER κ K Gv Hv G H ρ σ)(e:ρ[i]?=some (.own l)):∃a xs,σ[i]?=some (some (.ref a))/\Po κ K Gv Hv σ G H ρ (upd G a (.lst xs)) H (ρ.set i (.val (.lst l)))/\Rep κ (upd G a (.lst xs)) (.lst l) (.ref a):=by
 obtain⟨a,xs,z,h1,h2,h3,h4⟩:=h.sl i _ e;have gs:qt G (upd G a (.lst xs)):=qt.upd h3;have hi:i < ρ.length:=(List.getElem?_eq_some_iff.mp e).1;have rp:Rep κ (upd G a (.lst xs)) (.lst l) (.ref a):=by simp only[Rep];exact⟨a,xs,rfl,qg,h4.same gs⟩
 refine⟨a,xs,z,⟨⟨by rw[List.length_set];exact h.len,λb u q=>?_,h.base,λb o q=>gs b o (h.g0 b o q),λb o q=>?_,λj s q=>?_,λj k b m n q1 q2=>?_⟩,λ_ _ q=>q,gs,λb o q=>?_,λj m q=>?_⟩,rp⟩
 ·by_cases hb:b=a
  ·subst hb;rw[qg] at q;cases q;exact h1
  ·rw[qd hb] at q;exact h.sub b u q
 ·by_cases hb:b=a
  ·subst hb;exact .inr h2
  ·rw[qd hb] at q;exact h.fresh b o q
 ·by_cases hj:i=j
  ·subst hj;rw[List.getElem?_set_self hi] at q;cases q;exact⟨_,z,rp⟩
  ·rw[List.getElem?_set_ne hj] at q;have w:=h.sl j s q
   cases s with
   |no=>trivial
   |val d=>obtain⟨v,z,r⟩:=w;exact⟨v,z,r.same gs⟩
   |own ds=>obtain⟨b,ys,z',q1,q2,q3,q4⟩:=w;have hb:b≠a:=λu=>hj (h.ap i j a l ds e q z (by rw[<-u];exact z'));exact⟨b,ys,z',q1,q2,by rw[qd hb];exact q3,q4.same gs⟩
   |bor ds=>obtain⟨b,ys,z,q1,q4⟩:=w;exact⟨b,ys,z,q1,q4.same gs⟩
   |scr ds=>obtain⟨b,ys,z,q1,q4⟩:=w;exact⟨b,ys,z,q1,q4.same gs⟩
 ·have f:∀{j:Nat} {m:List D},(ρ.set i (.val (.lst l)))[j]?=some (.own m)->ρ[j]?=some (.own m):=λ{j m} q=>by
   by_cases hj:i=j
   ·subst hj;rw[List.getElem?_set_self hi] at q;cases q
   ·rw[List.getElem?_set_ne hj] at q;exact q
  exact h.ap j k b m n (f q1) (f q2)
 ·by_cases hb:b=a
  ·subst hb;exact .inr (.inr ⟨i,l,e,z⟩)
  ·rw[qd hb] at q;exact .inl ⟨o,q⟩
 ·by_cases hj:i=j
  ·subst hj;rw[List.getElem?_set_self hi] at q;cases q
  ·rw[List.getElem?_set_ne hj] at q;exact q
theorem ER.setVal{i:Nat}{d:D}{v:V}(h:ER κ K Gv Hv G H ρ σ)(r:Rep κ G d v):ER κ K Gv Hv G H (ρ.set i (.val d)) (σ.set i (some v)):=by
 refine⟨by rw[List.length_set,List.length_set];exact h.len,h.sub,h.base,h.g0,h.fresh,λj s q=>?_,λj k b m n q1 q2 q3 q4=>?_⟩
 ·by_cases hj:i=j
  ·subst hj;have hi:i < ρ.length:=by simpa using (List.getElem?_eq_some_iff.mp q).1
   rw[List.getElem?_set_self hi] at q;cases q;exact⟨v,by rw[List.getElem?_set_self (by rw[<-h.len];exact hi)],r⟩
  ·rw[List.getElem?_set_ne hj] at q ⊢;exact h.sl j s q
 ·have f:∀{j:Nat} {m:List D},(ρ.set i (.val d))[j]?=some (.own m)->i≠j/\ρ[j]?=some (.own m):=λ{j m} q=>by
   by_cases hj:i=j
   ·subst hj;have hi:i < ρ.length:=by simpa using (List.getElem?_eq_some_iff.mp q).1
    rw[List.getElem?_set_self hi] at q;cases q
   ·rw[List.getElem?_set_ne hj] at q;exact⟨hj,q⟩
  obtain⟨n1,e1⟩:=f q1;obtain⟨n2,e2⟩:=f q2;rw[List.getElem?_set_ne n1] at q3;rw[List.getElem?_set_ne n2] at q4;exact h.ap j k b m n e1 e2 q3 q4
theorem ER.setOwn{i:Nat}{l:List D}{a:Addr}{xs:List V}(h:ER κ K Gv Hv G H ρ σ)(h1:H a=some (.lst xs))(h2:Hv a=none)(h3:G a=none)(h4:¬ qcQ ρ σ a)(r:qo κ G l xs):ER κ K Gv Hv G H (ρ.set i (.own l)) (σ.set i (some (.ref a))):=by
 have f:∀{j:Nat} {m:List D},(ρ.set i (.own l))[j]?=some (.own m)->i≠j->ρ[j]?=some (.own m):=λ{j m} q hj=>by rw[List.getElem?_set_ne hj] at q;exact q
 refine⟨by rw[List.length_set,List.length_set];exact h.len,h.sub,h.base,h.g0,h.fresh,λj s q=>?_,λj k b m n q1 q2 q3 q4=>?_⟩
 ·by_cases hj:i=j
  ·subst hj;have hi:i < ρ.length:=by simpa using (List.getElem?_eq_some_iff.mp q).1
   rw[List.getElem?_set_self hi] at q;cases q;exact⟨a,xs,by rw[List.getElem?_set_self (by rw[<-h.len];exact hi)],h1,h2,h3,r⟩
  ·rw[List.getElem?_set_ne hj] at q ⊢;exact h.sl j s q
 ·by_cases hj:i=j
  ·by_cases hk:i=k
   ·omega
   ·subst hj;have hi:i < σ.length:=by simpa using (List.getElem?_eq_some_iff.mp q3).1
    rw[List.getElem?_set_self hi] at q3;rw[List.getElem?_set_ne hk] at q4;cases q3;exact absurd ⟨k,n,f q2 hk,q4⟩ h4
  ·by_cases hk:i=k
   ·subst hk;have hi:i < σ.length:=by simpa using (List.getElem?_eq_some_iff.mp q4).1
    rw[List.getElem?_set_self hi] at q4;rw[List.getElem?_set_ne hj] at q3;cases q4;exact absurd ⟨j,m,f q1 hj,q3⟩ h4
   ·rw[List.getElem?_set_ne hj] at q3;rw[List.getElem?_set_ne hk] at q4;exact h.ap j k b m n (f q1 hj) (f q2 hk) q3 q4
theorem ER.write{i:Nat}{l m:List D}{a:Addr}{ys:List V}(h:ER κ K Gv Hv G H ρ σ)(e:ρ[i]?=some (.own l))(z:σ[i]?=some (some (.ref a)))(r:qo κ G m ys):ER κ K Gv Hv G (upd H a (.lst ys)) (ρ.set i (.own m)) σ:=by
 obtain⟨a',xs,z',h1,h2,h3,h4⟩:=h.sl i _ e;have ea:a'=a:=by rw[z'] at z;injection z with z;injection z with z;injection z
 subst ea;have hi:i < ρ.length:=(List.getElem?_eq_some_iff.mp e).1;refine⟨by rw[List.length_set];exact h.len,λb u q=>?_,λb u q=>?_,h.g0,h.fresh,λj s q=>?_,λj k b m' n q1 q2=>?_⟩
 ·have hb:b≠a':=λw=>by rw[w,h3] at q;cases q
  rw[qd hb];exact h.sub b u q
 ·have hb:b≠a':=λw=>by rw[w,h2] at q;cases q
  rw[qd hb];exact h.base b u q
 ·by_cases hj:i=j
  ·subst hj;rw[List.getElem?_set_self hi] at q;cases q;exact⟨a',ys,z',qg,h2,h3,r⟩
  ·rw[List.getElem?_set_ne hj] at q;have w:=h.sl j s q
   cases s with
   |no=>trivial
   |val d=>exact w
   |own ds=>obtain⟨b,zs,z2,q1,q2,q3,q4⟩:=w;have hb:b≠a':=λu=>hj (h.ap i j a' l ds e q z' (by rw[<-u];exact z2));exact⟨b,zs,z2,by rw[qd hb];exact q1,q2,q3,q4⟩
   |bor ds=>exact w
   |scr ds=>exact w
 ·have f:∀{j:Nat} {n:List D},(ρ.set i (.own m))[j]?=some (.own n)->∃n',ρ[j]?=some (.own n'):=λ{j n} q=>by
   by_cases hj:i=j
   ·subst hj;exact⟨l,e⟩
   ·rw[List.getElem?_set_ne hj] at q;exact⟨n,q⟩
  obtain⟨_,e1⟩:=f q1;obtain⟨_,e2⟩:=f q2;exact h.ap j k b _ _ e1 e2
end
end DE
namespace DE
open PySem L2
inductive Sk where
 | lst | tup | str
def qdi(s:Str):List D:=s.cps.toList.map λc=>D.str ⟨#[c]⟩
inductive R(α:Type) where
 | ok (a:α) | exc (c:Str) (l:List (Str×D)) | no
def R.th{α β:Type}:R α->(α->R β)->R β
 |.ok a,f=>f a
 |.exc c l,_=>.exc c l
 |.no,_=>.no
def R.of{α:Type}:Option α->R α
 |some a=>.ok a
 |none=>.no
mutual
noncomputable def toP:D->Option PyData
 |.non=>some .none
 |.bl b=>some (.bool b)
 |.int n=>some (.int n)
 |.str s=>some (.str s)
 |.lst l=>(qdj l).map .list
 |.tup l=>(qdj l).map .tuple
 |.ins ..=>none
noncomputable def qdj:List D->Option (List PyData)
 |[]=>some []
 | d::l=>(toP d).bind λp=>(qdj l).map (p :: ·)
end
def Rv.data:Rv->D
 |.val d=>d
 |.tmp l=>.lst l
 |.cell l=>.lst l
 |.scr l=>.lst l
inductive Ar where
 | val (d:D) | bor (l:List D) | scr (l:List D)
structure Cs where
 tab:List Str
 fld:Str->Str->Bool
 mt:Str->Str->Option Str
 sub:Str->Str->Option Bool
def Cs.non:Cs:=⟨[],λ_ _=>false,λ_ _=>none,λ_ _=>none⟩
structure Ct where
 N:List Str
 sc:Scope
 tab:List Str
 gl:Str->Option D
 cl:Str->List Ar->R Rv
 cs:Cs
 nw:Str->List Ar->R Rv
noncomputable def qdk:List Str->Str->Option Nat
 |[],_=>none
 | y::r,x=>if y=x then some 0 else (qdk r x).map (· + 1)
noncomputable def qkt(sc:Scope)(x:Str):Bool:=match sc.names.lookup x with
 |some .local=>true
 |some .cell=>true
 |some .free=>true
 |_=>false
noncomputable def qku(sc:Scope)(x:Str):Bool:=match sc.names.lookup x with
 |some .local=>true
 |some .cell=>true
 |_=>false
def glB(sc:Scope)(x:Str):Bool:=sc.names.lookup x == some .globalImplicit
noncomputable def jM(x:Str):Bool:=!(x == ("__debug__" : Str))&&!(x == ("__classdict__" : Str))&&!(x == ("__name__" : Str))
def oif{α:Type}(c:Bool)(a:Option α):Option α:=match c with
 |true=>a
 |false=>none
def qfi(Γ:Ct)(x:Str):Option Nat:=oif (jM x&&qkt Γ.sc x) (qdk Γ.N x)
def isF(Γ:Ct)(it:Expr):Option Nat:=none
noncomputable def slC(ρ:Env)(i:Nat):R (List D):=match ρ[i]? with
 |some (.own l)=>.ok l
 |some (.val (.lst l))=>.ok l
 |some (.val (.tup l))=>.ok l
 |_=>.no
def Rv.int?:Rv->Option Int
 |.val (.int i)=>some i
 |_=>none
def Rv.str?:Rv->Option Str
 |.val (.str i)=>some i
 |_=>none
def Rv.bl?:Rv->Option Bool
 |.val (.bl i)=>some i
 |_=>none
def Rv.tup?:Rv->Option (List D)
 |.val (.tup i)=>some i
 |_=>none
noncomputable def ZO(i j:Int):Bool:=(decide (-(2 ^ 64) < i)&&decide (i < 2 ^ 64))||(decide (-(2 ^ 64) < j)&&decide (j < 2 ^ 64))
noncomputable def int2(x y:Rv)(f:Int->Int->R Rv):R Rv:=match x.int?,y.int? with
 |some i,some j=>f i j
 |_,_=>.no
noncomputable def qm5(x y:Rv):R Rv:=match x.int?,y.int? with
 |some i,some j=>.ok (.val (.int (i+j)))
 |_,_=>match x.str?,y.str? with
  |some a,some b=>if a.length+b.length<=sizeLine then .ok (.val (.str (a++b))) else .no
  |_,_=>match x.plain?,y.plain? with
   |some l,some m=>if l.length+m.length<=sizeLine then .ok (.tmp (l++m)) else .no
   |_,_=>.no
noncomputable def qm6(x y:Rv):R Rv:=match x.int?,y.int? with
 |some i,some j=>if ZO i j=true then .ok (.val (.int (i * j))) else .no
 |_,_=>.no
noncomputable def qa0(op:Operator)(x y:Rv):R Rv:=match op with
 |.Add=>qm5 x y
 |.Sub=>int2 x y λi j=>.ok (.val (.int (i - j)))
 |.Mult=>qm6 x y
 |.FloorDiv=>int2 x y λi j=>if 0 < j/\j < 1073741824 then .ok (.val (.int (i / j))) else .no
 |.Mod=>int2 x y λi j=>if 0 < j then .ok (.val (.int (i % j))) else .no
 |.Pow=>int2 x y λi j=>if 0<=j/\j<=1000000/\i.natAbs < 2 ^ 64 then .ok (.val (.int (i ^ j.toNat))) else .no
 |_=>.no
noncomputable def eqD(x y:D):Option Bool:=match toP x,toP y with
 |some p,some q=>if SeqAt.shaped p&&SeqAt.shaped q then some (PyData.eqv p q) else none
 |_,_=>none
def Qd:D->Bool
 |.non=>true
 |.bl _=>true
 |.int _=>true
 |.str _=>true
 |_=>false
def seqD(r:Rv):Option (List D):=match r.tup? with
 |some l=>some l
 |none=>r.list?
def flV:D->V
 |.bl b=>.bl b
 |.int n=>.int n
 |.str s=>.str s
 |_=>.non
noncomputable def inD(x:D)(l:List D):Option Bool:=if (Qd x&&l.all Qd)=true then some (inV (flV x) (l.map flV)) else none
noncomputable def qjw(x y:Rv)(f:Int->Int->Bool):Option Bool:=match x.int?,y.int? with
 |some i,some j=>some (f i j)
 |_,_=>none
def Rv.non?:Rv->Bool
 |.val .non=>true
 |_=>false
def qjx(a b:Str):Bool:=!(Builtin.Str.occurrences b a 0 b.length 1).isEmpty
noncomputable def qdZ(x y:Rv):Option Bool:=match x.str?,y.str? with
 |some a,some b=>some (qjx a b)
 |_,_=>(seqD y).bind (inD x.data)
def qbb:List D->Option (List Int)
 |[]=>some []
 | .int i::l=>(qbb l).map (i :: ·)
 |_=>none
def ltD(x y:Rv):Option Bool:=qjw x y λi j=>decide (i < j)
noncomputable def Yu(op:CmpOp)(x y:Rv):Option Bool:=match op with
 |.Eq=>eqD x.data y.data
 |.NotEq=>(eqD x.data y.data).map (!·)
 |.Lt=>ltD x y
 |.LtE=>qjw x y λi j=>decide (i<=j)
 |.Gt=>qjw x y λi j=>decide (j < i)
 |.GtE=>qjw x y λi j=>decide (j<=i)
 |.Is=>if y.non? then some x.non? else none
 |.IsNot=>if y.non? then some (!x.non?) else none
 |.In=>qdZ x y
 |.NotIn=>(qdZ x y).map (!·)
noncomputable def idxD(x y:Rv):R Rv:=match y.int? with
 |some i=>(match x.str? with
  |some z=>if z.length<=sizeLine then (match atI z.cps.toList i with |some c=>.ok (.val (.str ⟨#[c]⟩)) |none=>.no) else .no
  |none=>match seqD x with
   |some l=>(match atI l i with |some d=>.ok (.val d) |none=>.no)
   |none=>.no)
 |none=>.no
noncomputable def qbR(l:List D)(lo hi:Option Int):List D:=(l.drop (HT.sIx l.length 0 lo)).take (HT.sIx l.length l.length hi - HT.sIx l.length 0 lo)
noncomputable def sliceD(r:Rv)(lo hi:Option Int):R Rv:=match r.str? with
 |some z=>if z.length<=sizeLine then .ok (.val (.str (Txt.slice z lo hi))) else .no
 |none=>(R.of r.list?).th λl=>.ok (.tmp (qbR l lo hi))
noncomputable def truthD(r:Rv):Option Bool:=match r with
 |.val .non=>some false
 |.val (.bl b)=>some b
 |.val (.int i)=>some (i != 0)
 |.val (.str s)=>if s.length<=sizeLine then some ((s.length:Int) != 0) else none
 |r=>(seqD r).map λl=>!l.isEmpty
def qgW(cs:Cs)(r:Rv)(t:Str):Option Bool:=match r with
 |.val (.ins c _ _)=>cs.sub c t
 |_=>none
noncomputable def qd0(cs:Cs)(r:Rv)(x:Str):Option D:=match r with
 |.val (.ins c ns ds)=>if cs.fld c x then (ns.zip ds).lookup x else none
 |_=>none
noncomputable def mtD(cs:Cs)(r:Rv)(x:Str):Option Str:=match r with
 |.val (.ins c ns _)=>if ns.contains x then none else cs.mt c x
 |_=>none
def Q6:List D->Option (List Str)
 |[]=>some []
 | .str z::l=>(Q6 l).map (z :: ·)
 |_=>none
noncomputable def ixM(r:Rv)(as:List Ar):R Rv:=match r.plain?,as with
 |some l,[.val (.str s)]=>(match Q6 l with |some zs=>if zs.contains s then .ok (.val (.int (zs.idxOf s:Nat))) else .no |none=>.no)
 |_,_=>.no
def JQ:Expr->Bool
 |.Name ..=>true
 |.Subscript ..=>true
 |_=>false
noncomputable def lenD(r:Rv):R Rv:=match r.str? with
 |some s=>if s.length<=sizeLine then .ok (.val (.int s.length)) else .no
 |none=>match seqD r with
  |some l=>.ok (.val (.int l.length))
  |none=>.no
def listD(r:Rv):R Rv:=match seqD r with
 |some l=>.ok (.tmp l)
 |none=>.no
noncomputable def intD(r:Rv):R Rv:=match r.int? with
 |some i=>.ok (.val (.int i))
 |none=>match r.bl? with
  |some b=>.ok (.val (.int (if b then 1 else 0)))
  |none=>.no
def prD:D->Option (Int×Int)
 |.tup [.int a,.int b]=>some (a,b)
 |_=>none
noncomputable def qgX:List D->Option (List (Int×Int))
 |[]=>some []
 | d::l=>match prD d,qgX l with
  |some p,some ps=>some (p::ps)
  |_,_=>none
def pD(p:Int×Int):D:=.tup [.int p.1,.int p.2]
def ZQ(p q:Int×Int):Bool:=decide (p.1 < q.1)||(decide (p.1=q.1)&&decide (p.2<=q.2))
def yK(ps:List (Int×Int)):List (Int×Int):=ps.mergeSort ZQ
noncomputable def Yv(r:Rv):R Rv:=match r.list? with
 |some l=>(match qgX l with |some ps=>if ps.length < 64 then .ok (.tmp ((yK ps).map pD)) else .no |none=>.no)
 |none=>.no
noncomputable def qmx(r:Rv):R Rv:=match r.list? with
 |some l=>(match qbb l with |some ns=>.ok (.val (.int ns.sum)) |none=>.no)
 |none=>.no
noncomputable def qmy:Option Expr->Option Expr->Expr->Bool
 |none,none,.UnaryOp .USub (.Constant (.int 1) _ _) _=>true
 |_,_,_=>false
def qF:Expr->Bool
 |.Starred ..=>true
 |_=>false
def qnG(r:Rv):R Rv:=.no
def kvD:D->Option (Str×Int)
 |.tup [.str s,.int n]=>some (s,n)
 |_=>none
noncomputable def qfj:List D->Option (List (Str×Int))
 |[]=>some []
 | d::l=>match kvD d,qfj l with
  |some p,some ps=>some (p::ps)
  |_,_=>none
def qid(kvs:List (Str×Int))(k:Str):Option Int:=(kvs.find? λkv=>decide (kv.1=k)).map (·.2)
noncomputable def qcR(n:Int)(x y:Rv):R Rv:=match x.list?,y.str? with
 |some l,some k=>(match qfj l with |some kvs=>if (kvs.map (·.1)).Nodup then .ok (.val (.int ((qid kvs k).getD n))) else .no |none=>.no)
 |_,_=>.no
noncomputable def dgE(Γ:Ct)(o:Expr)(x:Str)(es:List Expr)(b:Bool):Option (Expr×Expr×Int):=match o,es with
 |.Call (.Name f _) [a] [] _,[e,.Constant (.int n) _ _]=>if f = "dict"/\x = "get"/\b=true/\glB Γ.sc "dict" = true/\qF a=false/\qF e=false then some (a,e,n) else none
 |_,_=>none
def maxD(x y:Rv):R Rv:=int2 x y λi j=>.ok (.val (.int (if j > i then j else i)))
def minD(x y:Rv):R Rv:=int2 x y λi j=>.ok (.val (.int (if j < i then j else i)))
def qaj:Expr->Bool
 |.Set ..=>false
 |_=>true
noncomputable def zA:Expr->Option (List Str)
 |.Name x _=>some [x]
 |.Tuple es _ _=>es.foldr (λe r=>match e,r with |.Name x _,some l=>some (x::l) |_,_=>none) (some [])
 |_=>none
def qfM:Expr->Bool
 |.Tuple ..=>true
 |_=>false
def qfN:Sl->Sl
 |.own l=>.bor l
 |s=>s
noncomputable def Qs(N:List Str)(sc:Scope):List Nat:=(List.range N.length).filter λi=>sc.names.lookup (N.getD i "") == some .free
def Yw(l:List D):List D:=(List.range l.length).zipWith (λ(i:Nat) d=>D.tup [.int i,d]) l
def qcS(l m:List D):List D:=List.zipWith (λa b=>D.tup [a,b]) l m
def zB(lo hi:Int):List D:=(List.range (hi - lo).toNat).map λi:Nat=>D.int (lo+i)
def qie(lo hi c:Int):List D:=(List.range (rsz lo hi c)).map λi:Nat=>D.int (lo+i * c)
noncomputable def rgB(i j c:Int):Bool:=decide (-(2 ^ 60)<=i)&&decide (i < 2 ^ 60)&&decide (-(2 ^ 60)<=j)&&decide (j < 2 ^ 60)&&decide (0 < c)&&decide (c < 2 ^ 30)
noncomputable def rg3(x y z:Rv):R (List D):=match x.int?,y.int?,z.int? with
 |some i,some j,some c=>if rgB i j c=true then .ok (qie i j c) else .no
 |_,_,_=>.no
def qgY(i:Int):Bool:=decide (-(2 ^ 62)<=i)&&decide (i < 2 ^ 62)
def lrE(Γ:Ct)(f:Str)(a:Expr):Option (Expr×Expr):=none
noncomputable def lrD(x y:Rv):R Rv:=match x.int?,y.int? with
 |some i,some j=>if qgY i=true/\qgY j=true/\(j - i).toNat<=10000 then .ok (.tmp (zB i j)) else .no
 |_,_=>.no
def irE(Γ:Ct)(op:CmpOp)(b:Expr):Option Expr:=none
noncomputable def qoz(x y:Rv):R Rv:=match x.int?,y.int? with
 |some i,some j=>.ok (.val (.bl (!decide (0<=i/\i < j))))
 |_,_=>.no
def qD(i:Int):Bool:=decide (-(2 ^ 62)<=i)&&decide (i < 2 ^ 62)
noncomputable def qd1(asg:D->Env->R Env)(test:Env->R (Bool×Env))(elt:Env->R (D×Env)):List D->Env->List D->R (List D)
 |[],_,acc=>.ok acc
 | d::ds,ρ,acc=>(asg d ρ).th λρ1=>(test ρ1).th λbt=>if bt.1 then (elt bt.2).th λx=>if acc.length < sizeLine then qd1 asg test elt ds x.2 (acc++[x.1]) else .no else qd1 asg test elt ds bt.2 acc
inductive Fl where
 | next (ρ:Env) | ret (r:Rv)
def JA:Expr->Bool
 |.ListComp ..=>false
 |.SetComp ..=>false
 |.DictComp ..=>false
 |_=>true
def Q7:Expr->Bool
 |.Slice ..=>false
 |_=>true
noncomputable def qmz(step:D->Env->R Fl):List D->Env->R Fl
 |[],ρ=>.ok (.next ρ)
 | d::ds,ρ=>(step d ρ).th λf=>match f with
  |.next ρ1=>qmz step ds ρ1
  |.ret r=>.ok (.ret r)
noncomputable def whL(test:Env->R (Bool×Env))(body:Env->R Fl):Nat->Env->R Fl
 |0,_=>.no
 | n+1,ρ=>(test ρ).th λb=>if b.1 then (body b.2).th λf=>(match f with
  |.next ρ1=>whL test body n ρ1
  |.ret r=>.ok (.ret r)) else .ok (.next b.2)
end DE
namespace DE
open PySem L2
inductive B1 where
 | len | list | int | srt | sum | all
inductive B2 where
 | max | min | get (n:Int) | rng | inr
inductive Ty where
 | int | bool | str | list | tuple
inductive Tg where
 | one (i:Nat) | many (l:List Nat)
structure Cl where
 f:Str->List Ar->R Rv
 cs:Cs
 nw:Str->List Ar->R Rv
instance:CoeFun Cl (λ_=>Str->List Ar->R Rv):=⟨Cl.f⟩
mutual
inductive E where
 | var (i:Nat) | con (d:D) | bin (op:Operator) (a b:E) | neg (a:E) | not (a:E) | one (a:E) | and (a b:E) | or (a b:E) | cmp (op:CmpOp) (a b:E) | ite (c:T) (a b:E)
 | idx (a i:E) | sli (a:E) (lo hi:O) | rvs (a:E) | lst (l:Es) | tup (l:Es) | call (f:Str) (l:Es) | calF (f:Str) (l:Es) | b1 (f:B1) (a:E) | b2 (f:B2) (a b:E) | isi (t:Ty) (a:E) | isc (t:Str) (a:E) | fld (a:E) (x:Str) | met (a:E) (x:Str) (l:Es) | new (f:Str) (l:Es) | comp (x:E) (src:I) (tg:Tg) (c:F) (n:Nat) (fr:List Nat)
inductive Es where
 | nil | cons (a:E) (l:Es)
inductive T where
 | not (a:T) | one (a:T) | and (a b:T) | or (a b:T) | cmp (op:CmpOp) (a b:E) | chn (op op':CmpOp) (a b c:E) | val (a:E)
inductive O where
 | none | some (a:E)
inductive F where
 | yes | test (c:T)
inductive I where
 | nam (i:Nat) | seq (a:E) | rng (a:E) | rng2 (a b:E) | rng3 (a b c:E) | enum (a:E) | zip (a b:E) | rev (a:E)
end
noncomputable def slR(ρ:Env)(i:Nat):R Rv:=match ρ[i]? with
 |some (.val d)=>.ok (.val d)
 |some (.own l)=>.ok (.cell l)
 |some (.bor l)=>.ok (.cell l)
 |some (.scr l)=>.ok (.scr l)
 |_=>.no
noncomputable def slE(ρ:Env)(i:Nat):R (D×Env):=match ρ[i]? with
 |some (.val d)=>.ok (d,ρ)
 |some (.own l)=>.ok (.lst l,ρ.set i (.val (.lst l)))
 |_=>.no
noncomputable def slL(ρ:Env)(i:Nat):R ((Sk×List D)×Env):=match ρ[i]? with
 |some (.val (.lst l))=>.ok ((.lst,l),ρ)
 |some (.val (.tup l))=>.ok ((.tup,l),ρ)
 |some (.val (.str z))=>.ok ((.str,qdi z),ρ)
 |some (.own l)=>.ok ((.lst,l),ρ.set i (.val (.lst l)))
 |some (.bor l)=>.ok ((.lst,l),ρ)
 |some (.scr l)=>.ok ((.lst,l),ρ)
 |_=>.no
noncomputable def slX(ρ:Env)(i:Nat):R Rv:=match ρ[i]? with
 |some (.val d)=>.ok (.val d)
 |some (.own l)=>.ok (.tmp l)
 |_=>.no
def B1.go:B1->Rv->R Rv
 |.len=>lenD
 |.list=>listD
 |.int=>intD
 |.srt=>Yv
 |.sum=>qmx
 |.all=>qnG
def B2.go:B2->Rv->Rv->R Rv
 |.max=>maxD
 |.min=>minD
 |.get n=>qcR n
 |.rng=>lrD
 |.inr=>qoz
noncomputable def Ty.of:Ty->D->Option Bool
 |_,.ins ..=>none
 |.int,.int _=>some true
 |.int,.bl _=>some true
 |.bool,.bl _=>some true
 |.str,.str _=>some true
 |.list,.lst _=>some true
 |.tuple,.tup _=>some true
 |_,_=>some false
def Ty.go(t:Ty):Rv->Option Bool
 |.scr _=>none
 |r=>t.of r.data
noncomputable def Q8:List Nat->List D->Env->R Env
 |[],[],ρ=>.ok ρ
 | i::l,d::ds,ρ=>Q8 l ds (ρ.set i (.val d))
 |_,_,_=>.no
noncomputable def Tg.go:Tg->D->Env->R Env
 |.one i,d,ρ=>.ok (ρ.set i (.val d))
 |.many l,.tup ds,ρ=>Q8 l ds ρ
 |_,_,_=>.no
def toAr:Rv->Ar
 |.val d=>.val d
 |.tmp l=>.val (.lst l)
 |.cell l=>.bor l
 |.scr l=>.scr l
def Qt(n:Nat)(fr:List Nat)(ρ:Env):Env:=List.replicate n Sl.no++fr.map λi=>qfN (ρ.getD i .no)
noncomputable def qd2(x:Rv×Env):R (D×Env):=match x.1 with
 |.val d=>.ok (d,x.2)
 |.tmp l=>.ok (.lst l,x.2)
 |_=>.no
noncomputable def qgZ(x:Rv×Env):R ((Sk×List D)×Env):=match x.1 with
 |.val (.lst l)=>.ok ((.lst,l),x.2)
 |.val (.tup l)=>.ok ((.tup,l),x.2)
 |.val (.str z)=>.ok ((.str,qdi z),x.2)
 |.tmp l=>.ok ((.lst,l),x.2)
 |_=>.no
noncomputable def zC(e:E)(r:Env->R (Rv×Env))(ρ:Env):R (D×Env):=match e with
 |.var i=>slE ρ i
 |.con d=>.ok (d,ρ)
 |_=>(r ρ).th qd2
noncomputable def j6(e:E)(r:Env->R (Rv×Env))(ρ:Env):R ((Sk×List D)×Env):=match e with
 |.var i=>slL ρ i
 |_=>(r ρ).th qgZ
mutual
noncomputable def iR(cl:Cl):E->Env->R (Rv×Env)
 |.var i,ρ=>(slR ρ i).th λr=>.ok (r,ρ)
 |.con d,ρ=>.ok (.val d,ρ)
 |.bin op a b,ρ=>(iR cl a ρ).th λx=>(iR cl b x.2).th λy=>(qa0 op x.1 y.1).th λr=>.ok (r,y.2)
 |.neg a,ρ=>(iR cl a ρ).th λx=>match x.1 with
  |.val (.int i)=>.ok (.val (.int (-i)),x.2)
  |_=>.no
 |.not a,ρ=>(iR cl a ρ).th λx=>match x.1 with
  |.val (.bl b)=>.ok (.val (.bl (!b)),x.2)
  |_=>.no
 |.one a,ρ=>iR cl a ρ
 |.and a b,ρ=>(iR cl a ρ).th λx=>match x.1 with
  |.val (.bl true)=>iR cl b x.2
  |.val (.bl false)=>.ok (.val (.bl false),x.2)
  |_=>.no
 |.or a b,ρ=>(iR cl a ρ).th λx=>match x.1 with
  |.val (.bl false)=>iR cl b x.2
  |.val (.bl true)=>.ok (.val (.bl true),x.2)
  |_=>.no
 |.cmp op a b,ρ=>(iR cl a ρ).th λx=>(iR cl b x.2).th λy=>(R.of (Yu op x.1 y.1)).th λr=>.ok (.val (.bl r),y.2)
 |.ite c a b,ρ=>(iT cl c ρ).th λt=>if t.1 then iR cl a t.2 else iR cl b t.2
 |.idx a i,ρ=>(iR cl a ρ).th λx=>(iR cl i x.2).th λy=>(idxD x.1 y.1).th λr=>.ok (r,y.2)
 |.sli a lo hi,ρ=>(iR cl a ρ).th λx=>(iO cl lo x.2).th λl=>(iO cl hi l.2).th λh=>(sliceD x.1 l.1 h.1).th λr=>.ok (r,h.2)
 |.rvs a,ρ=>(iR cl a ρ).th λx=>(R.of x.1.list?).th λl=>.ok (.tmp l.reverse,x.2)
 |.lst l,ρ=>(iEs cl l ρ).th λx=>if x.1.length<=sizeLine then .ok (.tmp x.1,x.2) else .no
 |.tup l,ρ=>(iEs cl l ρ).th λx=>if x.1.length<=sizeLine then .ok (.val (.tup x.1),x.2) else .no
 |.call f l,ρ=>(iAs cl l ρ).th λx=>(cl f x.1).th λr=>.ok (r,x.2)
 |.calF f l,ρ=>(iEs cl l ρ).th λx=>(cl f (x.1.map .val)).th λr=>.ok (r,x.2)
 |.b1 f a,ρ=>(iR cl a ρ).th λx=>(f.go x.1).th λr=>.ok (r,x.2)
 |.b2 f a b,ρ=>(iR cl a ρ).th λx=>(iR cl b x.2).th λy=>(f.go x.1 y.1).th λr=>.ok (r,y.2)
 |.isi t a,ρ=>(iR cl a ρ).th λx=>(R.of (t.go x.1)).th λb=>.ok (.val (.bl b),x.2)
 |.isc t a,ρ=>(iR cl a ρ).th λx=>(R.of (qgW cl.cs x.1 t)).th λb=>.ok (.val (.bl b),x.2)
 |.fld a x,ρ=>(iR cl a ρ).th λy=>(R.of (qd0 cl.cs y.1 x)).th λd=>.ok (.val d,y.2)
 |.met a x l,ρ=>(iR cl a ρ).th λy=>match mtD cl.cs y.1 x with
  |some f=>(iAs cl l y.2).th λz=>(cl f (toAr y.1::z.1)).th λr=>.ok (r,z.2)
  |none=>if x = "index" then (iAs cl l y.2).th λz=>(ixM y.1 z.1).th λr=>.ok (r,z.2) else .no
 |.new f l,ρ=>(iAs cl l ρ).th λx=>(cl.nw f x.1).th λr=>.ok (r,x.2)
 |.comp e src tg c n fr,ρ=>(iI cl src ρ).th λx=>if x.1.length<=sizeLine then (qd1 tg.go (λρ1=>iF cl c ρ1) (zC e (iR cl e)) x.1 (Qt n fr x.2) []).th λl=>.ok (.tmp l,x.2) else .no
noncomputable def iT(cl:Cl):T->Env->R (Bool×Env)
 |.not a,ρ=>(iT cl a ρ).th λt=>.ok (!t.1,t.2)
 |.one a,ρ=>iT cl a ρ
 |.and a b,ρ=>(iT cl a ρ).th λt=>if t.1 then iT cl b t.2 else .ok (false,t.2)
 |.or a b,ρ=>(iT cl a ρ).th λt=>if t.1 then .ok (true,t.2) else iT cl b t.2
 |.cmp op a b,ρ=>(iR cl a ρ).th λx=>(iR cl b x.2).th λy=>(R.of (Yu op x.1 y.1)).th λr=>.ok (r,y.2)
 | .chn op op' a b c,ρ=>(iR cl a ρ).th λx=>(iR cl b x.2).th λy=>(R.of (Yu op x.1 y.1)).th λr=>if r=true then (iR cl c y.2).th λz=>(R.of (Yu op' y.1 z.1)).th λr'=>.ok (r',z.2) else .ok (false,y.2)
 |.val a,ρ=>(iR cl a ρ).th λx=>(R.of (truthD x.1)).th λb=>.ok (b,x.2)
noncomputable def iEs(cl:Cl):Es->Env->R (List D×Env)
 |.nil,ρ=>.ok ([],ρ)
 |.cons e l,ρ=>(zC e (iR cl e) ρ).th λx=>(iEs cl l x.2).th λy=>.ok (x.1::y.1,y.2)
noncomputable def iAs(cl:Cl):Es->Env->R (List Ar×Env)
 |.nil,ρ=>.ok ([],ρ)
 |.cons e l,ρ=>(iR cl e ρ).th λx=>(iAs cl l x.2).th λy=>.ok (toAr x.1::y.1,y.2)
noncomputable def iO(cl:Cl):O->Env->R (Option Int×Env)
 |.none,ρ=>.ok (none,ρ)
 |.some e,ρ=>(iR cl e ρ).th λx=>match x.1 with
  |.val (.int i)=>.ok (some i,x.2)
  |_=>.no
noncomputable def iF(cl:Cl):F->Env->R (Bool×Env)
 |.yes,ρ=>.ok (true,ρ)
 |.test c,ρ=>iT cl c ρ
noncomputable def iI(cl:Cl):I->Env->R (List D×Env)
 |.nam i,ρ=>(slC ρ i).th λl=>.ok (l,ρ)
 |.seq a,ρ=>(j6 a (iR cl a) ρ).th λx=>.ok (x.1.2,x.2)
 |.rng a,ρ=>(iR cl a ρ).th λx=>(match x.1.int? with
  |some n=>if qD n=true then .ok (zB 0 n,x.2) else .no
  |none=>.no)
 |.rng3 a b c,ρ=>(iR cl a ρ).th λx=>(iR cl b x.2).th λy=>(iR cl c y.2).th λz=>(rg3 x.1 y.1 z.1).th λl=>.ok (l,z.2)
 |.rng2 a b,ρ=>(iR cl a ρ).th λx=>(iR cl b x.2).th λy=>(match x.1.int?,y.1.int? with
  |some i,some j=>if qD i=true/\qD j=true then .ok (zB i j,y.2) else .no
  |_,_=>.no)
 |.enum a,ρ=>(j6 a (iR cl a) ρ).th λx=>match x.1.1 with |.lst=>.ok (Yw x.1.2,x.2) |_=>.no
 |.rev a,ρ=>(j6 a (iR cl a) ρ).th λx=>match x.1.1 with |.lst=>.ok (x.1.2.reverse,x.2) |_=>.no
 |.zip a b,ρ=>(j6 a (iR cl a) ρ).th λx=>(j6 b (iR cl b) x.2).th λy=>match x.1.1,y.1.1 with |.lst,.lst=>.ok (qcS x.1.2 y.1.2,y.2) |_,_=>.no
end
mutual
inductive S where
 | pass | expr (e:E) | app (i:Nat) (e:E) | ext (i:Nat) (e:E) | clr (i:Nat) | ret (e:E) | retN | set (i:Nat) (e:E) | setT (tg:Tg) (e:E) | setI (i:Nat) (x e:E) | ite (c:T) (a b:Ss) | for_ (tg:Tg) (src:I) (b:Ss) | whl (c:T) (b:Ss) | stuck
inductive Ss where
 | nil | cons (s:S) (l:Ss)
end
def zv(ρ:Env)(i:Nat):Option (List D):=match ρ[i]? with
 |some (.own l)=>some l
 |_=>none
noncomputable def qa1(e:E)(r:Env->R (Rv×Env))(ρ:Env):R Rv:=match e with
 |.var i=>slX ρ i
 |.con d=>.ok (.val d)
 |_=>(r ρ).th λx=>match x.1 with
  |.val d=>.ok (.val d)
  |.tmp l=>.ok (.tmp l)
  |_=>.no
noncomputable def J2(e:E)(r:Env->R (Rv×Env))(ρ:Env):R (Sl×Env):=match e with
 |.var i=>(slE ρ i).th λr=>.ok (.val r.1,r.2)
 |.con d=>.ok (.val d,ρ)
 |_=>(r ρ).th λx=>match x.1 with
  |.val d=>.ok (.val d,x.2)
  |.tmp l=>.ok (.own l,x.2)
  |_=>.no
mutual
noncomputable def iS(cl:Cl)(w:Nat):S->Env->R Fl
 |.pass,ρ=>.ok (.next ρ)
 |.expr e,ρ=>(iR cl e ρ).th λx=>.ok (.next x.2)
 |.app i e,ρ=>(match zv ρ i with
  |none=>.no
  |some _=>(zC e (iR cl e) ρ).th λy=>(match zv y.2 i with
   |some l=>if l.length < sizeLine then .ok (.next (y.2.set i (.own (l++[y.1])))) else .no
   |none=>.no))
 |.ext i e,ρ=>(match zv ρ i with
  |none=>.no
  |some _=>(iR cl e ρ).th λy=>(match zv y.2 i,y.1.plain? with
   |some l,some n=>if l.length+n.length<=sizeLine then .ok (.next (y.2.set i (.own (l++n)))) else .no
   |_,_=>.no))
 |.clr i,ρ=>(match zv ρ i with
  |some _=>.ok (.next (ρ.set i (.own [])))
  |none=>.no)
 |.ret e,ρ=>(qa1 e (iR cl e) ρ).th λr=>.ok (.ret r)
 |.retN,ρ=>.ok (.ret (.val .non))
 |.set i e,ρ=>(J2 e (iR cl e) ρ).th λs=>.ok (.next (s.2.set i s.1))
 |.setT tg e,ρ=>(zC e (iR cl e) ρ).th λx=>(tg.go x.1 x.2).th λρ1=>.ok (.next ρ1)
 |.setI i x e,ρ=>(zC e (iR cl e) ρ).th λy=>(match zv y.2 i with
  |none=>.no
  |some _=>(iR cl x y.2).th λz=>(match zv z.2 i,z.1.int? with
   |some l,some n=>(match ixN l.length n with
    |some k=>.ok (.next (z.2.set i (.own (l.set k y.1))))
    |none=>.no)
   |_,_=>.no))
 |.ite c a b,ρ=>(iT cl c ρ).th λt=>if t.1 then iSs cl w a t.2 else iSs cl w b t.2
 |.for_ tg src b,ρ=>(iI cl src ρ).th λx=>qmz (λd ρ1=>(tg.go d ρ1).th λρ2=>iSs cl w b ρ2) x.1 x.2
 |.whl c b,ρ=>whL (λρ1=>iT cl c ρ1) (λρ1=>iSs cl w b ρ1) w ρ
 |.stuck,_=>.no
noncomputable def iSs(cl:Cl)(w:Nat):Ss->Env->R Fl
 |.nil,ρ=>.ok (.next ρ)
 |.cons s l,ρ=>(iS cl w s ρ).th λf=>match f with
  |.next ρ1=>iSs cl w l ρ1
  |.ret r=>.ok (.ret r)
end
end DE
namespace DE
open PySem L2
noncomputable def o2{α β γ:Type}(a:Option α)(b:Option β)(f:α->β->γ):Option γ:=match a,b with
 |some x,some y=>some (f x y)
 |_,_=>none
theorem qj{α β γ:Type}{a:Option α}{b:Option β}{f:α->β->γ}{z:γ}(h:o2 a b f=some z):∃x y,a=some x/\b=some y/\f x y=z:=by
 cases a with
 |none=>cases h
 |some x=>
  cases b with
  |none=>cases h
  |some y=>exact⟨x,y,rfl,rfl,Option.some.inj h⟩
theorem qk{α:Type}{c:Bool}{a:Option α}{z:α}(h:oif c a=some z):c=true/\a=some z:=by
 cases c with
 |true=>exact⟨rfl,h⟩
 |false=>cases h
def Ct.k(Γ:Ct):Cl:=⟨Γ.cl,Γ.cs,Γ.nw⟩
noncomputable def cC(Γ:Ct)(it:Expr)(r:Option I):Option I:=match isF Γ it with
 |some i=>some (.nam i)
 |none=>r
noncomputable def qbc(Γ:Ct)(x:Str):Option E:=oif (jM x) (match qdk Γ.N x with
 |some i=>oif (qkt Γ.sc x) (some (.var i))
 |none=>oif (glB Γ.sc x) ((Γ.gl x).map .con))
noncomputable def qg0:Const->Option E
 |.none=>some (.con .non)
 |.bool b=>some (.con (.bl b))
 |.int i=>some (.con (.int i))
 |.str s=>some (.con (.str s))
 |_=>none
noncomputable def qmA(t:Str):Option Ty:=if t = "int" then some .int else if t = "bool" then some .bool else if t = "str" then some .str else if t = "list" then some .list else if t = "tuple" then some .tuple else none
noncomputable def qm7(f:Str):Option B1:=if f = "len" then some .len else if f = "list" then some .list else if f = "int" then some .int else if f = "sorted" then some .srt else if f = "sum" then some .sum else if f = "all" then some .all else none
def qm8(f:Str):Option B2:=if f = "max" then some .max else if f = "min" then some .min else none
def qif(Γ:Ct)(x:Str):Option Nat:=oif (qku Γ.sc x&&jM x) (qdk Γ.N x)
def qfO(Γ:Ct):List Str->Option (List Nat)
 |[]=>some []
 | x::l=>o2 (qif Γ x) (qfO Γ l) (· :: ·)
noncomputable def cTg(Γ:Ct)(tg:Expr):Option Tg:=match tg with
 |.Name x _=>(qif Γ x).map .one
 |.Tuple es j p=>oif (!es.any qF) (match zA (.Tuple es j p) with
  |some xs=>(qfO Γ xs).map .many
  |none=>none)
 |_=>none
def qak:E->Option E
 |.var _=>none
 |e=>some e
mutual
noncomputable def cE:Nat->Ct->Expr->Option E
 |0,_,_=>none
 | m+1,Γ,e=>match e with
  |.Name x _=>qbc Γ x
  |.Constant c _ _=>qg0 c
  |.BinOp a op b _=>o2 (cE m Γ a) (cE m Γ b) (E.bin op)
  |.UnaryOp .USub a _=>(cE m Γ a).map .neg
  |.UnaryOp .Not a _=>(cE m Γ a).map .not
  |.BoolOp _ [a] _=>(cE m Γ a).map .one
  | .BoolOp .And (a::b::l) p=>o2 (cE m Γ a) (cE m Γ (.BoolOp .And (b::l) p)) .and
  | .BoolOp .Or (a::b::l) p=>none
  |.Compare a [op] [b] _=>oif (!behindInMarks op b) (o2 (cE m Γ a) (cE m Γ b) (E.cmp op))
  |.IfExp c a b _=>o2 (cT m Γ c) (o2 (cE m Γ a) (cE m Γ b) Prod.mk) λc p=>.ite c p.1 p.2
  |.Subscript a (.Slice lo hi none _) _=>o2 (cE m Γ a) (o2 (cO m Γ lo) (cO m Γ hi) Prod.mk) λa p=>.sli a p.1 p.2
  |.Subscript a (.Slice lo hi (some st) _) _=>oif (qmy lo hi st) ((cE m Γ a).map .rvs)
  |.Subscript a i _=>o2 (cE m Γ a) (cE m Γ i) .idx
  |.List es _=>(cEs m Γ es).map .lst
  |.Tuple es _ _=>(cEs m Γ es).map .tup
  |.Call (.Name f p) es [] _=>oif (jM f&&glB Γ.sc f&&(qdk Γ.N f).isNone) (
    if f = "isinstance" then (match es with
     |[a,b]=>(match b with
      |.Name t _=>oif (jM t&&glB Γ.sc t&&(qdk Γ.N t).isNone&&!qF a) (match qmA t with |some y=>(cE m Γ a).map (.isi y) |none=>(cE m Γ a).map (.isc t))
      |_=>none)
     |_=>none)
    else if Γ.tab.contains f=true then (if (f = "_law_let"/\es.length=2)\/f = "_law_day" then (cEs m Γ es).map (.calF f) else (cAs m Γ es).map (.call f))
    else if Γ.cs.tab.contains f=true then (cAs m Γ es).map (.new f)
    else match es with
     |[a]=>(match lrE Γ f a with
      |some t=>o2 (cE m Γ t.1) (cE m Γ t.2) (.b2 .rng)
      |none=>oif (!qF a) (o2 (qm7 f) (cE m Γ a) .b1))
     |[a,b]=>oif (!(qF a||qF b)) (o2 (qm8 f) (o2 (cE m Γ a) (cE m Γ b) Prod.mk) λf p=>.b2 f p.1 p.2)
     |_=>none)
  |.Attribute o x _=>oif (JQ o) ((cE m Γ o).map λa=>.fld a x)
  |.Call (.Attribute o x ap) es [] q=>if (JQ o&&(ap.endLine == q.line)&&decide (es.length < 30))=true then (o2 (cE m Γ o) (cAs m Γ es) λa l=>.met a x l)
   else match dgE Γ o x es (ap.endLine == q.line) with
    |some t=>o2 (cE m Γ t.1) (cE m Γ t.2.1) (.b2 (.get t.2.2))
    |none=>none
  |.ListComp elt [g] sc _=>oif (decide (g.is_async=0)) (match zA g.target with
   |some own=>oif (Yc Γ.sc Γ.N (Qs Γ.N sc) sc&&decide (own++(Qs Γ.N sc).map λi=>Γ.N.getD i "").Nodup&&qaj g.iter)
     (o2 (o2 (cC Γ g.iter (cI m Γ (qfM g.target) g.iter)) (cTg { Γ with N:=own++(Qs Γ.N sc).map λi=>Γ.N.getD i "",sc:=sc } g.target) Prod.mk)
      (o2 (cF m { Γ with N:=own++(Qs Γ.N sc).map λi=>Γ.N.getD i "",sc:=sc } g.ifs) (cX m { Γ with N:=own++(Qs Γ.N sc).map λi=>Γ.N.getD i "",sc:=sc } elt) Prod.mk)
      λp q=>.comp q.2 p.1 p.2 q.1 own.length (Qs Γ.N sc))
   |none=>none)
  |_=>none
noncomputable def cX:Nat->Ct->Expr->Option E
 |0,_,_=>none
 | m+1,Γ,e=>match e with
  |.Name x _=>qbc Γ x
  |e=>(cE m Γ e).bind qak
noncomputable def cT:Nat->Ct->Expr->Option T
 |0,_,_=>none
 | m+1,Γ,e=>match e with
  |.UnaryOp .Not a _=>(cT m Γ a).map .not
  |.BoolOp _ [a] _=>(cT m Γ a).map .one
  | .BoolOp .And (a::b::l) p=>o2 (cT m Γ a) (cT m Γ (.BoolOp .And (b::l) p)) .and
  | .BoolOp .Or (a::b::l) p=>o2 (cT m Γ a) (cT m Γ (.BoolOp .Or (b::l) p)) .or
  |.BoolOp _ [] _=>none
  |.IfExp ..=>none
  |.Compare a [op] [b] _=>(match irE Γ op b with
   |some t=>o2 (cE m Γ a) (cE m Γ t) (λx y=>.val (.b2 .inr x y))
   |none=>oif (!behindInMarks op b) (o2 (cE m Γ a) (cE m Γ b) (T.cmp op)))
  |.Compare ..=>none
  |e=>(cE m Γ e).map .val
noncomputable def cEs:Nat->Ct->List Expr->Option Es
 |0,_,_=>none
 | m+1,Γ,es=>match es with
  |[]=>some .nil
  | e::l=>oif (!qF e) (o2 (cX m Γ e) (cEs m Γ l) .cons)
noncomputable def cAs:Nat->Ct->List Expr->Option Es
 |0,_,_=>none
 | m+1,Γ,es=>match es with
  |[]=>some .nil
  | e::l=>oif (!qF e) (o2 (cE m Γ e) (cAs m Γ l) .cons)
noncomputable def cO:Nat->Ct->Option Expr->Option O
 |0,_,_=>none
 | m+1,Γ,o=>match o with
  |none=>some .none
  |some e=>(cE m Γ e).map .some
noncomputable def cF:Nat->Ct->List Expr->Option F
 |0,_,_=>none
 | m+1,Γ,es=>match es with
  |[]=>some .yes
  |[c]=>(cT m Γ c).map .test
  |_=>none
noncomputable def cL:Nat->Ct->Expr->Option E
 |0,_,_=>none
 | m+1,Γ,e=>match e with
  |.Name x _=>(qfi Γ x).map .var
  |e=>(cE m Γ e).bind qak
noncomputable def cI:Nat->Ct->Bool->Expr->Option I
 |0,_,_,_=>none
 | m+1,Γ,tb,e=>match e with
  |.Call (.Name f p) es [] q=>if f = "range" || f = "enumerate" || f = "zip" || f = "reversed" then oif (jM f&&glB Γ.sc f&&(qdk Γ.N f).isNone) (match es with
    |[a]=>oif (!qF a) (if f = "range" then (cE m Γ a).map .rng else if f = "enumerate" then oif tb ((cL m Γ a).map .enum) else if f = "reversed" then (cL m Γ a).map .rev else none)
    |[a,b]=>oif (!(qF a||qF b)) (if f = "range" then o2 (cE m Γ a) (cE m Γ b) .rng2 else if f = "zip" then oif tb (o2 (cL m Γ a) (cL m Γ b) .zip) else none)
    |_=>none)
   else (cL m Γ (.Call (.Name f p) es [] q)).map .seq
  |e=>(cL m Γ e).map .seq
end
def cV(m:Nat)(Γ:Ct)(e:Expr):Option E:=match e with
 |.Name x _=>qbc Γ x
 |e=>(cE m Γ e).bind qak
mutual
noncomputable def cS:Nat->Ct->Stmt->Option S
 |0,_,_=>none
 | m+1,Γ,st=>match st with
  |.Pass _=>some .pass
  |.Expr e _=>(match e with
   |.Call (.Attribute (.Name x _) meth ap) [a] [] cp=>oif (ap.endLine == cp.line&&!qF a) (
     if meth = "append" then o2 (qfi Γ x) (cX m Γ a) .app
     else if meth = "extend" then o2 (qfi Γ x) (cE m Γ a) .ext
     else none)
   |.Call (.Attribute (.Name x _) meth ap) [] [] cp=>none
   |e=>oif (JA e) ((cE m Γ e).map .expr))
  |.Return (some e) _=>(cV m Γ e).map .ret
  |.Return none _=>some .retN
  |.Assign [tg] e _=>(match tg with
   |.Name x _=>o2 (qif Γ x) (cV m Γ e) .set
   |.Tuple ..=>none
   |.Subscript (.Name x _) i _=>oif (JA e&&Q7 i) (o2 (qfi Γ x) (o2 (cE m Γ i) (cX m Γ e) Prod.mk) λx p=>.setI x p.1 p.2)
   |_=>none)
  |.If c a b _=>o2 (cT m Γ c) (o2 (cSs m Γ a) (cSs m Γ b) Prod.mk) λc p=>.ite c p.1 p.2
  |.For tg it body [] _=>oif (qaj it) (o2 (o2 (cTg Γ tg) (cI m Γ (qfM tg) it) Prod.mk) (cSs m Γ body) λp b=>.for_ p.1 p.2 b)
  |.While c body [] _=>o2 (cT m Γ c) (cSs m Γ body) .whl
  |.Raise ..=>some .stuck
  |_=>none
noncomputable def cSs:Nat->Ct->List Stmt->Option Ss
 |0,_,_=>none
 | m+1,Γ,l=>match l with
  |[]=>some .nil
  | st::l=>o2 (cS m Γ st) (cSs m Γ l) .cons
end
theorem qm{α β:Type}{o:Option α}{f:α->β}{z:β}(h:o.map f=some z):∃x,o=some x/\f x=z:=Option.map_eq_some_iff.mp h
theorem jg{e z:E}(h:qak e=some z):e=z/\∀i,z≠.var i:=by cases e<;>cases h<;>exact⟨rfl,λi z=>by cases z⟩
theorem qig{z:E}(h:∀i,z≠.var i)(cl:Cl)(ρ:Env):zC z (iR cl z) ρ=(iR cl z ρ).th qd2:=by cases z<;>first | rfl | exact absurd rfl (h _)
theorem qih{z:E}(h:∀i,z≠.var i)(cl:Cl)(ρ:Env):j6 z (iR cl z) ρ=(iR cl z ρ).th qgZ:=by cases z<;>first | rfl | exact absurd rfl (h _)
theorem qii{z:E}(h:∀i,z≠.var i)(cl:Cl)(ρ:Env):qa1 z (iR cl z) ρ=(iR cl z ρ).th λx=>match x.1 with
  |.val d=>.ok (.val d)
  |.tmp l=>.ok (.tmp l)
  |_=>.no:=by
 cases z<;>first | rfl | exact absurd rfl (h _)
theorem qij{z:E}(h:∀i,z≠.var i)(cl:Cl)(ρ:Env):J2 z (iR cl z) ρ=(iR cl z ρ).th λx=>match x.1 with
  |.val d=>.ok (.val d,x.2)
  |.tmp l=>.ok (.own l,x.2)
  |_=>.no:=by
 cases z<;>first | rfl | exact absurd rfl (h _)
end DE
namespace DE
open PySem L2
def Wk{α:Type}(x:R α)(f:α->Prop):Prop:=match x with
 |.ok a=>f a
 |.exc _ _=>False
 |.no=>False
theorem Wk.th{α β:Type}{x:R α}{g:α->R β}{f:β->Prop}(h:Wk (x.th g) f):Wk x λa=>Wk (g a) f:=by cases x<;>exact h
theorem Wk.mono{α:Type}{x:R α}{f g:α->Prop}(h:Wk x f)(i:∀a,f a->g a):Wk x g:=by
 cases x with
 |ok a=>exact i a h
 |exc c l=>exact h
 |no=>exact h
theorem Wk.of{α:Type}{x:Option α}{f:α->Prop}(h:Wk (R.of x) f):∃a,x=some a/\f a:=by
 cases x with
 |none=>exact h.elim
 |some a=>exact⟨a,rfl,h⟩
theorem Wk.iff{α:Type}{c:Prop}[Decidable c]{x:R α}{f:α->Prop}(h:Wk (if c then x else .no) f):c/\Wk x f:=by
 by_cases hc:c
 ·rw[if_pos hc] at h;exact⟨hc,h⟩
 ·rw[if_neg hc] at h;exact h.elim
section
variable(κ:KC)(K:Frag)(Gv Hv:Hp)
noncomputable def tR(f:Env->R (Rv×Env)):TE:=λσ H Q=>∃ρ G,ER κ K Gv Hv G H ρ σ/\Wk (f ρ) λx=>∀v G' H',Po κ K Gv Hv σ G H ρ G' H' x.2->RvR κ K Hv H G' H' x.2 σ x.1 v->Q v H'
noncomputable def tE(f:Env->R (D×Env)):TE:=λσ H Q=>∃ρ G,ER κ K Gv Hv G H ρ σ/\Wk (f ρ) λx=>∀v G' H',Po κ K Gv Hv σ G H ρ G' H' x.2->Rep κ G' x.1 v->Q v H'
noncomputable def tT(f:Env->R (Bool×Env)):TT:=λσ H Q=>∃ρ G,ER κ K Gv Hv G H ρ σ/\Wk (f ρ) λx=>∀G' H',Po κ K Gv Hv σ G H ρ G' H' x.2->Q x.1 H'
noncomputable def tEs(f:Env->R (List D×Env)):TA:=λσ H Q=>∃ρ G,ER κ K Gv Hv G H ρ σ/\Wk (f ρ) λx=>∀vs G' H',Po κ K Gv Hv σ G H ρ G' H' x.2->qo κ G' x.1 vs->Q vs H'
noncomputable def ArR(G H:Hp):Ar->V->Prop
 |.val d,v=>Rep κ G d v
 |.bor ds,v=>∃a xs,v=.ref a/\H a=some (.lst xs)/\qo κ G ds xs
 |.scr ds,v=>∃a xs,v=.ref a/\SqL K H a xs/\qo κ G ds xs
noncomputable def JR(G H:Hp):List Ar->List V->Prop
 |[],vs=>vs=[]
 | a::l,vs=>∃v r,vs=v::r/\ArR κ K G H a v/\JR G H l r
noncomputable def tAs(f:Env->R (List Ar×Env)):TA:=λσ H Q=>∃ρ G,ER κ K Gv Hv G H ρ σ/\Wk (f ρ) λx=>∀vs G' H',Po κ K Gv Hv σ G H ρ G' H' x.2->JR κ K G' H' x.1 vs->Q vs H'
noncomputable def tO(f:Env->R (Option Int×Env)):TO:=λσ H Q=>∃ρ G,ER κ K Gv Hv G H ρ σ/\Wk (f ρ) λx=>∀G' H',Po κ K Gv Hv σ G H ρ G' H' x.2->Q x.1 H'
noncomputable def SrR(G:Hp)(s:Sk×List D)(v:V):Prop:=match s.1 with
 |.str=>∃x,v=.str x/\s.2=qdi x
 |.tup=>∃a xs,v=.ref a/\qo κ G s.2 xs/\G a=some (.tup xs)
 |.lst=>∃a xs,v=.ref a/\qo κ G s.2 xs/\(G a=some (.lst xs)\/SqL K Hv a xs)
noncomputable def tL(f:Env->R ((Sk×List D)×Env)):TE:=λσ H Q=>∃ρ G,ER κ K Gv Hv G H ρ σ/\Wk (f ρ) λx=>∀v G' H',Po κ K Gv Hv σ G H ρ G' H' x.2->SrR κ K Hv G' x.1 v->Q v H'
noncomputable def ItR(G₁:Hp)(J:It)(l:List D):Prop:=∀(i:Nat) (G H:Hp),qt G₁ G->qt Hv H->qt G H->
 (∀d,l[i]?=some d->J.go i H/\∀x H',J.yld i H x H'->∃G',qt H H'/\qt G G'/\qt G' H'/\(∀a o,G' a=some o->(∃o',G a=some o')\/H a=none)/\Rep κ G' d x)/\(l.length=i->J.stop i H)
noncomputable def tI(f:Env->R (List D×Env)):TI:=λσ H Q=>∃ρ G,ER κ K Gv Hv G H ρ σ/\Wk (f ρ) λx=>∀J G' H',Po κ K Gv Hv σ G H ρ G' H' x.2->ItR κ Hv G' J x.1->Q J H'
noncomputable def ReR(G' H' H:Hp):Rv->V->Prop
 |.val d,v=>Rep κ G' d v
 |.tmp ds,v=>∃a xs,v=.ref a/\H' a=some (.lst xs)/\H a=none/\G' a=none/\qo κ G' ds xs
 |_,_=>False
noncomputable def spF(cl:Str->List Ar->R Rv)(f:Str):Sp:=λvs H Q _=>∃G args,qt G H/\JR κ K G H args vs/\
 Wk (cl f args) λr=>∀v G' H',qt H H'->qt G G'->qt G' H'->(∀a o,G' a=some o->(∃o',G a=some o')\/H a=none)->ReR κ G' H' H r v->Q v H'
end
noncomputable def qd3:List Str:=["len","list","tuple","int","bool","str","max","min","isinstance","range","enumerate","zip","sorted","sum","reversed","all","dict"]
structure Gd(κ:KC)(K:Frag)(k:Nat)(X:Cx)(Γ:Ct):Prop where
 hN:X.N=Γ.N
 vis:∀x,qkt Γ.sc x=true->Vis X.env.scope x
 loc:∀x,qku Γ.sc x=true->L2.Loc X.env.scope x/\(X.fn x=true\/X.env.scope.names.lookup x=some .local)
 glo:∀x,glB Γ.sc x=true->Gl X x
 cf:∀x,(Γ.sc.names.lookup x=some .cell\/Γ.sc.names.lookup x=some .free)->X.env.kindOf x=some .cell\/X.env.kindOf x=some .free
 nd:Γ.N.Nodup
 calm:X.calm=true
 hK:X.K=K
 room:Room k X.A
 fns:∀f,Γ.tab.contains f=true->∃fa fd ps,FnOk X.prog X.w X.K X.mg X.base CX0 k fa fd ps (spF κ K Γ.cl f)/\X.mg f=some (.ref fa)/\PySem.W.keepIn X.K (.ref fa)=true/\zn X.K fd ps []
 blt:∀f∈qd3,X.mg f=none
 gl:∀x d,Γ.gl x=some d->∃v u,X.mg x=some u/\qM v u/\∀G,Rep κ G d v
 cls:∀c C,κ c=some C->Cls X.K C
 flds:∀c x C,Γ.cs.fld c x=true->κ c=some C->zz X.K C x
 mts:∀c x f,Γ.cs.mt c x=some f->∃C fa fd ps,κ c=some C/\Meth X.K C x fa/\FnOk X.prog X.w X.K X.mg X.base CX0 k fa fd ps (spF κ K Γ.cl f)/\zn X.K fd ps []
 mks:∀f,Γ.cs.tab.contains f=true->(∀args,Γ.nw f args=.no)\/∃C fa fd ps sp,Mk X.K C fa/\FnOk X.prog X.w X.K X.mg X.base CX0 (k - 1) fa fd ps sp/\X.mg f=some (.ref C)/\zn X.K fd ps []/\0 < k/\
  ∀vs H Q,spF κ K Γ.nw f vs H Q E0->∀x dx,H x=none->H dx=none->dx≠x->sp (.ref x::vs) (upd (upd H dx (.own x)) x (.ins C dx [])) (λv H2=>v=.non/\Q (.ref x) H2) E0
 subs:∀c t b,Γ.cs.sub c t=some b->∃C T,κ c=some C/\(∀H p dx fs,H p=some (HO.ins C dx fs)->TyOf X.K H (.ref p) (.ref C))/\X.mg t=some (.ref T)/\PySem.W.kitOne X.K (.ref C) (.ref T)=some b
theorem PE.imp{X:Cx}{e:Expr}{t t':TE}(h:PE X e t')(i:∀σ H Q,t σ H Q->t' σ H Q):PE X e t:=λpins s σ H Q I hw=>h pins s σ H Q I (i σ H Q hw)
theorem PT.imp{X:Cx}{e:Expr}{t t':TT}(h:PT X e t')(i:∀σ H Q,t σ H Q->t' σ H Q):PT X e t:=λpins s σ H Q I hw=>h pins s σ H Q I (i σ H Q hw)
theorem PA.imp{X:Cx}{es:List Expr}{t t':TA}(h:PA X es t')(i:∀σ H Q,t σ H Q->t' σ H Q):PA X es t:=λpos pins s σ H Q I hw=>h pos pins s σ H Q I (i σ H Q hw)
theorem PO.imp{X:Cx}{o:Option Expr}{t t':TO}(h:PO X o t')(i:∀σ H Q,t σ H Q->t' σ H Q):PO X o t:=λpins s σ H Q I hw=>h pins s σ H Q I (i σ H Q hw)
theorem PIf.imp{X:Cx}{es:List Expr}{t t':TT}(h:PIf X es t')(i:∀σ H Q,t σ H Q->t' σ H Q):PIf X es t:=λpins s σ H Q I hw=>h pins s σ H Q I (i σ H Q hw)
theorem PI.imp{X:Cx}{tg e:Expr}{t t':TI}(h:PI X tg e t')(i:∀σ H Q,t σ H Q->t' σ H Q):PI X tg e t:=λpins s σ H Q I hw=>h pins s σ H Q I (i σ H Q hw)
theorem Q9:∀{N:List Str} {x:Str} {i:Nat},qdk N x=some i->N[i]?=some x
 |[],x,i,h=>by cases h
 | y::r,x,i,h=>by
  unfold qdk at h
  by_cases e:y=x
  ·rw[if_pos e] at h;cases h;rw[e];rfl
  ·rw[if_neg e] at h
   cases q:qdk r x with
   |none=>rw[q] at h;cases h
   |some j=>rw[q] at h;cases h;show(y::r)[j+1]?=some x;rw[List.getElem?_cons_succ];exact Q9 q
theorem jh{x:Str}(h:jM x=true):(x == ("__debug__" : Str))=false/\(x == ("__classdict__" : Str))=false/\x≠"__name__":=by unfold jM at h;simp only[Bool.and_eq_true,Bool.not_eq_true'] at h;refine⟨h.1.1,h.1.2,λz=>?_⟩;rw[z] at h;exact absurd h.2 (2:)
theorem qg1{sc:Scope}{x:Str}(h:qkt sc x=true):Vis sc x:=by
 unfold qkt at h;unfold Vis
 split at h
 ·rename_i e;exact .inl e
 ·rename_i e;exact .inr (.inl e)
 ·rename_i e;exact .inr (.inr e)
 ·cases h
theorem qd4{sc:Scope}{x:Str}(h:qku sc x=true):L2.Loc sc x:=by
 unfold qku at h;unfold L2.Loc
 split at h
 ·rename_i e;exact .inl e
 ·rename_i e;exact .inr e
 ·cases h
theorem qe{e:Expr}{es:List Expr}{env:PySem.Env}(h:qF e=false):starEach (e::es) env=(false,eval e env)::starEach es env:=by cases e<;>first | rfl | (simp[qF] at h)
section
variable{κ:KC}{K:Frag}{Gv Hv:Hp}{k:Nat}{X:Cx}{Γ:Ct}
theorem ER.notOwn{G H:Hp}{ρ:Env}{σ:St}(er:ER κ K Gv Hv G H ρ σ){a:Addr}(h:H a=none):¬ qcQ ρ σ a:=λ⟨i,l,e,z⟩=>by obtain⟨b,xs,z',h1,_⟩:=er.sl i _ e;rw[z] at z';injection z' with z';injection z' with z';injection z' with z';rw[<-z',h] at h1;cases h1
theorem ER.newList{G H:Hp}{ρ:Env}{σ:St}(er:ER κ K Gv Hv G H ρ σ){a:Addr}{xs:List V}{l:List D}(h:H a=none)(r:qo κ G l xs) :
  Po κ K Gv Hv σ G H ρ G (upd H a (.lst xs)) ρ/\RvR κ K Hv H G (upd H a (.lst xs)) ρ σ (.tmp l) (.ref a):=
 ⟨Po.room er (qt.upd h),a,xs,rfl,qg,h,qt.none er.base h,qt.none er.sub h,er.notOwn h,r⟩
theorem qbS(gd:Gd κ K k X Γ){x:Str}{i:Nat}(h:qfi Γ x=some i)(pos:Pos):PE X (.Name x pos) (qmt i):=by unfold qfi at h;obtain⟨hc,h⟩:=qk h;rw[Bool.and_eq_true] at hc;obtain⟨n1,n2,n3⟩:=jh hc.1;exact qdp (i:=i) (by rw[gd.hN];exact Q9 h) (gd.vis x hc.2) n1 n2
theorem Za(gd:Gd κ K k X Γ){x:Str}{z:E}(h:qbc Γ x=some z)(pos:Pos):(∃i,z=.var i/\PE X (.Name x pos) (qmt i))\/∃d v,z=.con d/\(∀G,Rep κ G d v)/\PE X (.Name x pos) (tC v):=by
 unfold qbc at h;obtain⟨hok,h⟩:=qk h;obtain⟨n1,n2,n3⟩:=jh hok
 cases hi:qdk Γ.N x with
 |some i=>rw[hi] at h;obtain⟨hv,h⟩:=qk h;cases h;exact .inl ⟨i,rfl,qdp (i:=i) (by rw[gd.hN];exact Q9 hi) (gd.vis x hv) n1 n2⟩
 |none=>rw[hi] at h;obtain⟨hg,h⟩:=qk h;obtain⟨d,hd,rfl⟩:=qm h;obtain⟨v,u,e1,e2,e3⟩:=gd.gl x d hd;exact .inr ⟨d,v,rfl,e3,Yh (gd.glo x hg) e1 e2 n1⟩
theorem qfP(gd:Gd κ K k X Γ){x:Str}{z:E}(h:qbc Γ x=some z)(pos:Pos):PE X (.Name x pos) (tR κ K Gv Hv (iR Γ.k z)):=by
 rcases Za gd h pos with ⟨i,rfl,P⟩ | ⟨d,v,rfl,e3,P⟩
 ·refine PE.imp P λσ H Q hq1=>?_;obtain⟨ρ,G,er,h⟩:=hq1;have h:=Wk.th (x:=slR ρ i) h;unfold slR at h
  cases q:ρ[i]? with
  |none=>rw[q] at h;exact h.elim
  |some s=>
   rw[q] at h;have w:=er.sl i s q
   cases s with
   |no=>exact h.elim
   |val d=>obtain⟨v,z,r⟩:=w;exact⟨v,z,h v G H (Po.refl er) r⟩
   |own l=>obtain⟨a,xs,z,r1,r2,r3,r4⟩:=w;exact⟨_,z,h _ G H (Po.refl er) ⟨a,xs,rfl,r1,r4⟩⟩
   |bor l=>obtain⟨a,xs,z,r1,r4⟩:=w;exact⟨_,z,h _ G H (Po.refl er) ⟨a,xs,rfl,er.base _ _ r1,r4⟩⟩
   |scr l=>obtain⟨a,xs,z,r1,r4⟩:=w;exact⟨_,z,h _ G H (Po.refl er) ⟨a,xs,rfl,er.base.seq r1,r4⟩⟩
 ·exact PE.imp P λσ H Q ⟨ρ,G,er,h⟩=>h v G H (Po.refl er) (e3 G)
theorem qbT(gd:Gd κ K k X Γ){x:Str}{z:E}(h:qbc Γ x=some z)(pos:Pos):PE X (.Name x pos) (tE κ K Gv Hv (zC z (iR Γ.k z))):=by
 rcases Za gd h pos with ⟨i,rfl,P⟩ | ⟨d,v,rfl,e3,P⟩
 ·refine PE.imp P λσ H Q hq1=>?_;obtain⟨ρ,G,er,h⟩:=hq1;have h:Wk (slE ρ i) _:=h;unfold slE at h
  cases q:ρ[i]? with
  |none=>rw[q] at h;exact h.elim
  |some s=>
   rw[q] at h;have w:=er.sl i s q
   cases s with
   |val d=>obtain⟨v,z,r⟩:=w;exact⟨v,z,h v G H (Po.refl er) r⟩
   |own l=>obtain⟨a,xs,z,p,r⟩:=er.froze q;exact⟨_,z,h _ _ H p r⟩
   |_=>exact h.elim
 ·exact PE.imp P λσ H Q ⟨ρ,G,er,h⟩=>h v G H (Po.refl er) (e3 G)
end
end DE
namespace DE
open PySem L2
section
variable{κ:KC}{K:Frag}{Gv Hv Hb Hc G H:Hp}{ρ:Env}{σ:St}{r s:Rv}{x y:V}
theorem RvR.int{i:Int}(h:RvR κ K Hv Hb G H ρ σ r x)(e:r.int?=some i):x=.int i:=by
 cases r with
 |val d=>cases d<;>simp only[Rv.int?] at e<;>first | (cases e;simpa only[RvR,Rep] using h) | cases e
 |_=>cases e
theorem RvR.str{i:Str}(h:RvR κ K Hv Hb G H ρ σ r x)(e:r.str?=some i):x=.str i:=by
 cases r with
 |val d=>cases d<;>simp only[Rv.str?] at e<;>first | (cases e;simpa only[RvR,Rep] using h) | cases e
 |_=>cases e
theorem RvR.bl{i:Bool}(h:RvR κ K Hv Hb G H ρ σ r x)(e:r.bl?=some i):x=.bl i:=by
 cases r with
 |val d=>cases d<;>simp only[Rv.bl?] at e<;>first | (cases e;simpa only[RvR,Rep] using h) | cases e
 |_=>cases e
theorem RvR.tup{l:List D}(h:RvR κ K Hv Hb G H ρ σ r x)(e:r.tup?=some l):∃a xs,x=.ref a/\G a=some (.tup xs)/\qo κ G l xs:=by
 cases r with
 |val d=>cases d<;>simp only[Rv.tup?] at e<;>first | (cases e;simpa only[RvR,Rep] using h) | cases e
 |_=>cases e
theorem RvR.seq(er:ER κ K Gv Hv G H ρ σ){l:List D}(h:RvR κ K Hv Hb G H ρ σ r x)(e:seqD r=some l):∃a xs,x=.ref a/\(SqL K H a xs\/SqT K H a xs)/\qo κ G l xs:=by
 unfold seqD at e
 cases q:r.tup? with
 | some l'=>rw[q] at e;cases e;obtain⟨a,xs,e1,e2,e3⟩:=h.tup q;exact⟨a,xs,e1,.inr (SqT.of (er.sub _ _ e2)),e3⟩
 |none=>rw[q] at e;obtain⟨a,xs,e1,e2,e3⟩:=h.list er e;exact⟨a,xs,e1,.inl e2,e3⟩
theorem RvR.non(h:RvR κ K Hv Hb G H ρ σ r x):decide (x=.non)=r.non?:=by
 cases r with
 |val d=>
  cases d<;>simp only[RvR,Rep] at h<;>simp only[Rv.non?]
  ·subst h;rfl
  ·subst h;rfl
  ·subst h;rfl
  ·subst h;rfl
  ·obtain⟨a,xs,rfl,_⟩:=h;rfl
  ·obtain⟨a,xs,rfl,_⟩:=h;rfl
  ·obtain⟨p,dx,C,xs,_,rfl,_⟩:=h;rfl
 |tmp l=>obtain⟨a,xs,rfl,_⟩:=h;rfl
 |cell l=>obtain⟨a,xs,rfl,_⟩:=h;rfl
 |scr l=>obtain⟨a,xs,rfl,_⟩:=h;rfl
mutual
theorem Rep.dv(sub:qt G H):∀{d:D} {v:V} {p:PyData},Rep κ G d v->toP d=some p->DV K H p v
 |.non,v,p,h,e=>by simp only[toP] at e;cases e;simp only[Rep] at h;simp only[DV];exact h
 |.bl b,v,p,h,e=>by simp only[toP] at e;cases e;simp only[Rep] at h;simp only[DV];exact h
 |.int b,v,p,h,e=>by simp only[toP] at e;cases e;simp only[Rep] at h;simp only[DV];exact h
 |.str b,v,p,h,e=>by simp only[toP] at e;cases e;simp only[Rep] at h;simp only[DV];exact h
 |.lst l,v,p,h,e=>by simp only[toP] at e;obtain⟨ps,e1,rfl⟩:=Option.map_eq_some_iff.mp e;simp only[Rep] at h;obtain⟨a,xs,rfl,h1,h2⟩:=h;simp only[DV];exact⟨a,xs,rfl,SqL.of (sub _ _ h1),qo.dvs sub h2 e1⟩
 |.tup l,v,p,h,e=>by simp only[toP] at e;obtain⟨ps,e1,rfl⟩:=Option.map_eq_some_iff.mp e;simp only[Rep] at h;obtain⟨a,xs,rfl,h1,h2⟩:=h;simp only[DV];exact⟨a,xs,rfl,SqT.of (sub _ _ h1),qo.dvs sub h2 e1⟩
 |.ins c ns l,v,p,h,e=>by simp only[toP] at e;cases e
theorem qo.dvs(sub:qt G H):∀{ds:List D} {vs:List V} {ps:List PyData},qo κ G ds vs->qdj ds=some ps->DVs K H ps vs
 |[],vs,ps,h,e=>by simp only[qdj] at e;cases e;simp only[qo] at h;simp only[DVs];exact h
 | d::ds,vs,ps,h,e=>by simp only[qdj] at e;obtain⟨p,e1,e2⟩:=Option.bind_eq_some_iff.mp e;obtain⟨qs,e3,rfl⟩:=Option.map_eq_some_iff.mp e2;simp only[qo] at h;obtain⟨x,r,rfl,h1,h2⟩:=h;simp only[DVs];exact⟨x,r,rfl,Rep.dv sub h1 e1,qo.dvs sub h2 e3⟩
end
theorem RvR.dv(er:ER κ K Gv Hv G H ρ σ){p:PyData}(h:RvR κ K Hv Hb G H ρ σ r x)(e:toP r.data=some p):DV K H p x:=by
 have lst:∀{l:List D} {a:Addr} {xs:List V},SqL K H a xs->qo κ G l xs->toP (.lst l)=some p->DV K H p (.ref a):=λ{l a xs} hq hr e=>by simp only[toP] at e;obtain⟨ps,e1,rfl⟩:=Option.map_eq_some_iff.mp e;simp only[DV];exact⟨a,xs,rfl,hq,qo.dvs er.sub hr e1⟩
 cases r with
 |val d=>exact Rep.dv er.sub h e
 |tmp l=>obtain⟨a,xs,rfl,h1,_,_,_,_,h6⟩:=h;exact lst (SqL.of h1) h6 e
 |cell l=>obtain⟨a,xs,rfl,h1,h6⟩:=h;exact lst (SqL.of h1) h6 e
 |scr l=>obtain⟨a,xs,rfl,h1,h6⟩:=h;exact lst h1 h6 e
theorem qbU{d:D}{v:V}(h:Rep κ G d v)(f:Qd d=true):v=flV d/\Yp v=true:=by
 cases d<;>simp only[Qd] at f<;>try (exact absurd f (2:))
 all_goals (simp only[Rep] at h;subst h;exact⟨rfl,rfl⟩)
theorem qal:∀{l:List D} {vs:List V},qo κ G l vs->l.all Qd=true->vs=l.map flV/\vs.all Yp=true
 |[],vs,h,f=>by simp only[qo] at h;subst h;exact⟨rfl,rfl⟩
 | d::l,vs,h,f=>by simp only[qo] at h;obtain⟨x,r,rfl,h1,h2⟩:=h;simp only[List.all_cons,Bool.and_eq_true] at f;obtain⟨e1,e2⟩:=qbU h1 f.1;obtain⟨e3,e4⟩:=qal h2 f.2;subst e1 e3;exact⟨rfl,by simp only[List.all_cons,e2,e4,Bool.and_self]⟩
theorem qik(h:RvR κ K Hv Hb G H ρ σ r x)(f:Qd r.data=true):x=flV r.data/\Yp x=true:=by
 cases r with
 |val d=>exact qbU h f
 |_=>simp only[Rv.data,Qd] at f;exact absurd f (2:)
theorem qbd{f:Int->Int->R Rv}{F:Rv->Prop}(h:Wk (int2 r s f) F):∃i j,r.int?=some i/\s.int?=some j/\Wk (f i j) F:=by
 unfold int2 at h
 cases e1:r.int? with
 |none=>rw[e1] at h;exact h.elim
 |some i=>
  cases e2:s.int? with
  |none=>rw[e1,e2] at h;exact h.elim
  |some j=>rw[e1,e2] at h;exact⟨i,j,rfl,rfl,h⟩
theorem qfQ{l:List D}{xs:List V}{i:Int}{d:D}(h:qo κ G l xs)(e:atI l i=some d):∃v,atI xs i=some v/\Rep κ G d v:=by unfold atI at e ⊢;rw[<-h.len];obtain⟨j,e1,e2⟩:=Option.bind_eq_some_iff.mp e;obtain⟨v,e3,e4⟩:=h.atD e2;exact⟨v,by rw[e1];exact e3,e4⟩
theorem qfR{l:List D}{xs:List V}{lo hi:Option Int}(h:qo κ G l xs):qo κ G (qbR l lo hi) (qjv xs lo hi):=by unfold qbR qjv;rw[h.len];exact(h.drop _).take _
end
section
variable(κ:KC)(K:Frag)(Gv Hv:Hp)
noncomputable def qmB(op:Operator):R2:=λx y H Q=>∃(ρ:Env) (σ:St) (G Hb Hc:Hp) (r s:Rv),ER κ K Gv Hv G H ρ σ/\RvR κ K Hv Hb G H ρ σ r x/\RvR κ K Hv Hc G H ρ σ s y/\
 Wk (qa0 op r s) λz=>∀v G' H',Po κ K Gv Hv σ G H ρ G' H' ρ->RvR κ K Hv H G' H' ρ σ z v->Q v H'
noncomputable def qm9(op:CmpOp):R2:=λx y H Q=>∃(ρ:Env) (σ:St) (G Hb Hc:Hp) (r s:Rv) (b:Bool),ER κ K Gv Hv G H ρ σ/\RvR κ K Hv Hb G H ρ σ r x/\RvR κ K Hv Hc G H ρ σ s y/\Yu op r s=some b/\Q (.bl b) H
noncomputable def qoA:R2:=λx y H Q=>∃(ρ:Env) (σ:St) (G Hb Hc:Hp) (r s:Rv),ER κ K Gv Hv G H ρ σ/\RvR κ K Hv Hb G H ρ σ r x/\RvR κ K Hv Hc G H ρ σ s y/\
 Wk (idxD r s) λz=>∀v G' H',Po κ K Gv Hv σ G H ρ G' H' ρ->RvR κ K Hv H G' H' ρ σ z v->Q v H'
noncomputable def qoB:V->Option Int->Option Int->Hp->VK->Prop:=λx lo hi H Q=>∃(ρ:Env) (σ:St) (G Hb:Hp) (r:Rv),ER κ K Gv Hv G H ρ σ/\RvR κ K Hv Hb G H ρ σ r x/\
 Wk (sliceD r lo hi) λz=>∀v G' H',Po κ K Gv Hv σ G H ρ G' H' ρ->RvR κ K Hv H G' H' ρ σ z v->Q v H'
noncomputable def rC1(f:Rv->R Rv):List V->Hp->VK->Prop:=λxs H Q=>∃(ρ:Env) (σ:St) (G Hb:Hp) (r:Rv) (x:V),xs=[x]/\ER κ K Gv Hv G H ρ σ/\RvR κ K Hv Hb G H ρ σ r x/\
 Wk (f r) λz=>∀v G' H',Po κ K Gv Hv σ G H ρ G' H' ρ->RvR κ K Hv H G' H' ρ σ z v->Q v H'
noncomputable def rC2(f:Rv->Rv->R Rv):List V->Hp->VK->Prop:=λxs H Q=>∃(ρ:Env) (σ:St) (G Hb Hc:Hp) (r s:Rv) (x y:V),xs=[x,y]/\ER κ K Gv Hv G H ρ σ/\RvR κ K Hv Hb G H ρ σ r x/\RvR κ K Hv Hc G H ρ σ s y/\
 Wk (f r s) λz=>∀v G' H',Po κ K Gv Hv σ G H ρ G' H' ρ->RvR κ K Hv H G' H' ρ σ z v->Q v H'
end
section
variable{κ:KC}{K:Frag}{Gv Hv:Hp}{k:Nat}{X:Cx}{Γ:Ct}
theorem Zb(op:Operator){f:Int->Int->R Rv}{C:Int->Int->Prop}{g:Int->Int->Int}(hop:OpR X (binaryOp op) (rI C λi j=>.int (g i j)))(hf:∀r s,qa0 op r s=int2 r s f)(hw:∀i j F,Wk (f i j) F->C i j/\F (.val (.int (g i j)))) :
  OpR X (binaryOp op) (qmB κ K Gv Hv op):=by
 rintro pins st σ' H x y v u Q I rx ry ⟨ρ,σ,G,Hb,Hc,r,s,er,h1,h2,h⟩;rw[hf] at h;obtain⟨i,j,e1,e2,h⟩:=qbd h;obtain⟨hc,h⟩:=hw i j _ h;exact hop pins st σ' H x y v u Q I rx ry ⟨i,j,h1.int e1,h2.int e2,hc,h _ G H (Po.refl er) (by simp only[RvR,Rep])⟩
theorem qna{f:Value->Value->Sem Value}{g:Int->Int->V}(h:OpR X f (rI0 g)):OpR X f (rI (λ_ _=>True) g):=λpins st σ' H x y v u Q I rx ry ⟨i,j,e1,e2,_,q⟩=>h pins st σ' H x y v u Q I rx ry ⟨i,j,e1,e2,q⟩
theorem qkv:OpR X (binaryOp .Add) (qmB κ K Gv Hv .Add):=by
 rintro pins st σ' H x y v u Q I rx ry ⟨ρ,σ,G,Hb,Hc,r,s,er,h1,h2,h⟩;have h:Wk (qm5 r s) _:=h;unfold qm5 at h
 have cat:Wk (match r.plain?,s.plain? with
   |some l,some m=>if l.length+m.length<=sizeLine then R.ok (Rv.tmp (l++m)) else .no
   |_,_=>.no) (λz=>∀v G' H',Po κ K Gv Hv σ G H ρ G' H' ρ->RvR κ K Hv H G' H' ρ σ z v->Q v H')->wpAny (model X.prog X.w) X.A (binaryOp .Add v u) (EP X pins σ' Q) X.xe st:=λh=>by
  cases e1:r.plain? with
  |none=>rw[e1] at h;exact h.elim
  |some l=>
   cases e2:s.plain? with
   |none=>rw[e1,e2] at h;exact h.elim
   |some m=>rw[e1,e2] at h;obtain⟨hz,h⟩:=Wk.iff h;obtain⟨a,xs,q1,q2,q3⟩:=h1.plain er e1;obtain⟨b,ys,p1,p2,p3⟩:=h2.plain er e2;refine qj8 pins st σ' H x y v u Q I rx ry ⟨a,b,xs,ys,q1,p1,q2,p2,by rw[<-q3.len,<-p3.len];exact hz,λp hp=>?_⟩;obtain⟨z1,z2⟩:=er.newList hp (q3.app p3);exact h _ _ _ z1 z2
 have txt:Wk (match r.str?,s.str? with
   |some a,some b=>if a.length+b.length<=sizeLine then R.ok (Rv.val (.str (a++b))) else .no
   |_,_=>match r.plain?,s.plain? with
    |some l,some m=>if l.length+m.length<=sizeLine then R.ok (Rv.tmp (l++m)) else .no
    |_,_=>.no) (λz=>∀v G' H',Po κ K Gv Hv σ G H ρ G' H' ρ->RvR κ K Hv H G' H' ρ σ z v->Q v H')->wpAny (model X.prog X.w) X.A (binaryOp .Add v u) (EP X pins σ' Q) X.xe st:=λh=>by
  cases e1:r.str? with
  |none=>rw[e1] at h;exact cat h
  |some l=>
   cases e2:s.str? with
   |none=>rw[e1,e2] at h;exact cat h
   |some m=>rw[e1,e2] at h;obtain⟨hz,h⟩:=Wk.iff h;exact qcG pins st σ' H x y v u Q I rx ry ⟨l,m,h1.str e1,h2.str e2,hz,h _ G H (Po.refl er) (by simp only[RvR,Rep])⟩
 cases e1:r.int? with
 |none=>rw[e1] at h;exact txt h
 |some i=>
  cases e2:s.int? with
  |none=>rw[e1,e2] at h;exact txt h
  |some j=>rw[e1,e2] at h;exact qjU pins st σ' H x y v u Q I rx ry ⟨i,j,h1.int e1,h2.int e2,h _ G H (Po.refl er) (by simp only[RvR,Rep])⟩
theorem qil{i j:Int}(h:ZO i j=true):qmv i j:=by unfold ZO at h;simp only[Bool.or_eq_true,Bool.and_eq_true,decide_eq_true_eq] at h;exact h
theorem qkw:OpR X (binaryOp .Mult) (qmB κ K Gv Hv .Mult):=by
 rintro pins st σ' H x y v u Q I rx ry ⟨ρ,σ,G,Hb,Hc,r,s,er,h1,h2,h⟩;have h:Wk (qm6 r s) _:=h;unfold qm6 at h
 cases e2:s.int? with
 |none=>cases e1:r.int?<;>rw[e1,e2] at h<;>exact h.elim
 |some j=>
  cases e1:r.int? with
  |some i=>rw[e1,e2] at h;obtain⟨hm,h⟩:=Wk.iff h;exact qjW pins st σ' H x y v u Q I rx ry ⟨i,j,h1.int e1,h2.int e2,qil hm,h _ G H (Po.refl er) (by simp only[RvR,Rep])⟩
  |none=>rw[e1,e2] at h;exact h.elim
theorem qkx(op:Operator):OpR X (binaryOp op) (qmB κ K Gv Hv op):=by
 cases op with
 |Add=>exact qkv
 |Sub=>exact Zb .Sub (qna qjV) (λ_ _=>rfl) λi j F h=>⟨trivial,h⟩
 |Mult=>exact qkw
 |FloorDiv=>exact Zb .FloorDiv qhK (λ_ _=>rfl) λi j F h=>⟨(Wk.iff h).1,(Wk.iff h).2⟩
 |Mod=>exact Zb .Mod qjX (λ_ _=>rfl) λi j F h=>⟨(Wk.iff h).1,(Wk.iff h).2⟩
 |Pow=>exact Zb .Pow qjY (λ_ _=>rfl) λi j F h=>⟨(Wk.iff h).1,(Wk.iff h).2⟩
 |_=>exactλ_ _ _ _ _ _ _ _ _ _ _ _ h=>Exists.elim h λ_ h=>Exists.elim h λ_ h=>Exists.elim h λ_ h=>Exists.elim h λ_ h=>Exists.elim h λ_ h=>Exists.elim h λ_ h=>Exists.elim h λ_ h=>h.2.2.2.elim
theorem Zc(op:CmpOp){g:Int->Int->Bool}(hop:OpR X (compareOp op) (rI0 λi j=>.bl (g i j)))(hf:∀r s,Yu op r s=qjw r s g):OpR X (compareOp op) (qm9 κ K Gv Hv op):=by
 rintro pins st σ' H x y v u Q I rx ry ⟨ρ,σ,G,Hb,Hc,r,s,b,er,h1,h2,h,q⟩;rw[hf] at h;unfold qjw at h
 cases e1:r.int? with
 |none=>rw[e1] at h;cases h
 |some i=>
  cases e2:s.int? with
  |none=>rw[e1,e2] at h;cases h
  |some j=>rw[e1,e2] at h;cases h;exact hop pins st σ' H x y v u Q I rx ry ⟨i,j,h1.int e1,h2.int e2,q⟩
theorem qg2{x y:D}{b:Bool}(h:eqD x y=some b):∃p q,toP x=some p/\toP y=some q/\SeqAt.shaped p=true/\SeqAt.shaped q=true/\b=PyData.eqv p q:=by
 unfold eqD at h
 cases e1:toP x with
 |none=>rw[e1] at h;cases h
 |some p=>
  cases e2:toP y with
  |none=>rw[e1,e2] at h;cases h
  |some q=>
   rw[e1,e2] at h;dsimp only at h
   by_cases hs:(SeqAt.shaped p&&SeqAt.shaped q)=true
   ·rw[if_pos hs] at h;cases h;rw[Bool.and_eq_true] at hs;exact⟨p,q,rfl,rfl,hs.1,hs.2,rfl⟩
   ·rw[if_neg hs] at h;cases h
theorem qg3(gd:Gd κ K k X Γ)(neg:Bool)(op:CmpOp)(hs:OpR X (compareOp op) (λx y H Q=>∃i j,x=.str i/\y=.str j/\Q (.bl (if neg then !qjx i j else qjx i j)) H))(hl:OpR X (compareOp op) (rIn X.K neg))
  (hf:∀r s,Yu op r s=(qdZ r s).map λb=>if neg then !b else b):OpR X (compareOp op) (qm9 κ K Gv Hv op):=by
 rintro pins st σ' H x y v u Q I rx ry ⟨ρ,σ,G,Hb,Hc,r,s,b,er,h1,h2,h,q⟩;rw[hf] at h;obtain⟨b',hb',rfl⟩:=Option.map_eq_some_iff.mp h
 replace h:=hb'
 unfold qdZ at h
 have sq:(seqD s).bind (inD r.data)=some b'->wpAny (model X.prog X.w) X.A (compareOp op v u) (EP X pins σ' Q) X.xe st:=λh=>by
  obtain⟨l,e1,e2⟩:=Option.bind_eq_some_iff.mp h;unfold inD at e2
  by_cases hc:(Qd r.data&&l.all Qd)=true
  ·rw[if_pos hc] at e2;cases e2;rw[Bool.and_eq_true] at hc;obtain⟨a,xs,p1,p2,p3⟩:=h2.seq er e1;obtain⟨f1,f2⟩:=qik h1 hc.1;obtain⟨f3,f4⟩:=qal p3 hc.2;refine hl pins st σ' H x y v u Q I rx ry ⟨a,xs,p1,by rw[gd.hK];exact p2,f2,f4,?_⟩;rw[f1,f3];exact q
  ·rw[if_neg hc] at e2;cases e2
 cases e1:r.str? with
 |none=>rw[e1] at h;exact sq h
 |some i=>
  cases e2:s.str? with
  |none=>rw[e1,e2] at h;exact sq h
  |some j=>rw[e1,e2] at h;cases h;exact hs pins st σ' H x y v u Q I rx ry ⟨i,j,h1.str e1,h2.str e2,q⟩
theorem qd5{G:Hp}:∀{l:List D} {xs:List V} {ns:List Int},qo κ G l xs->qbb l=some ns->xs=ns.map V.int
 |[],xs,ns,r,h=>by simp only[qo] at r;subst r;cases h;rfl
 | d::l,xs,ns,r,h=>by
  simp only[qo] at r;obtain⟨x,us,rfl,r1,r2⟩:=r
  cases d with
  |int i=>unfold qbb at h;obtain⟨ms,e1,rfl⟩:=Option.map_eq_some_iff.mp h;simp only[Rep] at r1;rw[r1,qd5 r2 e1];rfl
  |_=>cases h
theorem qg4(gd:Gd κ K k X Γ)(op:CmpOp):OpR X (compareOp op) (qm9 κ K Gv Hv op):=by
 have hu:X.A.units+64 < cLine:=by have:=gd.room.un;omega
 cases op with
 |Eq=>rintro pins st σ' H x y v u Q I rx ry ⟨ρ,σ,G,Hb,Hc,r,s,b,er,h1,h2,h,q⟩;obtain⟨p,p',e1,e2,e3,e4,rfl⟩:=qg2 h;exact qkd hu pins st σ' H x y v u Q I rx ry ⟨p,p',by rw[gd.hK];exact h1.dv er e1,by rw[gd.hK];exact h2.dv er e2,e3,e4,q⟩
 |NotEq=>rintro pins st σ' H x y v u Q I rx ry ⟨ρ,σ,G,Hb,Hc,r,s,b,er,h1,h2,h,q⟩;obtain⟨b',h',rfl⟩:=Option.map_eq_some_iff.mp h;obtain⟨p,p',e1,e2,e3,e4,rfl⟩:=qg2 h';exact qke hu pins st σ' H x y v u Q I rx ry ⟨p,p',by rw[gd.hK];exact h1.dv er e1,by rw[gd.hK];exact h2.dv er e2,e3,e4,q⟩
 |Lt=>exact Zc .Lt qmS λ_ _=>rfl
 |LtE=>exact Zc .LtE qmT λ_ _=>rfl
 |Gt=>exact Zc .Gt qmU λ_ _=>rfl
 |GtE=>exact Zc .GtE qmV λ_ _=>rfl
 |Is=>
  rintro pins st σ' H x y v u Q I rx ry ⟨ρ,σ,G,Hb,Hc,r,s,b,er,h1,h2,h,q⟩;have h:(if s.non?=true then some r.non? else none)=some b:=h
  by_cases hn:s.non?=true
  ·rw[if_pos hn] at h;cases h;refine qjZ pins st σ' H x y v u Q I rx ry ⟨of_decide_eq_true (h2.non.trans hn),?_⟩;rw[h1.non];exact q
  ·rw[if_neg hn] at h;cases h
 |IsNot=>
  rintro pins st σ' H x y v u Q I rx ry ⟨ρ,σ,G,Hb,Hc,r,s,b,er,h1,h2,h,q⟩;have h:(if s.non?=true then some (!r.non?) else none)=some b:=h
  by_cases hn:s.non?=true
  ·rw[if_pos hn] at h;cases h;refine qhL pins st σ' H x y v u Q I rx ry ⟨of_decide_eq_true (h2.non.trans hn),?_⟩;rw[h1.non];exact q
  ·rw[if_neg hn] at h;cases h
 |In=>exact qg3 gd false .In qdw qdF λr s=>by show qdZ r s=_;cases qdZ r s<;>rfl
 |NotIn=>exact qg3 gd true .NotIn ZZ Z8 λr s=>rfl
theorem qky(gd:Gd κ K k X Γ):IxR X (qoA κ K Gv Hv):=by
 rintro value slice pins st σ' H x y v u Q I rx ry ⟨ρ,σ,G,Hb,Hc,r,s,er,h1,h2,h⟩ hs;unfold idxD at h
 cases e1:s.int? with
 |none=>rw[e1] at h;exact h.elim
 |some i=>
  rw[e1] at h;dsimp only at h
  cases e2:r.str? with
  |some z=>
   rw[e2] at h;dsimp only at h;obtain⟨hz,h⟩:=Wk.iff h
   cases e3:atI z.cps.toList i with
   |none=>rw[e3] at h;exact h.elim
   |some c=>rw[e3] at h;exact qj5 value slice pins st σ' H x y v u Q I rx ry ⟨z,i,c,h1.str e2,h2.int e1,hz,e3,h _ G H (Po.refl er) (by simp only[RvR,Rep])⟩ hs
  |none=>
   rw[e2] at h;dsimp only at h
   cases e3:seqD r with
   |none=>rw[e3] at h;exact h.elim
   |some l=>
    rw[e3] at h;dsimp only at h
    cases e4:atI l i with
    |none=>rw[e4] at h;exact h.elim
    |some d=>
     rw[e4] at h;obtain⟨a,xs,p1,p2,p3⟩:=h1.seq er e3;obtain⟨w,p4,p5⟩:=qfQ p3 e4;rcases p2 with p2 | p2
     ·exact qhY value slice pins st σ' H x y v u Q I rx ry ⟨a,xs,i,w,p1,h2.int e1,by rw[gd.hK];exact p2,p4,h w G H (Po.refl er) p5⟩ hs
     ·exact qj4 value slice pins st σ' H x y v u Q I rx ry ⟨a,xs,i,w,p1,h2.int e1,by rw[gd.hK];exact p2,p4,h w G H (Po.refl er) p5⟩ hs
theorem qkz(gd:Gd κ K k X Γ):L2.SlR X (qoB κ K Gv Hv):=by
 rintro pins st σ' H x v vl vu lo hi sl Q I rx hs pl pu ⟨ρ,σ,G,Hb,r,er,h1,h⟩;unfold sliceD at h
 cases e2:r.str? with
 |some z=>rw[e2] at h;dsimp only at h;obtain⟨hz,h⟩:=Wk.iff h;exact qko pins st σ' H x v vl vu lo hi sl Q I rx hs pl pu ⟨z,h1.str e2,hz,h _ G H (Po.refl er) (by simp only[RvR,Rep])⟩
 |none=>rw[e2] at h;dsimp only at h;obtain⟨l,e1,h⟩:=Wk.of (Wk.th h);obtain⟨a,xs,p1,p2,p3⟩:=h1.list er e1;refine qhZ pins st σ' H x v vl vu lo hi sl Q I rx hs pl pu ⟨a,xs,p1,by rw[gd.hK];exact p2,λp hp=>?_⟩;obtain⟨z1,z2⟩:=er.newList hp (qfR (lo:=lo) (hi:=hi) p3);exact h _ _ _ z1 z2
theorem qkA(gd:Gd κ K k X Γ):zV X (.builtin "len") (rC1 κ K Gv Hv lenD):=by
 rintro pins st σ' H xs us Q I rs ⟨ρ,σ,G,Hb,r,x,hx,er,h1,h⟩;unfold lenD at h
 cases e2:r.str? with
 |some z=>rw[e2] at h;dsimp only at h;obtain⟨hz,h⟩:=Wk.iff h;exact Z9 pins st σ' H xs us Q I rs ⟨z,by rw[hx,h1.str e2],hz,h _ G H (Po.refl er) (by simp only[RvR,Rep])⟩
 |none=>
  rw[e2] at h;dsimp only at h
  cases e3:seqD r with
  |none=>rw[e3] at h;exact h.elim
  |some l=>rw[e3] at h;obtain⟨a,ys,p1,p2,p3⟩:=h1.seq er e3;refine JO pins st σ' H xs us Q I rs ⟨a,ys,by rw[hx,p1],by rw[gd.hK];exact p2,?_⟩;rw[<-p3.len];exact h _ G H (Po.refl er) (by simp only[RvR,Rep])
theorem qim(gd:Gd κ K k X Γ):zV X (.type "list") (rC1 κ K Gv Hv listD):=by
 rintro pins st σ' H xs us Q I rs ⟨ρ,σ,G,Hb,r,x,hx,er,h1,h⟩;unfold listD at h
 cases e3:seqD r with
 |none=>rw[e3] at h;exact h.elim
 |some l=>rw[e3] at h;obtain⟨a,ys,p1,p2,p3⟩:=h1.seq er e3;refine j8 pins st σ' H xs us Q I rs ⟨a,ys,by rw[hx,p1],by rw[gd.hK];exact p2,λp hp=>?_⟩;obtain⟨z1,z2⟩:=er.newList hp p3;exact h _ _ _ z1 z2
theorem qcT(a b c:Int×Int)(h1:ZQ a b=true)(h2:ZQ b c=true):ZQ a c=true:=by simp only[ZQ,Bool.or_eq_true,Bool.and_eq_true,decide_eq_true_eq] at *;omega
theorem qcU(a b:Int×Int):(ZQ a b||ZQ b a)=true:=by simp only[ZQ,Bool.or_eq_true,Bool.and_eq_true,decide_eq_true_eq] at *;omega
theorem qbV{ps qs:List (Int×Int)}(p:qs.Perm ps)(s:qs.Pairwise qcN):yK ps=qs:=by
 have s1:(yK ps).Pairwise λa b=>ZQ a b=true:=List.pairwise_mergeSort qcT qcU ps
 have s2:qs.Pairwise λa b=>ZQ a b=true:=s.imp λ{a b} h=>by simp only[ZQ,Bool.or_eq_true,Bool.and_eq_true,decide_eq_true_eq];exact h
 refine List.Perm.eq_of_pairwise (λa b _ _ h1 h2=>?_) s1 s2 ((List.mergeSort_perm ps ZQ).trans p.symm);simp only[ZQ,Bool.or_eq_true,Bool.and_eq_true,decide_eq_true_eq] at h1 h2;exact Prod.ext (1:) (1:)
theorem qbW{G:Hp}:∀{l:List D} {xs:List V} {ps:List (Int×Int)},qo κ G l xs->qgX l=some ps->Paired (λx (p:Int×Int)=>∃a,x=V.ref a/\G a=some (.tup [.int p.1,.int p.2])) xs ps
 |[],xs,ps,r,h=>by simp only[qo] at r;subst r;cases h;exact .nil
 | d::l,xs,ps,r,h=>by
  simp only[qo] at r;obtain⟨x,us,rfl,r1,r2⟩:=r;unfold qgX at h
  cases e1:prD d with
  |none=>rw[e1] at h;cases h
  |some p=>
   cases e2:qgX l with
   |none=>rw[e1,e2] at h;cases h
   |some qs=>
    rw[e1,e2] at h;cases h;refine .cons ?_ (qbW r2 e2);unfold prD at e1
    split at e1
    ·cases e1;simp only[Rep,qo] at r1;obtain⟨a,ys,rfl,h1,x1,z1,rfl,rfl,x2,z2,rfl,rfl,rfl⟩:=r1;exact⟨a,rfl,h1⟩
    ·cases e1
theorem Paired.memL{α β:Type}{R:α->β->Prop}:∀{l:List α} {m:List β},Paired R l m->∀a∈l,∃b,R a b
 |_,_,.nil,a,h=>by cases h
 |_,_,.cons r rs,a,h=>by
  cases h with
  |head=>exact⟨_,r⟩
  |tail _ h=>exact Paired.memL rs a h
theorem qcV{G H:Hp}(sub:qt G H){xs:List V}(f:∀x∈xs,∃p:Int×Int,∃a,x=V.ref a/\G a=some (.tup [.int p.1,.int p.2])){ys:List V}{qs:List (Int×Int)}(hm:∀y∈ys,y∈xs)(h:Paired (P2 K H) ys qs):qo κ G (qs.map pD) ys:=by
 induction h with
 |nil=>exact .nil
 |cons r rs ih=>refine .cons ?_ (ih λz hz=>hm z (List.mem_cons_of_mem _ hz));obtain⟨p,a,rfl,ga⟩:=f _ (hm _ (List.mem_cons_self ..));obtain⟨b,eb,hb⟩:=r;cases eb;rw[sub _ _ ga] at hb;rw[hb] at ga;simp only[pD,Rep,qo];exact⟨a,_,rfl,ga,_,_,rfl,rfl,_,_,rfl,rfl,rfl⟩
theorem qd6(gd:Gd κ K k X Γ):zV X (.builtin "sorted") (rC1 κ K Gv Hv Yv):=by
 rintro pins st σ' H xs us Q I rs ⟨ρ,σ,G,Hb,r,x,hx,er,h1,h⟩;unfold Yv at h
 cases e3:r.list? with
 |none=>rw[e3] at h;exact h.elim
 |some l=>
  rw[e3] at h;dsimp only at h
  cases e4:qgX l with
  |none=>rw[e4] at h;exact h.elim
  |some ps=>
   rw[e4] at h;dsimp only at h;obtain⟨h64,h⟩:=Wk.iff h;obtain⟨a,ys,p1,p2,p3⟩:=h1.list er e3;have pr:=qbW p3 e4
   have hlen:ys.length < 64:=by
    have:∀{xs:List V} {ps:List (Int×Int)} {R:V->Int×Int->Prop},Paired R xs ps->xs.length=ps.length:=by
     intro xs ps R q
     induction q with
     |nil=>rfl
     |cons _ _ ih=>simp[ih]
    rw[this pr];exact h64
   have pr2:Paired (P2 X.K H) ys ps:=by
    have:∀{ys:List V} {ps:List (Int×Int)},Paired (λx (p:Int×Int)=>∃a,x=V.ref a/\G a=some (.tup [.int p.1,.int p.2])) ys ps->Paired (P2 X.K H) ys ps:=by
     intro ys ps q
     induction q with
     |nil=>exact .nil
     |cons r rs ih=>obtain⟨a,e,ga⟩:=r;exact .cons ⟨a,e,er.sub _ _ ga⟩ ih
    exact this pr
   refine Q5 pins st σ' H xs us Q I rs ⟨a,ys,ps,by rw[hx,p1],by rw[gd.hK];exact p2,hlen,pr2,λp zs qs hp z1 z2 z3 z4=>?_⟩;have e5:yK ps=qs:=qbV z3 z4
   have rr:qo κ G ((yK ps).map pD) zs:=by rw[e5];refine qcV (K:=X.K) er.sub (λx hx=>?_) (λy hy=>z2.mem_iff.mp hy) z1;obtain⟨p,hp⟩:=Paired.memL pr x hx;exact⟨p,hp⟩
   obtain⟨w1,w2⟩:=er.newList hp rr;exact h _ _ _ w1 w2
theorem qkB(gd:Gd κ K k X Γ):zV X (.builtin "sum") (rC1 κ K Gv Hv qmx):=by
 rintro pins st σ' H xs us Q I rs ⟨ρ,σ,G,Hb,r,x,hx,er,h1,h⟩;unfold qmx at h
 cases e3:r.list? with
 |none=>rw[e3] at h;exact h.elim
 |some l=>
  rw[e3] at h;dsimp only at h
  cases e4:qbb l with
  |none=>rw[e4] at h;exact h.elim
  |some ns=>rw[e4] at h;obtain⟨a,ys,p1,p2,p3⟩:=h1.list er e3;rw[qd5 p3 e4] at p2;exact qdT gd.calm pins st σ' H xs us Q I rs ⟨a,ns,by rw[hx,p1],by rw[gd.hK];exact p2,h _ G H (Po.refl er) (by simp only[RvR,Rep])⟩
theorem qkC(gd:Gd κ K k X Γ):zV X (.builtin "all") (rC1 κ K Gv Hv qnG):=by rintro pins st σ' H xs us Q I rs ⟨ρ,σ,G,Hb,r,x,hx,er,h1,h⟩;exact h.elim
theorem qbX{G:Hp}:∀{l:List D} {xs:List V} {ps:List (Str×Int)},qo κ G l xs->qfj l=some ps->Paired (λx (p:Str×Int)=>∃a,x=V.ref a/\G a=some (.tup [.str p.1,.int p.2])) xs ps
 |[],xs,ps,r,h=>by simp only[qo] at r;subst r;cases h;exact .nil
 | d::l,xs,ps,r,h=>by
  simp only[qo] at r;obtain⟨x,us,rfl,r1,r2⟩:=r;unfold qfj at h
  cases e1:kvD d with
  |none=>rw[e1] at h;cases h
  |some p=>
   cases e2:qfj l with
   |none=>rw[e1,e2] at h;cases h
   |some qs=>
    rw[e1,e2] at h;cases h;refine .cons ?_ (qbX r2 e2);unfold kvD at e1
    split at e1
    ·cases e1;simp only[Rep,qo] at r1;obtain⟨a,ys,rfl,h1,x1,z1,rfl,rfl,x2,z2,rfl,rfl,rfl⟩:=r1;exact⟨a,rfl,h1⟩
    ·cases e1
theorem qfS{n:Int}{x y r:Rv}(h:qcR n x y=.ok r):∃l k kvs,x.list?=some l/\y.str?=some k/\qfj l=some kvs/\(kvs.map (·.1)).Nodup/\r=.val (.int ((qid kvs k).getD n)):=by
 unfold qcR at h
 cases e1:x.list? with
 |none=>rw[e1] at h;cases h
 |some l=>
  cases e2:y.str? with
  |none=>rw[e1,e2] at h;cases h
  |some k=>
   rw[e1,e2] at h;dsimp only at h
   cases e3:qfj l with
   |none=>rw[e3] at h;cases h
   |some kvs=>
    rw[e3] at h;dsimp only at h
    split at h
    ·rename_i nd;cases h;exact⟨l,k,kvs,rfl,rfl,e3,nd,rfl⟩
    ·cases h
theorem qd7(k:Str):∀kvs:List (Str×Int),qdU (kvs.map kvV) (.inr k)=(qid kvs k).map V.int
 |[]=>rfl
 | kv::l=>by
  have ih:=qd7 k l;unfold qid at ih ⊢
  by_cases e:kv.1=k
  ·rw[List.map_cons,Q1 (show(kvV kv).1=.inr k by rw[<-e];rfl),List.find?_cons,show decide (kv.1=k)=true from decide_eq_true e];rfl
  ·rw[List.map_cons,Q2 (show ¬ (kvV kv).1=.inr k fromλz=>e (by cases z;rfl)),List.find?_cons,show decide (kv.1=k)=false from decide_eq_false e];exact ih
theorem qkD:zV X (.type "int") (rC1 κ K Gv Hv intD):=by
 rintro pins st σ' H xs us Q I rs ⟨ρ,σ,G,Hb,r,x,hx,er,h1,h⟩;unfold intD at h
 cases e3:r.int? with
 |some i=>rw[e3] at h;exact Z0 pins st σ' H xs us Q I rs (.inl ⟨i,by rw[hx,h1.int e3],h _ G H (Po.refl er) (by simp only[RvR,Rep])⟩)
 |none=>
  rw[e3] at h;dsimp only at h
  cases e4:r.bl? with
  |none=>rw[e4] at h;exact h.elim
  |some b=>rw[e4] at h;exact Z0 pins st σ' H xs us Q I rs (.inr ⟨b,by rw[hx,h1.bl e4],h _ G H (Po.refl er) (by simp only[RvR,Rep])⟩)
theorem qkE(gd:Gd κ K k X Γ):zV X (.builtin "max") (rC2 κ K Gv Hv maxD):=by rintro pins st σ' H xs us Q I rs ⟨ρ,σ,G,Hb,Hc,r,s,x,y,hx,er,h1,h2,h⟩;obtain⟨i,j,e1,e2,h⟩:=qbd h;exact qdx gd.calm pins st σ' H xs us Q I rs ⟨i,j,by rw[hx,h1.int e1,h2.int e2],h _ G H (Po.refl er) (by simp only[RvR,Rep])⟩
theorem qkF(gd:Gd κ K k X Γ):zV X (.builtin "min") (rC2 κ K Gv Hv minD):=by rintro pins st σ' H xs us Q I rs ⟨ρ,σ,G,Hb,Hc,r,s,x,y,hx,er,h1,h2,h⟩;obtain⟨i,j,e1,e2,h⟩:=qbd h;exact qdy gd.calm pins st σ' H xs us Q I rs ⟨i,j,by rw[hx,h1.int e1,h2.int e2],h _ G H (Po.refl er) (by simp only[RvR,Rep])⟩
theorem qfT(gd:Gd κ K k X Γ){G H Hb:Hp}{ρ:Env}{σ:St}{r:Rv}{x:V}{b:Bool}(er:ER κ K Gv Hv G H ρ σ)(h:RvR κ K Hv Hb G H ρ σ r x)(e:truthD r=some b):qmw X.K x H b:=by
 have sq:∀{r:Rv},RvR κ K Hv Hb G H ρ σ r x->(seqD r).map (λl=>!l.isEmpty)=some b->qmw X.K x H b:=λ{r} h e=>by
  obtain⟨l,e1,rfl⟩:=Option.map_eq_some_iff.mp e;obtain⟨a,xs,rfl,p2,p3⟩:=h.seq er e1
  have hl:(!l.isEmpty) = !xs.isEmpty:=by
   have:=p3.len
   cases l<;>cases xs<;>simp_all
  rw[hl,gd.hK];rcases p2 with p2 | p2
  ·exact .inl ⟨xs,p2,rfl⟩
  ·exact .inr (.inl ⟨xs,p2,rfl⟩)
 cases r with
 |val d=>
  cases d with
  |non=>simp only[RvR,Rep] at h;subst h;simp only[truthD] at e;cases e;exact rfl
  |bl c=>simp only[RvR,Rep] at h;subst h;simp only[truthD] at e;cases e;exact rfl
  |int c=>simp only[RvR,Rep] at h;subst h;simp only[truthD] at e;cases e;exact rfl
  |str c=>
   simp only[RvR,Rep] at h;subst h;simp only[truthD] at e
   by_cases hz:c.length<=sizeLine
   ·rw[if_pos hz] at e;cases e;exact⟨hz,rfl⟩
   ·rw[if_neg hz] at e;cases e
  |lst l=>exact sq h e
  |tup l=>exact sq h e
  |ins c ns l=>exact sq h e
 |tmp l=>exact sq h e
 |cell l=>exact sq h e
 |scr l=>exact sq h e
end
end DE
namespace DE
open PySem PySem.Spec PyProof.Rows L2
structure All(κ:KC)(K:Frag)(k:Nat)(X:Cx)(Γ:Ct)(m:Nat):Prop where
 r:∀Gv Hv e x,cE m Γ e=some x->PE X e (tR κ K Gv Hv (iR Γ.k x))
 e:∀Gv Hv e x,cX m Γ e=some x->PE X e (tE κ K Gv Hv (zC x (iR Γ.k x)))
 t:∀Gv Hv e x,cT m Γ e=some x->PT X e (tT κ K Gv Hv (iT Γ.k x))
 es:∀Gv Hv e x,cEs m Γ e=some x->PA X e (tEs κ K Gv Hv (iEs Γ.k x))
 as:∀Gv Hv e x,cAs m Γ e=some x->PA X e (tAs κ K Gv Hv (iAs Γ.k x))
 o:∀Gv Hv e x,cO m Γ e=some x->PO X e (tO κ K Gv Hv (iO Γ.k x))
 f:∀Gv Hv e x,cF m Γ e=some x->PIf X e (tT κ K Gv Hv (iF Γ.k x))
 l:∀Gv Hv e x,cL m Γ e=some x->PE X e (tL κ K Gv Hv (j6 x (iR Γ.k x)))
 i:∀Gv Hv tg e x,cI m Γ (qfM tg) e=some x->PI X tg e (tI κ K Gv Hv (iI Γ.k x))
section
variable{κ:KC}{K:Frag}{Gv Hv:Hp}{k m:Nat}{X:Cx}{Γ:Ct}{x:E}
theorem qoC:All κ K k X Γ 0:={ r:=(λ_ _ _ _ h=>nomatch h),e:=(λ_ _ _ _ h=>nomatch h),t:=(λ_ _ _ _ h=>nomatch h),es:=(λ_ _ _ _ h=>nomatch h),as:=(λ_ _ _ _ h=>nomatch h),o:=(λ_ _ _ _ h=>nomatch h),f:=(λ_ _ _ _ h=>nomatch h),l:=(λ_ _ _ _ h=>nomatch h),i:=(λ_ _ _ _ _ h=>nomatch h) }
theorem qbY(c:Const)(j:Nat)(pos:Pos)(h:qg0 c=some x):PE X (.Constant c j pos) (tR κ K Gv Hv (iR Γ.k x)):=by
 cases c with
 |none=>cases h;exact PE.imp qjG λσ H Q ⟨ρ,G,er,h⟩=>h _ G H (Po.refl er) (by simp only[RvR,Rep])
 |bool b=>cases h;exact PE.imp qmG λσ H Q ⟨ρ,G,er,h⟩=>h _ G H (Po.refl er) (by simp only[RvR,Rep])
 |int b=>cases h;exact PE.imp Qm λσ H Q ⟨ρ,G,er,h⟩=>h _ G H (Po.refl er) (by simp only[RvR,Rep])
 |str b=>cases h;exact PE.imp qjH λσ H Q ⟨ρ,G,er,h⟩=>h _ G H (Po.refl er) (by simp only[RvR,Rep])
 |_=>cases h
theorem qfU(A:All κ K k X Γ m)(a b:Expr)(op:Operator)(pos:Pos)(h:cE (m+1) Γ (.BinOp a op b pos)=some x):PE X (.BinOp a op b pos) (tR κ K Gv Hv (iR Γ.k x)):=by obtain⟨a',b',h1,h2,rfl⟩:=qj h;refine PE.imp (qmR (qkx (κ:=κ) (K:=K) (Gv:=Gv) (Hv:=Hv) op) (A.r Gv Hv _ _ h1) (A.r Gv Hv _ _ h2)) λσ H Q hq1=>?_;obtain⟨ρ,G,er,h⟩:=hq1;refine⟨ρ,G,er,Wk.mono (Wk.th (x:=iR Γ.k a' ρ) h) λx h v G1 H1 p1 r1=>⟨x.2,G1,p1.er,Wk.mono (Wk.th (x:=iR Γ.k b' x.2) h) λy h w G2 H2 p2 r2=>?_⟩⟩;exact⟨y.2,σ,G2,H,H1,x.1,y.1,p2.er,r1.keep p2,r2,Wk.mono (Wk.th h) λz h u G3 H3 p3 r3=>h u G3 H3 (p1.trans (p2.trans p3)) (r3.back (p1.trans p2).hs)⟩
theorem qkG(A:All κ K k X Γ m)(a:Expr)(pos:Pos)(h:cE (m+1) Γ (.UnaryOp .USub a pos)=some x):PE X (.UnaryOp .USub a pos) (tR κ K Gv Hv (iR Γ.k x)):=by
 obtain⟨a',h1,rfl⟩:=qm h;refine PE.imp (qjT qgL (A.r Gv Hv _ _ h1)) λσ H Q hq1=>?_;obtain⟨ρ,G,er,h⟩:=hq1;refine⟨ρ,G,er,Wk.mono (Wk.th (x:=iR Γ.k a' ρ) h) λx h v G1 H1 p1 r1=>?_⟩;obtain⟨rv,ρ1⟩:=x
 cases rv with
 |val d=>
  cases d with
  |int i=>exact⟨i,by simpa only[RvR,Rep] using r1,h _ G1 H1 p1 (by simp only[RvR,Rep])⟩
  |_=>exact False.elim h
 |_=>exact False.elim h
theorem qin(A:All κ K k X Γ m)(a:Expr)(pos:Pos)(h:cE (m+1) Γ (.UnaryOp .Not a pos)=some x):PE X (.UnaryOp .Not a pos) (tR κ K Gv Hv (iR Γ.k x)):=by
 obtain⟨a',h1,rfl⟩:=qm h;refine PE.imp (qjL (A.r Gv Hv _ _ h1)) λσ H Q hq1=>?_;obtain⟨ρ,G,er,h⟩:=hq1;refine⟨ρ,G,er,Wk.mono (Wk.th (x:=iR Γ.k a' ρ) h) λx h v G1 H1 p1 r1=>?_⟩;obtain⟨rv,ρ1⟩:=x
 cases rv with
 |val d=>
  cases d with
  |bl i=>exact⟨i,by simpa only[RvR,Rep] using r1,h _ G1 H1 p1 (by simp only[RvR,Rep])⟩
  |_=>exact False.elim h
 |_=>exact False.elim h
theorem qio(gd:Gd κ K k X Γ)(A:All κ K k X Γ m)(a b:Expr)(op:CmpOp)(pos:Pos)(h:cE (m+1) Γ (.Compare a [op] [b] pos)=some x):PE X (.Compare a [op] [b] pos) (tR κ K Gv Hv (iR Γ.k x)):=by obtain⟨hm,h⟩:=qk h;obtain⟨a',b',h1,h2,rfl⟩:=qj h;refine PE.imp (qhM (qg4 (Gv:=Gv) (Hv:=Hv) gd op) (A.r Gv Hv _ _ h1) (A.r Gv Hv _ _ h2) (by simpa using hm)) λσ H Q hq1=>?_;obtain⟨ρ,G,er,h⟩:=hq1;refine⟨ρ,G,er,Wk.mono (Wk.th (x:=iR Γ.k a' ρ) h) λx h v G1 H1 p1 r1=>⟨x.2,G1,p1.er,Wk.mono (Wk.th (x:=iR Γ.k b' x.2) h) λy h w G2 H2 p2 r2=>?_⟩⟩;obtain⟨c,e,h⟩:=Wk.of (Wk.th h);exact⟨y.2,σ,G2,H,H1,x.1,y.1,c,p2.er,r1.keep p2,r2,e,h _ G2 H2 (p1.trans p2) (by simp only[RvR,Rep])⟩
theorem qip(gd:Gd κ K k X Γ)(A:All κ K k X Γ m)(a b:Expr)(op:CmpOp)(pos:Pos){x:T}(h:cT (m+1) Γ (.Compare a [op] [b] pos)=some x):PT X (.Compare a [op] [b] pos) (tT κ K Gv Hv (iT Γ.k x)):=by obtain⟨hm,h⟩:=qk h;obtain⟨a',b',h1,h2,rfl⟩:=qj h;refine PT.imp (qhN (qg4 (Gv:=Gv) (Hv:=Hv) gd op) (A.r Gv Hv _ _ h1) (A.r Gv Hv _ _ h2) (by simpa using hm)) λσ H Q hq1=>?_;obtain⟨ρ,G,er,h⟩:=hq1;refine⟨ρ,G,er,Wk.mono (Wk.th (x:=iR Γ.k a' ρ) h) λx h v G1 H1 p1 r1=>⟨x.2,G1,p1.er,Wk.mono (Wk.th (x:=iR Γ.k b' x.2) h) λy h w G2 H2 p2 r2=>?_⟩⟩;obtain⟨c,e,h⟩:=Wk.of (Wk.th h);exact⟨y.2,σ,G2,H,H1,x.1,y.1,c,p2.er,r1.keep p2,r2,e,c,rfl,h G2 H2 (p1.trans p2)⟩
theorem qkH(A:All κ K k X Γ m)(a b:Expr)(l:List Expr)(pos:Pos)(h:cE (m+1) Γ (.BoolOp .And (a::b::l) pos)=some x):PE X (.BoolOp .And (a::b::l) pos) (tR κ K Gv Hv (iR Γ.k x)):=by
 obtain⟨a',b',h1,h2,rfl⟩:=qj h;refine PE.imp (qjK (A.r Gv Hv _ _ h1) (A.r Gv Hv _ _ h2)) λσ H Q hq1=>?_;obtain⟨ρ,G,er,h⟩:=hq1;refine⟨ρ,G,er,Wk.mono (Wk.th (x:=iR Γ.k a' ρ) h) λx h v G1 H1 p1 r1=>?_⟩;obtain⟨rv,ρ1⟩:=x
 cases rv with
 |val d=>
  cases d with
  |bl c=>
   refine⟨c,by simpa only[RvR,Rep] using r1,?_⟩
   cases c with
   |true=>rw[if_pos rfl];exact⟨ρ1,G1,p1.er,Wk.mono h λy h w G2 H2 p2 r2=>h w G2 H2 (p1.trans p2) (r2.back p1.hs)⟩
   |false=>rw[if_neg (λz=>by cases z)];exact h _ G1 H1 p1 (by simp only[RvR,Rep])
  |_=>exact False.elim h
 |_=>exact False.elim h
theorem qkI(A:All κ K k X Γ m)(c a b:Expr)(pos:Pos)(h:cE (m+1) Γ (.IfExp c a b pos)=some x):PE X (.IfExp c a b pos) (tR κ K Gv Hv (iR Γ.k x)):=by
 obtain⟨c',q,h1,h2,rfl⟩:=qj h;obtain⟨a',b',h3,h4,rfl⟩:=qj h2;refine PE.imp (qfn (A.t Gv Hv _ _ h1) (A.r Gv Hv _ _ h3) (A.r Gv Hv _ _ h4)) λσ H Q hq1=>?_;obtain⟨ρ,G,er,h⟩:=hq1;refine⟨ρ,G,er,Wk.mono (Wk.th (x:=iT Γ.k c' ρ) h) λx h G1 H1 p1=>?_⟩;obtain⟨d,ρ1⟩:=x
 cases d with
 |true=>rw[if_pos rfl];exact⟨ρ1,G1,p1.er,Wk.mono h λy h w G2 H2 p2 r2=>h w G2 H2 (p1.trans p2) (r2.back p1.hs)⟩
 |false=>rw[if_neg (λz=>by cases z)];exact⟨ρ1,G1,p1.er,Wk.mono h λy h w G2 H2 p2 r2=>h w G2 H2 (p1.trans p2) (r2.back p1.hs)⟩
theorem qcW{b:Expr}(h:∀lo hi st p,b≠.Slice lo hi st p):qdE b:=λo i=>by cases b<;>first | rfl | exact absurd rfl (h _ _ _ _)
theorem qo.reverse{G:Hp}:∀{l:List D} {xs:List V},qo κ G l xs->qo κ G l.reverse xs.reverse
 |[],xs,h=>by simp only[qo] at h;subst h;exact .nil
 | d::l,xs,h=>by simp only[qo] at h;obtain⟨v,r,rfl,h1,h2⟩:=h;rw[List.reverse_cons,List.reverse_cons];exact(qo.reverse h2).snoc h1
theorem qiq{lo hi:Option Expr}{st:Expr}(h:qmy lo hi st=true):lo=none/\hi=none/\∃j p q,st=.UnaryOp .USub (.Constant (.int 1) j p) q:=by
 unfold qmy at h
 split at h
 ·exact⟨rfl,rfl,_,_,_,rfl⟩
 ·cases h
theorem qkJ(gd:Gd κ K k X Γ)(A:All κ K k X Γ m){a:Expr}{lo hi:Option Expr}{st:Expr}(p pos:Pos)(h:oif (qmy lo hi st) ((cE m Γ a).map .rvs)=some x):PE X (.Subscript a (.Slice lo hi (some st) p) pos) (tR κ K Gv Hv (iR Γ.k x)):=by obtain⟨hr,h⟩:=qk h;obtain⟨a',h1,rfl⟩:=qm h;obtain⟨rfl,rfl,j,p1,q1,rfl⟩:=qiq hr;have hst:PE X (.UnaryOp .USub (.Constant (.int 1) j p1) q1) (tC (.int (-1))):=PE.imp (qjT qgL Qm) λσ H Q h=>⟨1,rfl,h⟩;refine PE.imp (qdS (A.r Gv Hv _ _ h1) qa6 qa6 hst) λσ H Q hq1=>?_;obtain⟨ρ,G,er,h⟩:=hq1;refine⟨ρ,G,er,Wk.mono (Wk.th (x:=iR Γ.k a' ρ) h) λx h v G1 H1 p1 r1=>?_⟩;obtain⟨l,e1,h⟩:=Wk.of (Wk.th h);obtain⟨b,xs,rfl,q1,q2⟩:=r1.list p1.er e1;refine⟨b,xs,-1,xs.reverse,rfl,by rw[gd.hK];exact q1,rfl,by decide,by simp,qfF,λp hp=>?_⟩;obtain⟨z1,z2⟩:=p1.er.newList hp q2.reverse;exact h _ _ _ (p1.trans z1) (z2.back p1.hs)
theorem qkK(gd:Gd κ K k X Γ)(A:All κ K k X Γ m)(a b:Expr)(pos:Pos)(h:cE (m+1) Γ (.Subscript a b pos)=some x):PE X (.Subscript a b pos) (tR κ K Gv Hv (iR Γ.k x)):=by
 have gen:(∀lo hi st p,b≠.Slice lo hi st p)->o2 (cE m Γ a) (cE m Γ b) .idx=some x->PE X (.Subscript a b pos) (tR κ K Gv Hv (iR Γ.k x)):=λhb h=>by obtain⟨a',b',h1,h2,rfl⟩:=qj h;refine PE.imp (qmZ (qky (Gv:=Gv) (Hv:=Hv) gd) (A.r Gv Hv _ _ h1) (A.r Gv Hv _ _ h2) (qcW hb)) λσ H Q hq1=>?_;obtain⟨ρ,G,er,h⟩:=hq1;refine⟨ρ,G,er,Wk.mono (Wk.th (x:=iR Γ.k a' ρ) h) λx h v G1 H1 p1 r1=>⟨x.2,G1,p1.er,Wk.mono (Wk.th (x:=iR Γ.k b' x.2) h) λy h w G2 H2 p2 r2=>?_⟩⟩;exact⟨y.2,σ,G2,H,H1,x.1,y.1,p2.er,r1.keep p2,r2,Wk.mono (Wk.th h) λz h u G3 H3 p3 r3=>h u G3 H3 (p1.trans (p2.trans p3)) (r3.back (p1.trans p2).hs)⟩
 cases b with
 |Slice lo hi st p=>
  cases st with
  |some st=>exact qkJ gd A p pos h
  |none=>obtain⟨a',q,h1,h2,rfl⟩:=qj h;obtain⟨l',u',h3,h4,rfl⟩:=qj h2;refine PE.imp (qfx (qkz (Gv:=Gv) (Hv:=Hv) gd) (A.r Gv Hv _ _ h1) (A.o Gv Hv _ _ h3) (A.o Gv Hv _ _ h4)) λσ H Q hq1=>?_;obtain⟨ρ,G,er,h⟩:=hq1;refine⟨ρ,G,er,Wk.mono (Wk.th (x:=iR Γ.k a' ρ) h) λx h v G1 H1 p1 r1=>⟨x.2,G1,p1.er,Wk.mono (Wk.th (x:=iO Γ.k l' x.2) h) λy h G2 H2 p2=>⟨y.2,G2,p2.er,Wk.mono (Wk.th (x:=iO Γ.k u' y.2) h) λz h G3 H3 p3=>?_⟩⟩⟩;exact⟨z.2,σ,G3,H,x.1,p3.er,(r1.keep p2).keep p3,Wk.mono (Wk.th h) λu h w G4 H4 p4 r4=>h w G4 H4 (p1.trans (p2.trans (p3.trans p4))) (r4.back (p1.trans (p2.trans p3)).hs)⟩
 |_=>exact gen (λ_ _ _ _ z=>by cases z) h
theorem qkL(A:All κ K k X Γ m)(es:List Expr)(pos:Pos)(h:cE (m+1) Γ (.List es pos)=some x):PE X (.List es pos) (tR κ K Gv Hv (iR Γ.k x)):=by obtain⟨l,h1,rfl⟩:=qm h;refine PE.imp (qj3 (A.es Gv Hv _ _ h1)) λσ H Q hq1=>?_;obtain⟨ρ,G,er,h⟩:=hq1;refine⟨ρ,G,er,Wk.mono (Wk.th (x:=iEs Γ.k l ρ) h) λx h vs G1 H1 p1 r1=>?_⟩;obtain⟨hz,h⟩:=Wk.iff h;refine⟨by rw[<-r1.len];exact hz,λp hp=>?_⟩;obtain⟨z1,z2⟩:=p1.er.newList hp r1;exact h _ _ _ (p1.trans z1) (z2.back p1.hs)
theorem qkM(A:All κ K k X Γ m)(es:List Expr)(j:Nat)(pos:Pos)(h:cE (m+1) Γ (.Tuple es j pos)=some x):PE X (.Tuple es j pos) (tR κ K Gv Hv (iR Γ.k x)):=by obtain⟨l,h1,rfl⟩:=qm h;refine PE.imp (qj2 (A.es Gv Hv _ _ h1)) λσ H Q hq1=>?_;obtain⟨ρ,G,er,h⟩:=hq1;refine⟨ρ,G,er,Wk.mono (Wk.th (x:=iEs Γ.k l ρ) h) λx h vs G1 H1 p1 r1=>?_⟩;obtain⟨hz,h⟩:=Wk.iff h;refine⟨by rw[<-r1.len];exact hz,λp hp=>?_⟩;have z1:=Po.lay (o:=.tup vs) p1.er hp;refine h _ _ _ (p1.trans z1) ?_;simp only[RvR,Rep];exact⟨p,vs,rfl,qg,r1.same z1.gs⟩
theorem qoD(gd:Gd κ K k X Γ)(A:All κ K k X Γ m)(e:Expr)(x:E)(h:cX (m+1) Γ e=some x):PE X e (tE κ K Gv Hv (zC x (iR Γ.k x))):=by
 have gen:(cE m Γ e).bind qak=some x->PE X e (tE κ K Gv Hv (zC x (iR Γ.k x))):=λh=>by
  obtain⟨y,h1,h2⟩:=Option.bind_eq_some_iff.mp h;obtain⟨rfl,hv⟩:=jg h2;refine PE.imp (A.r Gv Hv _ _ h1) λσ H Q hq1=>?_;obtain⟨ρ,G,er,h⟩:=hq1;rw[qig hv] at h;refine⟨ρ,G,er,Wk.mono (Wk.th h) λx h v G1 H1 p1 r1=>?_⟩;obtain⟨rv,ρ1⟩:=x
  cases rv with
  |val d=>exact h v G1 H1 p1 r1
  |tmp l=>obtain⟨a,xs,rfl,h1,h2,h3,h4,h5,h6⟩:=r1;have p2:=p1.freeze h1 h2 h3 h4 h5;refine h _ _ H1 p2 ?_;simp only[Rep];exact⟨a,xs,rfl,qg,h6.same (qt.upd h4)⟩
  |_=>exact False.elim h
 cases e with
 |Name x pos=>exact qbT gd h pos
 |_=>exact gen h
theorem qnb(A:All κ K k X Γ m):∀es x,cEs (m+1) Γ es=some x->PA X es (tEs κ K Gv Hv (iEs Γ.k x))
 |[],_,h=>by cases h;exact PA.imp qB λσ H Q ⟨ρ,G,er,h⟩=>h [] G H (Po.refl er) .nil
 | e::l,_,h=>by obtain⟨hs,h⟩:=qk h;obtain⟨a',l',h1,h2,rfl⟩:=qj h;refine PA.imp (qh (A.e Gv Hv _ _ h1) (A.es Gv Hv _ _ h2) (qe (by simpa using hs))) λσ H Q hq1=>?_;obtain⟨ρ,G,er,h⟩:=hq1;refine⟨ρ,G,er,Wk.mono (Wk.th (x:=zC a' (iR Γ.k a') ρ) h) λx h v G1 H1 p1 r1=>⟨x.2,G1,p1.er,Wk.mono (Wk.th (x:=iEs Γ.k l' x.2) h) λy h vs G2 H2 p2 r2=>?_⟩⟩;exact h _ G2 H2 (p1.trans p2) (.cons (r1.same p2.gs) r2)
theorem qnc(A:All κ K k X Γ m):∀es x,cAs (m+1) Γ es=some x->PA X es (tAs κ K Gv Hv (iAs Γ.k x))
 |[],_,h=>by cases h;exact PA.imp qB λσ H Q ⟨ρ,G,er,h⟩=>h [] G H (Po.refl er) rfl
 | e::l,_,h=>by
  obtain⟨hs,h⟩:=qk h;obtain⟨a',l',h1,h2,rfl⟩:=qj h;refine PA.imp (qh (A.r Gv Hv _ _ h1) (A.as Gv Hv _ _ h2) (qe (by simpa using hs))) λσ H Q hq1=>?_;obtain⟨ρ,G,er,h⟩:=hq1;refine⟨ρ,G,er,Wk.mono (Wk.th (x:=iR Γ.k a' ρ) h) λx h v G1 H1 p1 r1=>?_⟩;have h:=Wk.th (x:=iAs Γ.k l' x.2) h;obtain⟨rv,ρ1⟩:=x
  cases rv with
  |val d=>exact⟨ρ1,G1,p1.er,Wk.mono h λy h vs G2 H2 p2 r2=>h _ G2 H2 (p1.trans p2) ⟨v,vs,rfl,Rep.same p2.gs r1,r2⟩⟩
  |tmp ds=>obtain⟨a,xs,rfl,h1,h2,h3,h4,h5,h6⟩:=r1;have p1':=p1.freeze h1 h2 h3 h4 h5;refine⟨ρ1,_,p1'.er,Wk.mono h λy h vs G2 H2 p2 r2=>h _ G2 H2 (p1'.trans p2) ⟨_,vs,rfl,?_,r2⟩⟩;show Rep κ G2 (.lst ds) (.ref a);simp only[Rep];exact⟨a,xs,rfl,p2.gs _ _ qg,(h6.same (qt.upd h4)).same p2.gs⟩
  |cell ds=>obtain⟨a,xs,rfl,h1,h6⟩:=r1;exact⟨ρ1,G1,p1.er,Wk.mono h λy h vs G2 H2 p2 r2=>h _ G2 H2 (p1.trans p2) ⟨_,vs,rfl,⟨a,xs,rfl,p2.hs _ _ h1,h6.same p2.gs⟩,r2⟩⟩
  |scr ds=>obtain⟨a,xs,rfl,h1,h6⟩:=r1;exact⟨ρ1,G1,p1.er,Wk.mono h λy h vs G2 H2 p2 r2=>h _ G2 H2 (p1.trans p2) ⟨_,vs,rfl,⟨a,xs,rfl,p2.hs.seq h1,h6.same p2.gs⟩,r2⟩⟩
theorem qoE(A:All κ K k X Γ m):∀o x,cO (m+1) Γ o=some x->PO X o (tO κ K Gv Hv (iO Γ.k x))
 |none,_,h=>by cases h;exact PO.imp qa6 λσ H Q ⟨ρ,G,er,h⟩=>h G H (Po.refl er)
 |some e,_,h=>by
  obtain⟨a',h1,rfl⟩:=qm h;refine PO.imp (qhX (A.r Gv Hv _ _ h1)) λσ H Q hq1=>?_;obtain⟨ρ,G,er,h⟩:=hq1;refine⟨ρ,G,er,Wk.mono (Wk.th (x:=iR Γ.k a' ρ) h) λx h v G1 H1 p1 r1=>?_⟩;obtain⟨rv,ρ1⟩:=x
  cases rv with
  |val d=>
   cases d with
   |int i=>exact⟨i,by simpa only[RvR,Rep] using r1,h G1 H1 p1⟩
   |_=>exact False.elim h
  |_=>exact False.elim h
theorem qoF(A:All κ K k X Γ m):∀es x,cF (m+1) Γ es=some x->PIf X es (tT κ K Gv Hv (iF Γ.k x))
 |[],_,h=>by cases h;exact PIf.imp qh4 λσ H Q ⟨ρ,G,er,h⟩=>h G H (Po.refl er)
 |[c],_,h=>by obtain⟨a',h1,rfl⟩:=qm h;exact qh5 (A.t Gv Hv _ _ h1)
 | _::_::_,_,h=>by cases h
noncomputable def qg5:Expr->Bool
 |.UnaryOp .Not _ _=>false
 |.BoolOp ..=>false
 |.IfExp ..=>false
 |.Compare ..=>false
 |_=>true
theorem qd8{e:Expr}(h:qg5 e=true)(env:PySem.Env):∀whole,isTrue e env whole=(do let v<-whole;standAt e.pos;holding [v] (truthy v)):=by
 intro whole
 cases e with
 |UnaryOp op a pos=>cases op<;>first | rfl | cases h
 |BoolOp=>cases h
 |IfExp=>cases h
 |Compare=>cases h
 |_=>rfl
theorem qoG(gd:Gd κ K k X Γ)(A:All κ K k X Γ m)(e:Expr)(x:T)(h:cT (m+1) Γ e=some x):PT X e (tT κ K Gv Hv (iT Γ.k x)):=by
 have gen:qg5 e=true->(cE m Γ e).map .val=some x->PT X e (tT κ K Gv Hv (iT Γ.k x)):=λhp h=>by obtain⟨a',h1,rfl⟩:=qm h;refine PT.imp (qfr (A.r Gv Hv _ _ h1) (qd8 hp X.env)) λσ H Q hq1=>?_;obtain⟨ρ,G,er,h⟩:=hq1;refine⟨ρ,G,er,Wk.mono (Wk.th (x:=iR Γ.k a' ρ) h) λx h v G1 H1 p1 r1=>?_⟩;obtain⟨b,e1,h⟩:=Wk.of (Wk.th h);exact⟨b,qfT gd p1.er r1 e1,h G1 H1 p1⟩
 cases e with
 |UnaryOp op a pos=>
  cases op with
  |Not=>obtain⟨a',h1,rfl⟩:=qm h;refine PT.imp (Qn (A.t Gv Hv _ _ h1)) λσ H Q hq1=>?_;obtain⟨ρ,G,er,h⟩:=hq1;exact⟨ρ,G,er,Wk.mono (Wk.th (x:=iT Γ.k a' ρ) h) λx h G1 H1 p1=>h G1 H1 p1⟩
  |_=>exact gen rfl h
 |BoolOp op vs pos=>
  cases vs with
  |nil=>cases op<;>cases h
  |cons a vs=>
   cases vs with
   |nil=>
    cases op with
    |And=>obtain⟨a',h1,rfl⟩:=qm h;exact PT.imp (PW.pt (qhF (A.t Gv Hv _ _ h1))) λσ H Q h=>h
    |Or=>obtain⟨a',h1,rfl⟩:=qm h;exact PT.imp (PW.pt (qjI (A.t Gv Hv _ _ h1))) λσ H Q h=>h
   |cons b l=>
    cases op with
    |And=>
     obtain⟨a',b',h1,h2,rfl⟩:=qj h;intro pins s σ H Q I hw;obtain⟨ρ,G,er,h⟩:=hw;refine isTrue_and (thn (A.t Gv Hv _ _ h1 pins s σ H (λc H1=>if c=true then tT κ K Gv Hv (iT Γ.k b') σ H1 Q else Q false H1) I ?_) λc s1 ⟨H1,I1,q1⟩=>?_)
     ·refine⟨ρ,G,er,Wk.mono (Wk.th (x:=iT Γ.k a' ρ) h) λx h G1 H1 p1=>?_⟩;obtain⟨d,ρ1⟩:=x
      cases d with
      |true=>rw[if_pos rfl];exact⟨ρ1,G1,p1.er,Wk.mono h λy h G2 H2 p2=>h G2 H2 (p1.trans p2)⟩
      |false=>rw[if_neg (λz=>by cases z)];exact h G1 H1 p1
     ·cases c with
      |true=>exact A.t Gv Hv _ _ h2 pins s1 σ H1 Q I1 q1
      |false=>exact⟨H1,I1,q1⟩
    |Or=>
     obtain⟨a',b',h1,h2,rfl⟩:=qj h;intro pins s σ H Q I hw;obtain⟨ρ,G,er,h⟩:=hw;refine isTrue_or (thn (A.t Gv Hv _ _ h1 pins s σ H (λc H1=>if c=true then Q true H1 else tT κ K Gv Hv (iT Γ.k b') σ H1 Q) I ?_) λc s1 ⟨H1,I1,q1⟩=>?_)
     ·refine⟨ρ,G,er,Wk.mono (Wk.th (x:=iT Γ.k a' ρ) h) λx h G1 H1 p1=>?_⟩;obtain⟨d,ρ1⟩:=x
      cases d with
      |false=>rw[if_neg (λz=>by cases z)];exact⟨ρ1,G1,p1.er,Wk.mono h λy h G2 H2 p2=>h G2 H2 (p1.trans p2)⟩
      |true=>rw[if_pos rfl];exact h G1 H1 p1
     ·cases c with
      |true=>exact⟨H1,I1,q1⟩
      |false=>exact A.t Gv Hv _ _ h2 pins s1 σ H1 Q I1 q1
 |IfExp c a b pos=>cases h
 |Compare a ops bs pos=>
  match ops,bs,h with
  |[op],[b],h=>exact qip gd A a b op pos h
  |[_,_],[_,_],h=>cases h
  |[],[],h=>cases h
  | [],_::_,h=>cases h
  |[_],[],h=>cases h
  | [_],_::_::_,h=>cases h
  |[_,_],[],h=>cases h
  |[_,_],[_],h=>cases h
  | [_,_],_::_::_::_,h=>cases h
  | _::_::_::_,_,h=>cases h
 |_=>exact gen rfl h
end
end DE
namespace DE
open PySem PySem.Spec PyProof.Rows L2
section
variable{κ:KC}{K:Frag}{Gv Hv:Hp}{k m:Nat}{X:Cx}{Γ:Ct}
theorem qkN{tg l:Expr}{tl:TE}(hl:PE X l tl):PI X tg l (λσ H R=>tl σ H λx H1=>(∃a,x=.ref a/\(((∃xs,SqL X.K H1 a xs)/\R (Itl X.K a) H1)\/((∃xs,SqT X.K H1 a xs)/\R (Itt X.K a) H1)))\/∃z,x=.str z/\R (Its z) H1):=by
 intro pins s σ H R I h;refine thn (hl pins s σ H _ I h) λv s1 hq1=>?_;obtain⟨x,H1,I1,r1,q1⟩:=hq1;rcases q1 with ⟨a,e,q⟩ | ⟨x,rfl,q⟩
 ·subst e;cases r1;rcases q with ⟨⟨xs,hq⟩,q⟩ | ⟨⟨xs,hq⟩,q⟩
  ·obtain⟨its,rv,p,hz⟩:=I1.list hq;refine wpAny_pyIter_list p.isList ?_;refine⟨s1.heap.objs.size,[s1.heap.objs.size],_,_,H1,rfl,I1.kept (t':=s1.toks) λb o e=>Heap.get?_push_of_some _ e,qds a _,⟨_,Heap.get?_push_size _ rfl,rfl,rfl⟩,λb hb=>?_,q⟩;have e:b=s1.heap.objs.size:=by simpa using hb
   subst e;exact I1.fpOk (Nat.le_refl _) (I1.hok.fresh (Nat.le_refl _))
  ·obtain⟨its,rv,p,hz⟩:=I1.tuple hq;refine wpAny_pyIter_tuple (show s1.heap.IsTuple a its.toArray from p) ?_;refine⟨s1.heap.objs.size,[s1.heap.objs.size],_,_,H1,rfl,I1.kept (t':=s1.toks) λb o e=>Heap.get?_push_of_some _ e,qcD a _,⟨_,Heap.get?_push_size _ rfl,rfl,rfl⟩,λb hb=>?_,q⟩;have e:b=s1.heap.objs.size:=by simpa using hb
   subst e;exact I1.fpOk (Nat.le_refl _) (I1.hok.fresh (Nat.le_refl _))
 ·obtain⟨t,rfl⟩:=r1
  have fin:∀(T:String) (o:Obj),(T = "str_ascii_iterator"\/T = "str_iterator")->(∀A':Around,A'.handled=none->Walks X.prog X.w A' s1.heap.objs.size [s1.heap.objs.size] [s1.heap.objs.size] x.cps.size (SignAt x) (λi h=>h.IsStrIter s1.heap.objs.size T x t i))->
    (s1.heap.push o).IsStrIter s1.heap.objs.size T x t 0->PIE X pins σ tg R (.ref s1.heap.objs.size) { s1 with heap:=s1.heap.push o }:=λT o hT W st=>by
   refine⟨s1.heap.objs.size,[s1.heap.objs.size],_,_,H1,rfl,I1.kept (t':=s1.toks) λb o e=>Heap.get?_push_of_some _ e,qfI hT W,st,λb hb=>?_,q⟩;have e:b=s1.heap.objs.size:=by simpa using hb
   subst e;exact I1.fpOk (Nat.le_refl _) (I1.hok.fresh (Nat.le_refl _))
  cases ha:x.cps.all (· < 128)
  ·exact wpAny_pyIter_wide ha (fin _ _ (.inr rfl) (λA' hA=>Walks.strWide hA _ x t) ⟨_,Heap.get?_push_size _ rfl,rfl,rfl⟩)
  ·exact wpAny_pyIter_ascii ha (fin _ _ (.inl rfl) (λA' hA=>Walks.strAscii hA _ x t) ⟨_,Heap.get?_push_size _ rfl,rfl,rfl⟩)
theorem qfV(gd:Gd κ K k X Γ){x:Str}{i:Nat}(hi:qfi Γ x=some i)(pos:Pos):PE X (.Name x pos) (tL κ K Gv Hv (j6 (.var i) (iR Γ.k (.var i)))):=by
 refine PE.imp (qbS gd hi pos) λσ H Q hq1=>?_;obtain⟨ρ,G,er,h⟩:=hq1;have h:Wk (slL ρ i) _:=h;unfold slL at h
 cases q:ρ[i]? with
 |none=>rw[q] at h;exact False.elim h
 |some s=>
  rw[q] at h;have w:=er.sl i s q
  cases s with
  |no=>exact False.elim h
  |val d=>
   obtain⟨v,z,r⟩:=w
   cases d with
   |lst l=>simp only[Rep] at r;obtain⟨a,xs,rfl,r1,r2⟩:=r;exact⟨_,z,h _ G H (Po.refl er) ⟨a,xs,rfl,r2,.inl r1⟩⟩
   |str y=>simp only[Rep] at r;subst r;exact⟨_,z,h _ G H (Po.refl er) ⟨y,rfl,rfl⟩⟩
   |tup l=>simp only[Rep] at r;obtain⟨a,xs,rfl,r1,r2⟩:=r;exact⟨_,z,h _ G H (Po.refl er) ⟨a,xs,rfl,r2,r1⟩⟩
   |_=>exact False.elim h
  |own l=>obtain⟨a,xs,z,p,r⟩:=er.froze q;simp only[Rep] at r;obtain⟨a',xs',e,r1,r2⟩:=r;cases e;exact⟨_,z,h _ _ H p ⟨a,xs',rfl,r2,.inl r1⟩⟩
  |bor l=>obtain⟨a,xs,z,r1,r4⟩:=w;exact⟨_,z,h _ G H (Po.refl er) ⟨a,xs,rfl,r4,.inr (SqL.of r1)⟩⟩
  |scr l=>obtain⟨a,xs,z,r1,r4⟩:=w;exact⟨_,z,h _ G H (Po.refl er) ⟨a,xs,rfl,r4,.inr r1⟩⟩
theorem qoH(gd:Gd κ K k X Γ)(A:All κ K k X Γ m)(e:Expr)(x:E)(h:cL (m+1) Γ e=some x):PE X e (tL κ K Gv Hv (j6 x (iR Γ.k x))):=by
 have gen:(cE m Γ e).bind qak=some x->PE X e (tL κ K Gv Hv (j6 x (iR Γ.k x))):=λh=>by
  obtain⟨y,h1,h2⟩:=Option.bind_eq_some_iff.mp h;obtain⟨rfl,hv⟩:=jg h2;refine PE.imp (A.r Gv Hv _ _ h1) λσ H Q hq1=>?_;obtain⟨ρ,G,er,h⟩:=hq1;rw[qih hv] at h;refine⟨ρ,G,er,Wk.mono (Wk.th h) λx h v G1 H1 p1 r1=>?_⟩;obtain⟨rv,ρ1⟩:=x
  cases rv with
  |val d=>
   cases d with
   |lst l=>simp only[RvR,Rep] at r1;obtain⟨a,xs,rfl,q1,q2⟩:=r1;exact h _ G1 H1 p1 ⟨a,xs,rfl,q2,.inl q1⟩
   |str y=>simp only[RvR,Rep] at r1;subst r1;exact h _ G1 H1 p1 ⟨y,rfl,rfl⟩
   |tup l=>simp only[RvR,Rep] at r1;obtain⟨a,xs,rfl,q1,q2⟩:=r1;exact h _ G1 H1 p1 ⟨a,xs,rfl,q2,q1⟩
   |_=>exact False.elim h
  |tmp l=>obtain⟨a,xs,rfl,h1,h2,h3,h4,h5,h6⟩:=r1;exact h _ _ H1 (p1.freeze h1 h2 h3 h4 h5) ⟨a,xs,rfl,h6.same (qt.upd h4),.inl qg⟩
  |_=>exact False.elim h
 cases e with
 |Name x pos=>obtain⟨i,h1,rfl⟩:=qm h;exact qfV gd h1 pos
 |_=>exact gen h
theorem qkO{G:Hp}{a:Addr}{xs:List V}{l:List D}(h:G a=some (.lst xs)\/SqL K Hv a xs)(r:qo κ G l xs):ItR κ Hv G (Itl K a) l:=by
 intro i G1 H1 s1 s2 s3;have hq:SqL K H1 a xs:=h.elim (λz=>SqL.of (s3 _ _ (s1 _ _ z))) λz=>s2.seq z;refine⟨λd e=>?_,λe=>⟨xs,hq,by rw[<-r.len];omega⟩⟩;obtain⟨v,e1,e2⟩:=r.atD e;refine⟨⟨xs,v,hq,e1⟩,λx H' ⟨z1,z2⟩=>⟨G1,by rw[z1];exactλ_ _ q=>q,λ_ _ q=>q,by rw[z1];exact s3,λ_ o q=>.inl ⟨o,q⟩,?_⟩⟩
 have:=z2 xs hq
 rw[e1] at this;cases this;exact e2.same s1
theorem qkP{G:Hp}{a:Addr}{xs:List V}{l:List D}(h:G a=some (.lst xs)\/SqL K Hv a xs)(r:qo κ G l xs):ItR κ Hv G (Itv K a xs) l.reverse:=by
 intro i G1 H1 s1 s2 s3;have hq:SqL K H1 a xs:=h.elim (λz=>SqL.of (s3 _ _ (s1 _ _ z))) λz=>s2.seq z;have hl:=r.len;refine⟨λd e=>?_,λe=>⟨hq,by simp at e;omega⟩⟩;have hi:i < l.length:=by simpa using (List.getElem?_eq_some_iff.mp e).1
 rw[List.getElem?_reverse hi] at e;obtain⟨v,e1,e2⟩:=r.atD e;refine⟨⟨hq,by omega⟩,λx H' ⟨z1,z2⟩=>⟨G1,by rw[z1];exactλ_ _ q=>q,λ_ _ q=>q,by rw[z1];exact s3,λ_ o q=>.inl ⟨o,q⟩,?_⟩⟩;rw[<-hl,e1] at z2;cases z2;exact e2.same s1
theorem qkQ{G:Hp}{a:Addr}{xs:List V}{l:List D}(h:G a=some (.tup xs))(r:qo κ G l xs):ItR κ Hv G (Itt K a) l:=by
 intro i G1 H1 s1 s2 s3;have hq:SqT K H1 a xs:=SqT.of (s3 _ _ (s1 _ _ h));refine⟨λd e=>?_,λe=>⟨xs,hq,by rw[<-r.len];omega⟩⟩;obtain⟨v,e1,e2⟩:=r.atD e;refine⟨⟨xs,v,hq,e1⟩,λx H' ⟨z1,z2⟩=>⟨G1,by rw[z1];exactλ_ _ q=>q,λ_ _ q=>q,by rw[z1];exact s3,λ_ o q=>.inl ⟨o,q⟩,?_⟩⟩
 have:=z2 xs hq
 rw[e1] at this;cases this;exact e2.same s1
theorem qkR{G:Hp}{x:Str}:ItR κ Hv G (Its x) (qdi x):=by
 intro i G1 H1 s1 s2 s3;have hl:(qdi x).length=x.cps.size:=by simp[qdi]
 refine⟨λd e=>?_,λe=>by rw[<-e,hl];rfl⟩;unfold qdi at e;rw[List.getElem?_map] at e;obtain⟨c,e1,rfl⟩:=Option.map_eq_some_iff.mp e;rw[Array.getElem?_toList] at e1;refine⟨(Array.getElem?_eq_some_iff.mp e1).1,λv H' ⟨z1,c',z2,z3⟩=>⟨G1,by rw[z1];exactλ_ _ q=>q,λ_ _ q=>q,by rw[z1];exact s3,λ_ o q=>.inl ⟨o,q⟩,?_⟩⟩;rw[e1] at z2;cases z2;rw[z3];simp only[Rep]
theorem qg6{G:Hp}{lo hi:Int}:ItR κ Hv G (Itr lo (hi - lo).toNat) (zB lo hi):=by
 intro i G1 H1 s1 s2 s3;refine⟨λd e=>?_,λe=>?_⟩
 ·unfold zB at e;rw[List.getElem?_map] at e;obtain⟨j,e1,rfl⟩:=Option.map_eq_some_iff.mp e;obtain⟨h1,h2⟩:=List.getElem?_eq_some_iff.mp e1;have hi':i < (hi - lo).toNat:=by simpa using h1
  have hj:j=i:=by rw[<-h2];simp
  subst hj;refine⟨hi',λx H' ⟨z1,z2⟩=>⟨G1,by rw[z1];exactλ_ _ q=>q,λ_ _ q=>q,by rw[z1];exact s3,λ_ o q=>.inl ⟨o,q⟩,?_⟩⟩;rw[z2];simp only[Rep]
 ·have hl:(zB lo hi).length=(hi - lo).toNat:=by simp only[zB,List.length_map,List.length_range]
  show(hi - lo).toNat<=i;omega
theorem qd9{G H:Hp}{T:Addr}{x y:V}{d e:D}(sub:qt G H)(hT:H T=none)(hx:Rep κ G d x)(hy:Rep κ G e y) :
  ∃G',qt H (upd H T (.tup [x,y]))/\qt G G'/\qt G' (upd H T (.tup [x,y]))/\(∀a o,G' a=some o->(∃o',G a=some o')\/H a=none)/\Rep κ G' (.tup [d,e]) (.ref T):=by
 have gT:G T=none:=qt.none sub hT;have gs:qt G (upd G T (.tup [x,y])):=qt.upd gT;refine⟨upd G T (.tup [x,y]),qt.upd hT,gs,λb u q=>?_,λb u q=>?_,?_⟩
 ·by_cases hb:b=T
  ·subst hb;rw[qg] at q ⊢;exact q
  ·rw[qd hb] at q ⊢;exact sub b u q
 ·by_cases hb:b=T
  ·subst hb;exact .inr hT
  ·rw[qd hb] at q;exact .inl ⟨u,q⟩
 ·simp only[Rep];exact⟨T,_,rfl,qg,.cons (hx.same gs) %[hy.same gs|0]⟩
theorem qkS{G:Hp}{a:Addr}{xs:List V}{l:List D}(h:G a=some (.lst xs)\/SqL K Hv a xs)(r:qo κ G l xs):ItR κ Hv G (Ite K a) (Yw l):=by
 intro i G1 H1 s1 s2 s3;have hq:SqL K H1 a xs:=h.elim (λz=>SqL.of (s3 _ _ (s1 _ _ z))) λz=>s2.seq z;have hlen:(Yw l).length=l.length:=by simp[Yw]
 refine⟨λd e=>?_,λe=>⟨xs,hq,by rw[<-r.len];omega⟩⟩;have hi:i < l.length:=by rw[<-hlen];exact(List.getElem?_eq_some_iff.mp e).1
 have e0:(Yw l)[i]?=some (.tup [.int i,l[i]]):=by unfold Yw;rw[List.getElem?_zipWith];simp[hi]
 rw[e0] at e;cases e;obtain⟨v,e1,e2⟩:=r.atD (List.getElem?_eq_getElem hi);refine⟨⟨xs,v,hq,e1⟩,λx H' z=>?_⟩;obtain⟨T,x',rfl,hT,rfl,z2⟩:=z
 have:=z2 xs hq
 rw[e1] at this;cases this;exact qd9 s3 hT (by simp only[Rep]) (e2.same s1)
theorem qkT{G:Hp}{a b:Addr}{xs ys:List V}{l n:List D}(h:G a=some (.lst xs)\/SqL K Hv a xs)(r:qo κ G l xs)(h':G b=some (.lst ys)\/SqL K Hv b ys)(r':qo κ G n ys):ItR κ Hv G (Itz K a b) (qcS l n):=by
 intro i G1 H1 s1 s2 s3;have hq:SqL K H1 a xs:=h.elim (λz=>SqL.of (s3 _ _ (s1 _ _ z))) λz=>s2.seq z;have hq':SqL K H1 b ys:=h'.elim (λz=>SqL.of (s3 _ _ (s1 _ _ z))) λz=>s2.seq z;have hlen:(qcS l n).length=min l.length n.length:=by simp[qcS]
 have l1:=r.len;have l2:=r'.len;refine⟨λd e=>?_,λe=>⟨xs,ys,hq,hq',by omega⟩⟩;have hi:i < min l.length n.length:=by rw[<-hlen];exact(List.getElem?_eq_some_iff.mp e).1
 have i1:i < l.length:=by omega
 have i2:i < n.length:=by omega
 have e0:(qcS l n)[i]?=some (.tup [l[i],n[i]]):=by unfold qcS;rw[List.getElem?_zipWith];simp[i1,i2]
 rw[e0] at e;cases e;obtain⟨v,e1,e2⟩:=r.atD (List.getElem?_eq_getElem i1);obtain⟨w,e3,e4⟩:=r'.atD (List.getElem?_eq_getElem i2);refine⟨⟨xs,ys,v,w,hq,hq',e1,e3⟩,λx H' z=>?_⟩;obtain⟨T,x',y',rfl,hT,rfl,z2⟩:=z;obtain⟨z3,z4⟩:=z2 xs ys hq hq';rw[e1] at z3;rw[e3] at z4;cases z3;cases z4;exact qd9 s3 hT (e2.same s1) (e4.same s1)
theorem Yx{i:Int}(h:qD i=true):-(2 ^ 62)<=i/\i < 2 ^ 62:=by
 unfold qD at h
 simpa [Bool.and_eq_true] using h
theorem qfW(gd:Gd κ K k X Γ)(A:All κ K k X Γ m)(tg e:Expr)(x:I)(h:(cL m Γ e).map .seq=some x):PI X tg e (tI κ K Gv Hv (iI Γ.k x)):=by
 obtain⟨a',h1,rfl⟩:=qm h;refine PI.imp (qkN (A.l Gv Hv _ _ h1)) λσ H Q hq1=>?_;obtain⟨ρ,G,er,h⟩:=hq1;refine⟨ρ,G,er,Wk.mono (Wk.th (x:=j6 a' (iR Γ.k a') ρ) h) λx h v G1 H1 p1 r1=>?_⟩;obtain⟨⟨b,l⟩,ρ1⟩:=x
 cases b with
 |str=>obtain⟨y,rfl,rfl⟩:=r1;exact .inr ⟨y,rfl,h _ G1 H1 p1 qkR⟩
 |tup=>obtain⟨a,xs,rfl,r2,r3⟩:=r1;exact .inl ⟨a,rfl,.inr ⟨⟨xs,SqT.of (p1.er.sub _ _ r3)⟩,h _ G1 H1 p1 (by rw[gd.hK];exact qkQ r3 r2)⟩⟩
 |lst=>obtain⟨a,xs,rfl,r2,r3⟩:=r1;refine .inl ⟨a,rfl,.inl ⟨⟨xs,?_⟩,h _ G1 H1 p1 (by rw[gd.hK];exact qkO r3 r2)⟩⟩;rw[gd.hK];exact r3.elim (λz=>SqL.of (p1.er.sub _ _ z)) λz=>p1.er.base.seq z
theorem qbZ{a b:Expr}{env:PySem.Env}(h1:qF a=false)(h2:qF b=false):starEach [a,b] env=[(false,eval a env),(false,eval b env)]:=by rw[qe h1,qe h2];rfl
theorem qea{G H:Hp}{ρ:Env}{σ:L2.St}{a:Addr}{xs:List V}(gd:Gd κ K k X Γ)(er:ER κ K Gv Hv G H ρ σ)(r:G a=some (.lst xs)\/SqL K Hv a xs):∃xs,SqL X.K H a xs:=by rw[gd.hK];exact⟨xs,r.elim (λz=>SqL.of (er.sub _ _ z)) λz=>er.base.seq z⟩
theorem qir(gd:Gd κ K k X Γ)(A:All κ K k X Γ m)(tg a:Expr)(f:Str)(p q:Pos)(x:I)(hg:Gl X f)(h:oif (!qF a) (if f = "range" then (cE m Γ a).map .rng else if f = "enumerate" then oif (qfM tg) ((cL m Γ a).map .enum) else if f = "reversed" then (cL m Γ a).map .rev else none)=some x) :
  PI X tg (.Call (.Name f p) [a] [] q) (tI κ K Gv Hv (iI Γ.k x)):=by
 obtain⟨hs,h⟩:=qk h;have hs:qF a=false:=by simpa using hs
 by_cases h1:f = "range"
 ·subst h1;rw[if_pos rfl] at h;obtain⟨a',h1,rfl⟩:=qm h;refine PI.imp (qdt hg (gd.blt _ (2:)) (qh (A.r Gv Hv _ _ h1) qB (qe hs)) (qe hs)) λσ H Q hq1=>?_;obtain⟨ρ,G,er,h⟩:=hq1;refine⟨ρ,G,er,Wk.mono (Wk.th (x:=iR Γ.k a' ρ) h) λx h v G1 H1 p1 r1=>?_⟩
  cases e1:x.1.int? with
  |none=>rw[e1] at h;exact False.elim h
  |some n=>
   rw[e1] at h;obtain⟨hz,h⟩:=Wk.iff h;obtain⟨z1,z2⟩:=Yx hz;refine⟨n,by rw[r1.int e1],z1,z2,h _ G1 H1 p1 ?_⟩
   have:=qg6 (κ:=κ) (Hv:=Hv) (G:=G1) (lo:=0) (hi:=n)
   rw[Int.sub_zero] at this;exact this
 rw[if_neg h1] at h
 by_cases h2:f = "enumerate"
 ·subst h2;rw[if_pos rfl] at h;obtain⟨ht,h⟩:=qk h;obtain⟨a',h1,rfl⟩:=qm h
  cases tg with
  |Tuple es j tp=>
   refine PI.imp (qib hg (gd.blt _ (2:)) (qh (A.l Gv Hv _ _ h1) qB (qe hs)) (qe hs)) λσ H Q hq1=>?_;obtain⟨ρ,G,er,h⟩:=hq1;refine⟨ρ,G,er,Wk.mono (Wk.th (x:=j6 a' (iR Γ.k a') ρ) h) λx h v G1 H1 p1 r1=>?_⟩;obtain⟨⟨b,l⟩,ρ1⟩:=x
   cases b with
   |lst=>obtain⟨c,xs,rfl,r2,r3⟩:=r1;exact⟨c,rfl,qea gd p1.er r3,h _ G1 H1 p1 (by rw[gd.hK];exact qkS r3 r2)⟩
   |_=>exact False.elim h
  |_=>cases ht
 rw[if_neg h2] at h
 by_cases h3:f = "reversed"
 ·subst h3;rw[if_pos rfl] at h;obtain⟨a',h1,rfl⟩:=qm h;refine PI.imp (qkp hg (gd.blt _ (2:)) (qh (A.l Gv Hv _ _ h1) qB (qe hs)) (qe hs)) λσ H Q hq1=>?_;obtain⟨ρ,G,er,h⟩:=hq1;refine⟨ρ,G,er,Wk.mono (Wk.th (x:=j6 a' (iR Γ.k a') ρ) h) λx h v G1 H1 p1 r1=>?_⟩;obtain⟨⟨b,l⟩,ρ1⟩:=x
  cases b with
  |lst=>obtain⟨c,xs,rfl,r2,r3⟩:=r1;refine⟨c,xs,rfl,?_,h _ G1 H1 p1 (by rw[gd.hK];exact qkP r3 r2)⟩;rw[gd.hK];exact r3.elim (λz=>SqL.of (p1.er.sub _ _ z)) λz=>p1.er.base.seq z
  |_=>exact False.elim h
 rw[if_neg h3] at h;cases h
theorem qis(gd:Gd κ K k X Γ)(A:All κ K k X Γ m)(tg a b:Expr)(f:Str)(p q:Pos)(x:I)(hg:Gl X f)(h:oif (!(qF a||qF b)) (if f = "range" then o2 (cE m Γ a) (cE m Γ b) .rng2 else if f = "zip" then oif (qfM tg) (o2 (cL m Γ a) (cL m Γ b) .zip) else none)=some x) :
  PI X tg (.Call (.Name f p) [a,b] [] q) (tI κ K Gv Hv (iI Γ.k x)):=by
 obtain⟨hs,h⟩:=qk h;have hs:(qF a||qF b)=false:=by simpa using hs
 rw[Bool.or_eq_false_iff] at hs;obtain⟨s1,s2⟩:=hs
 by_cases h1:f = "range"
 ·subst h1;rw[if_pos rfl] at h;obtain⟨a',b',h1,h2,rfl⟩:=qj h;refine PI.imp (qdu hg (gd.blt _ (2:)) (qh (A.r Gv Hv _ _ h1) (qh (A.r Gv Hv _ _ h2) qB (qe s2)) (qe s1)) (qbZ s1 s2) (qe s2)) λσ H Q hq1=>?_;obtain⟨ρ,G,er,h⟩:=hq1;refine⟨ρ,G,er,Wk.mono (Wk.th (x:=iR Γ.k a' ρ) h) λx h v G1 H1 p1 r1=>⟨x.2,G1,p1.er,Wk.mono (Wk.th (x:=iR Γ.k b' x.2) h) λy h w G2 H2 p2 r2=>?_⟩⟩
  cases e1:x.1.int? with
  |none=>rw[e1] at h;exact False.elim h
  |some i=>
   cases e2:y.1.int? with
   |none=>rw[e1,e2] at h;exact False.elim h
   |some j=>rw[e1,e2] at h;obtain⟨hz,h⟩:=Wk.iff h;obtain⟨z1,z2⟩:=Yx hz.1;obtain⟨z3,z4⟩:=Yx hz.2;exact⟨i,j,by rw[r1.int e1,r2.int e2],⟨z1,z2,z3,z4⟩,h _ G2 H2 (p1.trans p2) qg6⟩
 rw[if_neg h1] at h
 by_cases h2:f = "zip"
 ·subst h2;rw[if_pos rfl] at h;obtain⟨ht,h⟩:=qk h;obtain⟨a',b',h1,h2,rfl⟩:=qj h
  cases tg with
  |Tuple es j tp=>
   refine PI.imp (qkn hg (gd.blt _ (2:)) (qh (A.l Gv Hv _ _ h1) (qh (A.l Gv Hv _ _ h2) qB (qe s2)) (qe s1)) (qbZ s1 s2) (qe s2)) λσ H Q hq1=>?_;obtain⟨ρ,G,er,h⟩:=hq1;refine⟨ρ,G,er,Wk.mono (Wk.th (x:=j6 a' (iR Γ.k a') ρ) h) λx h v G1 H1 p1 r1=>⟨x.2,G1,p1.er,Wk.mono (Wk.th (x:=j6 b' (iR Γ.k b') x.2) h) λy h w G2 H2 p2 r2=>?_⟩⟩;obtain⟨⟨bx,l⟩,ρ1⟩:=x;obtain⟨⟨by',n⟩,ρ2⟩:=y
   cases bx with
   |lst=>
    cases by' with
    |lst=>obtain⟨c,xs,rfl,r3,r4⟩:=r1;obtain⟨d,ys,rfl,r5,r6⟩:=r2;have r4':G2 c=some (.lst xs)\/SqL K Hv c xs:=r4.imp (λz=>p2.gs _ _ z) id;exact⟨c,d,rfl,qea gd p2.er r4',qea gd p2.er r6,h _ G2 H2 (p1.trans p2) (by rw[gd.hK];exact qkT r4' (r3.same p2.gs) r6 r5)⟩
    |_=>exact False.elim h
   |_=>exact False.elim h
  |_=>cases ht
 rw[if_neg h2] at h;cases h
theorem qoI(gd:Gd κ K k X Γ)(A:All κ K k X Γ m)(tg e:Expr)(x:I)(h:cI (m+1) Γ (qfM tg) e=some x):PI X tg e (tI κ K Gv Hv (iI Γ.k x)):=by
 cases e with
 |Call fn es kws q=>
  cases fn with
  |Name f p=>
   cases kws with
   |nil=>
    have h:(if (decide (f = "range")||decide (f = "enumerate")||decide (f = "zip")||decide (f = "reversed"))=true then _ else _)=some x:=h
    by_cases hf:(decide (f = "range")||decide (f = "enumerate")||decide (f = "zip")||decide (f = "reversed"))=true
    ·rw[if_pos hf] at h;obtain⟨hn,h⟩:=qk h;simp only[Bool.and_eq_true] at hn;have hg:=gd.glo _ hn.1.2
     match es,h with
     |[a],h=>exact qir gd A tg a f p q x hg h
     |[a,b],h=>exact qis gd A tg a b f p q x hg h
     |[_,_,_],h=>cases h
     |[],h=>cases h
     | _::_::_::_::_,h=>cases h
    ·rw[if_neg hf] at h;exact qfW gd A tg _ x h
   |cons kw kws=>exact qfW gd A tg _ x h
  |_=>exact qfW gd A tg _ x h
 |_=>exact qfW gd A tg _ x h
end
end DE
namespace DE
open PySem PySem.Spec PyProof.Rows L2
section
variable{κ:KC}{K:Frag}{Gv Hv:Hp}{k m:Nat}{X:Cx}{Γ:Ct}{x:E}
theorem qam:∀{m:Nat} {es:List Expr} {l:Es},cAs m Γ es=some l->es.any qF=false
 |0,_,_,h=>nomatch h
 | m+1,[],_,_=>rfl
 | m+1,e::es,_,h=>by
  obtain⟨hs,h⟩:=qk h;obtain⟨a,b,_,h2,_⟩:=qj h;rw[List.any_cons,qam h2,Bool.or_false]
  simpa using hs
theorem Zd{m:Nat}{l:Es}(h:cAs m Γ []=some l):l=.nil:=by
 cases m<;>cases h
 rfl
theorem zr{env:PySem.Env}{pos:Pos}:∀{es:List Expr},es.any qF=false->(backTo pos (starEach es env)).any (·.1)=false
 |[],_=>rfl
 | e::l,h=>by simp only[List.any_cons,Bool.or_eq_false_iff] at h;rw[qe h.1];show(false||(backTo pos (starEach l env)).any (·.1))=false;rw[zr h.2];rfl
theorem ReR.rv{G H G1 H1 G2 H2:Hp}{ρ ρ1:Env}{σ:L2.St}{r:Rv}{v:V}(p:Po κ K Gv Hv σ G H ρ G1 H1 ρ1)(hs:qt H1 H2)(gs:qt G1 G2)(sub:qt G2 H2)(new:∀a o,G2 a=some o->(∃o',G1 a=some o')\/H1 a=none)(h:ReR κ G2 H2 H1 r v) :
  Po κ K Gv Hv σ G H ρ G2 H2 ρ1/\RvR κ K Hv H G2 H2 ρ1 σ r v:=by
 refine⟨p.trans (Po.more p.er hs gs sub new),?_⟩
 cases r with
 |val d=>exact h
 |tmp ds=>obtain⟨a,xs,rfl,h1,h2,h3,h4⟩:=h;exact⟨a,xs,rfl,h1,qt.none p.hs h2,qt.none p.er.base h2,h3,p.er.notOwn h2,h4⟩
 |cell ds=>exact False.elim h
 |scr ds=>exact False.elim h
theorem qfX(gd:Gd κ K k X Γ)(A:All κ K k X Γ m)(f:Str)(es:List Expr)(p q:Pos)(hok:jM f=true)(hgl:glB Γ.sc f=true)(ht:Γ.tab.contains f=true)(h:(cAs m Γ es).map (.call f)=some x):PE X (.Call (.Name f p) es [] q) (tR κ K Gv Hv (iR Γ.k x)):=by
 obtain⟨l',h1,rfl⟩:=qm h;have hs:=qam h1;obtain⟨fa,fd,ps,F,hm,hk,hb⟩:=gd.fns f ht;obtain⟨n1,n2,n3⟩:=jh hok
 have key:∀σ H Q,tR κ K Gv Hv (iR Γ.k (.call f l')) σ H Q->qdB (spF κ K Γ.cl f) [] E0 (tAs κ K Gv Hv (iAs Γ.k l')) σ H Q:=λσ H Q ⟨ρ,G,er,h⟩=>by refine⟨ρ,G,er,Wk.mono (Wk.th (x:=iAs Γ.k l' ρ) h) λx h vs G1 H1 p1 r1=>?_⟩;show spF κ K Γ.cl f (vs++[]) H1 Q E0;rw[List.append_nil];refine⟨G1,x.1,p1.er.sub,r1,Wk.mono (Wk.th h) λr h v G2 H2 hs gs sub new rr=>?_⟩;obtain⟨z1,z2⟩:=ReR.rv p1 hs gs sub new rr;exact h v G2 H2 z1 z2
 cases es with
 |nil=>obtain rfl:=Zd h1;refine PE.imp (qbJ F gd.room (gd.glo f hgl) hm hk hb .nil j9 n1) λσ H Q h=>?_;obtain⟨ρ,G,er,h⟩:=key σ H Q h;exact h [] G H (Po.refl er) rfl
 |cons e l=>simp only[List.any_cons,Bool.or_eq_false_iff] at hs;exact PE.imp (j7 F gd.room (gd.glo f hgl) hm hk hb .nil j9 (A.as Gv Hv _ _ h1) n1 (qe hs.1) (zr hs.2)) key
theorem qeb:∀{m:Nat} {es:List Expr} {l:Es},cEs m Γ es=some l->es.any qF=false
 |0,_,_,h=>nomatch h
 | m+1,[],_,_=>rfl
 | m+1,e::es,_,h=>by
  obtain⟨hs,h⟩:=qk h;obtain⟨a,b,_,h2,_⟩:=qj h;rw[List.any_cons,qeb h2,Bool.or_false]
  simpa using hs
theorem qec{G H:Hp}:∀{ds:List D} {vs:List V},qo κ G ds vs->JR κ K G H (ds.map .val) vs
 |[],vs,h=>by
  show vs=[]
  simpa only[qo] using h
 | d::ds,vs,h=>by simp only[qo] at h;obtain⟨v,r,rfl,h1,h2⟩:=h;exact⟨v,r,rfl,h1,qec h2⟩
theorem qfY(gd:Gd κ K k X Γ)(A:All κ K k X Γ m)(f:Str)(es:List Expr)(p q:Pos)(hok:jM f=true)(hgl:glB Γ.sc f=true)(ht:Γ.tab.contains f=true)(h:(cEs m Γ es).map (.calF f)=some x):PE X (.Call (.Name f p) es [] q) (tR κ K Gv Hv (iR Γ.k x)):=by
 obtain⟨l',h1,rfl⟩:=qm h;have hs:=qeb h1;obtain⟨fa,fd,ps,F,hm,hk,hb⟩:=gd.fns f ht;obtain⟨n1,n2,n3⟩:=jh hok
 have key:∀σ H Q,tR κ K Gv Hv (iR Γ.k (.calF f l')) σ H Q->qdB (spF κ K Γ.cl f) [] E0 (tEs κ K Gv Hv (iEs Γ.k l')) σ H Q:=λσ H Q ⟨ρ,G,er,h⟩=>by refine⟨ρ,G,er,Wk.mono (Wk.th (x:=iEs Γ.k l' ρ) h) λx h vs G1 H1 p1 r1=>?_⟩;show spF κ K Γ.cl f (vs++[]) H1 Q E0;rw[List.append_nil];refine⟨G1,x.1.map .val,p1.er.sub,qec r1,Wk.mono (Wk.th h) λr h v G2 H2 hs gs sub new rr=>?_⟩;obtain⟨z1,z2⟩:=ReR.rv p1 hs gs sub new rr;exact h v G2 H2 z1 z2
 cases es with
 |nil=>
  have e:l'=.nil:=by cases m<;>cases h1;rfl
  subst e;refine PE.imp (qbJ F gd.room (gd.glo f hgl) hm hk hb .nil j9 n1) λσ H Q h=>?_;obtain⟨ρ,G,er,h⟩:=key σ H Q h;exact h [] G H (Po.refl er) .nil
 |cons e l=>simp only[List.any_cons,Bool.or_eq_false_iff] at hs;exact PE.imp (j7 F gd.room (gd.glo f hgl) hm hk hb .nil j9 (A.es Gv Hv _ _ h1) n1 (qe hs.1) (zr hs.2)) key
theorem qfZ(gd:Gd κ K k X Γ)(A:All κ K k X Γ m)(f:Str)(a:Expr)(p q:Pos)(hgl:glB Γ.sc f=true)(h:oif (!qF a) (o2 (qm7 f) (cE m Γ a) E.b1)=some x):PE X (.Call (.Name f p) [a] [] q) (tR κ K Gv Hv (iR Γ.k x)):=by
 obtain⟨hs,h⟩:=qk h;have s1:qF a=false:=by simpa using hs
 obtain⟨y,a',h1,h2,rfl⟩:=qj h
 have key:∀σ H Q,tR κ K Gv Hv (iR Γ.k (.b1 y a')) σ H Q->tCB (rC1 κ K Gv Hv y.go) (qfu (tR κ K Gv Hv (iR Γ.k a')) qju) σ H Q:=λσ H Q ⟨ρ,G,er,h⟩=>⟨ρ,G,er,Wk.mono (Wk.th (x:=iR Γ.k a' ρ) h) λx h v G1 H1 p1 r1=>⟨x.2,σ,G1,H,x.1,v,rfl,p1.er,r1,Wk.mono (Wk.th h) λz h u G2 H2 p2 r2=>h u G2 H2 (p1.trans p2) (r2.back p1.hs)⟩⟩
 have pa:=qh (A.r Gv Hv _ _ h2) qB (qe s1);unfold qm7 at h1
 split at h1
 ·rename_i e;cases h1;subst e;exact PE.imp (zo (qkA (Gv:=Gv) (Hv:=Hv) gd) (gd.glo _ hgl) (gd.blt _ (2:)) PySem.boot_len pa (2:) (2:) (qe s1) rfl) key
 split at h1
 ·rename_i e;cases h1;subst e;exact PE.imp (jf (qim (Gv:=Gv) (Hv:=Hv) gd) (gd.glo _ hgl) (gd.blt _ (2:)) PyProof.Rows.boot_list pa (2:) (2:) (qe s1) rfl) key
 split at h1
 ·rename_i e;cases h1;subst e;exact PE.imp (jf (qkD (κ:=κ) (K:=K) (Gv:=Gv) (Hv:=Hv)) (gd.glo _ hgl) (gd.blt _ (2:)) PyProof.Rows.boot_int pa (2:) (2:) (qe s1) rfl) key
 split at h1
 ·rename_i e;cases h1;subst e;exact PE.imp (zo (qd6 (Gv:=Gv) (Hv:=Hv) gd) (gd.glo _ hgl) (gd.blt _ (2:)) PyProof.Rows.boot_sorted pa (2:) (2:) (qe s1) rfl) key
 split at h1
 ·rename_i e;cases h1;subst e;exact PE.imp (zo (qkB (Gv:=Gv) (Hv:=Hv) gd) (gd.glo _ hgl) (gd.blt _ (2:)) PyProof.Rows.boot_sum pa (2:) (2:) (qe s1) rfl) key
 split at h1
 ·rename_i e;cases h1;subst e;exact PE.imp (zo (qkC (Gv:=Gv) (Hv:=Hv) gd) (gd.glo _ hgl) (gd.blt _ (2:)) PyProof.Rows.boot_all pa (2:) (2:) (qe s1) rfl) key
 cases h1
theorem qf0(gd:Gd κ K k X Γ)(A:All κ K k X Γ m)(f:Str)(a b:Expr)(p q:Pos)(hgl:glB Γ.sc f=true)(h:oif (!(qF a||qF b)) (o2 (qm8 f) (o2 (cE m Γ a) (cE m Γ b) Prod.mk) λf p=>E.b2 f p.1 p.2)=some x):PE X (.Call (.Name f p) [a,b] [] q) (tR κ K Gv Hv (iR Γ.k x)):=by
 obtain⟨hs,h⟩:=qk h;have hs:(qF a||qF b)=false:=by simpa using hs
 rw[Bool.or_eq_false_iff] at hs;obtain⟨s1,s2⟩:=hs;obtain⟨y,z,h1,h2,rfl⟩:=qj h;obtain⟨a',b',h3,h4,rfl⟩:=qj h2
 have key:∀σ H Q,tR κ K Gv Hv (iR Γ.k (.b2 y a' b')) σ H Q->tCB (rC2 κ K Gv Hv y.go) (qfu (tR κ K Gv Hv (iR Γ.k a')) (qfu (tR κ K Gv Hv (iR Γ.k b')) qju)) σ H Q:=λσ H Q ⟨ρ,G,er,h⟩=>⟨ρ,G,er,Wk.mono (Wk.th (x:=iR Γ.k a' ρ) h) λx h v G1 H1 p1 r1=>⟨x.2,G1,p1.er,Wk.mono (Wk.th (x:=iR Γ.k b' x.2) h) λy h w G2 H2 p2 r2=>⟨y.2,σ,G2,H,H1,x.1,y.1,v,w,rfl,p2.er,r1.keep p2,r2,Wk.mono (Wk.th h) λz h u G3 H3 p3 r3=>h u G3 H3 (p1.trans (p2.trans p3)) (r3.back (p1.trans p2).hs)⟩⟩⟩
 have sa:(backTo q (starEach [b] X.env)).any (·.1)=false:=zr (by simp[s2]);have pa:=qh (A.r Gv Hv _ _ h3) (qh (A.r Gv Hv _ _ h4) qB (qe s2)) (qe s1);unfold qm8 at h1
 split at h1
 ·rename_i e;cases h1;subst e;exact PE.imp (zo (qkE (Gv:=Gv) (Hv:=Hv) gd) (gd.glo _ hgl) (gd.blt _ (2:)) PyProof.Rows.boot_max pa (2:) (2:) (qe s1) sa) key
 split at h1
 ·rename_i e;cases h1;subst e;exact PE.imp (zo (qkF (Gv:=Gv) (Hv:=Hv) gd) (gd.glo _ hgl) (gd.blt _ (2:)) PyProof.Rows.boot_min pa (2:) (2:) (qe s1) sa) key
 cases h1
noncomputable def tyN:D->String
 |.non=>"NoneType" |.bl _=>"bool" |.int _=>"int" |.str _=>"str" |.lst _=>"list" |.tup _=>"tuple" |.ins ..=>"object"
def Ty.nm:Ty->String
 |.int=>"int" |.bool=>"bool" |.str=>"str" |.list=>"list" |.tuple=>"tuple"
theorem qnd{G H Hb:Hp}{ρ:Env}{σ:L2.St}{r:Rv}{x:V}{t:Ty}{b:Bool}(er:ER κ K Gv Hv G H ρ σ)(h:RvR κ K Hv Hb G H ρ σ r x)(e:t.go r=some b):TyOf K H x (.type (tyN r.data)):=by
 cases r with
 |val d=>
  cases d<;>simp only[RvR,Rep] at h
  ·subst h;exact .non
  ·subst h;exact .bl _
  ·subst h;exact .int _
  ·subst h;exact .str _
  ·obtain⟨a,xs,rfl,h1,_⟩:=h;exact .lst (er.sub _ _ h1)
  ·obtain⟨a,xs,rfl,h1,_⟩:=h;exact .tup (er.sub _ _ h1)
  ·cases t<;>cases e
 |tmp l=>obtain⟨a,xs,rfl,h1,_⟩:=h;exact .lst h1
 |cell l=>obtain⟨a,xs,rfl,h1,_⟩:=h;exact .lst h1
 |scr l=>cases e
theorem qkU{r:Rv}{t:Ty}{b:Bool}(e:t.go r=some b):PySem.W.kitOne K (.type (tyN r.data)) (.type t.nm)=some b:=by
 have main:∀d:D,t.of d=some b->PySem.W.kitOne K (.type (tyN d)) (.type t.nm)=some b:=λd e=>by cases t<;>cases d<;>cases e<;>rfl
 cases r with
 |val d=>exact main d e
 |tmp l=>exact main (.lst l) e
 |cell l=>exact main (.lst l) e
 |scr l=>cases e
theorem qed{X:Cx}:zV X (.builtin "isinstance") (λvs H Q=>∃x c t cv b,vs=[x,c]/\TyOf X.K H x t/\qM c cv/\(∀u,qM c u->u=cv)/\PySem.W.kitOne X.K t cv=some b/\Q (.bl b) H):=by intro pins s σ H xs us Q I r h;obtain⟨x,c,t,cv,b,rfl,ty,rc,uq,e,q⟩:=h;obtain⟨u,v,rfl,ru,rv⟩:=qa5 r;obtain rfl:v=cv:=uq v rv;exact Z1 I ru ty e λtk=>⟨.bl b,H,I.tok tk,rfl,q⟩
theorem qkV(gd:Gd κ K k X Γ)(A:All κ K k X Γ m)(a:Expr)(t:Str)(p tp q:Pos)(hgl:glB Γ.sc "isinstance" = true)
  (h:oif (jM t&&glB Γ.sc t&&(qdk Γ.N t).isNone&&!qF a) (match qmA t with |some y=>(cE m Γ a).map (E.isi y) |none=>(cE m Γ a).map (.isc t))=some x):PE X (.Call (.Name "isinstance" p) [a,.Name t tp] [] q) (tR κ K Gv Hv (iR Γ.k x)):=by
 obtain⟨hc,h⟩:=qk h;simp only[Bool.and_eq_true,Bool.not_eq_true'] at hc;obtain⟨⟨⟨c1,c2⟩,c3⟩,s1⟩:=hc
 cases hy:qmA t with
 |some y=>
  rw[hy] at h;obtain⟨a',h1,rfl⟩:=qm h
  have hb:PE X (.Name t tp) (tC (.ty y.nm)):=by
   unfold qmA at hy
   split at hy
   ·rename_i e;cases hy;subst e;exact Yi (gd.glo _ c2) (gd.blt _ (2:)) PyProof.Rows.boot_int rfl
   split at hy
   ·rename_i e;cases hy;subst e;exact Yi (gd.glo _ c2) (gd.blt _ (2:)) PyProof.Rows.boot_bool rfl
   split at hy
   ·rename_i e;cases hy;subst e;exact Yi (gd.glo _ c2) (gd.blt _ (2:)) PyProof.Rows.boot_str rfl
   split at hy
   ·rename_i e;cases hy;subst e;exact Yi (gd.glo _ c2) (gd.blt _ (2:)) PyProof.Rows.boot_list rfl
   split at hy
   ·rename_i e;cases hy;subst e;exact Yi (gd.glo _ c2) (gd.blt _ (2:)) PyProof.Rows.boot_tuple rfl
   cases hy
  refine PE.imp (zo qfE (gd.glo _ hgl) (gd.blt _ (2:)) PyProof.Rows.boot_isinstance (qh (A.r Gv Hv _ _ h1) (qh hb qB rfl) (qe s1)) (2:) (2:) (qe s1) rfl) λσ H Q hq1=>?_;obtain⟨ρ,G,er,h⟩:=hq1;refine⟨ρ,G,er,Wk.mono (Wk.th (x:=iR Γ.k a' ρ) h) λx h v G1 H1 p1 r1=>?_⟩;obtain⟨b,e1,h⟩:=Wk.of (Wk.th h);exact⟨v,y.nm,_,b,rfl,by rw[gd.hK];exact qnd p1.er r1 e1,by rw[gd.hK];exact qkU e1,h _ G1 H1 p1 (by simp only[RvR,Rep])⟩
 |none=>
  rw[hy] at h;obtain⟨a',h1,rfl⟩:=qm h;rintro pins s σ H Q I ⟨ρ,G,er,h⟩;have h2:=Wk.th (x:=iR Γ.k a' ρ) h
  cases e1:iR Γ.k a' ρ with
  |exc c l=>rw[e1] at h2;exact h2.elim
  |no=>rw[e1] at h2;exact h2.elim
  |ok x=>
   rw[e1] at h2;obtain⟨b,e2,h3⟩:=Wk.of (Wk.th (x:=R.of (qgW Γ.cs x.1 t)) h2)
   obtain⟨c,ns,ds,ex,e2⟩:∃c ns ds,x.1=.val (.ins c ns ds)/\Γ.cs.sub c t=some b:=by
    obtain⟨r,env⟩:=x
    cases r with
    |val d=>
     cases d with
     |ins c ns ds=>exact⟨c,ns,ds,rfl,e2⟩
     |_=>cases e2
    |_=>cases e2
   obtain⟨C,T,hC,hty,hT,kt⟩:=gd.subs c t b e2;refine(zo qed (gd.glo _ hgl) (gd.blt _ (2:)) PyProof.Rows.boot_isinstance (qh (A.r Gv Hv _ _ h1) (qh (Yh (v:=.ref T) (gd.glo _ c2) hT rfl (jh c1).1) qB rfl) (qe s1)) (2:) (2:) (qe s1) rfl) pins s σ H Q I ⟨ρ,G,er,?_⟩;rw[e1];intro v G1 H1 p1 r1;rw[ex] at r1;simp only[RvR,Rep] at r1;obtain⟨p',dx,C',xs,hc',rfl,h4,hl,h5⟩:=r1;rw[hC] at hc';cases hc';exact⟨.ref p',.ref T,.ref C,.ref T,b,rfl,hty _ _ _ _ (p1.er.sub _ _ h4),rfl,λu hu=>hu,kt,h3 _ G1 H1 p1 (by simp only[RvR,Rep])⟩
theorem qbe{o:Expr}(h:JQ o=true)(x:Str)(env:PySem.Env):attributeBase o x env (eval o env)=eval o env:=by cases o<;>first | rfl | (simp[JQ] at h)
theorem qit{cs:Cs}{r:Rv}{x:Str}{d:D}(h:qd0 cs r x=some d):∃c ns ds,r=.val (.ins c ns ds)/\cs.fld c x=true/\(ns.zip ds).lookup x=some d:=by
 cases r with
 |val e=>
  cases e with
  |ins c ns ds=>
   have h:(if cs.fld c x=true then (ns.zip ds).lookup x else none)=some d:=h
   by_cases hf:cs.fld c x=true
   ·rw[if_pos hf] at h;exact⟨c,ns,ds,rfl,hf,h⟩
   ·rw[if_neg hf] at h;cases h
  |_=>cases h
 |_=>cases h
theorem qkW{cs:Cs}{r:Rv}{x f:Str}(h:mtD cs r x=some f):∃c ns ds,r=.val (.ins c ns ds)/\ns.contains x=false/\cs.mt c x=some f:=by
 cases r with
 |val e=>
  cases e with
  |ins c ns ds=>
   have h:(if ns.contains x=true then none else cs.mt c x)=some f:=h
   by_cases hf:ns.contains x=true
   ·rw[if_pos hf] at h;cases h
   ·rw[if_neg hf] at h;exact⟨c,ns,ds,rfl,by simpa using hf,h⟩
  |_=>cases h
 |_=>cases h
theorem qb0{G:Hp}{x:Str}{d:D}:∀{ns:List Str} {ds:List D} {xs:List V},qo κ G ds xs->(ns.zip ds).lookup x=some d->∃v,(ns.zip xs).lookup x=some v/\Rep κ G d v
 |[],_,_,_,h=>by simp at h
 | n::ns,[],_,_,h=>by simp at h
 | n::ns,e::ds,xs,r,h=>by
  simp only[qo] at r;obtain⟨v,us,rfl,r1,r2⟩:=r;rw[List.zip_cons_cons,List.lookup_cons] at h
  cases hx:(x == n) with
  |true=>rw[hx] at h;cases h;exact⟨v,by rw[List.zip_cons_cons,List.lookup_cons,hx],r1⟩
  |false=>rw[hx] at h;obtain⟨u,z1,z2⟩:=qb0 r2 h;exact⟨u,by rw[List.zip_cons_cons,List.lookup_cons,hx];exact z1,z2⟩
theorem qb1{x:Str}:∀{ns:List Str} {xs:List V},ns.contains x=false->(ns.zip xs).lookup x=none
 |[],_,_=>by simp
 | n::ns,[],_=>by simp
 | n::ns,v::xs,h=>by simp only[List.contains_cons,Bool.or_eq_false_iff] at h;rw[List.zip_cons_cons,List.lookup_cons,h.1];exact qb1 h.2
theorem qkX(gd:Gd κ K k X Γ)(A:All κ K k X Γ m)(o:Expr)(y:Str)(pos:Pos)(h:cE (m+1) Γ (.Attribute o y pos)=some x):PE X (.Attribute o y pos) (tR κ K Gv Hv (iR Γ.k x)):=by obtain⟨ho,h⟩:=qk h;obtain⟨a',h1,rfl⟩:=qm h;refine PE.imp (qj1 (A.r Gv Hv _ _ h1) (qbe ho y X.env)) λσ H Q hq1=>?_;obtain⟨ρ,G,er,h⟩:=hq1;refine⟨ρ,G,er,Wk.mono (Wk.th (x:=iR Γ.k a' ρ) h) λz h v G1 H1 p1 r1=>?_⟩;obtain⟨d,e1,h⟩:=Wk.of (Wk.th h);obtain⟨c,ns,ds,e2,e3,e4⟩:=qit e1;rw[e2] at r1;simp only[RvR,Rep] at r1;obtain⟨p,dx,C,xs,hc,rfl,h1,hl,h2⟩:=r1;obtain⟨u,e5,ru⟩:=qb0 h2 e4;exact⟨p,C,dx,_,u,rfl,p1.er.sub _ _ h1,gd.cls c C hc,gd.flds c y C e3 hc,e5,h u G1 H1 p1 ru⟩
theorem qan{o:Expr}{x:Str}{ap q:Pos}{es:List Expr}{env:PySem.Env}(ho:JQ o=true)(hs:es.any qF=false)(hl:es.length < 30)(hp:(ap.endLine == q.line)=true) :
  eval (.Call (.Attribute o x ap) es [] q) env=(do
   let ov<-eval o env
   standAt ap.atName
   let (f,first)<-holding [ov] (getMethod ov x (do return (<-importBound o env).getD true))
   callWith q f first (backTo q (starEach es env)) (backToKw q (keywordEach [] env))):=by
 have hm:methodCallForm (es.length+([]:List Keyword).length) (backTo q (starEach es env)) (backToKw q (keywordEach [] env))=true:=by
  have e:=zr (pos:=q) (env:=env) hs;unfold methodCallForm;simp only[Bool.and_eq_true,decide_eq_true_eq];refine⟨⟨?_,rfl⟩,?_⟩
  ·rw[List.all_eq_true];intro y hy
   have:=List.any_eq_false.mp e y hy
   simpa using this
  ·show es.length+0+0 < 30;omega
 show(do
  let ov<-attributeBase o x env (eval o env)
  standAt ap.atName
  methodCall o x ap q env ov (es.length+([]:List Keyword).length) (backTo q (starEach es env)) (backToKw q (keywordEach [] env)))=_
 rw[qbe ho];unfold methodCall;simp only[hm,calleeOf,methodCallPos,if_true,hp,Bool.not_true,Bool.false_or];rfl
theorem qao{G:Hp}:∀{l:List D} {xs:List V} {zs:List Str},qo κ G l xs->Q6 l=some zs->xs=zs.map V.str
 |[],xs,zs,h,e=>by simp only[qo] at h;cases e;exact h
 | d::l,xs,zs,h,e=>by
  simp only[qo] at h;obtain⟨v,r,rfl,h1,h2⟩:=h
  cases d with
  |str z=>
   simp only[Rep] at h1;subst h1;have e:(Q6 l).map (z :: ·)=some zs:=e
   cases q:Q6 l with
   |none=>rw[q] at e;cases e
   |some ys=>rw[q] at e;cases e;rw[qao h2 q];rfl
  |_=>cases e
theorem qkY{r:Rv}{as:List Ar}{x:Rv}(h:ixM r as=.ok x):∃l zs s,r.plain?=some l/\as=[.val (.str s)]/\Q6 l=some zs/\s∈zs/\x=.val (.int (zs.idxOf s:Nat)):=by
 unfold ixM at h
 split at h
 ·rename_i l s e
  cases q:Q6 l with
  |none=>rw[q] at h;cases h
  |some zs=>
   rw[q] at h;dsimp only at h
   split at h
   ·rename_i hc;cases h;exact⟨l,zs,s,e,rfl,q,by simpa using hc,rfl⟩
   ·cases h
 ·cases h
theorem qkZ{r:Rv}(as:List Ar)(h:r.plain?=none):ixM r as=.no:=by unfold ixM;rw[h]
theorem qf1{pins:PP}{s:Shared}{σ:L2.St}{H G:Hp}{Q:VK}{ρ:Env}{y:Rv×Env}{o:Expr}{ap q:Pos}{es:List Expr}{a':E}{l':Es}(A:All κ K k X Γ m)(ho:JQ o=true)(hp:(ap.endLine == q.line)=true)(hl:es.length < 30)(h1:cE m Γ o=some a')(h2:cAs m Γ es=some l')
  (er:ER κ K Gv Hv G H ρ σ) (e1:iR Γ.k a' ρ=.ok y) (h:Wk (iAs Γ.k l' y.2) (λz=>Wk ((ixM y.1 z.1).th λr=>R.ok (r,z.2)) (λx=>∀v G' H',Po κ K Gv Hv σ G H ρ G' H' x.2->RvR κ K Hv H G' H' x.2 σ x.1 v->Q v H'))) (I:Inv X pins σ H s) :
  wpAny (model X.prog X.w) X.A (eval (.Call (.Attribute o "index" ap) es [] q) X.env) (EP X pins σ Q) X.xe s:=by
 cases e3:y.1.plain? with
 |none=>
  refine False.elim ?_
  cases e4:iAs Γ.k l' y.2 with
  |ok z=>rw[e4] at h;have h:Wk ((ixM y.1 z.1).th λr=>R.ok (r,z.2)) _:=h;rw[qkZ z.1 e3] at h;exact h
  |exc c l=>rw[e4] at h;exact h
  |no=>rw[e4] at h;exact h
 |some l0=>
  have hs:=qam h2
  cases es with
  |nil=>
   refine False.elim ?_;obtain rfl:=Zd h2;have h:Wk ((ixM y.1 []).th λr=>R.ok (r,y.2)) _:=h
   have:ixM y.1 []=.no:=by unfold ixM;rw[e3]
   rw[this] at h;exact h
  |cons e l=>
   have hs':=hs;simp only[List.any_cons,Bool.or_eq_false_iff] at hs
   have few:((backTo q (starEach (e::l) X.env)).all (λx=>!x.1)&&(backToKw q (keywordEach [] X.env)).all (λx=>x.1.isSome)&&decide ((e::l).length+([]:List Keyword).length+(if ([]:List Keyword).isEmpty then 0 else 1) < 30))=true:=by
    have e:=zr (pos:=q) (env:=X.env) hs';simp only[Bool.and_eq_true,decide_eq_true_eq];refine⟨⟨?_,rfl⟩,?_⟩
    ·rw[List.all_eq_true];intro y hy
     have:=List.any_eq_false.mp e y hy
     simpa using this
    ·show _+0+0 < 30;omega
   refine qh0 PySem.F.plainAttrs_list PySem.F.slot_list_index PySem.F.type_list_index qfL (A.r Gv Hv _ _ h1) (A.as Gv Hv _ _ h2) (qbe ho _ _) few hp (qe hs.1) (zr hs.2) pins s σ H Q I ?_;refine⟨ρ,G,er,?_⟩;rw[e1];intro v G1 H1 p1 r1;obtain⟨a,xs,rfl,h1,h2⟩:=r1.plain p1.er e3;refine⟨.inl ⟨rfl,xs,SqL.of h1⟩,y.2,G1,p1.er,Wk.mono h λz h vs G2 H2 p2 r2=>?_⟩
   cases e5:ixM y.1 z.1 with
   |ok x=>
    rw[e5] at h;obtain⟨l1,zs,s1,q1,q2,q3,q4,rfl⟩:=qkY e5;rw[e3] at q1;cases q1;rw[q2] at r2;obtain⟨u,r,rfl,ru,rfl⟩:=r2;have ru:u=.str s1:=by simpa only[ArR,Rep] using ru
    subst ru;refine⟨a,zs,s1,rfl,rfl,?_,q4,?_⟩
    ·rw[<-qao h2 q3];exact p2.hs _ _ h1
    ·exact h _ G2 H2 (p1.trans p2) (by simp only[RvR,Rep])
   |exc c l=>rw[e5] at h;exact False.elim h
   |no=>rw[e5] at h;exact False.elim h
theorem qk0{o:Expr}{x:Str}{es:List Expr}{b:Bool}{t:Expr×Expr×Int}(h:dgE Γ o x es b=some t):∃p q i j,o=.Call (.Name "dict" p) [t.1] [] q/\x = "get"/\es=[t.2.1,.Constant (.int t.2.2) i j]/\b=true/\glB Γ.sc "dict" = true/\qF t.1=false/\qF t.2.1=false:=by
 unfold dgE at h
 split at h
 ·split at h
  ·rename_i hc;cases h;obtain⟨rfl,h1,h2,h3,h4,h5⟩:=hc;exact⟨_,_,_,_,rfl,h1,rfl,h2,h3,h4,h5⟩
  ·cases h
 ·cases h
theorem qiu(gd:Gd κ K k X Γ)(A:All κ K k X Γ m)(o:Expr)(y:Str)(ap:Pos)(es:List Expr)(q:Pos){t:Expr×Expr×Int}(hd:dgE Γ o y es (ap.endLine == q.line)=some t)(h:o2 (cE m Γ t.1) (cE m Γ t.2.1) (.b2 (.get t.2.2))=some x):PE X (.Call (.Attribute o y ap) es [] q) (tR κ K Gv Hv (iR Γ.k x)):=by
  obtain⟨a,e,n⟩:=t;obtain⟨a',b',h1,h2,rfl⟩:=qj h;obtain⟨p',q',i,j,rfl,rfl,rfl,hl,hg,s1,s2⟩:=qk0 hd;have hu:X.A.units+1 < cLine:=by have:=gd.room.un;omega
  have st:starEach [e,Expr.Constant (.int n) i j] X.env=[(false,eval e X.env),(false,eval (Expr.Constant (.int n) i j) X.env)]:=by rw[qe s2];rfl
  refine PE.imp (qfG hu (jf (qcP gd.calm) (gd.glo _ hg) (gd.blt _ (2:)) PyProof.Rows.boot_dict (qh (A.r Gv Hv _ _ h1) qB (qe s1)) (2:) (2:) (qe s1) rfl) (A.r Gv Hv _ _ h2) (qbY (κ:=κ) (K:=K) (Gv:=Gv) (Hv:=Hv) (Γ:=Γ) (.int n) i j rfl) ⟨rfl,?_,hl,?_⟩) λσ H Q hq1=>?_
  ·rw[st];rfl
  ·rw[st];rfl
  obtain⟨ρ,G,er,h⟩:=hq1;refine⟨ρ,G,er,Wk.mono (Wk.th (x:=iR Γ.k a' ρ) h) λy h v G1 H1 p1 r1=>?_⟩;have h:=Wk.th (x:=iR Γ.k b' y.2) h
  cases e2:iR Γ.k b' y.2 with
  |exc c l=>rw[e2] at h;exact h.elim
  |no=>rw[e2] at h;exact h.elim
  |ok z=>
  rw[e2] at h;have h:=Wk.th (x:=qcR n y.1 z.1) h
  cases e3:qcR n y.1 z.1 with
  |exc c l=>rw[e3] at h;exact h.elim
  |no=>rw[e3] at h;exact h.elim
  |ok r=>
  rw[e3] at h;obtain⟨l,k',kvs,z1,z2,z3,z4,rfl⟩:=qfS e3;obtain⟨b,xs,rfl,q1,q2⟩:=r1.list p1.er z1;refine⟨b,xs,kvs,rfl,by rw[gd.hK];exact q1,Paired.mapP (qbX q2 z3) λ_ _ ⟨c,w1,w2⟩=>⟨c,w1,p1.er.sub _ _ w2⟩,z4,λd hd'=>?_⟩;have p2:=Po.room p1.er (qt.upd (o:=HO.dK (kvs.map kvV)) hd');refine⟨d,rfl,.inl ⟨_,.inl qg⟩,y.2,G1,p2.er,?_⟩;rw[e2];intro u G3 H3 p3 r3;refine⟨z.2,G3,p3.er,λw G4 H4 p4 r4=>?_⟩;have hw:w=.int n:=by simpa only[RvR,Rep] using r4
  have hu':u=.str k':=r3.str z2;subst hw hu';refine⟨_,qki.k (k:=.inr k') (p4.hs _ _ (p3.hs _ _ qg)),?_⟩;rw[qd7];refine h _ G4 H4 (p1.trans (p2.trans (p3.trans p4))) ?_
  cases qid kvs k'<;>simp only[RvR,Rep,Option.map,Option.getD]
theorem qiv(gd:Gd κ K k X Γ)(A:All κ K k X Γ m)(o:Expr)(y:Str)(ap:Pos)(es:List Expr)(q:Pos)(h:cE (m+1) Γ (.Call (.Attribute o y ap) es [] q)=some x):PE X (.Call (.Attribute o y ap) es [] q) (tR κ K Gv Hv (iR Γ.k x)):=by
 have h:(if (JQ o&&(ap.endLine == q.line)&&decide (es.length < 30))=true then _ else match dgE Γ o y es (ap.endLine == q.line) with |some t=>_ |none=>none)=_:=h
 by_cases hc:(JQ o&&(ap.endLine == q.line)&&decide (es.length < 30))=true
 case neg=>
  rw[if_neg hc] at h
  cases hd:dgE Γ o y es (ap.endLine == q.line) with
  |none=>rw[hd] at h;cases h
  |some t=>rw[hd] at h;exact qiu gd A o y ap es q hd h
 rw[if_pos hc] at h;obtain⟨a',l',h1,h2,rfl⟩:=qj h;rintro pins s σ H Q I ⟨ρ,G,er,h⟩;have h:=Wk.th (x:=iR Γ.k a' ρ) h;simp only[Bool.and_eq_true,decide_eq_true_eq] at hc;obtain⟨⟨ho,hp⟩,hl⟩:=hc
 cases e1:iR Γ.k a' ρ with
 |exc c l=>rw[e1] at h;exact h.elim
 |no=>rw[e1] at h;exact h.elim
 |ok w=>
  rw[e1] at h
  have h:Wk (match mtD Γ.cs w.1 y with
   |some f=>(iAs Γ.k l' w.2).th λz=>(Γ.cl f (toAr w.1::z.1)).th λr=>R.ok (r,z.2)
   |none=>if y = "index" then (iAs Γ.k l' w.2).th λz=>(ixM w.1 z.1).th λr=>R.ok (r,z.2) else R.no) _:=h
  cases e2:mtD Γ.cs w.1 y with
  |none=>rw[e2] at h;obtain⟨hx,h⟩:=Wk.iff h;subst hx;exact qf1 A ho hp hl h1 h2 er e1 (Wk.th h) I
  |some f=>
  rw[e2] at h;obtain⟨c,ns,ds,e3,e4,e5⟩:=qkW e2;obtain⟨C,fa,fd,ps,hC,M,F,B⟩:=gd.mts c y f e5;have h:=Wk.th (x:=iAs Γ.k l' w.2) h;have hs:=qam h2;have hs0:=hs
  have all:qhR C y (spF κ K Γ.cl f) [] E0 (tR κ K Gv Hv (iR Γ.k a')) (tAs κ K Gv Hv (iAs Γ.k l')) σ H Q:=by
   refine⟨ρ,G,er,?_⟩;rw[e1];intro v G1 H1 p1 r1;have r1':=r1;rw[e3] at r1';simp only[RvR,Rep] at r1';obtain⟨p',dx,C',xs,hc',rfl,h4,hl,h5⟩:=r1';rw[hC] at hc';cases hc';refine⟨p',dx,_,rfl,p1.er.sub _ _ h4,qb1 e4,w.2,G1,p1.er,Wk.mono h λz h vs G2 H2 p2 r2=>?_⟩;show spF κ K Γ.cl f (V.ref p'::(vs++[])) H2 Q E0;rw[List.append_nil];refine⟨G2,toAr w.1::z.1,p2.er.sub,⟨_,_,rfl,?_,r2⟩,Wk.mono (Wk.th h) λr h v G3 H3 hs gs sub new rr=>?_⟩
   ·rw[e3] at r1 ⊢;exact Rep.same p2.gs r1
   ·obtain⟨z1,z2⟩:=ReR.rv (p1.trans p2) hs gs sub new rr;exact h v G3 H3 z1 z2
  cases es with
  |nil=>obtain rfl:=Zd h2;refine qfv (A.r Gv Hv _ _ h1) (gd.cls c C hC) M F gd.room B .nil j9 (ht:=qan ho hs0 hl hp) pins s σ H Q I ?_;obtain⟨ρ',G',er',z⟩:=all;refine⟨ρ',G',er',Wk.mono z λx z v G1 H1 p1 r1=>?_⟩;obtain⟨a,dx,fs,z1,z2,z3,ρ2,G2,er2,z⟩:=z v G1 H1 p1 r1;exact⟨a,dx,fs,z1,z2,z3,z [] G2 H1 (Po.refl er2) rfl⟩
  |cons e l=>simp only[List.any_cons,Bool.or_eq_false_iff] at hs;exact qhT (A.r Gv Hv _ _ h1) (gd.cls c C hC) M F gd.room B .nil j9 (A.as Gv Hv _ _ h2) (qe hs.1) (zr hs.2) (ht:=qan ho hs0 hl hp) pins s σ H Q I all
theorem qiw(gd:Gd κ K k X Γ)(A:All κ K k X Γ m)(f:Str)(es:List Expr)(p q:Pos)(hok:jM f=true)(hgl:glB Γ.sc f=true)(ht:Γ.cs.tab.contains f=true)(h:(cAs m Γ es).map (.new f)=some x):PE X (.Call (.Name f p) es [] q) (tR κ K Gv Hv (iR Γ.k x)):=by
 obtain⟨l',h1,rfl⟩:=qm h;have hs:=qam h1;rcases gd.mks f ht with hno | ⟨C,fa,fd,ps,sp,M,F,hm,hb,hk,hsp⟩
 ·rintro pins s σ H Q I ⟨ρ,G,er,h⟩;have h:=Wk.th (x:=iAs Γ.k l' ρ) h
  cases e1:iAs Γ.k l' ρ with
  |ok x=>rw[e1] at h;have h:Wk ((Γ.nw f x.1).th _) _:=h;rw[hno] at h;exact h.elim
  |exc c l=>rw[e1] at h;exact h.elim
  |no=>rw[e1] at h;exact h.elim
 obtain⟨n1,n2,n3⟩:=jh hok
 have rm:Room (k - 1+1) X.A:=by rw[show k - 1+1=k by omega];exact gd.room
 have key:∀σ H Q,tR κ K Gv Hv (iR Γ.k (.new f l')) σ H Q->qhS C sp [] E0 (tAs κ K Gv Hv (iAs Γ.k l')) σ H Q:=λσ H Q ⟨ρ,G,er,h⟩=>by refine⟨ρ,G,er,Wk.mono (Wk.th (x:=iAs Γ.k l' ρ) h) λx h vs G1 H1 p1 r1=>?_⟩;show∀x dx,H1 x=none->H1 dx=none->dx≠x->sp (.ref x::(vs++[])) _ _ E0;rw[List.append_nil];refine hsp vs H1 Q ⟨G1,x.1,p1.er.sub,r1,Wk.mono (Wk.th h) λr h v G2 H2 hs gs sub new rr=>?_⟩;obtain⟨z1,z2⟩:=ReR.rv p1 hs gs sub new rr;exact h v G2 H2 z1 z2
 cases es with
 |nil=>obtain rfl:=Zd h1;refine PE.imp (qfw M F rm (gd.glo f hgl) hm hb .nil j9 n1) λσ H Q h=>?_;obtain⟨ρ,G,er,h⟩:=key σ H Q h;exact h [] G H (Po.refl er) rfl
 |cons e l=>simp only[List.any_cons,Bool.or_eq_false_iff] at hs;exact PE.imp (qhU M F rm (gd.glo f hgl) hm hb .nil j9 (A.as Gv Hv _ _ h1) n1 (qe hs.1) (zr hs.2)) key
end
end DE
namespace DE
open PySem PySem.Spec PyProof.Rows L2
noncomputable def gT(κ:KC)(K:Frag)(t:Tg):TG:=λv σ H Q=>∃(Gv Hv:Hp) (ρ:Env) (G:Hp) (d:D),ER κ K Gv Hv G H ρ σ/\Rep κ G d v/\Wk (t.go d ρ) λρ'=>∀σ',ER κ K Gv Hv G H ρ' σ'->Q σ' H
noncomputable def gNs(κ:KC)(K:Frag)(l:List Nat):TGs:=λvs σ H Q=>∃(Gv Hv:Hp) (ρ:Env) (G:Hp) (ds:List D),ER κ K Gv Hv G H ρ σ/\qo κ G ds vs/\Wk (Q8 l ds ρ) λρ'=>∀σ',ER κ K Gv Hv G H ρ' σ'->Q σ' H
theorem PG.imp{X:Cx}{tg:Expr}{t t':TG}(h:PG X tg t')(i:∀v σ H Q,t v σ H Q->t' v σ H Q):PG X tg t:=λpins s σ H v u Q I r hw=>h pins s σ H v u Q I r (i v σ H Q hw)
theorem PGs.imp{X:Cx}{tg:List Expr}{t t':TGs}(h:PGs X tg t')(i:∀v σ H Q,t v σ H Q->t' v σ H Q):PGs X tg t:=λpins s σ H v u Q I r hw=>h pins s σ H v u Q I r (i v σ H Q hw)
section
variable{κ:KC}{K:Frag}{Gv Hv:Hp}{k m:Nat}{X:Cx}{Γ:Ct}{x:E}
theorem qg7(gd:Gd κ K k X Γ){y:Str}{i:Nat}(h:qif Γ y=some i):L2.Loc X.env.scope y/\(X.fn y=true\/X.env.scope.names.lookup y=some .local)/\X.N.Nodup/\X.N[i]?=some y:=by unfold qif at h;obtain⟨hc,h⟩:=qk h;rw[Bool.and_eq_true] at hc;obtain⟨l1,l2⟩:=gd.loc y hc.1;exact⟨l1,l2,by rw[gd.hN];exact gd.nd,by rw[gd.hN];exact Q9 h⟩
theorem qk1(gd:Gd κ K k X Γ){y:Str}{i:Nat}(h:qif Γ y=some i)(pos:Pos):PG X (.Name y pos) (gT κ K (.one i)):=by obtain⟨l1,l2,l3,l4⟩:=qg7 gd h;refine PG.imp (qhI (i:=i) l3 l4 l1 l2) λv σ H Q hq1=>?_;obtain⟨Gv,Hv,ρ,G,d,er,r,h⟩:=hq1;exact h _ (er.setVal r)
theorem qb2{e:Expr}{es:List Expr}{j:Nat}{p:Pos}{xs:List Str}(h:zA (.Tuple (e::es) j p)=some xs):∃x pos r,e=.Name x pos/\xs=x::r/\zA (.Tuple es j p)=some r:=by
 have q0:zA (.Tuple es j p)=(es.foldr (λe r=>match e,r with |.Name x _,some l=>some (x::l) |_,_=>none) (some []):Option (List Str)):=rfl
 cases e with
 |Name x pos=>
  cases q:(es.foldr (λe r=>match e,r with |.Name x _,some l=>some (x::l) |_,_=>none) (some []):Option (List Str)) with
  |none=>have h':(match (Expr.Name x pos:Expr),(es.foldr (λe r=>match e,r with |.Name x _,some l=>some (x::l) |_,_=>none) (some []):Option (List Str)) with |.Name x _,some l=>some (x::l) |_,_=>none)=some xs:=h;rw[q] at h';cases h'
  |some l=>have h':(match (Expr.Name x pos:Expr),(es.foldr (λe r=>match e,r with |.Name x _,some l=>some (x::l) |_,_=>none) (some []):Option (List Str)) with |.Name x _,some l=>some (x::l) |_,_=>none)=some xs:=h;rw[q] at h';cases h';exact⟨x,pos,l,rfl,rfl,q0.trans q⟩
 |_=>cases h
theorem qg8(gd:Gd κ K k X Γ){j:Nat}{p:Pos}:∀{es:List Expr} {xs:List Str} {l:List Nat},zA (.Tuple es j p)=some xs->qfO Γ xs=some l->PGs X es (gNs κ K l)
 | [],xs,l,h,h'=>by
  have e:xs=[]:=by unfold zA at h;cases h;rfl
  subst e;cases h';refine PGs.imp qhJ λvs σ H Q hq1=>?_;obtain⟨Gv,Hv,ρ,G,ds,er,r,h⟩:=hq1
  cases ds with
  |nil=>simp only[qo] at r;exact⟨r,h σ er⟩
  |cons d ds=>exact False.elim h
 | e::es,xs,l,h,h'=>by
  obtain⟨x,pos,r,rfl,rfl,h0⟩:=qb2 h;obtain⟨i,l,h1,h2,rfl⟩:=qj h';refine PGs.imp (qfp (qk1 gd h1 pos) (qg8 gd h0 h2)) λvs σ H Q hq1=>?_;obtain⟨Gv,Hv,ρ,G,ds,er,rr,h⟩:=hq1
  cases ds with
  |nil=>exact False.elim h
  |cons d ds=>simp only[qo] at rr;obtain⟨v,vr,rfl,r1,r2⟩:=rr;exact⟨v,vr,rfl,Gv,Hv,ρ,G,d,er,r1,λσ1 er1=>⟨Gv,Hv,_,G,ds,er1,r2,h⟩⟩
theorem qap{env:PySem.Env}{j:Nat}{p:Pos}:∀{es:List Expr} {xs:List Str} {l:List Nat},zA (.Tuple es j p)=some xs->qfO Γ xs=some l->(assignEach es env).length=l.length/\(assignEach es env).findIdx? (·.1)=none
 | [],xs,l,h,h'=>by unfold zA at h;cases h;cases h';exact⟨rfl,rfl⟩
 | e::es,xs,l,h,h'=>by obtain⟨x,pos,r,rfl,rfl,h0⟩:=qb2 h;obtain⟨i,l,h1,h2,rfl⟩:=qj h';obtain⟨h1,h2⟩:=qap (env:=env) h0 h2;have e:assignEach (.Name x pos::es) env=(false,assign (.Name x pos) env)::assignEach es env:=rfl;rw[e];refine⟨by simp[h1],?_⟩;rw[List.findIdx?_cons];simp[h2]
theorem qaq:∀{l:List Nat} {ds:List D} {ρ:Env} {F:Env->Prop},Wk (Q8 l ds ρ) F->ds.length=l.length
 |[],[],_,_,_=>rfl
 | [],_::_,_,_,h=>False.elim h
 | _::_,[],_,_,h=>False.elim h
 | i::l,d::ds,ρ,F,h=>congrArg (· + 1) (qaq (l:=l) (ds:=ds) (ρ:=ρ.set i (.val d)) h)
theorem qix(gd:Gd κ K k X Γ)(tg:Expr){t:Tg}(h:cTg Γ tg=some t):PG X tg (gT κ K t):=by
 cases tg with
 |Name x pos=>obtain⟨i,h1,rfl⟩:=qm h;exact qk1 gd h1 pos
 |Tuple es j p=>
  obtain⟨hs,h⟩:=qk h
  cases hx:zA (.Tuple es j p) with
  |none=>rw[hx] at h;cases h
  |some xs=>
   rw[hx] at h;obtain⟨l,h2,rfl⟩:=qm h;obtain⟨t1,t2⟩:=qap (env:=X.env) hx h2;refine PG.imp (qjO (n:=l.length) gd.calm (qg8 gd hx h2) t1 t2) λv σ H Q hq1=>?_;obtain⟨Gv,Hv,ρ,G,d,er,r,h⟩:=hq1
   cases d with
   |tup ds=>have h:Wk (Q8 l ds ρ) _:=h;simp only[Rep] at r;obtain⟨a,ys,rfl,r1,r2⟩:=r;exact⟨a,ys,rfl,SqT.of (er.sub _ _ r1),by rw[<-r2.len];exact qaq h,Gv,Hv,ρ,G,ds,er,r2,h⟩
   |_=>exact False.elim h
 |_=>cases h
theorem qg9{env:PySem.Env}:∀{names:List (Str×NameKind)} {x:Str},names.lookup x=some .globalImplicit->
  (names.map λ(n,k)=>if (k == NameKind.free&&env.scope.kind == .function&&env.kindOf n == some .cell) then (n,NameKind.cell) else (n,k)).lookup x=some .globalImplicit
 |[],_,h=>by simp at h
 | (n,k)::r,x,h=>by
  simp only[List.map_cons]
  by_cases hx:x=n
  ·subst hx;simp[List.lookup_cons] at h;subst h;rw[if_neg (by simp)];simp[List.lookup_cons]
  ·have hb:(x == n)=false:=by simpa using hx
   rw[List.lookup_cons,hb] at h;have ih:=qg9 (env:=env) h
   by_cases hc:(k == NameKind.free&&env.scope.kind == .function&&env.kindOf n == some .cell)=true
   ·rw[if_pos hc];simp only[List.lookup_cons,hb];exact ih
   ·rw[if_neg hc];simp only[List.lookup_cons,hb];exact ih
theorem qar(gd:Gd κ K k X Γ){own:List Str}{fr:List Nat}{sc:Scope}(h:Yc Γ.sc Γ.N fr sc=true):BlkScope X own fr sc:=by
 unfold Yc at h;simp only[Bool.and_eq_true,List.all_eq_true] at h;obtain⟨⟨hk,hn⟩,hf⟩:=h;refine⟨by simpa using hk,λx hx=>by simpa using (hn x hx).1.1,λx hx e=>?_,λx hx e=>?_,λi hi=>?_⟩
 ·have:=(hn x hx).1.2
  simpa [e] using this
 ·have:=(hn x hx).2
  exact gd.cf x.1 (by simpa [e] using this)
 ·rw[gd.hN]
  simpa using hf i hi
theorem Qu(gd:Gd κ K k X Γ){own:List Str}{fr:List Nat}{sc:Scope}(B:BlkScope X own fr sc)(hnd:(own++fr.map λi=>Γ.N.getD i "").Nodup)(cl:List (Str×Addr))(C:Addr)(fp:List Addr)(s2:Shared)(H2:Hp) :
  Gd κ K k (blk X (JP X own fr) sc cl C fp s2 H2) { Γ with N:=own++fr.map λi=>Γ.N.getD i "",sc:=sc } where
 hN:=by show JP X own fr=_;unfold JP;rw[gd.hN]
 vis:=λx h=>by
  have h:=qg1 h;rcases h with h | h | h
  ·exact .inl (lookup_relabel_local h)
  ·exact absurd rfl (B.nocell _ (PySem.mem_of_lookup h))
  ·rcases Yb (env:=X.env) h with z | z
   ·exact .inr (.inl z)
   ·exact .inr (.inr z)
 loc:=λx h=>by
  have h:=qd4 h;rcases h with h | h
  ·have z:(relabel sc X.env).names.lookup x=some .local:=lookup_relabel_local h;exact⟨.inl z,.inr z⟩
  ·exact absurd rfl (B.nocell _ (PySem.mem_of_lookup h))
 glo:=λx h=>by unfold glB at h;exact qg9 (env:=X.env) (by simpa using h)
 cf:=λx h=>by
  rcases h with h | h
  ·exact absurd rfl (B.nocell _ (PySem.mem_of_lookup h))
  ·exact Yb (env:=X.env) h
 nd:=hnd
 calm:=gd.calm
 hK:=gd.hK
 room:=gd.room
 fns:=gd.fns
 blt:=gd.blt
 gl:=gd.gl
 cls:=gd.cls
 flds:=gd.flds
 mts:=gd.mts
 mks:=gd.mks
 subs:=gd.subs
theorem qk2{G H:Hp}{ρ:Env}{σ:L2.St}(er:ER κ K Gv Hv G H ρ σ)(own:List Str)(fr:List Nat):ER κ K G H G H (Qt own.length fr ρ) (Qc own fr σ):=by
 refine⟨by simp[Qt,Qc],er.sub,λ_ _ e=>e,λ_ _ e=>e,λa o e=>.inl ⟨o,e⟩,λi s e=>?_,λi j a l n e1=>?_⟩
 ·unfold Qt at e;unfold Qc
  by_cases hi:i < own.length
  ·rw[List.getElem?_append_left (by simpa using hi)] at e;obtain rfl:=List.eq_of_mem_replicate (List.mem_of_getElem? e);trivial
  ·rw[List.getElem?_append_right (by simpa using hi)] at e ⊢;simp only[List.length_map,List.length_replicate] at e ⊢;rw[List.getElem?_map] at e ⊢;obtain⟨j,e1,rfl⟩:=Option.map_eq_some_iff.mp e;rw[e1];show SlR κ K G H H (qfN (ρ.getD j .no)) (some (σ[j]?).join)
   cases q:ρ[j]? with
   |none=>rw[List.getD_eq_getElem?_getD,q];trivial
   |some s=>
    rw[List.getD_eq_getElem?_getD,q];have w:=er.sl j s q
    cases s with
    |no=>trivial
    |val d=>obtain⟨v,z,r⟩:=w;exact⟨v,by rw[z];rfl,r⟩
    |own l=>obtain⟨a,xs,z,r1,r2,r3,r4⟩:=w;exact⟨a,xs,by rw[z];rfl,r1,r4⟩
    |bor l=>obtain⟨a,xs,z,r1,r4⟩:=w;exact⟨a,xs,by rw[z];rfl,er.base _ _ r1,r4⟩
    |scr l=>obtain⟨a,xs,z,r1,r4⟩:=w;exact⟨a,xs,by rw[z];rfl,er.base.seq r1,r4⟩
 ·exfalso;unfold Qt at e1
  by_cases hi:i < own.length
  ·rw[List.getElem?_append_left (by simpa using hi)] at e1
   cases List.eq_of_mem_replicate (List.mem_of_getElem? e1)
  ·rw[List.getElem?_append_right (by simpa using hi),List.getElem?_map] at e1;obtain⟨j,_,z⟩:=Option.map_eq_some_iff.mp e1
   cases q:ρ.getD j .no<;>rw[q] at z<;>cases z
theorem qbf{it:Expr}(h:qaj it=true)(env:PySem.Env):∀x,foldedSetIterable it env x=pure x:=by
 intro x
 cases it<;>first | rfl | (simp[qaj] at h)
theorem qk3(A:All κ K k X Γ m)(e:Expr){x:E}(hx:cX m Γ e=some x):PE X e (λσ H Q=>∃Gv Hv,tE κ K Gv Hv (zC x (iR Γ.k x)) σ H Q):=λpins s σ H Q I ⟨Gv,Hv,h⟩=>A.e Gv Hv e x hx pins s σ H Q I h
theorem qha(A:All κ K k X Γ m)(es:List Expr){x:F}(hx:cF m Γ es=some x):PIf X es (λσ H Q=>∃Gv Hv,tT κ K Gv Hv (iF Γ.k x) σ H Q):=λpins s σ H Q I ⟨Gv,Hv,h⟩=>A.f Gv Hv es x hx pins s σ H Q I h
structure CompS(Γ:Ct)(m:Nat)(elt tg it:Expr)(ifs:List Expr)(sc:Scope)(own:List Str)(el:E)(src:I)(t:Tg)(c:F):Prop where
 chk:Yc Γ.sc Γ.N (Qs Γ.N sc) sc=true
 nd:(own++(Qs Γ.N sc).map λi=>Γ.N.getD i "").Nodup
 fold:qaj it=true
 src:cC Γ it (cI m Γ (qfM tg) it)=some src
 tg:cTg { Γ with N:=own++(Qs Γ.N sc).map λi=>Γ.N.getD i "",sc:=sc } tg=some t
 c:cF m { Γ with N:=own++(Qs Γ.N sc).map λi=>Γ.N.getD i "",sc:=sc } ifs=some c
 el:cX m { Γ with N:=own++(Qs Γ.N sc).map λi=>Γ.N.getD i "",sc:=sc } elt=some el
theorem qk4{elt:Expr}{gs:List Comprehension}{sc:Scope}{pos:Pos}(h:cE (m+1) Γ (.ListComp elt gs sc pos)=some x):∃tg it ifs own el src t c,gs=[⟨tg,it,ifs,0⟩]/\CompS Γ m elt tg it ifs sc own el src t c/\x=.comp el src t c own.length (Qs Γ.N sc):=by
 match gs,h with
 |[⟨tg,it,ifs,as⟩],h=>
  obtain⟨ha,h⟩:=qk h;obtain rfl:as=0:=of_decide_eq_true ha;dsimp only at h
  cases hx:zA tg with
  |none=>rw[hx] at h;cases h
  |some own=>rw[hx] at h;obtain⟨hc,h⟩:=qk h;obtain⟨p1,p2,h1,h2,rfl⟩:=qj h;obtain⟨src,t,h3,h4,rfl⟩:=qj h1;obtain⟨c,el,h5,h6,rfl⟩:=qj h2;simp only[Bool.and_eq_true] at hc;exact⟨tg,it,ifs,own,el,src,t,c,rfl,⟨hc.1.1,of_decide_eq_true hc.1.2,hc.2,h3,h4,h5,h6⟩,rfl⟩
 |[],h=>cases h
 | _::_::_,h=>cases h
noncomputable def tC(κ:KC)(K:Frag)(Gv Hv:Hp)(f:Env->R (List D×Env)):TI:=λσ H Q=>∃ρ G,ER κ K Gv Hv G H ρ σ/\Wk (f ρ) λx=>∀J G' H',Po κ K Gv Hv σ G H ρ G' H' x.2->ItR κ H' G' J x.1->Q J H'
theorem qnH(gd:Gd κ K k X Γ)(A:All κ K k X Γ m)(tg it:Expr){src:I}(hs:cC Γ it (cI m Γ (qfM tg) it)=some src):PI X tg it (tC κ K Gv Hv (iI Γ.k src)):=by rintro pins s σ H Q I ⟨ρ,G,er,h⟩;have hs:cI m Γ (qfM tg) it=some src:=hs;exact A.i Gv Hv tg it src hs pins s σ H Q I ⟨ρ,G,er,Wk.mono h λx h J G' H' p it1=>h J G' H' p λi G2 H2 g hh sub=>it1 i G2 H2 g (λb o e=>hh b o (p.er.base b o e)) sub⟩
theorem qb3{elt tg it:Expr}{ifs:List Expr}{sc:Scope}{own:List Str}{el:E}{src:I}{t:Tg}{c:F}(S:CompS Γ m elt tg it ifs sc own el src t c):∀σ H Q,tR κ K Gv Hv (iR Γ.k (.comp el src t c own.length (Qs Γ.N sc))) σ H Q->
  qh6 own (Qs Γ.N sc) (tC κ K Gv Hv (iI Γ.k src)) (gT κ K t) (λσ H Q=>∃Gv Hv,tT κ K Gv Hv (iF Γ.k c) σ H Q) (λσ H Q=>∃Gv Hv,tE κ K Gv Hv (zC el (iR Γ.k el)) σ H Q) σ H Q:=λσ H Q ⟨ρ,G,er,h⟩=>by
 refine⟨ρ,G,er,Wk.mono (Wk.th (x:=iI Γ.k src ρ) h) λx h J G1 H1 p1 it1=>?_⟩;obtain⟨hz,h⟩:=Wk.iff h;have h:=Wk.th h
 refine⟨λi mm ys σ' H'=>mm=x.1.length - i/\i<=x.1.length/\∃ρb Gb ds,ER κ K G1 H1 Gb H' ρb σ'/\qo κ Gb ds ys/\ds.length<=i/\
   Wk (qd1 t.go (λρ1=>iF Γ.k c ρ1) (zC el (iR Γ.k el)) (x.1.drop i) ρb ds)
    (λl=>∀v G' H',Po κ K Gv Hv σ G H ρ G' H' x.2->RvR κ K Hv H G' H' x.2 σ (.tmp l) v->Q v H'),
  ⟨x.1.length,by simp,Nat.zero_le _,Qt own.length (Qs Γ.N sc) x.2,G1,[],qk2 p1.er own (Qs Γ.N sc),.nil,Nat.le_refl _,?_⟩,?_⟩
 ·rw[List.drop_zero];exact h
 rintro i mm ys σ' H' ⟨rfl,hi,ρb,Gb,ds,erb,rds,hdl,hw⟩;have it2:=it1 i Gb H' erb.g0 erb.base erb.sub
 by_cases hlt:i < x.1.length
 ·obtain⟨go,yl⟩:=it2.1 x.1[i] (List.getElem?_eq_getElem hlt);have hyl:=rds.len;refine .inr ⟨go,by omega,_,λys' σ2 H2 w=>⟨x.1.length - (i+1),by omega,w⟩,λv H2 hy=>?_⟩;obtain⟨G',hs,gs,sub,new,rep⟩:=yl v H2 hy;have p2:=Po.more erb hs gs sub new;rw[List.drop_eq_getElem_cons hlt] at hw;refine⟨G1,H1,ρb,G',x.1[i],p2.er,rep,Wk.mono (Wk.th hw) λρ1 hw σ1 er1=>⟨G1,H1,ρ1,G',er1,Wk.mono (Wk.th hw) λbt hw G2 H3 p3=>?_⟩⟩;obtain⟨b,ρ2⟩:=bt
  cases b with
  |true=>rw[if_pos rfl];refine⟨G1,H1,ρ2,G2,p3.er,Wk.mono (Wk.th hw) λy hw w G3 H4 p4 rep4=>⟨rfl,hlt,y.2,G3,ds++[y.1],p4.er,?_,by simp;omega,(Wk.iff hw).2⟩⟩;exact(((rds.same gs).same p3.gs).same p4.gs).snoc rep4
  |false=>rw[if_neg (λz=>by cases z)];exact⟨rfl,hlt,ρ2,G2,ds,p3.er,(rds.same gs).same p3.gs,by omega,hw⟩
 ·have e:i=x.1.length:=by omega
  subst e;refine .inl ⟨it2.2 rfl,λp hp=>?_⟩;rw[List.drop_length] at hw;have p2:=p1.trans (Po.more p1.er erb.base erb.g0 erb.sub erb.fresh);obtain⟨z1,z2⟩:=p2.er.newList hp rds;exact hw _ _ _ (p2.trans z1) (z2.back p2.hs)
theorem qiy(gd:Gd κ K k X Γ)(A:All κ K k X Γ m)(ih:∀X' Γ',Gd κ K k X' Γ'->All κ K k X' Γ' m)(elt:Expr)(gs:List Comprehension)(sc:Scope)(pos:Pos)(h:cE (m+1) Γ (.ListComp elt gs sc pos)=some x):PE X (.ListComp elt gs sc pos) (tR κ K Gv Hv (iR Γ.k x)):=by
 obtain⟨tg,it,ifs,own,el,src,t,c,rfl,S,rfl⟩:=qk4 h;have B:BlkScope X own (Qs Γ.N sc) sc:=qar gd S.chk
 exact PE.imp (qh8 own (Qs Γ.N sc) gd.calm B (qnH (Gv:=Gv) (Hv:=Hv) gd A tg it S.src) (λcl C fp s2 H2=>qix (Qu gd B S.nd cl C fp s2 H2) tg S.tg) (λcl C fp s2 H2=>qha (ih _ _ (Qu gd B S.nd cl C fp s2 H2)) ifs S.c)
  (λcl C fp s2 H2=>qk3 (ih _ _ (Qu gd B S.nd cl C fp s2 H2)) elt S.el) (qbf S.fold X.env)) (qb3 S)
theorem qiz(gd:Gd κ K k X Γ)(A:All κ K k X Γ m)(f:Str)(es:List Expr)(p q:Pos)(h:cE (m+1) Γ (.Call (.Name f p) es [] q)=some x):PE X (.Call (.Name f p) es [] q) (tR κ K Gv Hv (iR Γ.k x)):=by
 obtain⟨hn,h⟩:=qk h;simp only[Bool.and_eq_true] at hn;obtain⟨⟨h1,h2⟩,h3⟩:=hn
 by_cases hi:f = "isinstance"
 ·subst hi;rw[if_pos rfl] at h
  match es,h with
  |[a,b],h=>
   cases b with
   |Name t tp=>exact qkV gd A a t p tp q h2 h
   |_=>cases h
  |[],h=>cases h
  |[_],h=>cases h
  | _::_::_::_,h=>cases h
 rw[if_neg hi] at h
 by_cases ht:Γ.tab.contains f=true
 ·rw[if_pos ht] at h
  by_cases hf:(f = "_law_let"/\es.length=2)\/f = "_law_day"
  ·rw[if_pos hf] at h;exact qfY gd A f es p q h1 h2 ht h
  ·rw[if_neg hf] at h;exact qfX gd A f es p q h1 h2 ht h
 rw[if_neg ht] at h
 by_cases hk:Γ.cs.tab.contains f=true
 ·rw[if_pos hk] at h;exact qiw gd A f es p q h1 h2 hk h
 rw[if_neg hk] at h
 match es,h with
 |[a],h=>exact qfZ gd A f a p q h2 h
 |[a,b],h=>exact qf0 gd A f a b p q h2 h
 |[],h=>cases h
 | _::_::_::_,h=>cases h
theorem qoJ(gd:Gd κ K k X Γ)(A:All κ K k X Γ m)(ih:∀X' Γ',Gd κ K k X' Γ'->All κ K k X' Γ' m)(e:Expr)(x:E)(h:cE (m+1) Γ e=some x):PE X e (tR κ K Gv Hv (iR Γ.k x)):=by
 cases e with
 |Name x pos=>exact qfP gd h pos
 |Constant c j pos=>exact qbY c j pos h
 |BinOp a op b pos=>exact qfU A a b op pos h
 |UnaryOp op a pos=>
  cases op with
  |USub=>exact qkG A a pos h
  |Not=>exact qin A a pos h
  |_=>cases h
 |BoolOp op vs pos=>
  match vs,h with
  |[],h=>cases op<;>cases h
  |[a],h=>cases op<;>(obtain⟨a',h1,rfl⟩:=qm h;exact PE.imp (qjJ (A.r Gv Hv _ _ h1)) λσ H Q h=>h)
  | a::b::l,h=>
   cases op with
   |And=>exact qkH A a b l pos h
   |Or=>cases h
 |Compare a ops bs pos=>
  match ops,bs,h with
  |[op],[b],h=>exact qio gd A a b op pos h
  |[],_,h=>cases h
  |[_],[],h=>cases h
  | [_],_::_::_,h=>cases h
  | _::_::_,_,h=>cases h
 |IfExp c a b pos=>exact qkI A c a b pos h
 |Subscript a b pos=>exact qkK gd A a b pos h
 |List es pos=>exact qkL A es pos h
 |Tuple es j pos=>exact qkM A es j pos h
 |Call fn es kws q=>
  cases fn with
  |Name f p=>
   cases kws with
   |nil=>exact qiz gd A f es p q h
   |cons kw kws=>cases h
  |Attribute o x ap=>
   cases kws with
   |nil=>exact qiv gd A o x ap es q h
   |cons kw kws=>cases h
  |_=>cases h
 |Attribute o x pos=>exact qkX gd A o x pos h
 |ListComp elt gens sc pos=>exact qiy gd A ih elt gens sc pos h
 |_=>cases h
theorem all:∀(m:Nat) (X:Cx) (Γ:Ct),Gd κ K k X Γ->All κ K k X Γ m
 |0,_,_,_=>qoC
 | m+1,X,Γ,gd=>
  have A:=all m X Γ gd
  ⟨λGv Hv=>qoJ gd A (all m),λGv Hv=>qoD gd A,λGv Hv=>qoG gd A,λGv Hv=>qnb A,λGv Hv=>qnc A,λGv Hv=>qoE A,λGv Hv=>qoF A,λGv Hv=>qoH gd A,λGv Hv=>qoI gd A⟩
end
end DE
namespace DE
open PySem PySem.Spec PyProof.Rows L2
section
variable(κ:KC)(K:Frag)(Gv Hv:Hp)
noncomputable def FlP(G:Hp)(D:Ends):Fl->Prop
 | .next ρ'=>∀σ' G' H',ER κ K Gv Hv G' H' ρ' σ'->qt G G'->D.nx σ' H'
 |.ret r=>∀v G' H',qt Hv H'->qt Gv G'->qt G' H'->(∀a o,G' a=some o->(∃o',Gv a=some o')\/Hv a=none)->ReR κ G' H' Hv r v->D.rt v H'
def tS(f:Env->R Fl):TS:=λD σ H=>∃ρ G,ER κ K Gv Hv G H ρ σ/\Wk (f ρ) (FlP κ K Gv Hv G D)
end
structure Gs(κ:KC)(K:Frag)(k:Nat)(X:Cx)(Γ:Ct):Prop extends Gd κ K k X Γ where
 own:PassesOwn (model X.prog X.w) X.A X.env X.xe
 sceq:X.env.scope=Γ.sc
 fnk:Γ.sc.kind=.function
theorem PS.imp{X:Cx}{st:Stmt}{t t':TS}(h:PS X st t')(i:∀D σ H,t D σ H->t' D σ H):PS X st t:=λpins s σ H D I hw=>h pins s σ H D I (i D σ H hw)
theorem PSs.imp{X:Cx}{st:List Stmt}{t t':TS}(h:PSs X st t')(i:∀D σ H,t D σ H->t' D σ H):PSs X st t:=λpins s σ H D I hw=>h pins s σ H D I (i D σ H hw)
theorem qee{e:Expr}(h:JA e=true)(t:Option Expr)(l:Nat)(env:PySem.Env):swapsWith e t l env=pure false:=by cases e<;>first | rfl | (simp[JA] at h)
section
variable{κ:KC}{K:Frag}{Gv Hv:Hp}{k m w:Nat}{X:Cx}{Γ:Ct}
theorem jB{ρ:Env}{i:Nat}{l:List D}(h:zv ρ i=some l):ρ[i]?=some (.own l):=by
 unfold zv at h
 split at h
 ·rename_i e;cases h;exact e
 ·cases h
theorem ER.ownSlot{G H:Hp}{ρ:Env}{σ:L2.St}{i:Nat}{l:List D}(er:ER κ K Gv Hv G H ρ σ)(e:ρ[i]?=some (.own l)):∃a xs,σ[i]?=some (some (.ref a))/\H a=some (.lst xs)/\qo κ G l xs:=by obtain⟨a,xs,z,h1,h2,h3,h4⟩:=er.sl i _ e;exact⟨a,xs,z,h1,h4⟩
theorem qef(gd:Gd κ K k X Γ)(A:All κ K k X Γ m)(x:Str)(a:Expr)(xp ap cp p:Pos){i:Nat}{a':E}(hl:(ap.endLine == cp.line)=true)(s1:qF a=false)(hi:qfi Γ x=some i)(ha:cX m Γ a=some a') :
  PS X (.Expr (.Call (.Attribute (.Name x xp) "append" ap) [a] [] cp) p) (tS κ K Gv Hv (iS Γ.k w (.app i a'))):=by
 have few:((backTo cp (starEach [a] X.env)).all (λx=>!x.1)&&(backToKw cp (keywordEach [] X.env)).all (λx=>x.1.isSome)&&decide (([a]:List Expr).length+([]:List Keyword).length+(if ([]:List Keyword).isEmpty then 0 else 1) < 30))=true:=by rw[qe s1];rfl
 refine PS.imp (yJ (qh0 PySem.F.plainAttrs_list PySem.F.slot_list_append PySem.F.type_list_append qdG (qbS gd hi xp) (qh (A.e Gv Hv _ _ ha) qB (qe s1)) rfl few hl (qe s1) rfl) rfl) λD σ H hq1=>?_;obtain⟨ρ,G,er,h⟩:=hq1;have h:Wk (α:=Fl) (match zv ρ i with |none=>R.no |some _=>(zC a' (iR Γ.k a') ρ).th λy=>match zv y.2 i with |some l=>if l.length < sizeLine then .ok (.next (y.2.set i (.own (l++[y.1])))) else .no |none=>.no) _:=h
 cases e1:zv ρ i with
 |none=>rw[e1] at h;exact False.elim h
 |some l0=>
  rw[e1] at h;obtain⟨b,xs,z,h1,h2⟩:=er.ownSlot (jB e1);refine⟨_,z,.inl ⟨rfl,xs,SqL.of h1⟩,ρ,G,er,Wk.mono (Wk.th h) λy h v G1 H1 p1 r1=>?_⟩
  cases e2:zv y.2 i with
  |none=>rw[e2] at h;exact False.elim h
  |some l=>rw[e2] at h;obtain⟨hz,h⟩:=Wk.iff h;obtain⟨b',ys,z',h3,h4⟩:=p1.er.ownSlot (jB e2);rw[z] at z';cases z';refine⟨b,ys,v,rfl,rfl,h3,by rw[<-h4.len];exact hz,?_⟩;exact h σ G1 _ (p1.er.write (jB e2) z (h4.snoc r1)) p1.gs
theorem qeg(gd:Gd κ K k X Γ)(A:All κ K k X Γ m)(x:Str)(a:Expr)(xp ap cp p:Pos){i:Nat}{a':E}(hl:(ap.endLine == cp.line)=true)(s1:qF a=false)(hi:qfi Γ x=some i)(ha:cE m Γ a=some a') :
  PS X (.Expr (.Call (.Attribute (.Name x xp) "extend" ap) [a] [] cp) p) (tS κ K Gv Hv (iS Γ.k w (.ext i a'))):=by
 have few:((backTo cp (starEach [a] X.env)).all (λx=>!x.1)&&(backToKw cp (keywordEach [] X.env)).all (λx=>x.1.isSome)&&decide (([a]:List Expr).length+([]:List Keyword).length+(if ([]:List Keyword).isEmpty then 0 else 1) < 30))=true:=by rw[qe s1];rfl
 refine PS.imp (yJ (qh0 PySem.F.plainAttrs_list PySem.F.slot_list_extend PySem.F.type_list_extend qdH (qbS gd hi xp) (qh (A.r Gv Hv _ _ ha) qB (qe s1)) rfl few hl (qe s1) rfl) rfl) λD σ H hq1=>?_;obtain⟨ρ,G,er,h⟩:=hq1;have h:Wk (α:=Fl) (match zv ρ i with |none=>R.no |some _=>(iR Γ.k a' ρ).th λy=>match zv y.2 i,y.1.plain? with |some l,some n=>if l.length+n.length<=sizeLine then .ok (.next (y.2.set i (.own (l++n)))) else .no |_,_=>.no) _:=h
 cases e1:zv ρ i with
 |none=>rw[e1] at h;exact False.elim h
 |some l0=>
  rw[e1] at h;obtain⟨b,xs,z,h1,h2⟩:=er.ownSlot (jB e1);refine⟨_,z,.inl ⟨rfl,xs,SqL.of h1⟩,ρ,G,er,Wk.mono (Wk.th h) λy h v G1 H1 p1 r1=>?_⟩
  cases e2:zv y.2 i with
  |none=>rw[e2] at h;exact False.elim h
  |some l=>
   cases e3:y.1.plain? with
   |none=>rw[e2,e3] at h;exact False.elim h
   |some n=>rw[e2,e3] at h;obtain⟨hz,h⟩:=Wk.iff h;obtain⟨b',ys,z',h3,h4⟩:=p1.er.ownSlot (jB e2);obtain⟨c,zs,rfl,h5,h6⟩:=r1.plain p1.er e3;rw[z] at z';cases z';refine⟨b,c,ys,zs,rfl,rfl,h3,h5,by rw[<-h4.len,<-h6.len];exact hz,?_⟩;exact h σ G1 _ (p1.er.write (jB e2) z (h4.app h6)) p1.gs
theorem qk5(gd:Gd κ K k X Γ)(A:All κ K k X Γ m)(e:Expr)(p:Pos){z:E}(h:cV m Γ e=some z):PS X (.Return (some e) p) (tS κ K Gv Hv (iS Γ.k w (.ret z))):=by
 have gen:(cE m Γ e).bind qak=some z->PS X (.Return (some e) p) (tS κ K Gv Hv (iS Γ.k w (.ret z))):=λh=>by
  obtain⟨y,h1,h2⟩:=Option.bind_eq_some_iff.mp h;obtain⟨rfl,hv⟩:=jg h2;refine PS.imp (qdq (A.r Gv Hv _ _ h1)) λD σ H hq1=>?_;obtain⟨ρ,G,er,h⟩:=hq1;have h:=Wk.th (x:=qa1 y (iR Γ.k y) ρ) h;rw[qii hv] at h;refine⟨ρ,G,er,Wk.mono (Wk.th h) λx h v G1 H1 p1 r1=>?_⟩;obtain⟨rv,ρ1⟩:=x
  cases rv with
  |val d=>exact h v G1 H1 p1.er.base p1.er.g0 p1.er.sub p1.er.fresh r1
  |tmp l=>obtain⟨a,xs,rfl,h1,h2,h3,h4,h5,h6⟩:=r1;exact h _ G1 H1 p1.er.base p1.er.g0 p1.er.sub p1.er.fresh ⟨a,xs,rfl,h1,h3,h4,h6⟩
  |_=>exact False.elim h
 cases e with
 |Name x pos=>
  rcases Za gd h pos with ⟨i,rfl,P⟩ | ⟨d,v,rfl,e3,P⟩
  ·refine PS.imp (qdq P) λD σ H hq1=>?_;obtain⟨ρ,G,er,h⟩:=hq1;have h:=Wk.th (x:=slX ρ i) h;unfold slX at h
   cases q:ρ[i]? with
   |none=>rw[q] at h;exact False.elim h
   |some s=>
    rw[q] at h;have w:=er.sl i s q
    cases s with
    |val d=>obtain⟨v,z,r⟩:=w;exact⟨v,z,h v G H er.base er.g0 er.sub er.fresh r⟩
    |own l=>obtain⟨a,xs,z,r1,r2,r3,r4⟩:=w;exact⟨_,z,h _ G H er.base er.g0 er.sub er.fresh ⟨a,xs,rfl,r1,r2,r3,r4⟩⟩
    |_=>exact False.elim h
  ·exact PS.imp (qdq P) λD σ H ⟨ρ,G,er,h⟩=>h v G H er.base er.g0 er.sub er.fresh (e3 G)
 |_=>exact gen h
noncomputable def AsR(κ:KC)(K:Frag)(Hv G H:Hp)(ρ:Env)(σ:L2.St):Sl->V->Prop
 |.val d,v=>Rep κ G d v
 |.own l,v=>∃a xs,v=.ref a/\H a=some (.lst xs)/\Hv a=none/\G a=none/\¬ qcQ ρ σ a/\qo κ G l xs
 |_,_=>False
noncomputable def tA(κ:KC)(K:Frag)(Gv Hv:Hp)(f:Env->R (Sl×Env)):TE:=λσ H Q=>∃ρ G,ER κ K Gv Hv G H ρ σ/\Wk (f ρ) λs=>∀v G' H',Po κ K Gv Hv σ G H ρ G' H' s.2->AsR κ K Hv G' H' s.2 σ s.1 v->Q v H'
theorem qiA{G H:Hp}{ρ:Env}{σ:L2.St}{s:Sl}{v:V}{i:Nat}(er:ER κ K Gv Hv G H ρ σ)(h:AsR κ K Hv G H ρ σ s v):ER κ K Gv Hv G H (ρ.set i s) (σ.set i (some v)):=by
 cases s with
 |val d=>exact er.setVal h
 |own l=>obtain⟨a,xs,rfl,h1,h2,h3,h4,h5⟩:=h;exact er.setOwn h1 h2 h3 h4 h5
 |_=>exact False.elim h
theorem qnI{z:E}(hv:∀i,z≠.var i)(σ:L2.St)(H:Hp)(Q:VK)(h:tA κ K Gv Hv (J2 z (iR Γ.k z)) σ H Q):tR κ K Gv Hv (iR Γ.k z) σ H Q:=by
 obtain⟨ρ,G,er,h⟩:=h;rw[qij hv] at h;refine⟨ρ,G,er,Wk.mono (Wk.th h) λx h v G1 H1 p1 r1=>?_⟩;obtain⟨rv,ρ1⟩:=x
 cases rv with
 |val d=>exact h v G1 H1 p1 r1
 |tmp l=>obtain⟨a,xs,rfl,h1,h2,h3,h4,h5,h6⟩:=r1;exact h _ G1 H1 p1 ⟨a,xs,rfl,h1,h3,h4,h5,h6⟩
 |_=>exact False.elim h
theorem qnJ(gd:Gd κ K k X Γ)(A:All κ K k X Γ m)(e:Expr){z:E}(h:cV m Γ e=some z):PE X e (tA κ K Gv Hv (J2 z (iR Γ.k z))):=by
 have gen:(cE m Γ e).bind qak=some z->PE X e (tA κ K Gv Hv (J2 z (iR Γ.k z))):=λh=>by obtain⟨y,h1,h2⟩:=Option.bind_eq_some_iff.mp h;obtain⟨rfl,hv⟩:=jg h2;exact PE.imp (A.r Gv Hv _ _ h1) (qnI hv)
 cases e with
 |Name x pos=>
  have P:=qbT (Gv:=Gv) (Hv:=Hv) gd h pos;rcases Za gd h pos with ⟨i,rfl,_⟩ | ⟨d,v,rfl,_,_⟩
  ·refine PE.imp P λσ H Q hq1=>?_;obtain⟨ρ,G,er,h⟩:=hq1;exact⟨ρ,G,er,Wk.mono (Wk.th (x:=slE ρ i) h) λy h v G1 H1 p1 r1=>h v G1 H1 p1 r1⟩
  ·exact PE.imp P λσ H Q ⟨ρ,G,er,h⟩=>⟨ρ,G,er,h⟩
 |_=>exact gen h
theorem qk6(gs:Gs κ K k X Γ)(A:All κ K k X Γ m)(x:Str)(e:Expr)(xp p:Pos){i:Nat}{z:E}(hi:qif Γ x=some i)(hz:cV m Γ e=some z):PS X (.Assign [.Name x xp] e p) (tS κ K Gv Hv (iS Γ.k w (.set i z))):=by
 have gd:=gs.toGd;obtain⟨l1,l2,hN,hxi⟩:=qg7 gd hi
 have fin:∀(D:Ends) (σ:L2.St) (H:Hp),tS κ K Gv Hv (iS Γ.k w (.set i z)) D σ H->tA κ K Gv Hv (J2 z (iR Γ.k z)) σ H (λy H1=>qfo i y σ H1 D.nx):=λD σ H ⟨ρ,G,er,h⟩=>⟨ρ,G,er,Wk.mono (Wk.th (x:=J2 z (iR Γ.k z) ρ) h) λs h v G1 H1 p1 r1=>h _ G1 H1 (qiA p1.er r1) p1.gs⟩
 by_cases hn:JA e=true
 ·exact PS.imp (qgK (i:=i) hN hxi l1 (qnJ gd A e hz) (qee hn _ _ _) l2) fin
 cases e with
 |ListComp elt gens sc cp=>
  have hsw:∀b:Bool,(X.env.blockKind == .function&&X.env.kindOf x == some .local&&xp.line == cp.line&&!(sc.names.any λ(n,k)=>n == x&&(k == .local||k == .cell)))=b->swapsWith (.ListComp elt gens sc cp) (some (.Name x xp)) p.line X.env=pure b:=λb hb=>by rw[<-hb];rfl
  cases hb:(X.env.blockKind == .function&&X.env.kindOf x == some .local&&xp.line == cp.line&&!(sc.names.any λ(n,k)=>n == x&&(k == .local||k == .cell))) with
  |false=>exact PS.imp (qgK (i:=i) hN hxi l1 (qnJ gd A _ hz) (hsw false hb) l2) fin
  |true=>
   have hloc:X.env.scope.names.lookup x=some .local:=by
    simp only[Bool.and_eq_true] at hb
    have:=hb.1.1.2
    unfold PySem.Env.kindOf at this
    simpa using this
   obtain⟨y,h1,h2⟩:=Option.bind_eq_some_iff.mp hz;obtain⟨rfl,hv⟩:=jg h2
   cases m with
   |zero=>cases h1
   |succ m=>
    obtain⟨tg,it,ifs,own,el,src,t,c,rfl,S,rfl⟩:=qk4 h1;have B:BlkScope X own (Qs Γ.N sc) sc:=qar gd S.chk
    exact PS.imp (qh9 (i:=i) own (Qs Γ.N sc) hN hxi hloc gd.calm B (qnH (Gv:=Gv) (Hv:=Hv) gd (all m X Γ gd) tg it S.src) (λcl C fp s2 H2=>qix (Qu gd B S.nd cl C fp s2 H2) tg S.tg) (λcl C fp s2 H2=>qha (all m _ _ (Qu gd B S.nd cl C fp s2 H2)) ifs S.c)
     (λcl C fp s2 H2=>qk3 (all m _ _ (Qu gd B S.nd cl C fp s2 H2)) elt S.el) (hsw true hb) (qbf S.fold X.env)) λD σ H h=>qb3 S σ H _ (qnI hv σ H _ (fin D σ H h))
 |SetComp=>cases m<;>cases hz
 |DictComp=>cases m<;>cases hz
 |_=>exact absurd rfl hn
end
end DE
namespace DE
open PySem PySem.Spec PyProof.Rows L2
structure AllS(κ:KC)(K:Frag)(X:Cx)(Γ:Ct)(m w:Nat):Prop where
 s:∀Gv Hv st x,cS m Γ st=some x->PS X st (tS κ K Gv Hv (iS Γ.k w x))
 ss:∀Gv Hv l x,cSs m Γ l=some x->PSs X l (tS κ K Gv Hv (iSs Γ.k w x))
section
variable{κ:KC}{K:Frag}{Gv Hv:Hp}{k m w:Nat}{X:Cx}{Γ:Ct}
theorem FlP.back{G G1:Hp}{D:Ends}{f:Fl}(h:FlP κ K Gv Hv G D f)(g:qt G G1):FlP κ K Gv Hv G1 D f:=by
 cases f with
 |next ρ=>exactλσ' G' H' er g'=>h σ' G' H' er λb o e=>g' b o (g b o e)
 |ret r=>exact h
noncomputable def qne(r:Env->R (Rv×Env))(i:Nat)(d:D)(ρ:Env):R Fl:=match zv ρ i with
 |none=>.no
 |some _=>(r ρ).th λz=>match zv z.2 i,z.1.int? with
  |some l,some n=>(match ixN l.length n with
   |some k=>.ok (.next (z.2.set i (.own (l.set k d))))
   |none=>.no)
  |_,_=>.no
noncomputable def gS(κ:KC)(K:Frag)(Gv Hv:Hp)(r:Env->R (Rv×Env))(i:Nat):TG:=λv σ H Q=>∃(ρ:Env) (G:Hp) (d:D) (D:Ends),ER κ K Gv Hv G H ρ σ/\Rep κ G d v/\Wk (qne r i d ρ) (FlP κ K Gv Hv G D)/\∀H',D.nx σ H'->Q σ H'
theorem qnf(gd:Gd κ K k X Γ)(A:All κ K k X Γ m)(x:Str)(i:Expr)(xp p:Pos)(hs:Q7 i=true){j:Nat}{i':E}(hj:qfi Γ x=some j)(hi:cE m Γ i=some i'):PG X (.Subscript (.Name x xp) i p) (gS κ K Gv Hv (iR Γ.k i') j):=by
 refine PG.imp (qjP (qbS gd hj xp) (A.r Gv Hv _ _ hi) qfz (λv=>by cases i<;>first | rfl |(simp[Q7] at hs))) λv σ H Q hq1=>?_;obtain⟨ρ,G,d,D,er,r,h,hQ⟩:=hq1;unfold qne at h
 cases e1:zv ρ j with
 |none=>rw[e1] at h;exact False.elim h
 |some l0=>
  rw[e1] at h;obtain⟨b,xs,z,h1,h2⟩:=er.ownSlot (jB e1);refine⟨_,z,ρ,G,er,Wk.mono (Wk.th h) λy h u G1 H1 p1 r1=>?_⟩
  cases e2:zv y.2 j with
  |none=>rw[e2] at h;exact False.elim h
  |some l=>
   cases e3:y.1.int? with
   |none=>rw[e2,e3] at h;exact False.elim h
   |some n=>
    rw[e2,e3] at h;dsimp only at h
    cases e4:ixN l.length n with
    |none=>rw[e4] at h;exact False.elim h
    |some c=>rw[e4] at h;obtain⟨b',ys,z',h3,h4⟩:=p1.er.ownSlot (jB e2);rw[z] at z';cases z';refine⟨b,ys,n,c,rfl,r1.int e3,h3,by rw[<-h4.len];exact e4,hQ _ ?_⟩;exact h σ G1 _ (p1.er.write (jB e2) z (h4.set c (r.same p1.gs))) p1.gs
theorem qeh(gd:Gd κ K k X Γ)(A:All κ K k X Γ m)(x:Str)(i e:Expr)(xp sp p:Pos){y:S}(h:cS (m+1) Γ (.Assign [.Subscript (.Name x xp) i sp] e p)=some y):PS X (.Assign [.Subscript (.Name x xp) i sp] e p) (tS κ K Gv Hv (iS Γ.k w y)):=by obtain⟨hc,h⟩:=qk h;obtain⟨j,q,h1,h2,rfl⟩:=qj h;obtain⟨i',a',h3,h4,rfl⟩:=qj h2;rw[Bool.and_eq_true] at hc;refine PS.imp (qjQ (A.e Gv Hv _ _ h4) (qnf (Gv:=Gv) (Hv:=Hv) gd A x i xp sp hc.2 h1 h3) (show swapsWithSole [.Subscript (.Name x xp) i sp] e p.line X.env=pure false from qee hc.1 (some (.Subscript (.Name x xp) i sp)) p.line X.env) rfl rfl) λD σ H hq1=>?_;obtain⟨ρ,G,er,h⟩:=hq1;exact⟨ρ,G,er,Wk.mono (Wk.th (x:=zC a' (iR Γ.k a') ρ) h) λy h v G1 H1 p1 r1=>⟨y.2,G1,y.1,D,p1.er,r1,Wk.mono (show Wk (qne (iR Γ.k i') j y.1 y.2) _ from h) λf hf=>hf.back p1.gs,λ_ h=>h⟩⟩
theorem qng(A:All κ K k X Γ m)(S:AllS κ K X Γ m w)(c:Expr)(a b:List Stmt)(p:Pos){x:DE.S}(h:cS (m+1) Γ (.If c a b p)=some x):PS X (.If c a b p) (tS κ K Gv Hv (iS Γ.k w x)):=by
 obtain⟨c',q,h1,h2,rfl⟩:=qj h;obtain⟨a',b',h3,h4,rfl⟩:=qj h2;refine PS.imp (qcB (A.t Gv Hv _ _ h1) (S.ss Gv Hv _ _ h3) (S.ss Gv Hv _ _ h4)) λD σ H hq1=>?_;obtain⟨ρ,G,er,h⟩:=hq1;refine⟨ρ,G,er,Wk.mono (Wk.th (x:=iT Γ.k c' ρ) h) λt h G1 H1 p1=>?_⟩;obtain⟨d,ρ1⟩:=t
 cases d with
 |true=>rw[if_pos rfl];exact⟨ρ1,G1,p1.er,Wk.mono h λf hf=>hf.back p1.gs⟩
 |false=>rw[if_neg (λz=>by cases z)];exact⟨ρ1,G1,p1.er,Wk.mono h λf hf=>hf.back p1.gs⟩
theorem qk7(gs:Gs κ K k X Γ)(A:All κ K k X Γ m)(S:AllS κ K X Γ m w)(tg it:Expr)(body:List Stmt)(p:Pos){x:DE.S}(h:cS (m+1) Γ (.For tg it body [] p)=some x):PS X (.For tg it body [] p) (tS κ K Gv Hv (iS Γ.k w x)):=by
 obtain⟨hf,h⟩:=qk h;obtain⟨q,b',h1,h2,rfl⟩:=qj h;obtain⟨t,src,h3,h4,rfl⟩:=qj h1;refine PS.imp (qjS gs.own gs.calm (A.i Gv Hv _ _ _ h4) (qix gs.toGd tg h3) (S.ss Gv Hv _ _ h2) (qbf hf X.env)) λD σ H hq1=>?_;obtain⟨ρ,G,er,h⟩:=hq1;refine⟨ρ,G,er,Wk.mono (Wk.th (x:=iI Γ.k src ρ) h) λx h J G1 H1 p1 it1=>?_⟩
 refine⟨λi mm σ' H'=>mm=x.1.length - i/\i<=x.1.length/\∃ρb Gb,ER κ K Gv Hv Gb H' ρb σ'/\qt G1 Gb/\Wk (qmz (λd ρ1=>(t.go d ρ1).th λρ2=>iSs Γ.k w b' ρ2) (x.1.drop i) ρb) (FlP κ K Gv Hv G D),
  ⟨x.1.length,by simp,Nat.zero_le _,x.2,G1,p1.er,λ_ _ e=>e,by rw[List.drop_zero];exact h⟩,?_⟩
 rintro i mm σ' H' ⟨rfl,hi,ρb,Gb,erb,g1,hw⟩;have it2:=it1 i Gb H' g1 erb.base erb.sub
 by_cases hlt:i < x.1.length
 ·obtain⟨go,yl⟩:=it2.1 x.1[i] (List.getElem?_eq_getElem hlt);refine .inr ⟨go,_,λσ2 H2 w=>⟨x.1.length - (i+1),by omega,w⟩,λv H2 hy=>?_⟩;obtain⟨G',hs,gss,sub,new,rep⟩:=yl v H2 hy;have p2:=Po.more erb hs gss sub new;rw[List.drop_eq_getElem_cons hlt] at hw;refine⟨Gv,Hv,ρb,G',x.1[i],p2.er,rep,Wk.mono (Wk.th (Wk.th hw)) λρ2 hw σ2 er2=>⟨ρ2,G',er2,Wk.mono hw λf hf=>?_⟩⟩
  cases f with
  |next ρ3=>exactλσ3 G3 H3 er3 g3=>⟨rfl,hlt,ρ3,G3,er3,λb o e=>g3 b o (gss b o (g1 b o e)),hf⟩
  |ret r=>exact hf
 ·have e:i=x.1.length:=by omega
  subst e;rw[List.drop_length] at hw;exact .inl ⟨it2.2 rfl,hw σ' Gb H' erb λb o e=>g1 b o (p1.gs b o e)⟩
theorem qf2(gs:Gs κ K k X Γ)(A:All κ K k X Γ m)(S:AllS κ K X Γ m w)(c:Expr)(body:List Stmt)(p:Pos){x:DE.S}(h:cS (m+1) Γ (.While c body [] p)=some x):PS X (.While c body [] p) (tS κ K Gv Hv (iS Γ.k w x)):=by
 obtain⟨c',b',h1,h2,rfl⟩:=qj h;refine PS.imp (qfq gs.own (A.t Gv Hv _ _ h1) (S.ss Gv Hv _ _ h2)) λD σ H hq1=>?_;obtain⟨ρ,G,er,h⟩:=hq1;refine⟨λn σ' H'=>∃ρb Gb,ER κ K Gv Hv Gb H' ρb σ'/\qt G Gb/\Wk (whL (λρ1=>iT Γ.k c' ρ1) (λρ1=>iSs Γ.k w b' ρ1) n ρb) (FlP κ K Gv Hv G D),⟨w,ρ,G,er,λ_ _ e=>e,h⟩,?_⟩;rintro n σ' H' ⟨ρb,Gb,erb,g1,hw⟩
 cases n with
 |zero=>exact False.elim hw
 |succ n=>
  refine⟨ρb,Gb,erb,Wk.mono (Wk.th (x:=iT Γ.k c' ρb) hw) λb hw G2 H2 p2=>?_⟩;obtain⟨d,ρ2⟩:=b
  cases d with
  |false=>rw[if_neg (λz=>by cases z)];exact hw σ' G2 H2 p2.er λb o e=>p2.gs b o (g1 b o e)
  |true=>
   rw[if_pos rfl];refine⟨_,λσ3 H3 w=>⟨n,Nat.lt_succ_self n,w⟩,ρ2,G2,p2.er,Wk.mono (Wk.th hw) λf hf=>?_⟩
   cases f with
   |next ρ3=>exactλσ3 G3 H3 er3 g3=>⟨ρ3,G3,er3,λb o e=>g3 b o (p2.gs b o (g1 b o e)),hf⟩
   |ret r=>exact hf
theorem qiB(gd:Gd κ K k X Γ)(A:All κ K k X Γ m)(e:Expr)(p:Pos){x:S}(h:cS (m+1) Γ (.Expr e p)=some x):PS X (.Expr e p) (tS κ K Gv Hv (iS Γ.k w x)):=by
 have gen:oif (JA e) ((cE m Γ e).map .expr)=some x->PS X (.Expr e p) (tS κ K Gv Hv (iS Γ.k w x)):=λh=>by obtain⟨hn,h⟩:=qk h;obtain⟨a',h1,rfl⟩:=qm h;refine PS.imp (yJ (A.r Gv Hv _ _ h1) (qee hn _ _ _)) λD σ H hq1=>?_;obtain⟨ρ,G,er,h⟩:=hq1;exact⟨ρ,G,er,Wk.mono (Wk.th (x:=iR Γ.k a' ρ) h) λx h v G1 H1 p1 r1=>h σ G1 H1 p1.er p1.gs⟩
 cases e with
 |Call fn es kws cp=>
  cases fn with
  |Attribute o meth ap=>
   cases o with
   |Name y yp=>
    cases kws with
    |cons kw kws=>exact match es,h,gen with |[],h,gen=>gen h |[_],h,gen=>gen h | _::_::_,h,gen=>gen h
    |nil=>
     match es,h,gen with
     |[a],h,gen=>
      obtain⟨hc,h⟩:=qk h;rw[Bool.and_eq_true] at hc;have hs:qF a=false:=by simpa using hc.2
      by_cases h1:meth = "append"
      ·subst h1;rw[if_pos rfl] at h;obtain⟨i,a',h2,h3,rfl⟩:=qj h;exact qef gd A y a yp ap cp p hc.1 hs h2 h3
      rw[if_neg h1] at h
      by_cases h2:meth = "extend"
      ·subst h2;rw[if_pos rfl] at h;obtain⟨i,a',h2,h3,rfl⟩:=qj h;exact qeg gd A y a yp ap cp p hc.1 hs h2 h3
      rw[if_neg h2] at h;cases h
     |[],h,gen=>cases h
     | _::_::_,h,gen=>exact gen h
   |_=>exact gen h
  |_=>exact gen h
 |_=>exact gen h
theorem qoK(gs:Gs κ K k X Γ)(A:All κ K k X Γ m)(S:AllS κ K X Γ m w)(st:Stmt)(x:DE.S)(h:cS (m+1) Γ st=some x):PS X st (tS κ K Gv Hv (iS Γ.k w x)):=by
 cases st with
 |Pass p=>cases h;exact PS.imp qhG λD σ H ⟨ρ,G,er,h⟩=>h σ G H er λ_ _ e=>e
 |Raise a b c=>cases h;exactλpins s σ H D I ⟨ρ,G,er,h⟩=>h.elim
 |Expr e p=>exact qiB gs.toGd A e p h
 |Return o p=>
  cases o with
  |some e=>obtain⟨y,h1,rfl⟩:=qm h;exact qk5 gs.toGd A e p h1
  |none=>cases h;exact PS.imp qhH λD σ H ⟨ρ,G,er,h⟩=>h .non G H er.base er.g0 er.sub er.fresh (by simp only[ReR,Rep])
 |Assign tgs e p=>
  match tgs,h with
  |[],h=>cases h
  | _::_::_,h=>cases h
  |[tg],h=>
   cases tg with
   |Name x xp=>obtain⟨i,z,h1,h2,rfl⟩:=qj h;exact qk6 gs A x e xp p h1 h2
   |Tuple es j tp=>cases h
   |Subscript o i sp=>
    cases o with
    |Name x xp=>exact qeh gs.toGd A x i e xp sp p h
    |_=>cases h
   |_=>cases h
 |If c a b p=>exact qng A S c a b p h
 |For tg it body orelse p=>
  cases orelse with
  |nil=>exact qk7 gs A S tg it body p h
  |cons s l=>cases h
 |While c body orelse p=>
  cases orelse with
  |nil=>exact qf2 gs A S c body p h
  |cons s l=>cases h
 |_=>cases h
theorem qnh(S:AllS κ K X Γ m w):∀l x,cSs (m+1) Γ l=some x->PSs X l (tS κ K Gv Hv (iSs Γ.k w x))
 |[],_,h=>by cases h;exact PSs.imp Jz λD σ H ⟨ρ,G,er,h⟩=>h σ G H er λ_ _ e=>e
 | st::l,_,h=>by
  obtain⟨s',l',h1,h2,rfl⟩:=qj h;refine PSs.imp (qV (S.s Gv Hv _ _ h1) (S.ss Gv Hv _ _ h2)) λD σ H hq1=>?_;obtain⟨ρ,G,er,h⟩:=hq1;refine⟨ρ,G,er,Wk.mono (Wk.th (x:=iS Γ.k w s' ρ) h) λf hf=>?_⟩
  cases f with
  |next ρ1=>exactλσ1 G1 H1 er1 g1=>⟨ρ1,G1,er1,Wk.mono hf λf hf=>hf.back g1⟩
  |ret r=>exact hf
theorem qnK(gs:Gs κ K k X Γ):∀m,AllS κ K X Γ m w
 |0=>⟨(λ_ _ _ _ h=>nomatch h),(λ_ _ _ _ h=>nomatch h)⟩
 | m+1=>
  have S:=qnK gs m
  ⟨λGv Hv=>qoK gs (all m X Γ gs.toGd) S,λGv Hv=>qnh S⟩
end
end DE
namespace DE
open PySem PySem.Spec PyProof.Rows L2
def Qv(st:Stmt):List Str:=(qW st).args.map (·.arg)
noncomputable def fnN(st:Stmt):List Str:=Qv st++(qi st).names.filterMap λx=>if ((x.2 == .local||x.2 == .cell)&&!(Qv st).contains x.1)=true then some x.1 else none
noncomputable def ya(st:Stmt):Bool:=(qi st).kind == .function&&!(qi st).isCoroutine&&!(qi st).isGenerator&&decide (fnN st).Nodup&&(Qv st).all (qku (qi st))&&(qi st).names.all λy=>y.2 != .free
def toSl:Ar->Sl
 |.val d=>.val d
 |.bor l=>.bor l
 |.scr l=>.scr l
def JB(N:List Str)(args:List Ar):Env:=args.map toSl++List.replicate (N.length - args.length) .no
structure Pg where
 defs:List (Str×Stmt)
 gl:Str->Option D
 m:Nat
 w:Nat
 meths:List (Str×Stmt):=[]
 cs:Cs:=Cs.non
 nw:Nat->Str->List Ar->R Rv:=λ_ _ _=>.no
noncomputable def Pg.ct(pg:Pg)(k:Nat)(cl:Str->List Ar->R Rv)(st:Stmt):Ct:=⟨fnN st,qi st,pg.defs.map (·.1),pg.gl,cl,pg.cs,pg.nw k⟩
def flR:Fl->R Rv
 |.next _=>.ok (.val .non)
 |.ret r=>.ok r
noncomputable def evF(pg:Pg)(k:Nat)(cl:Str->List Ar->R Rv)(st:Stmt)(args:List Ar):R Rv:=
 if (ya st&&args.length == (Qv st).length)=true then (match cSs pg.m (pg.ct k cl st) (qI st) with
  |some b=>(iSs (pg.ct k cl st).k pg.w b (JB (fnN st) args)).th flR
  |none=>.no) else .no
noncomputable def clK(pg:Pg):Nat->Str->List Ar->R Rv
 |0,_,_=>.no
 | k+1,f,args=>match (pg.defs++pg.meths).lookup f with
  |some st=>evF pg k (clK pg k) st args
  |none=>.no
noncomputable def FnF(K:Frag)(mg:PR)(f:Str)(st:Stmt):Prop:=∃fa fd,Fun K f f st fa fd/\mg f=some (.ref fa)/\zn K fd (Qv st) []
inductive AllF(K:Frag)(mg:PR):List (Str×Stmt)->Prop where
 | nil:AllF K mg []
 | cons {f:Str} {st:Stmt} {l:List (Str×Stmt)} (h:FnF K mg f st) (t:AllF K mg l):AllF K mg ((f,st)::l)
theorem AllF.mem{K:Frag}{mg:PR}:∀{l:List (Str×Stmt)} {f:Str} {st:Stmt},AllF K mg l->(f,st)∈l->FnF K mg f st
 |_,_,_,.nil,h=>by cases h
 |_,_,_,.cons h t,m=>by
  cases m with
  |head=>exact h
  |tail _ m=>exact t.mem m
noncomputable def qdl(P:Program)(wd:World)(κ:KC)(K:Frag)(mg:PR)(base:Heap)(pg:Pg)(k:Nat):Prop:=
 (∀(f:Str) (st:Stmt),pg.defs.lookup f=some st->∃fa fd,FnOk P wd K mg base CX0 k fa fd (Qv st) (spF κ K (clK pg k) f)/\mg f=some (.ref fa)/\PySem.W.keepIn K (.ref fa)=true/\zn K fd (Qv st) [])/\
 ∀(f:Str) (st:Stmt),pg.meths.lookup f=some st->pg.defs.lookup f=none->∀nm fa fd,Fun K nm f st fa fd->FnOk P wd K mg base CX0 k fa fd (Qv st) (spF κ K (clK pg k) f)
structure PgOk(κ:KC)(K:Frag)(mg:PR)(pg:Pg):Prop where
 fn:AllF K mg pg.defs
 blt:∀f∈qd3,mg f=none
 gl:∀x d,pg.gl x=some d->∃v u,mg x=some u/\qM v u/\∀G,Rep κ G d v
 cls:∀c C,κ c=some C->Cls K C
 flds:∀c x C,pg.cs.fld c x=true->κ c=some C->zz K C x
 mts:∀c x f,pg.cs.mt c x=some f->∃C fa fd st nm,κ c=some C/\Meth K C x fa/\pg.meths.lookup f=some st/\pg.defs.lookup f=none/\Fun K nm f st fa fd/\zn K fd (Qv st) []
 mks:∀P wd base k,(∀j,j < k->qdl P wd κ K mg base pg j)->∀f,pg.cs.tab.contains f=true->(∀args,pg.nw k f args=.no)\/∃C fa fd ps sp,Mk K C fa/\FnOk P wd K mg base CX0 (k - 1) fa fd ps sp/\mg f=some (.ref C)/\zn K fd ps []/\0 < k/\
  ∀vs H Q,spF κ K (pg.nw k) f vs H Q E0->∀x dx,H x=none->H dx=none->dx≠x->sp (.ref x::vs) (upd (upd H dx (.own x)) x (.ins C dx [])) (λv H2=>v=.non/\Q (.ref x) H2) E0
 subs:∀c t b,pg.cs.sub c t=some b->∃C T,κ c=some C/\(∀H p dx fs,H p=some (HO.ins C dx fs)->TyOf K H (.ref p) (.ref C))/\mg t=some (.ref T)/\PySem.W.kitOne K (.ref C) (.ref T)=some b
section
variable{P:Program}{wd:World}{κ:KC}{K:Frag}{mg:PR}{base:Heap}{pg:Pg}
theorem JR.len{G H:Hp}:∀{args:List Ar} {vs:List V},JR κ K G H args vs->args.length=vs.length
 |[],vs,h=>by simp only[JR] at h;subst h;rfl
 | a::l,vs,h=>by simp only[JR] at h;obtain⟨v,r,rfl,_,h2⟩:=h;simp[JR.len h2]
theorem JR.at{G H:Hp}:∀{args:List Ar} {vs:List V} {i:Nat} {a:Ar},JR κ K G H args vs->args[i]?=some a->∃v,vs[i]?=some v/\ArR κ K G H a v
 |[],vs,i,a,h,e=>by simp at e
 | b::l,vs,0,a,h,e=>by simp only[JR] at h;obtain⟨v,r,rfl,h1,h2⟩:=h;simp at e;subst e;exact⟨v,rfl,h1⟩
 | b::l,vs,i+1,a,h,e=>by simp only[JR] at h;obtain⟨v,r,rfl,h1,h2⟩:=h;obtain⟨v',e1,e2⟩:=JR.at (i:=i) h2 (by simpa using e);exact⟨v',by simpa using e1,e2⟩
theorem qf3{G H:Hp}{args:List Ar}{vs:List V}{N:List Str}(sub:qt G H)(h:JR κ K G H args vs):ER κ K G H G H (JB N args) (L2.Yo N vs):=by
 have hl:=h.len;refine⟨by simp[JB,L2.Yo,hl],sub,λ_ _ e=>e,λ_ _ e=>e,λa o e=>.inl ⟨o,e⟩,λi s e=>?_,λi j a l n e1=>?_⟩
 ·unfold JB at e;unfold L2.Yo
  by_cases hi:i < args.length
  ·rw[List.getElem?_append_left (by simpa using hi),List.getElem?_map] at e;obtain⟨b,e1,rfl⟩:=Option.map_eq_some_iff.mp e;obtain⟨v,e2,e3⟩:=h.at e1;rw[List.getElem?_append_left (by rw[List.length_map,<-hl];exact hi),List.getElem?_map,e2]
   cases b with
   |val d=>exact⟨v,rfl,e3⟩
   |bor l=>obtain⟨a,xs,rfl,h1,h2⟩:=e3;exact⟨a,xs,rfl,h1,h2⟩
   |scr l=>obtain⟨a,xs,rfl,h1,h2⟩:=e3;exact⟨a,xs,rfl,h1,h2⟩
  ·rw[List.getElem?_append_right (by simpa using hi)] at e
   have:s=.no:=by
    have:=List.mem_of_getElem? e
    exact List.eq_of_mem_replicate this
   subst this;trivial
 ·exfalso;unfold JB at e1
  by_cases hi:i < args.length
  ·rw[List.getElem?_append_left (by simpa using hi),List.getElem?_map] at e1;obtain⟨b,_,z⟩:=Option.map_eq_some_iff.mp e1
   cases b<;>cases z
  ·rw[List.getElem?_append_right (by simpa using hi)] at e1
   have:=List.eq_of_mem_replicate (List.mem_of_getElem? e1)
   cases this
theorem Qw{st:Stmt}(h:ya st=true):FnScope (fnN st) (Qv st) (qi st):=by unfold ya at h;simp only[Bool.and_eq_true,Bool.not_eq_true',List.all_eq_true] at h;obtain⟨⟨⟨⟨⟨h1,h2⟩,h3⟩,h4⟩,h5⟩,h6⟩:=h;refine⟨by simpa using h1,h2,h3,of_decide_eq_true h4,by simp[fnN],λx hx=>qd4 (h5 x hx),λy hy=>by simpa using h6 y hy⟩
theorem Ye{k:Nat}{f:Str}{st:Stmt}{args:List Ar}(h:(pg.defs++pg.meths).lookup f=some st):clK pg (k+1) f args=evF pg k (clK pg k) st args:=by show(match (pg.defs++pg.meths).lookup f with |some st=>evF pg k (clK pg k) st args |none=>.no)=_;rw[h]
theorem qei{f:Str}{st:Stmt}:∀{l m:List (Str×Stmt)},l.lookup f=some st->(l++m).lookup f=some st
 |[],m,h=>by cases h
 | (g,s)::l,m,h=>by
  rw[List.lookup_cons] at h;rw[List.cons_append,List.lookup_cons]
  cases e:(f == g) with
  |true=>rw[e] at h;exact h
  |false=>rw[e] at h;exact qei h
theorem qhb{f:Str}:∀{l m:List (Str×Stmt)},l.lookup f=none->(l++m).lookup f=m.lookup f
 |[],m,h=>rfl
 | (g,s)::l,m,h=>by
  rw[List.lookup_cons] at h;rw[List.cons_append,List.lookup_cons]
  cases e:(f == g) with
  |true=>rw[e] at h;cases h
  |false=>rw[e] at h;exact qhb h
theorem qas{f:Str}:∀{l:List (Str×Stmt)},(l.map (·.1)).contains f=true->∃st,l.lookup f=some st
 |[],h=>by simp at h
 | (g,st)::l,h=>by
  by_cases e:f=g
  ·subst e;exact⟨st,by simp[List.lookup_cons]⟩
  ·have hb:(f == g)=false:=by simpa using e
   obtain⟨s,hs⟩:=qas (l:=l) (f:=f) (by simp only[List.map_cons,List.contains_cons,hb,Bool.false_or] at h;exact h)
   exact⟨s,by rw[List.lookup_cons,hb];exact hs⟩
theorem qbg(ok:PgOk κ K mg pg){k:Nat}(ih:∀j,j<=k->qdl P wd κ K mg base pg j){nm f:Str}{st:Stmt}{fa:Addr}{fd:FuncData}(F:Fun K nm f st fa fd)(h:(pg.defs++pg.meths).lookup f=some st):FnOk P wd K mg base CX0 (k+1) fa fd (Qv st) (spF κ K (clK pg (k+1)) f):=by
  by_cases hc:ya st=true
  case neg=>
   have no:∀{vs:List V} {H:Hp} {Q:VK} {E:XK},spF κ K (clK pg (k+1)) f vs H Q E->False:=λ{vs H Q E} ⟨G,args,_,_,z⟩=>by
    rw[Ye h] at z
    have:=(Wk.iff (show Wk (if (ya st&&args.length == (Qv st).length)=true then _ else R.no) _ from z)).1
    rw[Bool.and_eq_true] at this;exact hc this.1
   exact⟨λvs H Q E z=>(no z).elim,λA outer s H args us vs Q E _ _ _ _ z=>(no z).elim⟩
  refine F.ok (Qw hc) (λvs H Q E z=>?_) (λcdv A outer s H vs Q E hr z=>?_)
  ·obtain⟨G,args,_,ha,z⟩:=z;rw[Ye h] at z
   have:=(Wk.iff (show Wk (if (ya st&&args.length == (Qv st).length)=true then _ else R.no) _ from z)).1
   rw[Bool.and_eq_true] at this;rw[<-ha.len]
   simpa using this.2
  ·obtain⟨G,args,sub,ha,z⟩:=z;rw[Ye h] at z;have z:=(Wk.iff (show Wk (if (ya st&&args.length == (Qv st).length)=true then _ else R.no) _ from z)).2;have S:=Qw hc
   have gs:Gs κ K k (qhV CX0 P wd K mg base (fnN st) f (qi st) fa cdv A outer s H E).nox (pg.ct k (clK pg k) st):=
    {hN:=rfl
     vis:=λx h=>qg1 h
     loc:=λx h=>⟨qd4 h,.inl rfl⟩
     glo:=λx h=>by have h:((qi st).names.lookup x == some NameKind.globalImplicit)=true:=h;exact(by simpa using h:(qi st).names.lookup x=some .globalImplicit)
     cf:=λx h=>h
     nd:=S.nd
     calm:=rfl
     hK:=rfl
     room:=hr
     fns:=λg hg=>by obtain⟨st',hl⟩:=qas (l:=pg.defs) hg;obtain⟨ga,gd,G1,G2,G3,G4⟩:=(ih k (Nat.le_refl k)).1 g st' hl;exact⟨ga,gd,Qv st',G1,G2,G3,G4⟩
     blt:=ok.blt
     gl:=ok.gl
     cls:=ok.cls
     flds:=ok.flds
     mts:=λc x f h=>by obtain⟨C,fa,fd,st',nm,m1,m2,m3,m4,m5,m6⟩:=ok.mts c x f h;exact⟨C,fa,fd,_,m1,m2,(ih k (Nat.le_refl k)).2 f st' m3 m4 nm fa fd m5,m6⟩
     mks:=ok.mks P wd base k λj hj=>ih j (Nat.le_of_lt hj)
     subs:=ok.subs
     own:=PassesOwn.never
     sceq:=rfl
     fnk:=S.kind }
   cases hb:cSs pg.m (pg.ct k (clK pg k) st) (qI st) with
   |none=>rw[hb] at z;exact z.elim
   |some b=>
   rw[hb] at z;refine⟨_,(qnK gs (w:=pg.w) pg.m).ss G H (qI st) b hb,JB (fnN st) args,G,qf3 sub ha,Wk.mono (Wk.th z) λfl hf=>?_⟩
   cases fl with
   |next ρ=>exactλσ' G' H' er g'=>hf .non G' H' er.base er.g0 er.sub er.fresh (by simp only[ReR,Rep])
   |ret r=>exact hf
theorem qk8(ok:PgOk κ K mg pg):∀k j:Nat,j<=k->qdl P wd κ K mg base pg j:=by
 have zero:qdl P wd κ K mg base pg 0:=by refine⟨λf st h=>?_,λf st h _ nm fa fd F=>⟨λvs H Q E ⟨G,args,_,_,z⟩=>False.elim z,λA outer s H args us vs Q E _ _ _ _ ⟨G,args',_,_,z⟩=>False.elim z⟩⟩;obtain⟨fa,fd,F,hm,hb⟩:=ok.fn.mem (PySem.mem_of_lookup h);exact⟨fa,fd,⟨λvs H Q E ⟨G,args,_,_,z⟩=>False.elim z,λA outer s H args us vs Q E _ _ _ _ ⟨G,args',_,_,z⟩=>False.elim z⟩,hm,F.kp,hb⟩
 intro k
 induction k with
 |zero=>intro j hj;rw[Nat.le_zero.mp hj];exact zero
 |succ k ih=>
  intro j hj;rcases Nat.lt_or_ge j (k+1) with h | h
  ·exact ih j (Nat.le_of_lt_succ h)
  ·obtain rfl:j=k+1:=Nat.le_antisymm hj h;refine⟨λf st h=>?_,λf st h h0 nm fa fd F=>?_⟩
   ·obtain⟨fa,fd,F,hm,hb⟩:=ok.fn.mem (PySem.mem_of_lookup h);exact⟨fa,fd,qbg ok ih F (qei h),hm,F.kp,hb⟩
   ·exact qbg ok ih F ((qhb h0).trans h)
theorem qat(G:Hp):∀ns:List Int,qo κ G (ns.map D.int) (ns.map V.int)
 |[]=>.nil
 | n::ns=>.cons (by simp only[Rep]) (qat G ns)
theorem qk9{st:Stmt}{k:Nat}{fa:Addr}{fd:FuncData}(ok:PgOk κ K mg pg)(F:Fun K "law" "law" st fa fd)(hl:pg.defs.lookup ("law" : Str)=some st)(hp:Qv st=(["_law_script"]:List Str)) :
  FnOk P wd K mg base CX0 (k+1) fa fd (["_law_script"]:List Str) (spF κ K (clK pg (k+1)) "law"):=by
 have:=qbg (P:=P) (wd:=wd) (base:=base) ok (qk8 ok k) F (qei hl)
 rw[hp] at this;exact this
theorem qla{k:Nat}{H:Hp}{a:Addr}{ns:List Int}(hq:SqL K H a (ns.map V.int))(h:clK pg k "law" [.scr (ns.map D.int)]=.ok (.val (.bl true))):spF κ K (clK pg k) "law" [.ref a] H (λv _=>v=.bl true) λ_ _ _=>False:=by
 refine⟨λ_=>none,[.scr (ns.map D.int)],λ_ _ e=>(by cases e),⟨_,_,rfl,⟨a,_,rfl,hq,qat _ ns⟩,rfl⟩,?_⟩;rw[h];intro v G' H' _ _ _ _ r
 simpa only[ReR,Rep] using r
end
noncomputable def qoL(pg:Pg)(k:Nat)(cl:Str->List Ar->R Rv)(st:Stmt):Option (Nat×Nat×Ss):=oif (ya st) ((cSs pg.m (pg.ct k cl st) (qI st)).map λb=>((Qv st).length,(fnN st).length,b))
def slN(n:Nat)(args:List Ar):Env:=args.map toSl++List.replicate (n - args.length) .no
noncomputable def runD(cl:Cl)(w:Nat)(c:Nat×Nat×Ss)(args:List Ar):R Rv:=if args.length=c.1 then (iSs cl w c.2.2 (slN c.2.1 args)).th flR else .no
def Pg.kk(pg:Pg)(k:Nat):Cl:=⟨clK pg k,pg.cs,pg.nw k⟩
theorem ql{pg:Pg}{f:Str}{st:Stmt}{c:Nat×Nat×Ss}(hl:(pg.defs++pg.meths).lookup f=some st)(hc:∀k cl,qoL pg k cl st=some c)(k:Nat)(args:List Ar):clK pg (k+1) f args=runD (pg.kk k) pg.w c args:=by
 obtain⟨h1,h2⟩:=qk (hc k (clK pg k));obtain⟨b,h3,rfl⟩:=qm h2;rw[Ye hl];unfold evF runD
 by_cases hn:args.length=(Qv st).length
 ·rw[if_pos (by rw[h1,hn];simp),if_pos hn];rw[h3];rfl
 ·rw[if_neg (by simp[hn]),if_neg hn]
end DE
namespace DE
open PySem L2
variable{cl:Cl}{w:Nat}
theorem th_ok{α β:Type}(a:α)(f:α->R β):(R.ok a).th f=f a:=(rfl)
theorem of_some{α:Type}(a:α):R.of (some a)=.ok a:=(rfl)
noncomputable def jN(cl:Cl)(w:Nat)(tg:Tg)(b:Ss)(l:List D)(ρ:Env):R Fl:=qmz (λd ρ1=>(tg.go d ρ1).th λρ2=>iSs cl w b ρ2) l ρ
noncomputable def whD(cl:Cl)(w:Nat)(c:T)(b:Ss)(n:Nat)(ρ:Env):R Fl:=whL (λρ1=>iT cl c ρ1) (λρ1=>iSs cl w b ρ1) n ρ
noncomputable def zt(cl:Cl)(e:E)(tg:Tg)(c:F)(l:List D)(ρ:Env)(acc:List D):R (List D):=qd1 tg.go (λρ1=>iF cl c ρ1) (zC e (iR cl e)) l ρ acc
def qcX(f:Fl)(g:Env->R Fl):R Fl:=match f with
 |.next ρ1=>g ρ1
 |.ret r=>.ok (.ret r)
section
variable(cl:Cl)(w:Nat)(ρ:Env)
theorem qL(tg:Tg)(b:Ss):jN cl w tg b [] ρ=.ok (.next ρ):=(rfl)
theorem qej(tg:Tg)(b:Ss)(d:D)(l:List D):jN cl w tg b (d::l) ρ=((tg.go d ρ).th λρ2=>iSs cl w b ρ2).th λf=>qcX f λρ1=>jN cl w tg b l ρ1:=(rfl)
theorem qf4(c:T)(b:Ss)(n:Nat):whD cl w c b (n+1) ρ=(iT cl c ρ).th λt=>if t.1=true then (iSs cl w b t.2).th λf=>qcX f λρ1=>whD cl w c b n ρ1 else .ok (.next t.2):=(rfl)
theorem qH(e:E)(tg:Tg)(c:F)(acc:List D):zt cl e tg c [] ρ acc=.ok acc:=(rfl)
theorem qcY(e:E)(tg:Tg)(c:F)(d:D)(l acc:List D):zt cl e tg c (d::l) ρ acc=(tg.go d ρ).th λρ1=>(iF cl c ρ1).th λbt=>if bt.1=true then (zC e (iR cl e) bt.2).th λx=>if acc.length < sizeLine then zt cl e tg c l x.2 (acc++[x.1]) else .no else zt cl e tg c l bt.2 acc:=(rfl)
theorem qiC(e:E):iS cl w (.expr e) ρ=(iR cl e ρ).th λx=>.ok (.next x.2):=(rfl)
theorem qlb(i:Nat)(e:E):iS cl w (.app i e) ρ=(match zv ρ i with
  |none=>.no
  |some _=>(zC e (iR cl e) ρ).th λy=>(match zv y.2 i with
   |some l=>if l.length < sizeLine then .ok (.next (y.2.set i (.own (l++[y.1])))) else .no
   |none=>.no)):=(rfl)
theorem qlc(i:Nat)(e:E):iS cl w (.ext i e) ρ=(match zv ρ i with
  |none=>.no
  |some _=>(iR cl e ρ).th λy=>(match zv y.2 i,y.1.plain? with
   |some l,some n=>if l.length+n.length<=sizeLine then .ok (.next (y.2.set i (.own (l++n)))) else .no
   |_,_=>.no)):=(rfl)
theorem qld(e:E):iS cl w (.ret e) ρ=(qa1 e (iR cl e) ρ).th λr=>.ok (.ret r):=(rfl)
theorem qle(i:Nat)(e:E):iS cl w (.set i e) ρ=(J2 e (iR cl e) ρ).th λs=>.ok (.next (s.2.set i s.1)):=(rfl)
theorem qiD(i:Nat)(x e:E):iS cl w (.setI i x e) ρ=(zC e (iR cl e) ρ).th λy=>(match zv y.2 i with
  |none=>.no
  |some _=>(iR cl x y.2).th λz=>(match zv z.2 i,z.1.int? with
   |some l,some n=>(match ixN l.length n with
    |some k=>.ok (.next (z.2.set i (.own (l.set k y.1))))
    |none=>.no)
   |_,_=>.no)):=(rfl)
theorem qlf(c:T)(a b:Ss):iS cl w (.ite c a b) ρ=(iT cl c ρ).th λt=>if t.1=true then iSs cl w a t.2 else iSs cl w b t.2:=(rfl)
theorem qlg(tg:Tg)(src:I)(b:Ss):iS cl w (.for_ tg src b) ρ=(iI cl src ρ).th λx=>jN cl w tg b x.1 x.2:=(rfl)
theorem qf5(s:S)(l:Ss):iSs cl w (.cons s l) ρ=(iS cl w s ρ).th λf=>qcX f λρ1=>iSs cl w l ρ1:=(rfl)
theorem qlh(op:Operator)(a b:E):iR cl (.bin op a b) ρ=(iR cl a ρ).th λx=>(iR cl b x.2).th λy=>(qa0 op x.1 y.1).th λr=>.ok (r,y.2):=(rfl)
theorem qli(a:E):iR cl (.neg a) ρ=(iR cl a ρ).th λx=>match x.1 with
  |.val (.int i)=>.ok (.val (.int (-i)),x.2)
  |_=>.no:=(rfl)
theorem qlj(a:E):iR cl (.not a) ρ=(iR cl a ρ).th λx=>match x.1 with
  |.val (.bl b)=>.ok (.val (.bl (!b)),x.2)
  |_=>.no:=(rfl)
theorem qlk(a b:E):iR cl (.and a b) ρ=(iR cl a ρ).th λx=>match x.1 with
  |.val (.bl true)=>iR cl b x.2
  |.val (.bl false)=>.ok (.val (.bl false),x.2)
  |_=>.no:=(rfl)
theorem qll(op:CmpOp)(a b:E):iR cl (.cmp op a b) ρ=(iR cl a ρ).th λx=>(iR cl b x.2).th λy=>(R.of (Yu op x.1 y.1)).th λr=>.ok (.val (.bl r),y.2):=(rfl)
theorem qlm(c:T)(a b:E):iR cl (.ite c a b) ρ=(iT cl c ρ).th λt=>if t.1=true then iR cl a t.2 else iR cl b t.2:=(rfl)
theorem qln(a i:E):iR cl (.idx a i) ρ=(iR cl a ρ).th λx=>(iR cl i x.2).th λy=>(idxD x.1 y.1).th λr=>.ok (r,y.2):=(rfl)
theorem qlo(a:E)(lo hi:O):iR cl (.sli a lo hi) ρ=(iR cl a ρ).th λx=>(iO cl lo x.2).th λl=>(iO cl hi l.2).th λh=>(sliceD x.1 l.1 h.1).th λr=>.ok (r,h.2):=(rfl)
theorem qlp(l:Es):iR cl (.lst l) ρ=(iEs cl l ρ).th λx=>if x.1.length<=sizeLine then .ok (.tmp x.1,x.2) else .no:=(rfl)
theorem qlq(l:Es):iR cl (.tup l) ρ=(iEs cl l ρ).th λx=>if x.1.length<=sizeLine then .ok (.val (.tup x.1),x.2) else .no:=(rfl)
theorem qlr(a:E):iR cl (.rvs a) ρ=(iR cl a ρ).th λx=>(R.of x.1.list?).th λl=>.ok (.tmp l.reverse,x.2):=(rfl)
theorem qiE(f:Str)(l:Es):iR cl (.calF f l) ρ=(iEs cl l ρ).th λx=>(cl f (x.1.map .val)).th λr=>.ok (r,x.2):=(rfl)
theorem qiF(f:Str)(l:Es):iR cl (.call f l) ρ=(iAs cl l ρ).th λx=>(cl f x.1).th λr=>.ok (r,x.2):=(rfl)
theorem qni(f:B1)(a:E):iR cl (.b1 f a) ρ=(iR cl a ρ).th λx=>(f.go x.1).th λr=>.ok (r,x.2):=(rfl)
theorem qnj(f:B2)(a b:E):iR cl (.b2 f a b) ρ=(iR cl a ρ).th λx=>(iR cl b x.2).th λy=>(f.go x.1 y.1).th λr=>.ok (r,y.2):=(rfl)
theorem qls(t:Ty)(a:E):iR cl (.isi t a) ρ=(iR cl a ρ).th λx=>(R.of (t.go x.1)).th λb=>.ok (.val (.bl b),x.2):=(rfl)
theorem qlt(t:Str)(a:E):iR cl (.isc t a) ρ=(iR cl a ρ).th λx=>(R.of (qgW cl.cs x.1 t)).th λb=>.ok (.val (.bl b),x.2):=(rfl)
theorem qlu(a:E)(x:Str):iR cl (.fld a x) ρ=(iR cl a ρ).th λy=>(R.of (qd0 cl.cs y.1 x)).th λd=>.ok (.val d,y.2):=(rfl)
noncomputable def goM(cl:Cl)(x:Str)(l:Es)(v:Rv)(ρ:Env):Option Str->R (Rv×Env)
 |some f=>(iAs cl l ρ).th λz=>(cl f (toAr v::z.1)).th λr=>.ok (r,z.2)
 |none=>if x = "index" then (iAs cl l ρ).th λz=>(ixM v z.1).th λr=>.ok (r,z.2) else .no
theorem qlv(a:E)(x:Str)(l:Es):iR cl (.met a x l) ρ=(iR cl a ρ).th λy=>goM cl x l y.1 y.2 (mtD cl.cs y.1 x):=by
 show(iR cl a ρ).th _=_
 congr 1
theorem qlw(f:Str)(l:Es):iR cl (.new f l) ρ=(iAs cl l ρ).th λx=>(cl.nw f x.1).th λr=>.ok (r,x.2):=(rfl)
theorem qiG(e:E)(src:I)(tg:Tg)(c:F)(n:Nat)(fr:List Nat):iR cl (.comp e src tg c n fr) ρ=(iI cl src ρ).th λx=>if x.1.length<=sizeLine then (zt cl e tg c x.1 (Qt n fr x.2) []).th λl=>.ok (.tmp l,x.2) else .no:=(rfl)
theorem qlx(a:T):iT cl (.not a) ρ=(iT cl a ρ).th λt=>.ok (!t.1,t.2):=(rfl)
theorem qly(a b:T):iT cl (.and a b) ρ=(iT cl a ρ).th λt=>if t.1=true then iT cl b t.2 else .ok (false,t.2):=(rfl)
theorem qnk(a b:T):iT cl (.or a b) ρ=(iT cl a ρ).th λt=>if t.1=true then .ok (true,t.2) else iT cl b t.2:=(rfl)
theorem qlz(op:CmpOp)(a b:E):iT cl (.cmp op a b) ρ=(iR cl a ρ).th λx=>(iR cl b x.2).th λy=>(R.of (Yu op x.1 y.1)).th λr=>.ok (r,y.2):=(rfl)
theorem qlA(a:E):iT cl (.val a) ρ=(iR cl a ρ).th λx=>(R.of (truthD x.1)).th λb=>.ok (b,x.2):=(rfl)
theorem qf6(e:E)(l:Es):iEs cl (.cons e l) ρ=(zC e (iR cl e) ρ).th λx=>(iEs cl l x.2).th λy=>.ok (x.1::y.1,y.2):=(rfl)
theorem qf7(e:E)(l:Es):iAs cl (.cons e l) ρ=(iR cl e ρ).th λx=>(iAs cl l x.2).th λy=>.ok (toAr x.1::y.1,y.2):=(rfl)
theorem qiH(e:E):iO cl (.some e) ρ=(iR cl e ρ).th λx=>match x.1 with
  |.val (.int i)=>.ok (some i,x.2)
  |_=>.no:=(rfl)
theorem qlB(a:E):iI cl (.seq a) ρ=(j6 a (iR cl a) ρ).th λx=>.ok (x.1.2,x.2):=(rfl)
theorem qlC(a:E):iI cl (.rng a) ρ=(iR cl a ρ).th λx=>(match x.1.int? with
  |some n=>if qD n=true then .ok (zB 0 n,x.2) else .no
  |none=>.no):=(rfl)
theorem qiI(a b:E):iI cl (.rng2 a b) ρ=(iR cl a ρ).th λx=>(iR cl b x.2).th λy=>(match x.1.int?,y.1.int? with
  |some i,some j=>if qD i=true/\qD j=true then .ok (zB i j,y.2) else .no
  |_,_=>.no):=(rfl)
theorem qiJ(a:E):iI cl (.enum a) ρ=(j6 a (iR cl a) ρ).th λx=>match x.1.1 with |.lst=>.ok (Yw x.1.2,x.2) |_=>.no:=(rfl)
theorem qlD(a:E):iI cl (.rev a) ρ=(j6 a (iR cl a) ρ).th λx=>match x.1.1 with |.lst=>.ok (x.1.2.reverse,x.2) |_=>.no:=(rfl)
theorem qlE(a b:E):iI cl (.zip a b) ρ=(j6 a (iR cl a) ρ).th λx=>(j6 b (iR cl b) x.2).th λy=>match x.1.1,y.1.1 with |.lst,.lst=>.ok (qcS x.1.2 y.1.2,y.2) |_,_=>.no:=(rfl)
variable(s:Sl)(i:Nat)(d:D)(l:List D)
theorem slR_s:slR (s::ρ) (i+1)=slR ρ i:=(rfl)
theorem slR_v:slR (.val d::ρ) 0=.ok (.val d):=(rfl)
theorem slR_o:slR (.own l::ρ) 0=.ok (.cell l):=(rfl)
theorem slR_b:slR (.bor l::ρ) 0=.ok (.cell l):=(rfl)
theorem slR_c:slR (.scr l::ρ) 0=.ok (.scr l):=(rfl)
theorem slX_s:slX (s::ρ) (i+1)=slX ρ i:=(rfl)
theorem slX_v:slX (.val d::ρ) 0=.ok (.val d):=(rfl)
theorem slX_o:slX (.own l::ρ) 0=.ok (.tmp l):=(rfl)
theorem qnl:slE (s::ρ) (i+1)=(slE ρ i).th λx=>.ok (x.1,s::x.2):=by
 show(match ρ[i]? with |some (.val d)=>_ |some (.own l)=>_ |_=>_)=R.th (match ρ[i]? with |some (.val d)=>_ |some (.own l)=>_ |_=>_) _
 cases ρ[i]? with
 |none=>rfl
 |some z=>cases z<;>rfl
theorem qnm:slL (s::ρ) (i+1)=(slL ρ i).th λx=>.ok (x.1,s::x.2):=by
 show(match ρ[i]? with |some (.val (.lst l))=>_ |some (.val (.tup l))=>_ |some (.val (.str z))=>_ |some (.own l)=>_ |some (.bor l)=>_ |some (.scr l)=>_ |_=>_)=R.th (match ρ[i]? with |some (.val (.lst l))=>_ |some (.val (.tup l))=>_ |some (.val (.str z))=>_ |some (.own l)=>_ |some (.bor l)=>_ |some (.scr l)=>_ |_=>_) _
 cases ρ[i]? with
 |none=>rfl
 |some z=>
  cases z with
  |val d=>cases d<;>rfl
  |_=>rfl
theorem ownI_s:zv (s::ρ) (i+1)=zv ρ i:=(rfl)
theorem ownI_o:zv (.own l::ρ) 0=some l:=(rfl)
end
mutual
noncomputable def okD:D->Bool
 |.str s=>PyData.strOk s
 |.lst l=>Qx l
 |.tup l=>Qx l
 |.ins ..=>false
 |.non=>true
 |.bl _=>true
 |.int _=>true
noncomputable def Qx:List D->Bool
 |[]=>true
 | d::l=>okD d&&Qx l
end
mutual
noncomputable def dpD:D->Nat
 |.lst l=>Qe l+1
 |.tup l=>Qe l+1
 |.str _=>0
 |.ins ..=>0
 |.non=>0
 |.bl _=>0
 |.int _=>0
noncomputable def Qe:List D->Nat
 |[]=>0
 | d::l=>max (dpD d) (Qe l)
end
mutual
theorem qhc:∀d:D,okD d=true->∃p,toP d=some p/\p.canLay0=true/\p.depth=dpD d/\PyData.eqv p p=true
 |.non,_=>⟨_,by rw[toP],by rw[PyData.canLay0],by rw[PyData.depth,dpD],by rw[PyData.eqv]⟩
 |.bl b,_=>⟨_,by rw[toP],by rw[PyData.canLay0],by rw[PyData.depth,dpD],by rw[PyData.eqv];simp⟩
 |.int n,_=>⟨_,by rw[toP],by rw[PyData.canLay0],by rw[PyData.depth,dpD],by rw[PyData.eqv];simp⟩
 |.str s,h=>⟨_,by rw[toP],by rw[PyData.canLay0];rw[okD] at h;exact h,by rw[PyData.depth,dpD],by rw[PyData.eqv];simp⟩
 |.lst l,h=>by rw[okD] at h;obtain⟨p,h1,h2,h3,h4⟩:=qbh l h;exact⟨.list p,by rw[toP,h1];rfl,by rw[PyData.canLay0];exact h2,by rw[PyData.depth,dpD,h3],by rw[PyData.eqv];exact h4⟩
 |.tup l,h=>by rw[okD] at h;obtain⟨p,h1,h2,h3,h4⟩:=qbh l h;exact⟨.tuple p,by rw[toP,h1];rfl,by rw[PyData.canLay0];exact h2,by rw[PyData.depth,dpD,h3],by rw[PyData.eqv];exact h4⟩
 |.ins ..,h=>by rw[okD] at h;cases h
theorem qbh:∀l:List D,Qx l=true->∃p,qdj l=some p/\PyData.canLayAll0 p=true/\PyData.depthAll p=Qe l/\PyData.eqvAll p p=true
 |[],_=>⟨[],by rw[qdj],by rw[PyData.canLayAll0],by rw[PyData.depthAll,Qe],by rw[PyData.eqvAll]⟩
 | d::l,h=>by rw[Qx,Bool.and_eq_true] at h;obtain⟨p,h1,h2,h3,h4⟩:=qhc d h.1;obtain⟨q,h5,h6,h7,h8⟩:=qbh l h.2;exact⟨p::q,by rw[qdj,h1,h5];rfl,by rw[PyData.canLayAll0,h2,h6];rfl,by rw[PyData.depthAll,Qe,h3,h7],by rw[PyData.eqvAll,h4,h8];rfl⟩
end
theorem qhd{d:D}(h:okD d=true)(hd:dpD d<=64):∃p,toP d=some p/\SeqAt.shaped p=true/\PyData.eqv p p=true:=by obtain⟨p,h1,h2,h3,h4⟩:=qhc d h;exact⟨p,h1,by unfold SeqAt.shaped;rw[h2,h3];simpa using hd,h4⟩
theorem Ze{d:D}(h:okD d=true)(hd:dpD d<=64):eqD d d=some true:=by obtain⟨p,h1,h2,h3⟩:=qhd h hd;unfold eqD;rw[h1];dsimp only;rw[h2,h3];rfl
theorem qiK{a b:Str}(ha:PyData.strOk a=true)(hb:PyData.strOk b=true):eqD (.str a) (.str b)=some (a == b):=by unfold eqD;simp only[toP];rw[show SeqAt.shaped (.str a)=true by unfold SeqAt.shaped;simp[PyData.canLay0,PyData.depth,ha],show SeqAt.shaped (.str b)=true by unfold SeqAt.shaped;simp[PyData.canLay0,PyData.depth,hb]];simp[PyData.eqv]
theorem qlF:SeqAt.shaped .none=true:=by unfold SeqAt.shaped;simp[PyData.canLay0,PyData.depth]
theorem qlG(n:Int):SeqAt.shaped (.int n)=true:=by unfold SeqAt.shaped;simp[PyData.canLay0,PyData.depth]
theorem qlH{a:Str}(ha:PyData.strOk a=true):SeqAt.shaped (.str a)=true:=by unfold SeqAt.shaped;simp[PyData.canLay0,PyData.depth,ha]
theorem qp(a b:Int):eqD (.int a) (.int b)=some (a == b):=by unfold eqD;simp only[toP,qlG,Bool.and_self,if_true,PyData.eqv]
theorem qlI{a:Str}(ha:PyData.strOk a=true):eqD (.str a) .non=some false:=by unfold eqD;simp only[toP,qlF,qlH ha,Bool.and_self,if_true,PyData.eqv]
theorem qbi{l:List D}(h:Qx l=true)(hd:Qe l<=63):eqD (.lst l) (.lst [])=some l.isEmpty:=by
 obtain⟨p,h1,h2,h3⟩:=qhd (d:=.lst l) (by rw[okD];exact h) (by rw[dpD];omega);unfold eqD;have e:toP (.lst [])=some (.list []):=by simp[toP,qdj]
 rw[h1,e];dsimp only;rw[h2,show SeqAt.shaped (.list [])=true by unfold SeqAt.shaped;simp[PyData.canLay0,PyData.canLayAll0,PyData.depth,PyData.depthAll]];rw[toP] at h1;obtain⟨q,h4,rfl⟩:=Option.map_eq_some_iff.mp h1
 cases l with
 |nil=>rw[qdj] at h4;cases h4;simp[PyData.eqv,PyData.eqvAll]
 |cons d l=>rw[qdj] at h4;obtain⟨x,h5,h6⟩:=Option.bind_eq_some_iff.mp h4;obtain⟨y,h7,rfl⟩:=Option.map_eq_some_iff.mp h6;simp[PyData.eqv,PyData.eqvAll]
theorem Zf{α:Type}{l:List α}{i:Int}{j:Nat}(h:i=(j:Int))(hj:j < l.length):atI l i=some l[j]:=by subst h;unfold atI ixN;rw[if_pos (1:),if_pos (1:)];simp[hj]
theorem qf8{n:Nat}:ixN (n+1) (-1)=some n:=by unfold ixN;rw[if_neg (1:),if_pos (1:),show((-1:Int)+((n+1:Nat):Int)).toNat=n by omega]
theorem kk_f(pg:Pg)(k:Nat)(f:Str)(args:List Ar):(pg.kk k).f f args=clK pg k f args:=(rfl)
theorem kk_cs(pg:Pg)(k:Nat):(pg.kk k).cs=pg.cs:=(rfl)
theorem kk_nw(pg:Pg)(k:Nat)(f:Str)(args:List Ar):(pg.kk k).nw f args=pg.nw k f args:=(rfl)
end DE
namespace DE
open PySem L2
theorem at_0{α:Type}(a:α)(l:List α):atI (a::l) 0=some a:=by exact Zf (i:=0) (j:=0) rfl (by simp)
theorem at_1{α:Type}(a b:α)(l:List α):atI (a::b::l) 1=some b:=by exact Zf (i:=1) (j:=1) rfl (by simp)
theorem at_2{α:Type}(a b c:α)(l:List α):atI (a::b::c::l) 2=some c:=by exact Zf (i:=2) (j:=2) rfl (by simp)
theorem qhe{α:Type}{l:List α}{j:Nat}{x:α}(h:l[j]?=some x):atI l (j:Int)=some x:=by obtain⟨h1,h2⟩:=List.getElem?_eq_some_iff.mp h;rw[Zf rfl h1,h2]
def enF(i:Nat):List D->List D
 |[]=>[]
 | d::l=>.tup [.int i,d]::enF (i+1) l
theorem qhf:∀(l:List D) (i:Nat),(List.range' i l.length).zipWith (λ(i:Nat) d=>D.tup [.int i,d]) l=enF i l
 |[],i=>rfl
 | d::l,i=>by rw[List.length_cons,List.range'_succ,List.zipWith_cons_cons,qhf l (i+1)];rfl
theorem y6(l:List D):Yw l=enF 0 l:=by unfold Yw;rw[List.range_eq_range',qhf]
def rgF(i:Int):Nat->List D
 |0=>[]
 | n+1=>.int i::rgF (i+1) n
theorem qhg:∀(n:Nat) (lo:Int) (s:Nat),(List.range' s n).map (λi:Nat=>D.int (lo+i))=rgF (lo+s) n
 |0,_,_=>rfl
 | n+1,lo,s=>by rw[List.range'_succ,List.map_cons,qhg n lo (s+1)];show _=D.int (lo+s)::rgF (lo+s+1) n;rw[show lo+((s+1:Nat):Int)=lo+s+1 by omega]
theorem y7(lo hi:Int):zB lo hi=rgF lo (hi - lo).toNat:=by
 unfold zB;rw[List.range_eq_range',qhg]
 congr 1
 omega
theorem ixN_app{α:Type}(l:List α)(x:α):ixN (l++[x]).length (-1)=some l.length:=by rw[List.length_append];exact qf8
theorem set_app{α:Type}(l:List α)(x y:α):(l++[x]).set l.length y=l++[y]:=by simp
theorem emp_app{α:Type}(l:List α)(x:α):(l++[x]).isEmpty=false:=by cases l<;>rfl
end DE
namespace DE
open PySem L2
theorem qc{α β γ:Type}(x:R α)(f:α->R β)(g:β->R γ):(x.th f).th g=x.th λa=>(f a).th g:=by cases x<;>rfl
theorem qf{α:Type}(x:R α):x.th R.ok=x:=by cases x<;>rfl
section
variable{β:Type}(cl:Cl)(w:Nat)
def Qa(ρ:Env)(K:Rv×Env->R β)(r:Rv):R β:=K (r,ρ)
def kBl(ρ:Env)(K:Rv×Env->R β)(b:Bool):R β:=K (.val (.bl b),ρ)
def kBo(ρ:Env)(K:Bool×Env->R β)(b:Bool):R β:=K (b,ρ)
def qnn(ρ:Env)(K:Rv×Env->R β)(l:List D):R β:=K (.tmp l,ρ)
def kB2(op:Operator)(u:Rv)(K:Rv×Env->R β)(y:Rv×Env):R β:=(qa0 op u y.1).th (Qa y.2 K)
def kB1(op:Operator)(b:E)(K:Rv×Env->R β)(x:Rv×Env):R β:=(iR cl b x.2).th (kB2 op x.1 K)
noncomputable def qnL(K:Rv×Env->R β)(x:Rv×Env):R β:=R.th (match x.1 with
  |.val (.int i)=>.ok (.val (.int (-i)),x.2)
  |_=>.no) K
noncomputable def qnM(K:Rv×Env->R β)(x:Rv×Env):R β:=R.th (match x.1 with
  |.val (.bl b)=>.ok (.val (.bl (!b)),x.2)
  |_=>.no) K
noncomputable def qnN(b:E)(K:Rv×Env->R β)(x:Rv×Env):R β:=R.th (match x.1 with
  |.val (.bl true)=>iR cl b x.2
  |.val (.bl false)=>.ok (.val (.bl false),x.2)
  |_=>.no) K
def kC2(op:CmpOp)(u:Rv)(K:Rv×Env->R β)(y:Rv×Env):R β:=(R.of (Yu op u y.1)).th (kBl y.2 K)
def kC1(op:CmpOp)(b:E)(K:Rv×Env->R β)(x:Rv×Env):R β:=(iR cl b x.2).th (kC2 op x.1 K)
noncomputable def kIf(a b:E)(K:Rv×Env->R β)(t:Bool×Env):R β:=if t.1=true then (iR cl a t.2).th K else (iR cl b t.2).th K
def kI2(u:Rv)(K:Rv×Env->R β)(y:Rv×Env):R β:=(idxD u y.1).th (Qa y.2 K)
def kI1(b:E)(K:Rv×Env->R β)(x:Rv×Env):R β:=(iR cl b x.2).th (kI2 x.1 K)
noncomputable def kS3(v:Rv)(l:Option Int)(K:Rv×Env->R β)(h:Option Int×Env):R β:=(sliceD v l h.1).th (Qa h.2 K)
def kS2(v:Rv)(hi:O)(K:Rv×Env->R β)(l:Option Int×Env):R β:=(iO cl hi l.2).th (kS3 v l.1 K)
def kS1(lo hi:O)(K:Rv×Env->R β)(x:Rv×Env):R β:=(iO cl lo x.2).th (kS2 cl x.1 hi K)
def qnO(K:Rv×Env->R β)(x:List D×Env):R β:=if x.1.length<=sizeLine then K (.tmp x.1,x.2) else .no
noncomputable def qnP(K:Rv×Env->R β)(x:List D×Env):R β:=if x.1.length<=sizeLine then K (.val (.tup x.1),x.2) else .no
def qnQ(K:Rv×Env->R β)(x:Rv×Env):R β:=(R.of x.1.list?).th λl=>K (.tmp l.reverse,x.2)
def qlJ(f:Str)(K:Rv×Env->R β)(x:List D×Env):R β:=(cl f (x.1.map .val)).th (Qa x.2 K)
def qlK(f:Str)(K:Rv×Env->R β)(x:List Ar×Env):R β:=(cl f x.1).th (Qa x.2 K)
def kF1(f:B1)(K:Rv×Env->R β)(x:Rv×Env):R β:=(f.go x.1).th (Qa x.2 K)
def kG2(f:B2)(u:Rv)(K:Rv×Env->R β)(y:Rv×Env):R β:=(f.go u y.1).th (Qa y.2 K)
def kG1(f:B2)(b:E)(K:Rv×Env->R β)(x:Rv×Env):R β:=(iR cl b x.2).th (kG2 f x.1 K)
def qnR(t:Str)(K:Rv×Env->R β)(x:Rv×Env):R β:=(R.of (qgW cl.cs x.1 t)).th (kBl x.2 K)
def qno(ρ:Env)(K:Rv×Env->R β)(d:D):R β:=K (.val d,ρ)
def qnS(x:Str)(K:Rv×Env->R β)(y:Rv×Env):R β:=(R.of (qd0 cl.cs y.1 x)).th (qno y.2 K)
def qnp(f:Str)(v:Rv)(K:Rv×Env->R β)(z:List Ar×Env):R β:=(cl f (toAr v::z.1)).th (Qa z.2 K)
def qnq(v:Rv)(l:Es)(ρ:Env)(K:Rv×Env->R β)(f:Str):R β:=(iAs cl l ρ).th (qnp cl f v K)
def qnr(v:Rv)(K:Rv×Env->R β)(z:List Ar×Env):R β:=(ixM v z.1).th (Qa z.2 K)
noncomputable def qlL(x:Str)(v:Rv)(l:Es)(ρ:Env)(K:Rv×Env->R β)(o:Option Str):R β:=match o with
 |some f=>qnq cl v l ρ K f
 |none=>if x = "index" then (iAs cl l ρ).th (qnr v K) else .no
def qns(x:Str)(l:Es)(K:Rv×Env->R β)(y:Rv×Env):R β:=qlL cl x y.1 l y.2 K (mtD cl.cs y.1 x)
def qnT(f:Str)(K:Rv×Env->R β)(x:List Ar×Env):R β:=(cl.nw f x.1).th (Qa x.2 K)
def qnU(t:Ty)(K:Rv×Env->R β)(x:Rv×Env):R β:=(R.of (t.go x.1)).th (kBl x.2 K)
noncomputable def qlM(e:E)(tg:Tg)(c:F)(n:Nat)(fr:List Nat)(K:Rv×Env->R β)(x:List D×Env):R β:=if x.1.length<=sizeLine then (zt cl e tg c x.1 (Qt n fr x.2) []).th (qnn x.2 K) else .no
def kTn(K:Bool×Env->R β)(t:Bool×Env):R β:=K (!t.1,t.2)
noncomputable def kTa(b:T)(K:Bool×Env->R β)(t:Bool×Env):R β:=if t.1=true then (iT cl b t.2).th K else K (false,t.2)
noncomputable def kTo(b:T)(K:Bool×Env->R β)(t:Bool×Env):R β:=if t.1=true then K (true,t.2) else (iT cl b t.2).th K
def kD2(op:CmpOp)(u:Rv)(K:Bool×Env->R β)(y:Rv×Env):R β:=(R.of (Yu op u y.1)).th (kBo y.2 K)
def kD1(op:CmpOp)(b:E)(K:Bool×Env->R β)(x:Rv×Env):R β:=(iR cl b x.2).th (kD2 op x.1 K)
def kTv(K:Bool×Env->R β)(x:Rv×Env):R β:=(R.of (truthD x.1)).th (kBo x.2 K)
def kE2(d:D)(K:List D×Env->R β)(y:List D×Env):R β:=K (d::y.1,y.2)
def kE1(l:Es)(K:List D×Env->R β)(x:D×Env):R β:=(iEs cl l x.2).th (kE2 x.1 K)
def kA2(v:Rv)(K:List Ar×Env->R β)(y:List Ar×Env):R β:=K (toAr v::y.1,y.2)
def kA1(l:Es)(K:List Ar×Env->R β)(x:Rv×Env):R β:=(iAs cl l x.2).th (kA2 x.1 K)
noncomputable def kO(K:Option Int×Env->R β)(x:Rv×Env):R β:=R.th (match x.1 with
  |.val (.int i)=>.ok (some i,x.2)
  |_=>.no) K
def qnV(K:List D×Env->R β)(x:(Sk×List D)×Env):R β:=K (x.1.2,x.2)
noncomputable def qnW(K:List D×Env->R β)(x:Rv×Env):R β:=R.th (match x.1.int? with
  |some n=>if qD n=true then .ok (zB 0 n,x.2) else .no
  |none=>.no) K
noncomputable def kR2(u:Rv)(K:List D×Env->R β)(y:Rv×Env):R β:=R.th (match u.int?,y.1.int? with
  |some i,some j=>if qD i=true/\qD j=true then .ok (zB i j,y.2) else .no
  |_,_=>.no) K
def kR1(b:E)(K:List D×Env->R β)(x:Rv×Env):R β:=(iR cl b x.2).th (kR2 x.1 K)
noncomputable def qlN(K:List D×Env->R β)(x:(Sk×List D)×Env):R β:=R.th (match x.1.1 with |.lst=>.ok (Yw x.1.2,x.2) |_=>.no) K
noncomputable def qnX(K:List D×Env->R β)(x:(Sk×List D)×Env):R β:=R.th (match x.1.1 with |.lst=>.ok (x.1.2.reverse,x.2) |_=>.no) K
noncomputable def kZ2(x:Sk×List D)(K:List D×Env->R β)(y:(Sk×List D)×Env):R β:=R.th (match x.1,y.1.1 with |.lst,.lst=>.ok (qcS x.2 y.1.2,y.2) |_,_=>.no) K
def kZ1(b:E)(K:List D×Env->R β)(x:(Sk×List D)×Env):R β:=(j6 b (iR cl b) x.2).th (kZ2 x.1 K)
def qfk(K:D×Env->R β)(x:Rv×Env):R β:=(qd2 x).th K
def Zg(K:(Sk×List D)×Env->R β)(x:Rv×Env):R β:=(qgZ x).th K
noncomputable def kX(K:Rv->R β)(x:Rv×Env):R β:=R.th (match x.1 with
  |.val d=>.ok (.val d)
  |.tmp l=>.ok (.tmp l)
  |_=>.no) K
def kAv(K:Sl×Env->R β)(x:D×Env):R β:=K (.val x.1,x.2)
noncomputable def kAx(K:Sl×Env->R β)(x:Rv×Env):R β:=R.th (match x.1 with
  |.val d=>.ok (.val d,x.2)
  |.tmp l=>.ok (.own l,x.2)
  |_=>.no) K
def qiL{α:Type}(s:Sl)(K:α×Env->R β)(x:α×Env):R β:=K (x.1,s::x.2)
def qlO(K:Fl->R β)(x:Rv×Env):R β:=K (.next x.2)
def oGo(o:Option (List D))(x:R β):R β:=match o with
 |none=>.no
 |some _=>x
noncomputable def qiM(i:Nat)(d:D)(ρ:Env)(K:Fl->R β)(o:Option (List D)):R β:=R.th (match o with
   |some l=>if l.length < sizeLine then .ok (.next (ρ.set i (.own (l++[d])))) else .no
   |none=>.no) K
def qnY(i:Nat)(K:Fl->R β)(y:D×Env):R β:=qiM i y.1 y.2 K (zv y.2 i)
noncomputable def qiN(i:Nat)(ρ:Env)(K:Fl->R β)(o p:Option (List D)):R β:=R.th (match o,p with
   |some l,some n=>if l.length+n.length<=sizeLine then .ok (.next (ρ.set i (.own (l++n)))) else .no
   |_,_=>.no) K
def qnZ(i:Nat)(K:Fl->R β)(y:Rv×Env):R β:=qiN i y.2 K (zv y.2 i) y.1.plain?
def kRt(K:Fl->R β)(r:Rv):R β:=K (.ret r)
def qn0(i:Nat)(K:Fl->R β)(s:Sl×Env):R β:=K (.next (s.2.set i s.1))
noncomputable def qnt(i:Nat)(d:D)(ρ:Env)(K:Fl->R β)(l:List D)(o:Option Nat):R β:=R.th (match o with
    |some k=>.ok (.next (ρ.set i (.own (l.set k d))))
    |none=>.no) K
noncomputable def qmC(i:Nat)(d:D)(ρ:Env)(K:Fl->R β)(o:Option (List D))(v:Option Int):R β:=match o,v with
 |some l,some n=>qnt i d ρ K l (ixN l.length n)
 |_,_=>.no
def qnu(i:Nat)(d:D)(K:Fl->R β)(z:Rv×Env):R β:=qmC i d z.2 K (zv z.2 i) z.1.int?
def kSI(i:Nat)(x:E)(K:Fl->R β)(y:D×Env):R β:=oGo (zv y.2 i) ((iR cl x y.2).th (qnu i y.1 K))
noncomputable def qn1(a b:Ss)(K:Fl->R β)(t:Bool×Env):R β:=if t.1=true then (iSs cl w a t.2).th K else (iSs cl w b t.2).th K
def qn2(tg:Tg)(b:Ss)(K:Fl->R β)(x:List D×Env):R β:=(jN cl w tg b x.1 x.2).th K
def qiO(l:Ss)(K:Fl->R β)(f:Fl):R β:=(qcX f λρ1=>iSs cl w l ρ1).th K
def qmD(tg:Tg)(b:Ss)(l:List D)(K:Fl->R β)(f:Fl):R β:=(qcX f λρ1=>jN cl w tg b l ρ1).th K
def qn3(tg:Tg)(b:Ss)(l:List D)(K:Fl->R β)(ρ:Env):R β:=(iSs cl w b ρ).th (qmD cl w tg b l K)
def qnv(c:T)(b:Ss)(n:Nat)(K:Fl->R β)(f:Fl):R β:=(qcX f λρ1=>whD cl w c b n ρ1).th K
noncomputable def qn4(c:T)(b:Ss)(n:Nat)(K:Fl->R β)(t:Bool×Env):R β:=if t.1=true then (iSs cl w b t.2).th (qnv cl w c b n K) else K (.next t.2)
noncomputable def kP3(e:E)(tg:Tg)(c:F)(l acc:List D)(K:List D->R β)(x:D×Env):R β:=if acc.length < sizeLine then (zt cl e tg c l x.2 (acc++[x.1])).th K else .no
noncomputable def kP2(e:E)(tg:Tg)(c:F)(l acc:List D)(K:List D->R β)(t:Bool×Env):R β:=if t.1=true then (zC e (iR cl e) t.2).th (kP3 cl e tg c l acc K) else (zt cl e tg c l t.2 acc).th K
noncomputable def kP1(e:E)(tg:Tg)(c:F)(l acc:List D)(K:List D->R β)(ρ:Env):R β:=(iF cl c ρ).th (kP2 cl e tg c l acc K)
theorem zD{α:Type}{c:Prop}[Decidable c](x y:R α)(K:α->R β):(if c then x else y).th K=if c then x.th K else y.th K:=by split<;>rfl
theorem qz{α:Type}(x:R α){f g:α->R β}(h:∀a,f a=g a):x.th f=x.th g:=by cases x<;>first | rfl | exact h _
section
variable(ρ:Env)(K:Rv×Env->R β)
theorem xR_var(i:Nat):(iR cl (.var i) ρ).th K=(slR ρ i).th (Qa ρ K):=(qc (slR ρ i) _ _)
theorem xR_con(d:D):(iR cl (.con d) ρ).th K=K (.val d,ρ):=(rfl)
theorem xR_bin(op:Operator)(a b:E):(iR cl (.bin op a b) ρ).th K=(iR cl a ρ).th (kB1 cl op b K):=by rw[qlh,qc];refine qz _ λx=>?_;rw[qc];refine qz _ λy=>?_;rw[qc];rfl
theorem xR_neg(a:E):(iR cl (.neg a) ρ).th K=(iR cl a ρ).th (qnL K):=by rw[qli,qc];rfl
theorem xR_not(a:E):(iR cl (.not a) ρ).th K=(iR cl a ρ).th (qnM K):=by rw[qlj,qc];rfl
theorem xR_one(a:E):(iR cl (.one a) ρ).th K=(iR cl a ρ).th K:=(rfl)
theorem xR_and(a b:E):(iR cl (.and a b) ρ).th K=(iR cl a ρ).th (qnN cl b K):=by rw[qlk,qc];rfl
theorem xR_cmp(op:CmpOp)(a b:E):(iR cl (.cmp op a b) ρ).th K=(iR cl a ρ).th (kC1 cl op b K):=by rw[qll,qc];refine qz _ λx=>?_;rw[qc];refine qz _ λy=>?_;rw[qc];rfl
theorem xR_ite(c:T)(a b:E):(iR cl (.ite c a b) ρ).th K=(iT cl c ρ).th (kIf cl a b K):=by rw[qlm,qc];refine qz _ λt=>?_;rw[zD];rfl
theorem xR_idx(a b:E):(iR cl (.idx a b) ρ).th K=(iR cl a ρ).th (kI1 cl b K):=by rw[qln,qc];refine qz _ λx=>?_;rw[qc];refine qz _ λy=>?_;rw[qc];rfl
theorem xR_sli(a:E)(lo hi:O):(iR cl (.sli a lo hi) ρ).th K=(iR cl a ρ).th (kS1 cl lo hi K):=by rw[qlo,qc];refine qz _ λx=>?_;rw[qc];refine qz _ λy=>?_;rw[qc];refine qz _ λz=>?_;rw[qc];rfl
theorem xR_lst(l:Es):(iR cl (.lst l) ρ).th K=(iEs cl l ρ).th (qnO K):=by rw[qlp,qc];refine qz _ λx=>?_;rw[zD];rfl
theorem xR_tup(l:Es):(iR cl (.tup l) ρ).th K=(iEs cl l ρ).th (qnP K):=by rw[qlq,qc];refine qz _ λx=>?_;rw[zD];rfl
theorem xR_rvs(a:E):(iR cl (.rvs a) ρ).th K=(iR cl a ρ).th (qnQ K):=by rw[qlr,qc];refine qz _ λx=>?_;rw[qc];rfl
theorem xR_calF(f:Str)(l:Es):(iR cl (.calF f l) ρ).th K=(iEs cl l ρ).th (qlJ cl f K):=by rw[qiE,qc];refine qz _ λx=>?_;rw[qc];rfl
theorem xR_call(f:Str)(l:Es):(iR cl (.call f l) ρ).th K=(iAs cl l ρ).th (qlK cl f K):=by rw[qiF,qc];refine qz _ λx=>?_;rw[qc];rfl
theorem xR_b1(f:B1)(a:E):(iR cl (.b1 f a) ρ).th K=(iR cl a ρ).th (kF1 f K):=by rw[qni,qc];refine qz _ λx=>?_;rw[qc];rfl
theorem xR_b2(f:B2)(a b:E):(iR cl (.b2 f a b) ρ).th K=(iR cl a ρ).th (kG1 cl f b K):=by rw[qnj,qc];refine qz _ λx=>?_;rw[qc];refine qz _ λy=>?_;rw[qc];rfl
theorem xR_isc(t:Str)(a:E):(iR cl (.isc t a) ρ).th K=(iR cl a ρ).th (qnR cl t K):=by rw[qlt,qc];refine qz _ λx=>?_;rw[qc];rfl
theorem xR_fld(a:E)(x:Str):(iR cl (.fld a x) ρ).th K=(iR cl a ρ).th (qnS cl x K):=by rw[qlu,qc];refine qz _ λy=>?_;rw[qc];rfl
theorem xR_met(a:E)(x:Str)(l:Es):(iR cl (.met a x l) ρ).th K=(iR cl a ρ).th (qns cl x l K):=by
 rw[qlv,qc];refine qz _ λy=>?_;unfold qns
 cases mtD cl.cs y.1 x with
 |some f=>unfold goM;rw[qc];refine qz _ λz=>?_;rw[qc];rfl
 |none=>
  show(if x = "index" then _ else R.no).th K=if x = "index" then _ else R.no;rw[zD];split
  ·rw[qc];refine qz _ λz=>?_;rw[qc];rfl
  ·rfl
theorem xR_new(f:Str)(l:Es):(iR cl (.new f l) ρ).th K=(iAs cl l ρ).th (qnT cl f K):=by rw[qlw,qc];refine qz _ λx=>?_;rw[qc];rfl
theorem xR_isi(t:Ty)(a:E):(iR cl (.isi t a) ρ).th K=(iR cl a ρ).th (qnU t K):=by rw[qls,qc];refine qz _ λx=>?_;rw[qc];rfl
theorem xR_comp(e:E)(src:I)(tg:Tg)(c:F)(n:Nat)(fr:List Nat):(iR cl (.comp e src tg c n fr) ρ).th K=(iI cl src ρ).th (qlM cl e tg c n fr K):=by rw[qiG,qc];refine qz _ λx=>?_;rw[zD,qc];rfl
end
section
variable(ρ:Env)(K:Rv×Env->R β)(v u:Rv)
theorem yRet:Qa ρ K v=K (v,ρ):=(rfl)
theorem yBl(b:Bool):kBl ρ K b=K (.val (.bl b),ρ):=(rfl)
theorem yTmp(l:List D):qnn ρ K l=K (.tmp l,ρ):=(rfl)
theorem yB1(op:Operator)(b:E):kB1 cl op b K (v,ρ)=(iR cl b ρ).th (kB2 op v K):=(rfl)
theorem yB2(op:Operator):kB2 op u K (v,ρ)=(qa0 op u v).th (Qa ρ K):=(rfl)
theorem yNeg(i:Int):qnL K (.val (.int i),ρ)=K (.val (.int (-i)),ρ):=(rfl)
theorem yNot(b:Bool):qnM K (.val (.bl b),ρ)=K (.val (.bl (!b)),ρ):=(rfl)
theorem yAnd(b:E)(t:Bool):qnN cl b K (.val (.bl t),ρ)=if t=true then (iR cl b ρ).th K else K (.val (.bl false),ρ):=by cases t<;>rfl
theorem yC1(op:CmpOp)(b:E):kC1 cl op b K (v,ρ)=(iR cl b ρ).th (kC2 op v K):=(rfl)
theorem yC2(op:CmpOp):kC2 op u K (v,ρ)=(R.of (Yu op u v)).th (kBl ρ K):=(rfl)
theorem yIf(a b:E)(t:Bool):kIf cl a b K (t,ρ)=if t=true then (iR cl a ρ).th K else (iR cl b ρ).th K:=(rfl)
theorem yI1(b:E):kI1 cl b K (v,ρ)=(iR cl b ρ).th (kI2 v K):=(rfl)
theorem yI2:kI2 u K (v,ρ)=(idxD u v).th (Qa ρ K):=(rfl)
theorem yS1(lo hi:O):kS1 cl lo hi K (v,ρ)=(iO cl lo ρ).th (kS2 cl v hi K):=(rfl)
theorem yS2(hi:O)(l:Option Int):kS2 cl v hi K (l,ρ)=(iO cl hi ρ).th (kS3 v l K):=(rfl)
theorem yS3(l h:Option Int):kS3 v l K (h,ρ)=(sliceD v l h).th (Qa ρ K):=(rfl)
theorem yLst(l:List D):qnO K (l,ρ)=if l.length<=sizeLine then K (.tmp l,ρ) else .no:=(rfl)
theorem yTup(l:List D):qnP K (l,ρ)=if l.length<=sizeLine then K (.val (.tup l),ρ) else .no:=(rfl)
theorem yRvs_v(l:List D):qnQ K (.val (.lst l),ρ)=K (.tmp l.reverse,ρ):=(rfl)
theorem yCalF(f:Str)(l:List D):qlJ cl f K (l,ρ)=(cl f (l.map .val)).th (Qa ρ K):=(rfl)
theorem yCall(f:Str)(l:List Ar):qlK cl f K (l,ρ)=(cl f l).th (Qa ρ K):=(rfl)
theorem yF1(f:B1):kF1 f K (v,ρ)=(f.go v).th (Qa ρ K):=(rfl)
theorem yG1(f:B2)(b:E):kG1 cl f b K (v,ρ)=(iR cl b ρ).th (kG2 f v K):=(rfl)
theorem yG2(f:B2):kG2 f u K (v,ρ)=(f.go u v).th (Qa ρ K):=(rfl)
theorem yIsc(t:Str):qnR cl t K (v,ρ)=(R.of (qgW cl.cs v t)).th (kBl ρ K):=(rfl)
theorem yDat(d:D):qno ρ K d=K (.val d,ρ):=(rfl)
theorem yFld(x:Str):qnS cl x K (v,ρ)=(R.of (qd0 cl.cs v x)).th (qno ρ K):=(rfl)
theorem yMt3(f:Str)(l:List Ar):qnp cl f v K (l,ρ)=(cl f (toAr v::l)).th (Qa ρ K):=(rfl)
theorem yMt2(f:Str)(l:Es):qnq cl v l ρ K f=(iAs cl l ρ).th (qnp cl f v K):=(rfl)
theorem yMt1(x:Str)(l:Es):qns cl x l K (v,ρ)=qlL cl x v l ρ K (mtD cl.cs v x):=(rfl)
theorem yMtO(x:Str)(l:Es)(f:Str):qlL cl x v l ρ K (some f)=qnq cl v l ρ K f:=(rfl)
theorem yMtN(l:Es):qlL cl "index" v l ρ K none=(iAs cl l ρ).th (qnr v K):=by unfold qlL;exact if_pos rfl
theorem yMtI(l:List Ar):qnr v K (l,ρ)=(ixM v l).th (Qa ρ K):=(rfl)
theorem yMtv(cs:Cs)(l:List D)(x:Str):mtD cs (.val (.lst l)) x=none:=(rfl)
theorem yNew(f:Str)(l:List Ar):qnT cl f K (l,ρ)=(cl.nw f l).th (Qa ρ K):=(rfl)
theorem yIsi(t:Ty):qnU t K (v,ρ)=(R.of (t.go v)).th (kBl ρ K):=(rfl)
theorem yComp(e:E)(tg:Tg)(c:F)(n:Nat)(fr:List Nat)(l:List D):qlM cl e tg c n fr K (l,ρ)=if l.length<=sizeLine then (zt cl e tg c l (Qt n fr ρ) []).th (qnn ρ K) else .no:=(rfl)
end
section
variable(ρ:Env)(K:Bool×Env->R β)(v u:Rv)(t:Bool)
theorem xT_not(a:T):(iT cl (.not a) ρ).th K=(iT cl a ρ).th (kTn K):=by rw[qlx,qc];rfl
theorem xT_one(a:T):(iT cl (.one a) ρ).th K=(iT cl a ρ).th K:=(rfl)
theorem xT_and(a b:T):(iT cl (.and a b) ρ).th K=(iT cl a ρ).th (kTa cl b K):=by rw[qly,qc];refine qz _ λt=>?_;rw[zD];rfl
theorem xT_or(a b:T):(iT cl (.or a b) ρ).th K=(iT cl a ρ).th (kTo cl b K):=by rw[qnk,qc];refine qz _ λt=>?_;rw[zD];rfl
theorem xT_cmp(op:CmpOp)(a b:E):(iT cl (.cmp op a b) ρ).th K=(iR cl a ρ).th (kD1 cl op b K):=by rw[qlz,qc];refine qz _ λx=>?_;rw[qc];refine qz _ λy=>?_;rw[qc];rfl
theorem xT_val(a:E):(iT cl (.val a) ρ).th K=(iR cl a ρ).th (kTv K):=by rw[qlA,qc];refine qz _ λx=>?_;rw[qc];rfl
theorem yBo:kBo ρ K t=K (t,ρ):=(rfl)
theorem yTn:kTn K (t,ρ)=K (!t,ρ):=(rfl)
theorem yTa(b:T):kTa cl b K (t,ρ)=if t=true then (iT cl b ρ).th K else K (false,ρ):=(rfl)
theorem yTo(b:T):kTo cl b K (t,ρ)=if t=true then K (true,ρ) else (iT cl b ρ).th K:=(rfl)
theorem yD1(op:CmpOp)(b:E):kD1 cl op b K (v,ρ)=(iR cl b ρ).th (kD2 op v K):=(rfl)
theorem yD2(op:CmpOp):kD2 op u K (v,ρ)=(R.of (Yu op u v)).th (kBo ρ K):=(rfl)
theorem yTv:kTv K (v,ρ)=(R.of (truthD v)).th (kBo ρ K):=(rfl)
theorem xF_yes:(iF cl .yes ρ).th K=K (true,ρ):=(rfl)
theorem xF_test(c:T):(iF cl (.test c) ρ).th K=(iT cl c ρ).th K:=(rfl)
end
section
variable(ρ:Env)
theorem xEs_nil(K:List D×Env->R β):(iEs cl .nil ρ).th K=K ([],ρ):=(rfl)
theorem xEs_cons(K:List D×Env->R β)(e:E)(l:Es):(iEs cl (.cons e l) ρ).th K=(zC e (iR cl e) ρ).th (kE1 cl l K):=by rw[qf6,qc];refine qz _ λx=>?_;rw[qc];rfl
theorem yE1(K:List D×Env->R β)(l:Es)(d:D):kE1 cl l K (d,ρ)=(iEs cl l ρ).th (kE2 d K):=(rfl)
theorem yE2(K:List D×Env->R β)(d:D)(ds:List D):kE2 d K (ds,ρ)=K (d::ds,ρ):=(rfl)
theorem xAs_nil(K:List Ar×Env->R β):(iAs cl .nil ρ).th K=K ([],ρ):=(rfl)
theorem xAs_cons(K:List Ar×Env->R β)(e:E)(l:Es):(iAs cl (.cons e l) ρ).th K=(iR cl e ρ).th (kA1 cl l K):=by rw[qf7,qc];refine qz _ λx=>?_;rw[qc];rfl
theorem yA1(K:List Ar×Env->R β)(l:Es)(v:Rv):kA1 cl l K (v,ρ)=(iAs cl l ρ).th (kA2 v K):=(rfl)
theorem yA2(K:List Ar×Env->R β)(v:Rv)(l:List Ar):kA2 v K (l,ρ)=K (toAr v::l,ρ):=(rfl)
theorem xO_none(K:Option Int×Env->R β):(iO cl .none ρ).th K=K (none,ρ):=(rfl)
theorem xO_some(K:Option Int×Env->R β)(e:E):(iO cl (.some e) ρ).th K=(iR cl e ρ).th (kO K):=by rw[qiH,qc];rfl
theorem yO(K:Option Int×Env->R β)(i:Int):kO K (.val (.int i),ρ)=K (some i,ρ):=(rfl)
variable(K:List D×Env->R β)
theorem xI_seq(a:E):(iI cl (.seq a) ρ).th K=(j6 a (iR cl a) ρ).th (qnV K):=by rw[qlB,qc];rfl
theorem xI_rng(a:E):(iI cl (.rng a) ρ).th K=(iR cl a ρ).th (qnW K):=by rw[qlC,qc];rfl
theorem xI_rng2(a b:E):(iI cl (.rng2 a b) ρ).th K=(iR cl a ρ).th (kR1 cl b K):=by rw[qiI,qc];refine qz _ λx=>?_;rw[qc];rfl
theorem xI_rev(a:E):(iI cl (.rev a) ρ).th K=(j6 a (iR cl a) ρ).th (qnX K):=by rw[qlD,qc];rfl
theorem xI_enum(a:E):(iI cl (.enum a) ρ).th K=(j6 a (iR cl a) ρ).th (qlN K):=by rw[qiJ,qc];rfl
theorem xI_zip(a b:E):(iI cl (.zip a b) ρ).th K=(j6 a (iR cl a) ρ).th (kZ1 cl b K):=by rw[qlE,qc];refine qz _ λx=>?_;rw[qc];rfl
theorem ySeq(s:Sk)(l:List D):qnV K ((s,l),ρ)=K (l,ρ):=(rfl)
theorem yRng(n:Int):qnW K (.val (.int n),ρ)=if qD n=true then K (zB 0 n,ρ) else .no:=by show R.th (if qD n=true then _ else _) K=_;rw[zD];rfl
theorem yR1(b:E)(v:Rv):kR1 cl b K (v,ρ)=(iR cl b ρ).th (kR2 v K):=(rfl)
theorem yR2(i j:Int):kR2 (.val (.int i)) K (.val (.int j),ρ)=if qD i=true/\qD j=true then K (zB i j,ρ) else .no:=by show R.th (if qD i=true/\qD j=true then _ else _) K=_;rw[zD];rfl
theorem yRev(l:List D):qnX K ((.lst,l),ρ)=K (l.reverse,ρ):=(rfl)
theorem yEnum(l:List D):qlN K ((.lst,l),ρ)=K (Yw l,ρ):=(rfl)
theorem yZ1(b:E)(x:Sk×List D):kZ1 cl b K (x,ρ)=(j6 b (iR cl b) ρ).th (kZ2 x K):=(rfl)
theorem yZ2(l n:List D):kZ2 (.lst,l) K ((.lst,n),ρ)=K (qcS l n,ρ):=(rfl)
end
section
variable(ρ:Env)(s:Sl)(i:Nat)(d:D)(l:List D)
theorem yVal(K:D×Env->R β):qfk K (.val d,ρ)=K (d,ρ):=(rfl)
theorem yValt(K:D×Env->R β):qfk K (.tmp l,ρ)=K (.lst l,ρ):=(rfl)
theorem yValL(K:(Sk×List D)×Env->R β):Zg K (.val (.lst l),ρ)=K ((.lst,l),ρ):=(rfl)
theorem yValLt(K:(Sk×List D)×Env->R β):Zg K (.val (.tup l),ρ)=K ((.tup,l),ρ):=(rfl)
theorem yValLs(K:(Sk×List D)×Env->R β)(z:Str):Zg K (.val (.str z),ρ)=K ((.str,qdi z),ρ):=(rfl)
theorem yValLm(K:(Sk×List D)×Env->R β):Zg K (.tmp l,ρ)=K ((.lst,l),ρ):=(rfl)
theorem yX(K:Rv->R β):kX K (.val d,ρ)=K (.val d):=(rfl)
theorem yXt(K:Rv->R β):kX K (.tmp l,ρ)=K (.tmp l):=(rfl)
theorem yAv(K:Sl×Env->R β):kAv K (d,ρ)=K (.val d,ρ):=(rfl)
theorem yAx(K:Sl×Env->R β):kAx K (.val d,ρ)=K (.val d,ρ):=(rfl)
theorem yAxt(K:Sl×Env->R β):kAx K (.tmp l,ρ)=K (.own l,ρ):=(rfl)
theorem yCons{α:Type}(K:α×Env->R β)(x:α):qiL s K (x,ρ)=K (x,s::ρ):=(rfl)
theorem xE_s(K:D×Env->R β):(slE (s::ρ) (i+1)).th K=(slE ρ i).th (qiL s K):=by rw[qnl,qc];rfl
theorem xE_v(K:D×Env->R β):(slE (.val d::ρ) 0).th K=K (d,.val d::ρ):=(rfl)
theorem xE_o(K:D×Env->R β):(slE (.own l::ρ) 0).th K=K (.lst l,.val (.lst l)::ρ):=(rfl)
variable(K:(Sk×List D)×Env->R β)
theorem xL_s:(slL (s::ρ) (i+1)).th K=(slL ρ i).th (qiL s K):=by rw[qnm,qc];rfl
theorem xL_l:(slL (.val (.lst l)::ρ) 0).th K=K ((.lst,l),.val (.lst l)::ρ):=(rfl)
theorem xL_z(z:Str):(slL (.val (.str z)::ρ) 0).th K=K ((.str,qdi z),.val (.str z)::ρ):=(rfl)
theorem xL_o:(slL (.own l::ρ) 0).th K=K ((.lst,l),.val (.lst l)::ρ):=(rfl)
theorem xL_b:(slL (.bor l::ρ) 0).th K=K ((.lst,l),.bor l::ρ):=(rfl)
end
section
variable(ρ:Env)(K:Fl->R β)(i:Nat)
theorem xS_expr(e:E):(iS cl w (.expr e) ρ).th K=(iR cl e ρ).th (qlO K):=by rw[qiC,qc];rfl
theorem yExpr(v:Rv):qlO K (v,ρ)=K (.next ρ):=(rfl)
theorem oGo_some(l:List D)(x:R β):oGo (some l) x=x:=(rfl)
theorem xS_app(e:E):(iS cl w (.app i e) ρ).th K=oGo (zv ρ i) ((zC e (iR cl e) ρ).th (qnY i K)):=by
 rw[qlb]
 cases zv ρ i with
 |none=>rfl
 |some l=>show R.th (R.th (zC e (iR cl e) ρ) _) K=_;rw[qc];rfl
theorem yApp(d:D):qnY i K (d,ρ)=qiM i d ρ K (zv ρ i):=(rfl)
theorem yApp2(d:D)(l:List D):qiM i d ρ K (some l)=if l.length < sizeLine then K (.next (ρ.set i (.own (l++[d])))) else .no:=by show R.th (if l.length < sizeLine then _ else _) K=_;rw[zD];rfl
theorem xS_ext(e:E):(iS cl w (.ext i e) ρ).th K=oGo (zv ρ i) ((iR cl e ρ).th (qnZ i K)):=by
 rw[qlc]
 cases zv ρ i with
 |none=>rfl
 |some l=>show R.th (R.th (iR cl e ρ) _) K=_;rw[qc];rfl
theorem yExt(v:Rv):qnZ i K (v,ρ)=qiN i ρ K (zv ρ i) v.plain?:=(rfl)
theorem yExt2(l n:List D):qiN i ρ K (some l) (some n)=if l.length+n.length<=sizeLine then K (.next (ρ.set i (.own (l++n)))) else .no:=by show R.th (if l.length+n.length<=sizeLine then _ else _) K=_;rw[zD];rfl
theorem xS_ret(e:E):(iS cl w (.ret e) ρ).th K=(qa1 e (iR cl e) ρ).th (kRt K):=by rw[qld,qc];rfl
theorem yRt(r:Rv):kRt K r=K (.ret r):=(rfl)
theorem xS_set(e:E):(iS cl w (.set i e) ρ).th K=(J2 e (iR cl e) ρ).th (qn0 i K):=by rw[qle,qc];rfl
theorem ySet(s:Sl):qn0 i K (s,ρ)=K (.next (ρ.set i s)):=(rfl)
theorem xS_setI(x e:E):(iS cl w (.setI i x e) ρ).th K=(zC e (iR cl e) ρ).th (kSI cl i x K):=by
 rw[qiD,qc];refine qz _ λy=>?_;show R.th (match zv y.2 i with |none=>_ |some _=>_) K=oGo (zv y.2 i) _
 cases zv y.2 i with
 |none=>rfl
 |some l=>
  show R.th (R.th (iR cl x y.2) _) K=R.th _ _;rw[qc];refine qz _ λz=>?_;show R.th (match zv z.2 i,z.1.int? with |some l,some n=>_ |_,_=>_) K=qmC i y.1 z.2 K (zv z.2 i) z.1.int?
  cases zv z.2 i with
  |none=>rfl
  |some l=>cases z.1.int?<;>rfl
theorem ySI(x:E)(d:D):kSI cl i x K (d,ρ)=oGo (zv ρ i) ((iR cl x ρ).th (qnu i d K)):=(rfl)
theorem ySI2(d:D)(v:Rv):qnu i d K (v,ρ)=qmC i d ρ K (zv ρ i) v.int?:=(rfl)
theorem ySI3(d:D)(l:List D)(n:Int):qmC i d ρ K (some l) (some n)=qnt i d ρ K l (ixN l.length n):=(rfl)
theorem ySI4(d:D)(l:List D)(k:Nat):qnt i d ρ K l (some k)=K (.next (ρ.set i (.own (l.set k d)))):=(rfl)
theorem xS_ite(c:T)(a b:Ss):(iS cl w (.ite c a b) ρ).th K=(iT cl c ρ).th (qn1 cl w a b K):=by rw[qlf,qc];refine qz _ λt=>?_;rw[zD];rfl
theorem yIte(a b:Ss)(t:Bool):qn1 cl w a b K (t,ρ)=if t=true then (iSs cl w a ρ).th K else (iSs cl w b ρ).th K:=(rfl)
theorem xS_for(tg:Tg)(src:I)(b:Ss):(iS cl w (.for_ tg src b) ρ).th K=(iI cl src ρ).th (qn2 cl w tg b K):=by rw[qlg,qc];rfl
theorem yFor(tg:Tg)(b:Ss)(l:List D):qn2 cl w tg b K (l,ρ)=(jN cl w tg b l ρ).th K:=(rfl)
theorem xS_whl(c:T)(b:Ss):(iS cl w (.whl c b) ρ).th K=(whD cl w c b w ρ).th K:=(rfl)
theorem xSs_nil:(iSs cl w .nil ρ).th K=K (.next ρ):=(rfl)
theorem xSs_cons(s:S)(l:Ss):(iSs cl w (.cons s l) ρ).th K=(iS cl w s ρ).th (qiO cl w l K):=by rw[qf5,qc];rfl
theorem yNext(l:Ss):qiO cl w l K (.next ρ)=(iSs cl w l ρ).th K:=(rfl)
theorem yNextr(l:Ss)(r:Rv):qiO cl w l K (.ret r)=K (.ret r):=(rfl)
theorem xFo_cons(tg:Tg)(b:Ss)(d:D)(l:List D):(jN cl w tg b (d::l) ρ).th K=(tg.go d ρ).th (qn3 cl w tg b l K):=by rw[qej,qc,qc];refine qz _ λρ2=>?_;rfl
theorem yFo1(tg:Tg)(b:Ss)(l:List D):qn3 cl w tg b l K ρ=(iSs cl w b ρ).th (qmD cl w tg b l K):=(rfl)
theorem yFo2(tg:Tg)(b:Ss)(l:List D):qmD cl w tg b l K (.next ρ)=(jN cl w tg b l ρ).th K:=(rfl)
theorem yFo2r(tg:Tg)(b:Ss)(l:List D)(r:Rv):qmD cl w tg b l K (.ret r)=K (.ret r):=(rfl)
theorem xWh(c:T)(b:Ss)(n:Nat):(whD cl w c b (n+1) ρ).th K=(iT cl c ρ).th (qn4 cl w c b n K):=by rw[qf4,qc];refine qz _ λt=>?_;rw[zD,qc];rfl
theorem yWh1(c:T)(b:Ss)(n:Nat)(t:Bool):qn4 cl w c b n K (t,ρ)=if t=true then (iSs cl w b ρ).th (qnv cl w c b n K) else K (.next ρ):=(rfl)
theorem yWh2(c:T)(b:Ss)(n:Nat):qnv cl w c b n K (.next ρ)=(whD cl w c b n ρ).th K:=(rfl)
end
section
variable(ρ:Env)(K:List D->R β)(e:E)(tg:Tg)(c:F)(l acc:List D)(d:D)
theorem xP_cons:(zt cl e tg c (d::l) ρ acc).th K=(tg.go d ρ).th (kP1 cl e tg c l acc K):=by
 rw[qcY,qc];refine qz _ λρ1=>?_;rw[qc];refine qz _ λbt=>?_;rw[zD,qc];show(if bt.1=true then _ else _)=(if bt.1=true then _ else _)
 by_cases h:bt.1=true
 ·rw[if_pos h,if_pos h];refine qz _ λx=>?_;rw[zD];rfl
 ·rw[if_neg h,if_neg h]
theorem yP1:kP1 cl e tg c l acc K ρ=(iF cl c ρ).th (kP2 cl e tg c l acc K):=(rfl)
theorem yP2(t:Bool):kP2 cl e tg c l acc K (t,ρ)=if t=true then (zC e (iR cl e) ρ).th (kP3 cl e tg c l acc K) else (zt cl e tg c l ρ acc).th K:=(rfl)
theorem yP3:kP3 cl e tg c l acc K (d,ρ)=if acc.length < sizeLine then (zt cl e tg c l ρ (acc++[d])).th K else .no:=(rfl)
end
end
section
variable{β:Type}(r:Env->R (Rv×Env))(ρ:Env)
theorem eE_bin(K:D×Env->R β)(op:Operator)(a b:E):(zC (.bin op a b) r ρ).th K=(r ρ).th (qfk K):=by rw[show zC (.bin op a b) r ρ=(r ρ).th qd2 from rfl,qc];rfl
theorem eX_bin(K:Rv->R β)(op:Operator)(a b:E):(qa1 (.bin op a b) r ρ).th K=(r ρ).th (kX K):=qc (r ρ) _ _
theorem eA_bin(K:Sl×Env->R β)(op:Operator)(a b:E):(J2 (.bin op a b) r ρ).th K=(r ρ).th (kAx K):=qc (r ρ) _ _
theorem eE_rvs(K:D×Env->R β)(a:E):(zC (.rvs a) r ρ).th K=(r ρ).th (qfk K):=by rw[show zC (.rvs a) r ρ=(r ρ).th qd2 from rfl,qc];rfl
theorem eA_neg(K:Sl×Env->R β)(a:E):(J2 (.neg a) r ρ).th K=(r ρ).th (kAx K):=qc (r ρ) _ _
theorem eX_and(K:Rv->R β)(a b:E):(qa1 (.and a b) r ρ).th K=(r ρ).th (kX K):=qc (r ρ) _ _
theorem eA_cmp(K:Sl×Env->R β)(op:CmpOp)(a b:E):(J2 (.cmp op a b) r ρ).th K=(r ρ).th (kAx K):=qc (r ρ) _ _
theorem eX_ite(K:Rv->R β)(c:T)(a b:E):(qa1 (.ite c a b) r ρ).th K=(r ρ).th (kX K):=qc (r ρ) _ _
theorem eE_idx(K:D×Env->R β)(a b:E):(zC (.idx a b) r ρ).th K=(r ρ).th (qfk K):=by rw[show zC (.idx a b) r ρ=(r ρ).th qd2 from rfl,qc];rfl
theorem eX_idx(K:Rv->R β)(a b:E):(qa1 (.idx a b) r ρ).th K=(r ρ).th (kX K):=qc (r ρ) _ _
theorem eA_idx(K:Sl×Env->R β)(a b:E):(J2 (.idx a b) r ρ).th K=(r ρ).th (kAx K):=qc (r ρ) _ _
theorem eE_sli(K:D×Env->R β)(a:E)(lo hi:O):(zC (.sli a lo hi) r ρ).th K=(r ρ).th (qfk K):=by rw[show zC (.sli a lo hi) r ρ=(r ρ).th qd2 from rfl,qc];rfl
theorem eL_sli(K:(Sk×List D)×Env->R β)(a:E)(lo hi:O):(j6 (.sli a lo hi) r ρ).th K=(r ρ).th (Zg K):=by rw[show j6 (.sli a lo hi) r ρ=(r ρ).th qgZ from rfl,qc];rfl
theorem eA_sli(K:Sl×Env->R β)(a:E)(lo hi:O):(J2 (.sli a lo hi) r ρ).th K=(r ρ).th (kAx K):=qc (r ρ) _ _
theorem eA_lst(K:Sl×Env->R β)(l:Es):(J2 (.lst l) r ρ).th K=(r ρ).th (kAx K):=qc (r ρ) _ _
theorem eE_tup(K:D×Env->R β)(l:Es):(zC (.tup l) r ρ).th K=(r ρ).th (qfk K):=by rw[show zC (.tup l) r ρ=(r ρ).th qd2 from rfl,qc];rfl
theorem eX_tup(K:Rv->R β)(l:Es):(qa1 (.tup l) r ρ).th K=(r ρ).th (kX K):=qc (r ρ) _ _
theorem eA_tup(K:Sl×Env->R β)(l:Es):(J2 (.tup l) r ρ).th K=(r ρ).th (kAx K):=qc (r ρ) _ _
theorem eE_call(K:D×Env->R β)(f:Str)(l:Es):(zC (.call f l) r ρ).th K=(r ρ).th (qfk K):=by rw[show zC (.call f l) r ρ=(r ρ).th qd2 from rfl,qc];rfl
theorem eL_call(K:(Sk×List D)×Env->R β)(f:Str)(l:Es):(j6 (.call f l) r ρ).th K=(r ρ).th (Zg K):=by rw[show j6 (.call f l) r ρ=(r ρ).th qgZ from rfl,qc];rfl
theorem eX_call(K:Rv->R β)(f:Str)(l:Es):(qa1 (.call f l) r ρ).th K=(r ρ).th (kX K):=qc (r ρ) _ _
theorem eA_calF(K:Sl×Env->R β)(f:Str)(l:Es):(J2 (.calF f l) r ρ).th K=(r ρ).th (kAx K):=qc (r ρ) _ _
theorem eA_call(K:Sl×Env->R β)(f:Str)(l:Es):(J2 (.call f l) r ρ).th K=(r ρ).th (kAx K):=qc (r ρ) _ _
theorem eE_b1(K:D×Env->R β)(f:B1)(a:E):(zC (.b1 f a) r ρ).th K=(r ρ).th (qfk K):=by rw[show zC (.b1 f a) r ρ=(r ρ).th qd2 from rfl,qc];rfl
theorem eL_b1(K:(Sk×List D)×Env->R β)(f:B1)(a:E):(j6 (.b1 f a) r ρ).th K=(r ρ).th (Zg K):=by rw[show j6 (.b1 f a) r ρ=(r ρ).th qgZ from rfl,qc];rfl
theorem eX_b1(K:Rv->R β)(f:B1)(a:E):(qa1 (.b1 f a) r ρ).th K=(r ρ).th (kX K):=qc (r ρ) _ _
theorem eA_b1(K:Sl×Env->R β)(f:B1)(a:E):(J2 (.b1 f a) r ρ).th K=(r ρ).th (kAx K):=qc (r ρ) _ _
theorem eE_b2(K:D×Env->R β)(f:B2)(a b:E):(zC (.b2 f a b) r ρ).th K=(r ρ).th (qfk K):=by rw[show zC (.b2 f a b) r ρ=(r ρ).th qd2 from rfl,qc];rfl
theorem eA_b2(K:Sl×Env->R β)(f:B2)(a b:E):(J2 (.b2 f a b) r ρ).th K=(r ρ).th (kAx K):=qc (r ρ) _ _
theorem eL_fld(K:(Sk×List D)×Env->R β)(a:E)(x:Str):(j6 (.fld a x) r ρ).th K=(r ρ).th (Zg K):=by rw[show j6 (.fld a x) r ρ=(r ρ).th qgZ from rfl,qc];rfl
theorem eL_met(K:(Sk×List D)×Env->R β)(a:E)(x:Str)(l:Es):(j6 (.met a x l) r ρ).th K=(r ρ).th (Zg K):=by rw[show j6 (.met a x l) r ρ=(r ρ).th qgZ from rfl,qc];rfl
theorem eA_met(K:Sl×Env->R β)(a:E)(x:Str)(l:Es):(J2 (.met a x l) r ρ).th K=(r ρ).th (kAx K):=qc (r ρ) _ _
theorem eX_new(K:Rv->R β)(f:Str)(l:Es):(qa1 (.new f l) r ρ).th K=(r ρ).th (kX K):=qc (r ρ) _ _
theorem eA_new(K:Sl×Env->R β)(f:Str)(l:Es):(J2 (.new f l) r ρ).th K=(r ρ).th (kAx K):=qc (r ρ) _ _
theorem eX_comp(K:Rv->R β)(e:E)(src:I)(tg:Tg)(c:F)(n:Nat)(fr:List Nat):(qa1 (.comp e src tg c n fr) r ρ).th K=(r ρ).th (kX K):=qc (r ρ) _ _
theorem eA_comp(K:Sl×Env->R β)(e:E)(src:I)(tg:Tg)(c:F)(n:Nat)(fr:List Nat):(J2 (.comp e src tg c n fr) r ρ).th K=(r ρ).th (kAx K):=qc (r ρ) _ _
theorem eE_var(K:D×Env->R β)(i:Nat):(zC (.var i) r ρ).th K=(slE ρ i).th K:=(rfl)
theorem eE_con(K:D×Env->R β)(d:D):(zC (.con d) r ρ).th K=K (d,ρ):=(rfl)
theorem eL_var(K:(Sk×List D)×Env->R β)(i:Nat):(j6 (.var i) r ρ).th K=(slL ρ i).th K:=(rfl)
theorem eX_var(K:Rv->R β)(i:Nat):(qa1 (.var i) r ρ).th K=(slX ρ i).th K:=(rfl)
theorem eX_con(K:Rv->R β)(d:D):(qa1 (.con d) r ρ).th K=K (.val d):=(rfl)
theorem eA_var(K:Sl×Env->R β)(i:Nat):(J2 (.var i) r ρ).th K=(slE ρ i).th (kAv K):=qc (slE ρ i) _ _
theorem eA_con(K:Sl×Env->R β)(d:D):(J2 (.con d) r ρ).th K=K (.val d,ρ):=(rfl)
end
theorem bAdd(a b:Int):qa0 .Add (.val (.int a)) (.val (.int b))=.ok (.val (.int (a+b))):=(rfl)
theorem bAdds(a b:Str):qa0 .Add (.val (.str a)) (.val (.str b))=if a.length+b.length<=sizeLine then .ok (.val (.str (a++b))) else .no:=(rfl)
theorem bAddtt(a b:List D):qa0 .Add (.tmp a) (.tmp b)=if a.length+b.length<=sizeLine then .ok (.tmp (a++b)) else .no:=(rfl)
theorem bAddct(a b:List D):qa0 .Add (.cell a) (.tmp b)=if a.length+b.length<=sizeLine then .ok (.tmp (a++b)) else .no:=(rfl)
theorem bAddvt(a b:List D):qa0 .Add (.val (.lst a)) (.tmp b)=if a.length+b.length<=sizeLine then .ok (.tmp (a++b)) else .no:=(rfl)
theorem bSub(a b:Int):qa0 .Sub (.val (.int a)) (.val (.int b))=.ok (.val (.int (a - b))):=(rfl)
theorem bMult(a b:Int):qa0 .Mult (.val (.int a)) (.val (.int b))=if ZO a b=true then .ok (.val (.int (a * b))) else .no:=(rfl)
theorem bDiv(a b:Int):qa0 .FloorDiv (.val (.int a)) (.val (.int b))=if 0 < b/\b < 1073741824 then .ok (.val (.int (a / b))) else .no:=(rfl)
theorem bMod(a b:Int):qa0 .Mod (.val (.int a)) (.val (.int b))=if 0 < b then .ok (.val (.int (a % b))) else .no:=(rfl)
theorem bPow(a b:Int):qa0 .Pow (.val (.int a)) (.val (.int b))=if 0<=b/\b<=1000000/\a.natAbs < 2 ^ 64 then .ok (.val (.int (a ^ b.toNat))) else .no:=(rfl)
theorem cEq(x y:Rv):Yu .Eq x y=eqD x.data y.data:=(rfl)
theorem cNe(x y:Rv):Yu .NotEq x y=(eqD x.data y.data).map (!·):=(rfl)
theorem cLt(a b:Int):Yu .Lt (.val (.int a)) (.val (.int b))=some (decide (a < b)):=(rfl)
theorem cLe(a b:Int):Yu .LtE (.val (.int a)) (.val (.int b))=some (decide (a<=b)):=(rfl)
theorem cGt(a b:Int):Yu .Gt (.val (.int a)) (.val (.int b))=some (decide (b < a)):=(rfl)
theorem cGe(a b:Int):Yu .GtE (.val (.int a)) (.val (.int b))=some (decide (b<=a)):=(rfl)
theorem cIs(x:Rv):Yu .Is x (.val .non)=some x.non?:=(rfl)
theorem cIsN(x:Rv):Yu .IsNot x (.val .non)=some (!x.non?):=(rfl)
theorem cIn(x y:Rv):Yu .In x y=qdZ x y:=(rfl)
theorem cNi(x y:Rv):Yu .NotIn x y=(qdZ x y).map (!·):=(rfl)
theorem mIn(a b:Str):qdZ (.val (.str a)) (.val (.str b))=some (qjx a b):=(rfl)
theorem rgoV(i:Nat)(d:D)(ρ:Env):Tg.go (.one i) d ρ=.ok (ρ.set i (.val d)):=(rfl)
theorem rgoT(l:List Nat)(ds:List D)(ρ:Env):Tg.go (.many l) (.tup ds) ρ=Q8 l ds ρ:=(rfl)
theorem setIs_nil(ρ:Env):Q8 [] [] ρ=.ok ρ:=(rfl)
theorem setIs_cons(i:Nat)(l:List Nat)(d:D)(ds:List D)(ρ:Env):Q8 (i::l) (d::ds) ρ=Q8 l ds (ρ.set i (.val d)):=(rfl)
end DE
namespace DE
open PySem L2
section
variable{α β:Type}(f:α->β)(a b:α)(l m:List α)(n:Nat)
theorem g_mapc:List.map f (a::l)=f a::List.map f l:=(rfl)
theorem g_mapn:List.map f []=[]:=(rfl)
theorem g_lenc:(a::l).length=l.length+1:=(rfl)
theorem g_lenn:([]:List α).length=0:=(rfl)
theorem g_rep0:List.replicate 0 a=[]:=(rfl)
theorem g_reps:List.replicate (n+1) a=a::List.replicate n a:=(rfl)
theorem g_appc:(a::l)++m=a::(l++m):=(rfl)
theorem g_appn:[]++m=m:=(rfl)
theorem g_set0:(a::l).set 0 b=b::l:=(rfl)
theorem g_sets:(a::l).set (n+1) b=a::l.set n b:=(rfl)
theorem g_last(l:List α)(x:α):atI (l++[x]) (-1)=some x:=L2.qfy ..
theorem g_nott:(!true)=false:=(rfl)
theorem g_notf:(!false)=true:=(rfl)
theorem g_omap:Option.map f (some a)=some (f a):=(rfl)
theorem g_fe:(false=true)=False:=Bool.false_eq_true
theorem g_and(p:Prop):(p/\p)=p:=and_self p
theorem g_dt(h:Decidable True):@decide True h=true:=decide_true ..
theorem g_df(h:Decidable False):@decide False h=false:=decide_false ..
end
def aL(b:Bool)(l:List D):Ar:=match b with
 |true=>.bor l
 |false=>.val (.lst l)
def rA(b:Bool)(l:List D):Rv:=match b with
 |true=>.cell l
 |false=>.val (.lst l)
def pS(b:Bool)(l:List D):Sl:=match b with
 |true=>.bor l
 |false=>.val (.lst l)
def qhh(b:Bool)(l:List D):Sl:=match b with
 |true=>.own l
 |false=>.val (.lst l)
section
variable{β:Type}(b:Bool)(l:List D)(ρ:DE.Env)
theorem lend_v(d:D):qfN (.val d)=.val d:=(rfl)
theorem lend_o:qfN (.own l)=.bor l:=(rfl)
theorem lend_s:qfN (.scr l)=.scr l:=(rfl)
theorem qek:qhh true l=.own l:=rfl
theorem qel:qhh false l=.val (.lst l):=rfl
theorem qau:aL true l=.bor l:=rfl
theorem qav:aL false l=.val (.lst l):=rfl
theorem sA_p:toSl (aL b l)=pS b l:=by cases b<;>rfl
theorem sA_R:slR (pS b l::ρ) 0=.ok (rA b l):=by cases b<;>rfl
theorem sA_L(K:(Sk×List D)×DE.Env->R β):(slL (pS b l::ρ) 0).th K=K ((.lst,l),pS b l::ρ):=by cases b<;>rfl
theorem sL_L(K:(Sk×List D)×DE.Env->R β):(slL (qhh b l::ρ) 0).th K=K ((.lst,l),.val (.lst l)::ρ):=by cases b<;>rfl
theorem rA_a:toAr (rA b l)=aL b l:=by cases b<;>rfl
theorem rA_l:(rA b l).list?=some l:=by cases b<;>rfl
theorem rA_s:(rA b l).str?=none:=by cases b<;>rfl
theorem rA_t:(rA b l).tup?=none:=by cases b<;>rfl
theorem rA_b:truthD (rA b l)=some (!l.isEmpty):=by cases b<;>rfl
theorem rA_y:Ty.list.go (rA b l)=some true:=by cases b<;>rfl
theorem qlP{r:Rv}{zs:List Str}{s:Str}(h:r.plain?=some (zs.map D.str))(hs:s∈zs):ixM r [.val (.str s)]=.ok (.val (.int (zs.idxOf s:Nat))):=by
 have e:Q6 (zs.map D.str)=some zs:=by
  clear h hs
  induction zs with
  |nil=>rfl
  |cons z zs ih=>show(Q6 (zs.map D.str)).map (z :: ·)=_;rw[ih];rfl
 unfold ixM;rw[h];dsimp only;rw[e];dsimp only;rw[if_pos (by simpa using hs)]
end
noncomputable abbrev RW(pg:Pg)(f:Str)(c:Nat×Nat×Ss):Prop:=∀(k:Nat) (args:List Ar),clK pg (k+1) f args=runD (pg.kk k) 1000 c args
noncomputable abbrev USs(b c:Ss):Prop:=∀{β:Type} (cl:Cl) (w:Nat) (ρ:DE.Env) (K:Fl->R β),(iSs cl w b ρ).th K=(iSs cl w c ρ).th K
noncomputable abbrev UT(b c:T):Prop:=∀{β:Type} (cl:Cl) (ρ:DE.Env) (K:Bool×DE.Env->R β),(iT cl b ρ).th K=(iT cl c ρ).th K
noncomputable abbrev UE(b c:E):Prop:=∀{β:Type} (cl:Cl) (ρ:DE.Env) (K:D×DE.Env->R β),(zC b (iR cl b) ρ).th K=(zC c (iR cl c) ρ).th K
end DE
namespace DG
open PySem L2 DE
def qiP:Stmt->List Stmt
 |.ClassDef _ _ _ b _ _ _ _ _ _ _=>b
 |_=>[]
def rk(c:Str):Bool:=c == "Within" || c == "Since" || c == "InRow"
noncomputable def pcs:Cs where
 tab:=["Within","Since","InRow","Book"]
 fld:=λc x=>(rk c&&(x == "lands" || x == "most" || (x == "span" && c == "Within")||(x == "leave" && c != "Within")))||(c == "Book" && (x == "kept_rules" || x == "kept_papers"))
 mt:=λc x=>if rk c&&x == "weight" then some "Rule.weight" else if c == "Book" && x == "rules" then some "Book.rules" else if c == "Book" && x == "lifted" then some "Book.lifted" else if c == "Book" && x == "papers" then some "Book.papers" else none
 sub:=λc t=>if rk c&&t == "Within" then some (c == "Within") else if rk c&&t == "Since" then some (c != "Within") else none
noncomputable def qcZ(s:Str):Bool:=decide (1<=s.length)&&decide (s.length<=8)&&s.cps.toList.all λc=>decide (97<=c)&&decide (c<=122)
noncomputable def qem:D->Option (Str×Int)
 |.tup [.str s,.int w]=>if qcZ s&&decide (1<=w)&&decide (w<=9) then some (s,w) else none
 |_=>none
noncomputable def Qy:List Str->List D->Bool
 |_,[]=>true
 | acc,d::l=>match qem d with
  |some p=>!acc.contains p.1&&Qy (acc++[p.1]) l
  |none=>false
def qG(l:List D):Bool:=decide (1<=l.length)&&decide (l.length<=6)&&Qy [] l
def btw(n a b:Int):Bool:=decide (a<=n)&&decide (n<=b)
def qaw:D->Bool
 |.ins c _ _=>rk c
 |_=>false
noncomputable def yB(many:Int):D->Bool
 |.tup [.int o,.int a,.int b]=>btw o 0 (many - 1)&&btw a 0 1000000000&&btw b 0 1000000000&&decide (a<=b)
 |_=>false
def arL:Ar->Option (List D)
 |.val (.lst l)=>some l
 |.bor l=>some l
 |_=>none
def arI:Ar->Option Int
 |.val (.int n)=>some n
 |_=>none
noncomputable def qb4:List Ar->Option (List (Str×D))
 |[a,b]=>match arL a,arI b with
  |some l,some m=>if (qG l&&btw m 0 1000000000)=true then some [("lands",.tup l),("most",.int m)] else none
  |_,_=>none
 |_=>none
noncomputable def yb(x:Str):List Ar->Option (List (Str×D))
 |[a,b,c]=>match arL a,arI b,arI c with
  |some l,some m,some s=>if (qG l&&btw m 0 1000000000&&btw s 1 1000000000)=true then some [("lands",.tup l),("most",.int m),(x,.int s)] else none
  |_,_,_=>none
 |_=>none
noncomputable def qc0:List Ar->Option (List (Str×D))
 |[a,b]=>match arL a,arI b with
  |some l,some m=>if (qG l&&btw m 0 1000000000)=true then some [("lands",.tup l),("most",.int m),("leave",.int 1)] else none
  |_,_=>none
 |_=>none
noncomputable def Qz:List Ar->Option (List (Str×D))
 |[a,b]=>match arL a,arL b with
  |some l,some ps=>if ((decide (l.length<=8)&&l.all qaw)&&(decide (ps.length<=12)&&ps.all (yB l.length)))=true then some [("kept_rules",.lst l),("kept_papers",.lst ps)] else none
  |_,_=>none
 |_=>none
noncomputable def qc1(c:Str):Option (List (Str×D))->R Rv
 |some fs=>.ok (.val (.ins c (fs.map (·.1)) (fs.map (·.2))))
 |none=>.no
noncomputable def pnw(k:Nat)(f:Str)(args:List Ar):R Rv:=if k < 12 then .no else
 if f = "Within" then qc1 "Within" (yb "span" args) else if f = "Since" then qc1 "Since" (yb "leave" args) else if f = "InRow" then qc1 "InRow" (qc0 args) else if f = "Book" then qc1 "Book" (Qz args) else .no
noncomputable def QA:Nat×Nat×Ss:=(1,1,%[.ret (.and (.isi Ty.int (.var 0)) (.one (.not (.isi Ty.bool (.var 0)))))|0])
noncomputable def JS:Nat×Nat×Ss:=(3,3,%[.ret (.and (.call "is_whole" %[0|0]) (.and (.cmp .LtE (.var 1) (.var 0)) (.one (.cmp .LtE (.var 0) (.var 2)))))|0])
noncomputable def QB:Nat×Nat×Ss:=(2,2,%[.ret (.and (.call "is_between" %[0,.con (.int 0),.con (.int 1000000000)|0]) (.and (.call "is_between" %[1,.con (.int 0),.con (.int 1000000000)|0]) (.one (.cmp .LtE (.var 0) (.var 1)))))|0])
noncomputable abbrev yc:Ss:=%[.ite (.cmp .NotIn (.var 2) (.var 1)) %[.ret (.con (.bl false))|0] .nil|0]
def z9:Ss:=yc
theorem J3:USs z9 yc:=λ_ _ _ _=>(rfl)
noncomputable def JT:Nat×Nat×Ss:=(2,3,%[.for_ (.one 2) (.seq (.var 0)) z9,.ret (.con (.bl true))|0])
noncomputable def qax:Nat×Nat×Ss:=(1,1,%[.ite (.not (.val (.isi Ty.str (.var 0)))) %[.ret (.con (.bl false))|0] .nil,.ret (.and (.cmp .LtE (.con (.int 1)) (.b1 .len (.var 0))) (.and (.cmp .LtE (.b1 .len (.var 0)) (.con (.int 8))) (.one (.call "is_made_of" %[0,.con (.str "abcdefghijklmnopqrstuvwxyz")|0]))))|0])
class CH(pg:Pg):Prop where
 r_is_whole:RW pg "is_whole" QA
 r_is_between:RW pg "is_between" JS
 r_are_days:RW pg "are_days" QB
 r_is_made_of:RW pg "is_made_of" JT
 r_is_name:RW pg "is_name" qax
noncomputable def qay:Nat×Nat×Ss:=(1,1,%[.ite (.or (.not (.val (.isi Ty.tuple (.var 0)))) (.one (.cmp .NotEq (.b1 .len (.var 0)) (.con (.int 3))))) %[.ret (.con (.bl false))|0] .nil,.ret (.and (.call "is_name" %[.idx (.var 0) (.con (.int 0))|0]) (.one (.call "are_days" %[.idx (.var 0) (.con (.int 1)),.idx (.var 0) (.con (.int 2))|0])))|0])
noncomputable abbrev y8:Ss:=%[.ite (.or (.not (.val (.call "is_stay" %[3|0]))) (.one (.cmp .LtE (.idx (.var 3) (.con (.int 1))) (.var 1)))) %[.stuck|0] .nil,.set 1 (.idx (.var 3) (.con (.int 2)))|0]
def yd:Ss:=y8
theorem Qf:USs yd y8:=λ_ _ _ _=>(rfl)
noncomputable def QC:Nat×Nat×Ss:=(1,4,%[.ite (.not (.val (.isi Ty.list (.var 0)))) %[.stuck|0] .nil,.set 1 (.neg (.con (.int 1))),.for_ (.many [2,3]) (.enum (.var 0)) yd,.ite (.cmp .Gt (.b1 .len (.var 0)) (.con (.int 60))) %[.stuck|0] .nil,.ret (.b1 .list (.var 0))|0])
class ST(pg:Pg):Prop where
 r_is_stay:RW pg "is_stay" qay
 r_stays_of:RW pg "stays_of" QC
noncomputable abbrev Yy:Ss:=%[.ite (.and (.val (.var 1)) (.one (.cmp .LtE (.var 2) (.bin .Add (.idx (.idx (.var 1) (.neg (.con (.int 1)))) (.con (.int 1))) (.con (.int 1)))))) %[.setI 1 (.neg (.con (.int 1))) (.tup %[.idx (.idx (.var 1) (.neg (.con (.int 1)))) (.con (.int 0)),.b2 .max (.idx (.idx (.var 1) (.neg (.con (.int 1)))) (.con (.int 1))) (.var 3)|0])|0] %[.app 1 (.tup %[2,3|0])|0]|0]
def JC:Ss:=Yy
theorem ye:USs JC Yy:=λ_ _ _ _=>(rfl)
noncomputable def qb5:Nat×Nat×Ss:=(1,4,%[.set 1 (.lst .nil),.for_ (.many [2,3]) (.seq (.b1 .srt (.var 0))) JC,.ret (.var 1)|0])
class SP(pg:Pg):Prop where
 r_spread:RW pg "spread" qb5
noncomputable def qaz:Nat×Nat×Ss:=(1,1,%[.ite (.or (.not (.val (.isi Ty.tuple (.var 0)))) (.one (.cmp .NotEq (.b1 .len (.var 0)) (.con (.int 2))))) %[.ret (.con (.bl false))|0] .nil,.ret (.and (.call "is_name" %[.idx (.var 0) (.con (.int 0))|0]) (.one (.call "is_between" %[.idx (.var 0) (.con (.int 1)),.con (.int 1),.con (.int 9)|0])))|0])
noncomputable abbrev yC:Ss:=%[.ite (.or (.not (.val (.call "is_land" %[2|0]))) (.one (.cmp .In (.idx (.var 2) (.con (.int 0))) (.var 1)))) %[.ret (.con (.bl false))|0] .nil,.app 1 (.idx (.var 2) (.con (.int 0)))|0]
def jC:Ss:=yC
theorem Yz:USs jC yC:=λ_ _ _ _=>(rfl)
noncomputable def YA:Nat×Nat×Ss:=(1,3,%[.ite (.or (.not (.val (.isi Ty.list (.var 0)))) (.or (.cmp .Lt (.b1 .len (.var 0)) (.con (.int 1))) (.one (.cmp .Gt (.b1 .len (.var 0)) (.con (.int 6)))))) %[.ret (.con (.bl false))|0] .nil,.set 1 (.lst .nil),.for_ (.one 2) (.seq (.var 0)) jC,.ret (.con (.bl true))|0])
abbrev jO:Ss:=%[.ite (.cmp .Eq (.var 2) (.var 1)) %[.ret (.var 3)|0] .nil|0]
def zE:Ss:=jO
theorem ji:USs zE jO:=λ_ _ _ _=>(rfl)
noncomputable def jD:Nat×Nat×Ss:=(2,4,%[.for_ (.many [2,3]) (.seq (.fld (.var 0) "lands")) zE,.ret (.con (.int 0))|0])
class RU(pg:Pg):Prop where
 cs:pg.cs=pcs
 nw:pg.nw=pnw
 r_is_land:RW pg "is_land" qaz
 r_are_lands:RW pg "are_lands" YA
 r_Rule_weight:RW pg "Rule.weight" jD
noncomputable abbrev yD:Ss:=%[.ite (.and (.not (.val (.isc "Within" (.var 1)))) (.one (.not (.val (.isc "Since" (.var 1)))))) %[.ret (.con (.bl false))|0] .nil|0]
def jE:Ss:=yD
theorem yf:USs jE yD:=λ_ _ _ _=>(rfl)
noncomputable def YB:Nat×Nat×Ss:=(1,2,%[.ite (.or (.not (.val (.isi Ty.list (.var 0)))) (.one (.cmp .Gt (.b1 .len (.var 0)) (.con (.int 8))))) %[.ret (.con (.bl false))|0] .nil,.for_ (.one 1) (.seq (.var 0)) jE,.ret (.con (.bl true))|0])
noncomputable def QD:Nat×Nat×Ss:=(2,2,%[.ite (.or (.not (.val (.isi Ty.tuple (.var 0)))) (.one (.cmp .NotEq (.b1 .len (.var 0)) (.con (.int 3))))) %[.ret (.con (.bl false))|0] .nil,.ret (.and (.call "is_between" %[.idx (.var 0) (.con (.int 0)),.con (.int 0),.bin .Sub (.var 1) (.con (.int 1))|0]) (.one (.call "are_days" %[.idx (.var 0) (.con (.int 1)),.idx (.var 0) (.con (.int 2))|0])))|0])
noncomputable abbrev jj:Ss:=%[.ite (.not (.val (.call "is_paper" %[3,1|0]))) %[.stuck|0] .nil|0]
def ze:Ss:=jj
theorem y9:USs ze jj:=λ_ _ _ _=>(rfl)
noncomputable def yE:Nat×Nat×Ss:=(2,4,%[.ite (.not (.val (.isi Ty.list (.var 0)))) %[.stuck|0] .nil,.for_ (.many [2,3]) (.enum (.var 0)) ze,.ite (.cmp .Gt (.b1 .len (.var 0)) (.con (.int 12))) %[.stuck|0] .nil|0])
def JU:Nat×Nat×Ss:=(1,1,%[.ret (.b1 .list (.fld (.var 0) "kept_rules"))|0])
def Zh:Nat×Nat×Ss:=(1,1,%[.ret (.b1 .list (.fld (.var 0) "kept_papers"))|0])
abbrev jP:E:=(.tup %[1,2|0])
def zF:E:=jP
theorem jk:UE zF jP:=λ_ _ _=>(rfl)
noncomputable def Ja:Nat×Nat×Ss:=(2,2,%[.ret (.call "spread" %[.comp zF (.seq (.fld (.var 0) "kept_papers")) (.many [0,1,2]) (.test (.cmp .Eq (.var 0) (.var 3))) 3 [1]|0])|0])
class BO(pg:Pg):Prop where
 r_are_rules:RW pg "are_rules" YB
 r_is_paper:RW pg "is_paper" QD
 r_check_papers:RW pg "check_papers" yE
 r_Book_rules:RW pg "Book.rules" JU
 r_Book_papers:RW pg "Book.papers" Zh
 r_Book_lifted:RW pg "Book.lifted" Ja
end DG
namespace DG
open PySem L2 DE
open CH ST SP RU BO
section
variable{pg:Pg}[CH pg]
theorem qf9(k:Nat)(n:Int):clK pg (k+1) "is_whole" [.val (.int n)]=.ok (.val (.bl true)):=by rw[r_is_whole];simp? only[QA]
theorem zx(k:Nat)(n a b:Int)(h1:a<=n)(h2:n<=b):clK pg (k+2) "is_between" [.val (.int n),.val (.int a),.val (.int b)]=.ok (.val (.bl true)):=by rw[r_is_between];simp? only[JS,qf9,h1,h2,decide_true]
theorem qen(k:Nat)(a b:Int)(h0:0<=a)(h1:a<=b)(h2:b<=1000000000):clK pg (k+3) "are_days" [.val (.int a),.val (.int b)]=.ok (.val (.bl true)):=by
 have h3:a<=1000000000:=by omega
 have h4:0<=b:=by omega
 rw[r_are_days];simp? only[QB,zx k a 0 1000000000 h0 h3,zx k b 0 1000000000 h4 h2,h1,decide_true]
def yL(c:Nat):Prop:=97<=c/\c < 123
theorem qiQ(c:Nat)(h:yL c):qjx ⟨#[c]⟩ "abcdefghijklmnopqrstuvwxyz" = true:=by
 have key:∀j:Fin 26,qjx ⟨#[97+j.val]⟩ "abcdefghijklmnopqrstuvwxyz" = true:=by decide+kernel
 have:=key ⟨c - 97,by unfold yL at h;omega⟩
 rw[show 97+(c - 97)=c by unfold yL at h;omega] at this;exact this
theorem qaA(k:Nat)(z:Str):∀(l:List Nat) (s:Sl),(∀c∈l,yL c)->∃s',jN (pg.kk k) 1000 (.one 2) z9 (l.map λc=>D.str ⟨#[c]⟩) [.val (.str z),.val (.str "abcdefghijklmnopqrstuvwxyz"),s]=.ok (.next [.val (.str z),.val (.str "abcdefghijklmnopqrstuvwxyz"),s'])
 |[],s,_=>⟨s,by rw[List.map_nil,qL]⟩
 | c::l,s,h=>by obtain⟨s',e⟩:=qaA k z l (.val (.str ⟨#[c]⟩)) λx hx=>h x (by simp[hx]);refine⟨s',?_⟩;refine(qf _).symm.trans ?_;rw[List.map_cons];simp? only[J3,qiQ c (h c (by simp)),e]
theorem qiR(k:Nat)(z:Str)(h:∀c∈z.cps.toList,yL c):clK pg (k+1) "is_made_of" [.val (.str z),.val (.str "abcdefghijklmnopqrstuvwxyz")]=.ok (.val (.bl true)):=by rw[r_is_made_of];obtain⟨s',e⟩:=qaA (pg:=pg) k z z.cps.toList .no h;simp? only[JT,Nat.reduceAdd,Nat.reduceSub,qdi,e]
structure NameOk(z:Str):Prop where
 one:1<=z.cps.size
 eight:z.cps.size<=8
 lets:∀c∈z.cps.toList,yL c
theorem qbj(k:Nat)(z:Str)(h:NameOk z):clK pg (k+2) "is_name" [.val (.str z)]=.ok (.val (.bl true)):=by
 have hz:z.length<=sizeLine:=by
  have:=h.eight
  show z.cps.size<=2 ^ 24;omega
 have h1:(1:Int)<=(z.length:Int):=by
  have:=h.one
  show(1:Int)<=(z.cps.size:Int);omega
 have h8:(z.length:Int)<=8:=by
  have:=h.eight
  show(z.cps.size:Int)<=8;omega
 rw[r_is_name];simp? only[qax,hz,h1,h8,decide_true,qiR k z h.lets]
def stD(s:Str×Int×Int):D:=.tup [.str s.1,.int s.2.1,.int s.2.2]
theorem zm(s:Str×Int×Int):stD s=.tup [.str s.1,.int s.2.1,.int s.2.2]:=rfl
structure StOk(e:Int)(s:Str×Int×Int):Prop where
 nm:NameOk s.1
 lo:e < s.2.1
 ab:s.2.1<=s.2.2
 hi:s.2.2<=1000000000
end
section
variable{pg:Pg}[CH pg][ST pg]
theorem qiS(k:Nat)(e:Int)(s:Str×Int×Int)(he:-1<=e)(h:StOk e s):clK pg (k+4) "is_stay" [.val (stD s)]=.ok (.val (.bl true)):=by
 have hlo:=h.lo;have hab:=h.ab;rw[r_is_stay];have e0:atI [D.str s.1,D.int s.2.1,D.int s.2.2] 0=some (.str s.1):=by rfl
 have e1:atI [D.str s.1,D.int s.2.1,D.int s.2.2] 1=some (.int s.2.1):=by rfl
 have e2:atI [D.str s.1,D.int s.2.1,D.int s.2.2] 2=some (.int s.2.2):=by rfl
 simp? only[qay,stD,e0,e1,e2,qp,qbj (k+1) s.1 h.nm,qen k s.2.1 s.2.2 (1:) h.ab h.hi,show((((0+1+1+1:Nat):Int) == 3)=true) from rfl]
def Ch:Int->List (Str×Int×Int)->Prop
 |_,[]=>True
 | e,s::l=>StOk e s/\Ch s.2.2 l
theorem jl(k:Nat)(v:Sl):∀(l:List (Str×Int×Int)) (i:Nat) (e:Int) (s2 s3:Sl),-1<=e->Ch e l->∃e' s2' s3',jN (pg.kk (k+4)) 1000 (.many [2,3]) yd (enF i (l.map stD)) [v,.val (.int e),s2,s3]=.ok (.next [v,.val (.int e'),s2',s3'])
 |[],i,e,s2,s3,_,_=>⟨e,s2,s3,rfl⟩
 | s::l,i,e,s2,s3,he,h=>by
  have h1:=h.1.lo;have h2:=h.1.ab;obtain⟨e',s2',s3',ih⟩:=jl k v l (i+1) s.2.2 (.val (.int i)) (.val (stD s)) (1:) h.2;refine⟨e',s2',s3',?_⟩;have hn:¬ s.2.1<=e:=by omega
  have st:=qiS (pg:=pg) k e s he h.1;simp only[zm] at st ih;refine(qf _).symm.trans ?_;rw[List.map_cons,enF];simp? only[Qf,zm,st,hn,ih]
theorem qb6(k:Nat)(b:Bool)(l:List (Str×Int×Int))(h:Ch (-1) l)(hl:l.length<=60):clK pg (k+5) "stays_of" [aL b (l.map stD)]=.ok (.tmp (l.map stD)):=by
 have h6:¬ (60:Int) < ((l.map stD).length:Int):=by rw[List.length_map];omega
 obtain⟨e',s2',s3',ih⟩:=jl (pg:=pg) k (pS b (l.map stD)) l 0 (-1) .no .no (1:) h;rw[r_stays_of];simp? only[QC,Nat.reduceAdd,Nat.reduceSub,y6,ih,h6,decide_false]
end
theorem NameOk.of{z:Str}(h:qcZ z=true):NameOk z:=by
 unfold qcZ at h;simp only[Bool.and_eq_true,decide_eq_true_eq,List.all_eq_true] at h;refine⟨h.1.1,h.1.2,λc hc=>?_⟩
 have:=h.2 c hc
 unfold yL;omega
theorem qga{d:D}{p:Str×Int}(h:qem d=some p):d=.tup [.str p.1,.int p.2]/\NameOk p.1/\1<=p.2/\p.2<=9:=by
 unfold qem at h
 split at h
 ·rename_i s w
  split at h
  ·rename_i hc;cases h;simp only[Bool.and_eq_true,decide_eq_true_eq] at hc;exact⟨rfl,NameOk.of hc.1.1,hc.1.2,hc.2⟩
  ·cases h
 ·cases h
section
variable{pg:Pg}[CH pg][RU pg]
theorem qiT(k:Nat)(s:Str)(w:Int)(hs:NameOk s)(h1:1<=w)(h9:w<=9):clK pg (k+3) "is_land" [.val (.tup [.str s,.int w])]=.ok (.val (.bl true)):=by
 rw[r_is_land];have e0:atI [D.str s,D.int w] 0=some (.str s):=by rfl
 have e1:atI [D.str s,D.int w] 1=some (.int w):=by rfl
 simp? only[qaz,e0,e1,qp,qbj k s hs,zx k w 1 9 h1 h9,show((((0+1+1:Nat):Int) == 2)=true) from rfl]
end
theorem qb7(s:Str)(acc:List Str):inD (.str s) (acc.map D.str)=some (acc.contains s):=by
 have e:∀acc:List Str,inV (V.str s) (acc.map V.str)=acc.contains s:=by
  intro acc
  induction acc with
  |nil=>rfl
  |cons z l ih=>
   rw[List.map_cons,List.contains_cons,<-ih];show(eqV (V.str z) (V.str s)||_)=_
   congr 1
   exact BEq.comm
 unfold inD;rw[if_pos (by simp[Qd]),show(acc.map D.str).map flV=acc.map V.str by simp[flV]];exact congrArg some (e acc)
theorem qaB(s:Str)(acc:List Str):qdZ (.val (.str s)) (.cell (acc.map D.str))=some (acc.contains s):=qb7 s acc
section
variable{pg:Pg}[CH pg][RU pg]
theorem QE(k:Nat)(v:Sl):∀(l:List D) (acc:List Str) (s2:Sl),Qy acc l=true->acc.length+l.length < 1000->∃acc' s2',jN (pg.kk (k+3)) 1000 (.one 2) jC l [v,.own (acc.map D.str),s2]=.ok (.next [v,.own acc',s2'])
 |[],acc,s2,_,_=>⟨_,s2,rfl⟩
 | d::l,acc,s2,h,hl=>by
  unfold Qy at h
  cases e:qem d with
  |none=>rw[e] at h;cases h
  |some p=>
   rw[e] at h;simp only[Bool.and_eq_true,Bool.not_eq_true'] at h;obtain⟨rfl,hn,h1,h9⟩:=qga e;rw[List.length_cons] at hl;obtain⟨acc',s2',ih⟩:=QE k v l (acc++[p.1]) (.val (.tup [.str p.1,.int p.2])) h.2 (by simp;omega);refine⟨acc',s2',?_⟩;rw[List.map_append,List.map_cons,List.map_nil] at ih;have e0:atI [D.str p.1,D.int p.2] 0=some (.str p.1):=by rfl
   have hs:(acc.map D.str).length < sizeLine:=by rw[List.length_map];show acc.length < 2 ^ 24;omega
   refine(qf _).symm.trans ?_;simp? only[Yz,e0,qiT k p.1 p.2 hn h1 h9,qaB,h.1,hs,ih]
theorem qbk(k:Nat)(b:Bool)(l:List D)(h:qG l=true):clK pg (k+4) "are_lands" [aL b l]=.ok (.val (.bl true)):=by
 unfold qG at h;simp only[Bool.and_eq_true,decide_eq_true_eq] at h;have h1:¬ (l.length:Int) < 1:=by have:=h.1.1;omega
 have h2:¬ (6:Int) < (l.length:Int):=by have:=h.1.2;omega
 rw[r_are_lands];obtain⟨acc',s2',ih⟩:=QE (pg:=pg) k (pS b l) l [] .no h.2 (by have:=h.1.2;simp;omega);rw[List.map_nil] at ih;simp? only[YA,h1,h2,show(0:Nat)<=sizeLine by decide+kernel,ih]
end
section
variable{pg:Pg}[CH pg]
theorem qlQ(k:Nat)(n a b:Int)(h:btw n a b=true):clK pg (k+2) "is_between" [.val (.int n),.val (.int a),.val (.int b)]=.ok (.val (.bl true)):=by unfold btw at h;simp only[Bool.and_eq_true,decide_eq_true_eq] at h;exact zx k n a b h.1 h.2
end
theorem QF(cl:Cl)(hc:cl.cs=pcs)(v:Sl):∀(l:List D) (s1:Sl),l.all qaw=true->∃s1',jN cl 1000 (.one 1) jE l [v,s1]=.ok (.next [v,s1'])
 |[],s1,_=>⟨s1,rfl⟩
 | d::l,s1,h=>by
  rw[List.all_cons,Bool.and_eq_true] at h
  cases d with
  |ins c ns ds=>
   obtain⟨s1',ih⟩:=QF cl hc v l (.val (.ins c ns ds)) h.2;refine⟨s1',?_⟩;have hk:rk c=true:=h.1
   have i1:qgW pcs (.val (.ins c ns ds)) "Within" = some (c == "Within"):=by show(if (rk c&&_)=true then _ else _)=_;rw[hk];rfl
   have i2:qgW pcs (.val (.ins c ns ds)) "Since" = some (c != "Within"):=by show(if (rk c&&false)=true then _ else if (rk c&&true)=true then _ else _)=_;rw[hk];rfl
   refine(qf _).symm.trans ?_
   by_cases hw:(c == "Within")=true
   ·simp? only[yf,hc,i1,hw,ih]
   ·have hw:(c == "Within")=false:=by simpa using hw
    have hn:(c != "Within")=true:=by simp[bne,hw]
    simp? only[yf,hc,i1,i2,hw,hn,ih]
  |_=>cases h.1
section
variable{pg:Pg}[CH pg][RU pg][BO pg]
theorem qbl(k:Nat)(b:Bool)(l:List D)(h:(decide (l.length<=8)&&l.all qaw)=true):clK pg (k+1) "are_rules" [aL b l]=.ok (.val (.bl true)):=by
 simp only[Bool.and_eq_true,decide_eq_true_eq] at h;have h2:¬ (8:Int) < (l.length:Int):=by have:=h.1;omega
 rw[r_are_rules];obtain⟨s1',ih⟩:=QF (pg.kk k) RU.cs (pS b l) l .no h.2;simp? only[YB,h2,ih]
end
theorem qeo{n:Int}{d:D}(h:yB n d=true):∃o a b,d=.tup [.int o,.int a,.int b]/\0<=o/\o<=n - 1/\0<=a/\a<=b/\b<=1000000000:=by
 unfold yB at h
 split at h
 ·rename_i o a b;simp only[btw,Bool.and_eq_true,decide_eq_true_eq] at h;exact⟨o,a,b,rfl,by omega,by omega,by omega,by omega,by omega⟩
 ·cases h
section
variable{pg:Pg}[CH pg][BO pg]
theorem qgb(k:Nat)(n:Int)(d:D)(h:yB n d=true):clK pg (k+4) "is_paper" [.val d,.val (.int n)]=.ok (.val (.bl true)):=by
 obtain⟨o,a,b,rfl,h1,h2,h3,h4,h5⟩:=qeo h;have e0:atI [D.int o,D.int a,D.int b] 0=some (.int o):=by rfl
 have e1:atI [D.int o,D.int a,D.int b] 1=some (.int a):=by rfl
 have e2:atI [D.int o,D.int a,D.int b] 2=some (.int b):=by rfl
 rw[r_is_paper];simp? only[QD,e0,e1,e2,qp,zx (k+1) o 0 (n - 1) h1 h2,qen k a b h3 h4 h5,show((((0+1+1+1:Nat):Int) == 3)=true) from rfl]
theorem zG(k:Nat)(v:Sl)(n:Int):∀(l:List D) (i:Nat) (s2 s3:Sl),l.all (yB n)=true->∃s2' s3',jN (pg.kk (k+4)) 1000 (.many [2,3]) ze (enF i l) [v,.val (.int n),s2,s3]=.ok (.next [v,.val (.int n),s2',s3'])
 |[],i,s2,s3,_=>⟨s2,s3,rfl⟩
 | d::l,i,s2,s3,h=>by rw[List.all_cons,Bool.and_eq_true] at h;obtain⟨s2',s3',ih⟩:=zG k v n l (i+1) (.val (.int i)) (.val d) h.2;refine⟨s2',s3',?_⟩;refine(qf _).symm.trans ?_;rw[enF];simp? only[y9,qgb k n d h.1,ih]
theorem Qg(k:Nat)(b:Bool)(ps:List D)(n:Int)(h:(decide (ps.length<=12)&&ps.all (yB n))=true):clK pg (k+5) "check_papers" [aL b ps,.val (.int n)]=.ok (.val .non):=by
 simp only[Bool.and_eq_true,decide_eq_true_eq] at h;have h2:¬ (12:Int) < (ps.length:Int):=by have:=h.1;omega
 rw[r_check_papers];obtain⟨s2',s3',ih⟩:=zG (pg:=pg) k (pS b ps) n ps 0 .no .no h.2;simp? only[yE,y6,ih,h2]
end
end DG
namespace FA
open PySem L2 DE DG
theorem JV{i j:Int}(h1:-(2 ^ 64) < j)(h2:j < 2 ^ 64):ZO i j=true:=by unfold ZO;rw[decide_eq_true h1,decide_eq_true h2];simp
theorem qhi{i j:Int}(h1:-(2 ^ 64) < i)(h2:i < 2 ^ 64):ZO i j=true:=by unfold ZO;rw[decide_eq_true h1,decide_eq_true h2];simp
def qN(ns:List Int)(i:Nat):Int:=ns.getD i 0
theorem qlR(i:Int)(h0:0<=i)(h1:i < 26):atI (Str.cps "abcdefghijklmnopqrstuvwxyz").toList i=some (97+i.toNat)/\yL (97+i.toNat):=by
 have key:∀j:Fin 26,atI (Str.cps "abcdefghijklmnopqrstuvwxyz").toList (j.val:Int)=some (97+j.val):=by decide+kernel
 obtain⟨j,rfl⟩:=Int.eq_ofNat_of_zero_le h0;exact⟨key ⟨j,by omega⟩,by unfold yL;simp;omega⟩
theorem Zi(z:Str)(c:Nat):(z++(⟨#[c]⟩:Str)).cps.size=z.cps.size+1:=by show(z.cps ++ #[c]).size=_;simp
theorem qgc(z:Str)(c:Nat):(z++(⟨#[c]⟩:Str)).cps.toList=z.cps.toList++[c]:=by show(z.cps ++ #[c]).toList=_;simp
structure NamesOk(zs:List Str):Prop where
 two:2<=zs.length
 four:zs.length<=4
 ok:∀z∈zs,NameOk z
 once:∀(i j:Nat) (z:Str),zs[i]?=some z->zs[j]?=some z->i=j
end FA
namespace FA
open PySem L2 DE DG
def lnD(p:Str×Int):D:=.tup [.str p.1,.int p.2]
theorem qep(p:Str×Int):lnD p=.tup [.str p.1,.int p.2]:=rfl
theorem qgd{z:Str}(h:NameOk z):qcZ z=true:=by
 unfold qcZ;simp only[Bool.and_eq_true,decide_eq_true_eq,List.all_eq_true];refine⟨⟨h.one,h.eight⟩,λc hc=>?_⟩
 have:=h.lets c hc
 unfold yL at this;omega
structure LnOk(p:Str×Int):Prop where
 nm:NameOk p.1
 one:1<=p.2
 nine:p.2<=9
theorem qge{p:Str×Int}(h:LnOk p):qem (lnD p)=some p:=by show(if (qcZ p.1&&decide (1<=p.2)&&decide (p.2<=9))=true then some (p.1,p.2) else none)=_;rw[if_pos (by rw[qgd h.nm,decide_eq_true h.one,decide_eq_true h.nine];rfl)]
theorem qaC:∀(l:List (Str×Int)) (acc:List Str),(∀p∈l,LnOk p)->(acc++l.map (·.1)).Nodup->Qy acc (l.map lnD)=true
 |[],acc,_,_=>rfl
 | p::l,acc,h,nd=>by
  rw[List.map_cons];unfold Qy;rw[qge (h p (by simp))];have e:acc++(p::l).map (·.1)=(acc++[p.1])++l.map (·.1):=by simp
  rw[e] at nd
  have n1:p.1∉acc:=by
   have:=(List.nodup_append.mp nd).1
   have:=(List.nodup_append.mp this).2.2
   intro hm;exact this p.1 hm p.1 (by simp) rfl
  simp only[Bool.and_eq_true,Bool.not_eq_true'];exact⟨by simpa using n1,qaC l (acc++[p.1]) (λq hq=>h q (by simp[hq])) nd⟩
theorem qc2{l:List (Str×Int)}(h:∀p∈l,LnOk p)(nd:(l.map (·.1)).Nodup)(h1:1<=l.length)(h6:l.length<=6):qG (l.map lnD)=true:=by unfold qG;rw[List.length_map,decide_eq_true h1,decide_eq_true h6,qaC l [] h (by simpa using nd)];rfl
theorem Zj{zs:List Str}(i:Int)(h0:0<=i)(h1:i < zs.length):∃z,atI (zs.map D.str) i=some (.str z)/\zs[i.toNat]?=some z:=by
 obtain⟨j,rfl⟩:=Int.eq_ofNat_of_zero_le h0;have hj:j < zs.length:=by omega
 exact⟨zs[j],qhe (by rw[List.getElem?_map,List.getElem?_eq_getElem hj];rfl),by simp[hj]⟩
theorem YC(zs:List Str):((zs.map D.str).length:Int)=(zs.length:Int):=by rw[List.length_map]
noncomputable def Lns(zs:List Str)(a:Int)(l:List (Str×Int)):Prop:=∀(i:Nat) (p:Str×Int),l[i]?=some p->zs[((a+(i:Int)) % (zs.length:Int)).toNat]?=some p.1/\LnOk p
inductive Kd where
 | wi | si | ro
structure Ru where
 kd:Kd
 lands:List (Str×Int)
 most:Int
 days:Int
theorem Lns.nodup{zs:List Str}(hz:NamesOk zs){a:Int}{l:List (Str×Int)}(h:Lns zs a l)(hl:l.length<=zs.length):(l.map (·.1)).Nodup:=by
 rw[List.nodup_iff_pairwise_ne,List.pairwise_iff_getElem];intro i j hi hj hij e;rw[List.length_map] at hi hj;rw[List.getElem_map,List.getElem_map] at e;have h1:=(h i _ (List.getElem?_eq_getElem hi)).1;have h2:=(h j _ (List.getElem?_eq_getElem hj)).1;rw[e] at h1
 have:=hz.once _ _ _ h1 h2
 have hL:(0:Int) < (zs.length:Int):=by have:=hz.two;omega
 have a0:0<=(a+(i:Int)) % (zs.length:Int):=Int.emod_nonneg _ (1:);have b0:0<=(a+(j:Int)) % (zs.length:Int):=Int.emod_nonneg _ (1:);have e3:(a+(i:Int)) % (zs.length:Int)=(a+(j:Int)) % (zs.length:Int):=by omega
 have e4:=Int.emod_emod_of_dvd (a+j - (a+i)) (Int.dvd_refl (zs.length:Int));have e5:(a+(j:Int) - (a+(i:Int))) % (zs.length:Int)=0:=by rw[Int.sub_emod,e3,Int.sub_self,Int.zero_emod]
 rw[show a+(j:Int) - (a+(i:Int))=((j - i:Nat):Int) by omega] at e5;rw[Int.emod_eq_of_lt (1:) (1:)] at e5;omega
end FA
namespace Dy
abbrev P:=Int×Int
def Day(fs:List P)(d:Int):Prop:=∃p∈fs,p.1<=d/\d<=p.2
structure Spr(fs:List P):Prop where
 ok:∀p∈fs,p.1<=p.2
 gap:fs.Pairwise λp q=>p.2+2<=q.1
def lex(p q:P):Prop:=p.1 < q.1\/(p.1=q.1/\p.2<=q.2)
noncomputable def stp(acc:List P)(p:P):List P:=match acc.getLast? with
 |some l=>if p.1<=l.2+1 then acc.dropLast++[(l.1,if p.2 > l.2 then p.2 else l.2)] else acc++[p]
 |none=>[p]
theorem qbm(p:P):stp [] p=[p]:=rfl
theorem Zk(a:List P)(l p:P):stp (a++[l]) p=if p.1<=l.2+1 then a++[(l.1,if p.2 > l.2 then p.2 else l.2)] else (a++[l])++[p]:=by unfold stp;rw[List.getLast?_append];simp
theorem qbn{α:Type}(l:List α):l=[]\/∃a x,l=a++[x]:=by
 cases l with
 |nil=>exact .inl rfl
 |cons a r=>exact .inr ⟨(a::r).dropLast,(a::r).getLast (by simp),(List.dropLast_concat_getLast (by simp)).symm⟩
theorem JD{a b:List P}{d:Int}:Day (a++b) d↔Day a d\/Day b d:=by
 unfold Day;constructor
 ·rintro⟨p,hp,h⟩;rcases List.mem_append.mp hp with q | q
  ·exact .inl ⟨p,q,h⟩
  ·exact .inr ⟨p,q,h⟩
 ·rintro (⟨p,hp,h⟩ | ⟨p,hp,h⟩)
  ·exact⟨p,List.mem_append_left _ hp,h⟩
  ·exact⟨p,List.mem_append_right _ hp,h⟩
theorem Zl{p:P}{d:Int}:Day [p] d↔p.1<=d/\d<=p.2:=by
 unfold Day;constructor
 ·rintro⟨q,hq,h⟩;rw[List.mem_singleton.mp hq] at h;exact h
 ·intro h;exact⟨p,List.mem_singleton.mpr rfl,h⟩
theorem qgf{a b:List P}(h:a.Perm b)(d:Int):Day a d↔Day b d:=by
 unfold Day;constructor
 ·rintro⟨p,hp,q⟩;exact⟨p,h.mem_iff.mp hp,q⟩
 ·rintro⟨p,hp,q⟩;exact⟨p,h.mem_iff.mpr hp,q⟩
structure Run(done acc:List P):Prop where
 spr:Spr acc
 day:∀d,Day acc d↔Day done d
 low:∀a l,acc=a++[l]->∃q∈done,q.1=l.1
 len:acc.length<=done.length
 emp:acc=[]->done=[]
theorem qiU:Run [] []:=⟨⟨(λ_ h=>nomatch h),List.Pairwise.nil⟩,λ_=>Iff.rfl,λa l e=>by simp at e,Nat.le_refl _,λ_=>rfl⟩
theorem qgg{done acc:List P}{p:P}(R:Run done acc)(hp:p.1<=p.2)(hs:∀q∈done,q.1<=p.1):Run (done++[p]) (stp acc p):=by
 rcases qbn acc with rfl | ⟨a,l,rfl⟩
 ·have hd:=R.emp rfl;subst hd;rw[qbm];refine⟨⟨λq hq=>by rw[List.mem_singleton.mp hq];exact hp,by simp⟩,λd=>by simp,λa l e=>?_,by simp,λe=>by simp at e⟩;refine⟨p,by simp,?_⟩
  have:a=[]/\p=l:=by
   cases a with
   |nil=>simpa using e
   |cons x r=>simp at e
  rw[this.2]
 ·rw[Zk];obtain⟨q0,hq0,e0⟩:=R.low a l rfl;have hl:l.1<=p.1:=by rw[<-e0];exact hs q0 hq0
  have hlo:=R.spr.ok l (by simp);have hg:=List.pairwise_append.mp R.spr.gap
  by_cases hc:p.1<=l.2+1
  ·rw[if_pos hc];refine⟨⟨λq hq=>?_,?_⟩,λd=>?_,λa' l' e=>?_,?_,λe=>by simp at e⟩
   ·rcases List.mem_append.mp hq with h | h
    ·exact R.spr.ok q (List.mem_append_left _ h)
    ·rw[List.mem_singleton.mp h];dsimp only
     split<;>omega
   ·refine List.pairwise_append.mpr ⟨hg.1,by simp,λx hx y hy=>?_⟩;rw[List.mem_singleton.mp hy];exact hg.2.2 x hx l (by simp)
   ·rw[JD,Zl,JD,Zl,<-R.day d,JD,Zl];dsimp only;constructor
    ·rintro (h | h)
     ·exact .inl (.inl h)
     ·by_cases h2:d<=l.2
      ·exact .inl (.inr ⟨h.1,h2⟩)
      ·right
       have:=h.2
       split at this<;>omega
    ·rintro ((h | h) | h)
     ·exact .inl h
     ·right;refine⟨h.1,?_⟩
      split<;>omega
     ·right;refine⟨by omega,?_⟩
      split<;>omega
   ·have:l'.1=l.1:=by
     have:=(List.append_inj' e rfl).2
     simp at this;rw[<-this]
    exact⟨q0,List.mem_append_left _ hq0,by rw[this];exact e0⟩
   ·have:=R.len
    simp at this ⊢;omega
  ·rw[if_neg hc];refine⟨⟨λq hq=>?_,?_⟩,λd=>?_,λa' l' e=>?_,?_,λe=>by simp at e⟩
   ·rcases List.mem_append.mp hq with h | h
    ·exact R.spr.ok q h
    ·rw[List.mem_singleton.mp h];exact hp
   ·refine List.pairwise_append.mpr ⟨R.spr.gap,by simp,λx hx y hy=>?_⟩;rw[List.mem_singleton.mp hy];rcases List.mem_append.mp hx with h | h
    ·have:=hg.2.2 x h l (by simp)
     omega
    ·rw[List.mem_singleton.mp h];omega
   ·rw[JD (a:=a++[l]),JD (a:=done),R.day d]
   ·have:=(List.append_inj' e rfl).2
    simp at this;exact⟨p,by simp,by rw[this]⟩
   ·have:=R.len
    simp at this ⊢;omega
theorem qiV{qs:List P}(hs:qs.Pairwise lex)(hq:∀p∈qs,p.1<=p.2):∀n,n<=qs.length->Run (qs.take n) ((qs.take n).foldl stp []):=by
 intro n
 induction n with
 |zero=>intro _;simpa using qiU
 |succ n ih=>
  intro hn;have e:qs.take (n+1)=qs.take n++[qs[n]]:=by rw[List.take_succ_eq_append_getElem (1:)]
  rw[e,List.foldl_append];refine qgg (ih (1:)) (hq _ (List.getElem_mem _)) λq hq'=>?_;obtain⟨i,hi,rfl⟩:=List.mem_take_iff_getElem.mp hq'
  have:=List.pairwise_iff_getElem.mp hs i n (1:) (1:) (1:)
  rcases this with h | h
  ·omega
  ·omega
theorem Spr.ends{fs:List P}(S:Spr fs){p:P}(hp:p∈fs):¬ Day fs (p.2+1)/\¬ Day fs (p.1 - 1):=by
 have key:∀q∈fs,q=p\/q.2+2<=p.1\/p.2+2<=q.1:=by
  intro q hq;obtain⟨i,hi,rfl⟩:=List.mem_iff_getElem.mp hq;obtain⟨j,hj,rfl⟩:=List.mem_iff_getElem.mp hp;have g:=List.pairwise_iff_getElem.mp S.gap;rcases Nat.lt_trichotomy i j with h | h | h
  ·exact .inr (.inl (g i j hi hj h))
  ·subst h;exact .inl rfl
  ·exact .inr (.inr (g j i hj hi h))
 have hpp:=S.ok p hp;constructor
 ·rintro⟨q,hq,h1,h2⟩;rcases key q hq with rfl | h | h<;>omega
 ·rintro⟨q,hq,h1,h2⟩;rcases key q hq with rfl | h | h<;>omega
theorem Spr.same{fs gs:List P}(S:Spr fs)(T:Spr gs)(h:∀d,Day fs d↔Day gs d):fs=gs:=by
 have sub:∀{fs gs:List P},Spr fs->Spr gs->(∀d,Day fs d↔Day gs d)->∀p∈fs,p∈gs:=by
  intro fs gs S T h p hp;have hpp:=S.ok p hp;obtain⟨q,hq,h1,h2⟩:=(h p.1).mp ⟨p,hp,Int.le_refl _,hpp⟩;obtain⟨e1,e2⟩:=T.ends hq;obtain⟨f1,f2⟩:=S.ends hp
  have a1:q.1=p.1:=by
   by_cases hlt:q.1=p.1
   ·exact hlt
   ·exact absurd ((h (p.1 - 1)).mpr ⟨q,hq,by omega,by omega⟩) f2
  have a2:q.2=p.2:=by
   rcases Int.lt_trichotomy q.2 p.2 with hlt | hlt | hlt
   ·exact absurd ((h (q.2+1)).mp ⟨p,hp,by omega,by omega⟩) e1
   ·exact hlt
   ·exact absurd ((h (p.2+1)).mpr ⟨q,hq,by omega,by omega⟩) f1
  have:q=p:=Prod.ext a1 a2
  rw[<-this];exact hq
 have strict:∀{fs:List P},Spr fs->fs.Pairwise (λp q=>p.1 < q.1):=λ{fs} S=>by
  refine List.Pairwise.imp_of_mem (λ{p q} hp hq hg=>?_) S.gap
  have:=S.ok p hp
  omega
 have uniq:∀(fs gs:List P),fs.Pairwise (λp q=>p.1 < q.1)->gs.Pairwise (λp q=>p.1 < q.1)->(∀p,p∈fs↔p∈gs)->fs=gs:=by
  intro fs
  induction fs with
  |nil=>
   intro gs _ _ h
   cases gs with
   |nil=>rfl
   |cons g gs=>exact absurd ((h g).mpr (by simp)) (by simp)
  |cons p fs ih=>
   intro gs h1 h2 h
   cases gs with
   |nil=>exact absurd ((h p).mp (by simp)) (by simp)
   |cons q gs=>
    have p1:=List.pairwise_cons.mp h1;have p2:=List.pairwise_cons.mp h2
    have e:p=q:=by
     rcases List.mem_cons.mp ((h p).mp (by simp)) with e | e
     ·exact e
     ·rcases List.mem_cons.mp ((h q).mpr (by simp)) with e' | e'
      ·exact e'.symm
      ·have:=p1.1 q e'
       have:=p2.1 p e
       omega
    subst e;have hne:∀x,x∈fs->x≠p:=λx hx e=>by subst e;have:=p1.1 x hx;omega
    have hne':∀x,x∈gs->x≠p:=λx hx e=>by subst e;have:=p2.1 x hx;omega
    rw[ih gs p1.2 p2.2 λx=>⟨λhx=>by
     rcases List.mem_cons.mp ((h x).mp (List.mem_cons_of_mem _ hx)) with e | e
     ·exact absurd e (hne x hx)
     ·exact e,λhx=>by
     rcases List.mem_cons.mp ((h x).mpr (List.mem_cons_of_mem _ hx)) with e | e
     ·exact absurd e (hne' x hx)
     ·exact e⟩]
 exact uniq fs gs (strict S) (strict T) λp=>⟨sub S T h p,sub T S (λd=>(h d).symm) p⟩
end Dy
namespace Dy
def qjy(A:List P)(d:Int):Bool:=A.any λp=>decide (p.1<=d)&&decide (d<=p.2)
theorem jF{A:List P}{d:Int}:qjy A d=true↔Day A d:=by unfold qjy Day;simp[List.any_eq_true]
end Dy
namespace DG
open PySem L2 DE FA Dy
open CH ST SP RU BO
theorem qbo:∀ps:List (Int×Int),qgX (ps.map pD)=some ps
 |[]=>rfl
 | p::ps=>by rw[List.map_cons,qgX,qbo ps];rfl
theorem ja(p:Int×Int):pD p=.tup [.int p.1,.int p.2]:=rfl
def spr(ps:List (Int×Int)):List (Int×Int):=(yK ps).foldl stp []
theorem qiW(acc:List (Int×Int))(p:Int×Int):(stp acc p).length<=acc.length+1:=by
 rcases qbn acc with rfl | ⟨a,l,rfl⟩
 ·simp[qbm]
 ·rw[Zk]
  split<;>simp
theorem qr{n:Nat}(h:n < 100000):n < sizeLine:=Nat.lt_trans h (by decide+kernel)
theorem qy{n:Nat}(h:n < 100000):n<=sizeLine:=Nat.le_of_lt (qr h)
theorem YD(cl:Cl)(v:Sl):∀(ps acc:List (Int×Int)) (s2 s3:Sl),acc.length+ps.length < 10000->∃s2' s3',jN cl 1000 (.many [2,3]) JC (ps.map pD) [v,.own (acc.map pD),s2,s3]=.ok (.next [v,.own ((ps.foldl stp acc).map pD),s2',s3'])
 |[],acc,s2,s3,_=>⟨s2,s3,rfl⟩
 | p::ps,acc,s2,s3,hl=>by
  rw[List.length_cons] at hl
  have:=qiW acc p
  obtain⟨s2',s3',ih⟩:=YD cl v ps (stp acc p) (.val (.int p.1)) (.val (.int p.2)) (1:);refine⟨s2',s3',?_⟩;have hs:acc.length < sizeLine:=qr (1:);have two:0+1+1<=sizeLine:=by decide+kernel
  rw[List.foldl_cons];rcases qbn acc with rfl | ⟨a,l,rfl⟩
  ·rw[qbm] at ih ⊢;simp only[List.map_cons,List.map_nil,ja] at ih;refine(qf _).symm.trans ?_;simp? only[ye,ja,List.isEmpty_nil,two,show(0:Nat) < sizeLine by decide+kernel,ih]
  ·rw[Zk] at ih ⊢
   by_cases hc:p.1<=l.2+1
   ·rw[if_pos hc] at ih ⊢;simp only[List.map_append,List.map_cons,List.map_nil,ja] at ih;refine(qf _).symm.trans ?_;simp? only[ye,ja,List.map_append,hc,two,ih]
   ·rw[if_neg hc] at ih ⊢;simp only[List.map_append,List.map_cons,List.map_nil,ja] at ih;have hs':(a.map pD++[D.tup [.int l.1,.int l.2]]).length < sizeLine:=by simpa using hs
    refine(qf _).symm.trans ?_;simp? only[ye,ja,List.map_append,hc,two,hs',ih]
theorem qeq{pg:Pg}[SP pg](k:Nat)(b:Bool)(ps:List (Int×Int))(hl:ps.length < 64):clK pg (k+1) "spread" [aL b (ps.map pD)]=.ok (.tmp ((spr ps).map pD)):=by
 have hl':(yK ps).length < 10000:=by unfold yK;rw[List.length_mergeSort];omega
 rw[r_spread];obtain⟨s2,s3,e⟩:=YD (pg.kk k) (pS b (ps.map pD)) (yK ps) [] .no .no (by simpa using hl');rw[List.map_nil] at e;simp? only[qb5,Yv,qbo,hl,show(0:Nat)<=sizeLine by decide+kernel,e,spr]
theorem Zm(p q:Int×Int):ZQ p q=true↔lex p q:=by unfold ZQ lex;simp
theorem Zn(ps:List (Int×Int))(h:∀p∈ps,p.1<=p.2):Run (yK ps) (spr ps):=by
 have hs:(yK ps).Pairwise lex:=by
  have:=List.pairwise_mergeSort (le:=ZQ) (λa b c h1 h2=>by rw[Zm] at h1 h2 ⊢;unfold lex at *;omega) (λa b=>by simp only[Bool.or_eq_true,Zm];unfold lex;omega) ps
  exact this.imp λ{a b} h=>(Zm a b).mp h
 have hq:∀p∈yK ps,p.1<=p.2:=λp hp=>h p ((List.mergeSort_perm ps ZQ).mem_iff.mp hp)
 have:=qiV hs hq (yK ps).length (Nat.le_refl _)
 rwa[List.take_length] at this
theorem qiX{ps:List (Int×Int)}(h:∀p∈ps,p.1<=p.2)(d:Int):qjy (spr ps) d=qjy ps d:=by rw[Bool.eq_iff_iff,jF,jF,(Zn ps h).day d];exact qgf (List.mergeSort_perm ps ZQ) d
theorem qer{ps:List (Int×Int)}(h:∀p∈ps,p.1<=p.2):Spr (spr ps):=(Zn ps h).spr
theorem qbp{ps:List (Int×Int)}(h:∀p∈ps,p.1<=p.2):(spr ps).length<=ps.length:=by
 have:=(Zn ps h).len
 unfold yK at this
 rwa[List.length_mergeSort] at this
end DG
namespace DG
open PySem L2 DE FA Dy
open CH ST SP RU BO
def _root_.FA.Kd.cls:Kd->Str
 |.wi=>"Within"
 |.si=>"Since"
 |.ro=>"InRow"
def _root_.FA.Kd.fld:Kd->Str
 |.wi=>"span"
 |.si=>"leave"
 |.ro=>"leave"
def _root_.FA.Kd.isW:Kd->Bool
 |.wi=>true
 |.si=>false
 |.ro=>false
noncomputable def ruI(r:Ru):D:=.ins r.kd.cls ["lands","most",r.kd.fld] [.tup (r.lands.map lnD),.int r.most,.int r.days]
theorem qb8(r:Ru):qd0 pcs (.val (ruI r)) "lands" = some (.tup (r.lands.map lnD)):=by obtain⟨kd,l,m,d⟩:=r;cases kd<;>rfl
theorem Zo(r:Ru):qd0 pcs (.val (ruI r)) "most" = some (.int r.most):=by obtain⟨kd,l,m,d⟩:=r;cases kd<;>rfl
theorem qes(r:Ru)(h:r.kd.isW=true):qd0 pcs (.val (ruI r)) "span" = some (.int r.days):=by
 obtain⟨kd,l,m,d⟩:=r
 cases kd<;>first | rfl | cases h
theorem qgh(r:Ru)(h:r.kd.isW=false):qd0 pcs (.val (ruI r)) "leave" = some (.int r.days):=by
 obtain⟨kd,l,m,d⟩:=r
 cases kd<;>first | rfl | cases h
theorem qaD(r:Ru):mtD pcs (.val (ruI r)) "weight" = some ("Rule.weight" : Str):=by obtain⟨kd,l,m,d⟩:=r;cases kd<;>rfl
theorem qaE(r:Ru):qgW pcs (.val (ruI r)) "Within" = some r.kd.isW:=by obtain⟨kd,l,m,d⟩:=r;cases kd<;>rfl
abbrev St:=Str×Int×Int
abbrev Pa:=Int×Int×Int
def paD(p:Pa):D:=.tup [.int p.1,.int p.2.1,.int p.2.2]
theorem qS(p:Pa):paD p=.tup [.int p.1,.int p.2.1,.int p.2.2]:=rfl
noncomputable def bkI(rs:List Ru)(ps:List Pa):D:=.ins "Book" ["kept_rules","kept_papers"] [.lst (rs.map ruI),.lst (ps.map paD)]
theorem qgi(rs:List Ru)(ps:List Pa):qd0 pcs (.val (bkI rs ps)) "kept_rules" = some (.lst (rs.map ruI)):=rfl
theorem qet(rs:List Ru)(ps:List Pa):qd0 pcs (.val (bkI rs ps)) "kept_papers" = some (.lst (ps.map paD)):=rfl
theorem Yg(rs:List Ru)(ps:List Pa):mtD pcs (.val (bkI rs ps)) "rules" = some ("Book.rules" : Str):=rfl
theorem qeu(rs:List Ru)(ps:List Pa):mtD pcs (.val (bkI rs ps)) "lifted" = some ("Book.lifted" : Str):=rfl
noncomputable def qK:List St->Int->Option Str
 |[],_=>none
 | s::l,d=>if s.2.1<=d/\d<=s.2.2 then some s.1 else qK l d
def qiY:Option Str->D
 |some z=>.str z
 |none=>.non
def wt:List (Str×Int)->Option Str->Int
 |[],_=>0
 | p::l,o=>if o=some p.1 then p.2 else wt l o
theorem yx{z:Str}(h:NameOk z):PyData.strOk z=true:=by
 unfold PyData.strOk;rw[<-Array.all_toList,List.all_eq_true];intro c hc
 have:=h.lets c hc
 unfold yL at this;rw[decide_eq_true_eq];omega
theorem qiZ{p:Str}(hp:NameOk p){o:Option Str}(ho:∀z,o=some z->NameOk z):eqD (.str p) (qiY o)=some (decide (o=some p)):=by
 cases o with
 |none=>show eqD (.str p) .non=_;rw[qlI (yx hp)];simp
 |some z=>
  show eqD (.str p) (.str z)=_;rw[qiK (yx hp) (yx (ho z rfl))]
  congr 1
  rw[Bool.eq_iff_iff,beq_iff_eq,decide_eq_true_eq];constructor
  ·rintro rfl;rfl
  ·intro e;cases e;rfl
theorem YE(cl:Cl)(v:Sl)(o:Option Str)(ho:∀z,o=some z->NameOk z):∀(l:List (Str×Int)) (s2 s3:Sl),(∀p∈l,LnOk p)->∃F,jN cl 1000 (.many [2,3]) zE (l.map lnD) [v,.val (qiY o),s2,s3]=.ok F/\(F=.ret (.val (.int (wt l o)))\/(wt l o=0/\∃ρ',F=.next ρ'))
 |[],s2,s3,_=>⟨_,rfl,.inr ⟨rfl,_,rfl⟩⟩
 | p::l,s2,s3,h=>by
  obtain⟨F,i,a⟩:=YE cl v o ho l (.val (.str p.1)) (.val (.int p.2)) λq hq=>h q (by simp[hq]);have e:=qiZ (h p (by simp)).nm ho;unfold wt
  by_cases hc:o=some p.1
  ·rw[if_pos hc];rw[decide_eq_true hc] at e;refine⟨_,?_,.inl rfl⟩;refine(qf _).symm.trans ?_;rw[List.map_cons];simp? only[ji,qep,e]
  ·rw[if_neg hc];rw[decide_eq_false hc] at e;refine⟨F,?_,a⟩;refine(qf _).symm.trans ?_;rw[List.map_cons];simp? only[ji,qep,e,i]
theorem qev{pg:Pg}[RU pg](k:Nat)(r:Ru)(h:∀p∈r.lands,LnOk p)(o:Option Str)(ho:∀z,o=some z->NameOk z):clK pg (k+1) "Rule.weight" [.val (ruI r),.val (qiY o)]=.ok (.val (.int (wt r.lands o))):=by
 rw[r_Rule_weight];obtain⟨F,i,a⟩:=YE (pg.kk k) (.val (ruI r)) o ho r.lands .no .no h;rcases a with rfl | ⟨i0,ρ',rfl⟩
 ·simp? only[jD,RU.cs,qb8,i]
 ·simp? only[jD,RU.cs,qb8,i,i0]
theorem Zp{pg:Pg}[RU pg][BO pg](k:Nat)(rs:List Ru)(ps:List Pa):clK pg (k+1) "Book.rules" [.val (bkI rs ps)]=.ok (.tmp (rs.map ruI)):=by rw[r_Book_rules];simp? only[JU,RU.cs,qgi]
def ofN(n:Int)(ps:List Pa):List (Int×Int):=(ps.filter λp=>p.1 == n).map λp=>(p.2.1,p.2.2)
def zU(n:Int)(ps:List Pa):List (Int×Int):=spr (ofN n ps)
theorem yM(cl:Cl)(n:Int):∀(ps:List Pa) (acc:List (Int×Int)) (s0 s1 s2:Sl),acc.length+ps.length < 10000->zt cl zF (.many [0,1,2]) (.test (.cmp .Eq (.var 0) (.var 3))) (ps.map paD) [s0,s1,s2,.val (.int n)] (acc.map pD)=.ok ((acc++ofN n ps).map pD)
 |[],acc,s0,s1,s2,_=>by simp[ofN,qH]
 | p::ps,acc,s0,s1,s2,hl=>by
  rw[List.length_cons] at hl;have two:0+1+1<=sizeLine:=by decide+kernel
  have hs:(acc.map pD).length < sizeLine:=by rw[List.length_map];exact qr (1:)
  cases hc:(p.1 == n) with
  |true=>
   have ih:=yM cl n ps (acc++[(p.2.1,p.2.2)]) (.val (.int p.1)) (.val (.int p.2.1)) (.val (.int p.2.2)) (by simp;omega);have e:ofN n (p::ps)=(p.2.1,p.2.2)::ofN n ps:=by simp[ofN,hc]
   rw[e];simp only[List.map_append,List.map_cons,List.map_nil,ja,List.append_assoc,List.cons_append,List.nil_append] at ih ⊢;refine(qf _).symm.trans ?_;simp? only[jk,qS,qp,hc,two,hs,ih]
  |false=>
   have ih:=yM cl n ps acc (.val (.int p.1)) (.val (.int p.2.1)) (.val (.int p.2.2)) (1:);have e:ofN n (p::ps)=ofN n ps:=by simp[ofN,hc]
   rw[e];refine(qf _).symm.trans ?_;rw[List.map_cons];simp? only[jk,qS,qp,hc,two,hs,ih]
theorem Zq(n:Int)(ps:List Pa):(ofN n ps).length<=ps.length:=by unfold ofN;rw[List.length_map];exact List.length_filter_le ..
theorem qew{pg:Pg}[RU pg][BO pg][SP pg](k:Nat)(rs:List Ru)(ps:List Pa)(n:Int)(hl:ps.length < 64):clK pg (k+2) "Book.lifted" [.val (bkI rs ps),.val (.int n)]=.ok (.tmp ((zU n ps).map pD)):=by
 have i:=yM (pg.kk (k+1)) n ps [] .no .no .no (by simp;omega);have s:=qeq (pg:=pg) k false (ofN n ps) (Nat.lt_of_le_of_lt (Zq n ps) hl);have hs:(ps.map paD).length<=sizeLine:=by rw[List.length_map];exact qy (1:)
 simp only[qau,qav] at s;rw[List.map_nil,List.nil_append] at i;rw[r_Book_lifted];simp? only[Ja,RU.cs,qet,Qt,List.getD_cons_succ,List.getD_cons_zero,hs,i,s,zU]
noncomputable def wgt(r:Ru)(lf:List (Int×Int))(st:List St)(d:Int):Int:=if qjy lf d=true then 0 else wt r.lands (qK st d)
end DG
namespace DG
open PySem L2 DE FA Dy
open CH ST SP RU BO
def ws(f:Int->Int)(lo:Int):Nat->List Int
 |0=>[]
 | n+1=>f lo::ws f (lo+1) n
theorem qb9:∀l:List Int,qbb (l.map D.int)=some l
 |[]=>rfl
 | n::l=>by rw[List.map_cons,qbb,qb9 l];rfl
theorem qex:∀(n:Nat) (lo:Int),(rgF lo n).length=n
 |0,_=>rfl
 | n+1,lo=>by rw[rgF,List.length_cons,qex n]
theorem yg{i:Int}(h1:-1000000000000<=i)(h2:i<=1000000000000):qD i=true:=by unfold qD;simp;omega
section
variable{pg:Pg}[RU pg]
noncomputable def qey(f:Int->Int)(leave:Int):Nat->Int->Int->Int->Int->Int×Int
 |0,fi,to,_,_=>(fi,to)
 | n+1,fi,to,em,ba=>if em < leave then (if f ba=0 then qey f leave n fi to (em+1) (ba - 1) else qey f leave n ba (to+f ba) 0 (ba - 1)) else (fi,to)
end
noncomputable def win(r:Ru)(f:Int->Int)(d:Int):Int×Int:=if r.kd.isW=true then (d - r.days+1,(ws f (d - r.days+1) r.days.toNat).sum) else qey f r.days 1000 (d+1) 0 0 d
theorem qi0{rs:List Ru}{n:Nat}{r:Ru}(h:rs[n]?=some r):atI (rs.map ruI) (n:Int)=some (ruI r):=qhe (by rw[List.getElem?_map,h];rfl)
abbrev Rl:=Ru×List (Int×Int)
noncomputable def qhj(st:List St)(d:Int):Nat->List Rl->Option (Int×Int×Int)
 |_,[]=>none
 | i,x::l=>if x.1.most < (win x.1 (wgt x.1 x.2 st) d).2 then some (d,(i:Int),(win x.1 (wgt x.1 x.2 st) d).1) else qhj st d (i+1) l
noncomputable def flt(st:List St)(rs:List Rl)(lo:Int):Nat->Option (Int×Int×Int)
 |0=>none
 | n+1=>match qhj st lo 0 rs with
  |some x=>some x
  |none=>flt st rs (lo+1) n
def f3D(x:Int×Int×Int):D:=.tup [.int x.1,.int x.2.1,.int x.2.2]
def YF:Option (Int×Int×Int)->D
 |none=>.non
 |some x=>f3D x
end DG
namespace DG
open PySem L2 DE FA Dy
open CH ST SP RU BO
def rlF(ps:List Pa):Nat->List Ru->List Rl
 |_,[]=>[]
 | i,r::l=>(r,zU i ps)::rlF ps (i+1) l
theorem qez(ps:List Pa):∀(i:Nat) (rs:List Ru),(rlF ps i rs).map (λx=>ruI x.1)=rs.map ruI
 |_,[]=>rfl
 | i,r::l=>by rw[rlF,List.map_cons,List.map_cons,qez ps (i+1) l]
theorem YG(ps:List Pa):∀(i:Nat) (rs:List Ru) (j:Nat),(rlF ps i rs)[j]?=(rs[j]?).map λr=>(r,zU ((i+j:Nat):Int) ps)
 |_,[],j=>by simp[rlF]
 | i,r::l,0=>by simp[rlF]
 | i,r::l,j+1=>by rw[rlF,List.getElem?_cons_succ,YG ps (i+1) l j,List.getElem?_cons_succ,show i+1+j=i+(j+1) by omega]
theorem qeA{ps:List Pa}{i:Nat}{rs:List Ru}{x:Rl}(h:x∈rlF ps i rs):∃j:Nat,rs[j]?=some x.1/\x.2=zU ((i+j:Nat):Int) ps:=by obtain⟨j,hj⟩:=List.getElem?_of_mem h;rw[YG] at hj;obtain⟨r,e1,e2⟩:=Option.map_eq_some_iff.mp hj;exact⟨j,by rw[e1,<-e2],by rw[<-e2]⟩
def qjz(st:List St):Int:=match st.getLast? with
 |some s=>s.2.2
 |none=>0
end DG
namespace FA
open PySem DE DG Dy
open L2 hiding St
open RU
theorem Zr{k:Nat}:¬ (k+12 < 12):=by omega
end FA
namespace DG
open PySem DE FA Dy
open L2 hiding St
theorem qeB:∀l:List (Str×Int),wt l none=0
 |[]=>rfl
 | p::l=>by unfold wt;rw[if_neg (by simp)];exact qeB l
theorem qlS{l:List (Str×Int)}(h:∀p∈l,LnOk p)(o:Option Str):0<=wt l o:=by
 induction l with
 |nil=>exact Int.le_refl _
 |cons p l ih=>
  unfold wt;split
  ·have:=(h p (by simp)).one;omega
  ·exact ih λq hq=>h q (by simp[hq])
theorem qlT{r:Ru}(h:∀p∈r.lands,LnOk p)(lf:List (Int×Int))(st:List St)(d:Int):0<=wgt r lf st d:=by
 unfold wgt;split
 ·exact Int.le_refl _
 ·exact qlS h _
theorem qbq{r:Ru}{lf:List (Int×Int)}{st:List St}{d:Int}(h:qK st d=none):wgt r lf st d=0:=by unfold wgt;rw[h,qeB];simp
theorem qgj{r:Ru}{lf:List (Int×Int)}{st st':List St}{d:Int}(h:qK st d=qK st' d):wgt r lf st d=wgt r lf st' d:=by unfold wgt;rw[h]
theorem qeC{f g:Int->Int}:∀(n:Nat) (lo:Int),(∀x,lo<=x->x < lo+n->f x=g x)->ws f lo n=ws g lo n
 |0,_,_=>rfl
 | n+1,lo,h=>by rw[ws,ws,h lo (1:) (1:),qeC n (lo+1) λx h1 h2=>h x (1:) (1:)]
theorem Zs{f:Int->Int}:∀(n:Nat) (lo:Int),(ws f lo (n+1)).sum=(ws f lo n).sum+f (lo+n)
 |0,lo=>by simp[ws]
 | n+1,lo=>by rw[ws,List.sum_cons,Zs n (lo+1),ws,List.sum_cons,show lo+1+(n:Int)=lo+((n+1:Nat):Int) by omega];omega
theorem qlU{f:Int->Int}(hf:∀x,0<=f x):∀(n:Nat) (lo:Int),0<=(ws f lo n).sum
 |0,_=>by simp[ws]
 | n+1,lo=>by
  rw[ws,List.sum_cons]
  have:=hf lo
  have:=qlU hf n (lo+1)
  omega
theorem Zt{f:Int->Int}:∀(n:Nat) (lo:Int),(∀x,lo<=x->x < lo+n->f x=0)->(ws f lo n).sum=0
 |0,_,_=>by simp[ws]
 | n+1,lo,h=>by rw[ws,List.sum_cons,h lo (1:) (1:),Zt n (lo+1) λx h1 h2=>h x (1:) (1:)];rfl
theorem YH{st:List St}{d:Int}:qK st d=none↔∀s∈st,¬ (s.2.1<=d/\d<=s.2.2):=by
 induction st with
 |nil=>simp[qK]
 |cons s l ih=>
  unfold qK
  by_cases hc:s.2.1<=d/\d<=s.2.2
  ·rw[if_pos hc];constructor
   ·intro h;cases h
   ·intro h;exact absurd hc (h s (by simp))
  ·rw[if_neg hc,ih];constructor
   ·intro h t ht;rcases List.mem_cons.mp ht with rfl | ht
    ·exact hc
    ·exact h t ht
   ·exactλh t ht=>h t (by simp[ht])
theorem Ch.lo:∀{l:List St} {e:Int},Ch e l->∀t∈l,e < t.2.1/\t.2.1<=t.2.2
 |[],_,_,t,ht=>by cases ht
 | u::r,e,h,t,ht=>by
  rcases List.mem_cons.mp ht with rfl | ht
  ·exact⟨h.1.lo,h.1.ab⟩
  ·have:=Ch.lo h.2 t ht
   have:=h.1.lo
   have:=h.1.ab
   exact⟨by omega,by omega⟩
theorem Ch.high:∀{l:List St} {e:Int},Ch e l->∀t∈l,t.2.2<=qjz l
 |[],_,_,t,ht=>by cases ht
 |[u],e,h,t,ht=>by rw[List.mem_singleton.mp ht];exact Int.le_refl _
 | u::v::r,e,h,t,ht=>by
  have el:qjz (u::v::r)=qjz (v::r):=by unfold qjz;rw[List.getLast?_cons_cons]
  rw[el];rcases List.mem_cons.mp ht with rfl | ht
  ·have:=Ch.high h.2 v (by simp)
   have:=h.2.1.lo
   have:=h.2.1.ab
   omega
  ·exact Ch.high h.2 t ht
end DG
namespace FA
open PySem DE DG Dy
open L2 hiding St
open RU
theorem qeD(ns:List Int)(a b:Nat):∃ms:List Int,qbR (ns.map D.int) (some (a:Int)) (some (b:Int))=ms.map D.int/\ms.length<=b - a:=by
 refine⟨(ns.drop (min a ns.length)).take (min b ns.length - min a ns.length),?_,?_⟩
 ·unfold qbR;rw[HT.QX,HT.QX,List.length_map,List.map_take,List.map_drop]
 ·refine Nat.le_trans (List.length_take_le ..) ?_;rcases Nat.le_total a ns.length with h | h
  ·rw[Nat.min_eq_left h];exact Nat.sub_le_sub_right (Nat.min_le_left ..) a
  ·rw[Nat.min_eq_right h,Nat.sub_eq_zero_of_le (Nat.min_le_right ..)];exact Nat.zero_le _
end FA
namespace DG
open PySem DE FA Dy
open L2 hiding St
theorem qgk(r:Ru):qaw (ruI r)=true:=by obtain⟨kd,l,m,d⟩:=r;cases kd<;>rfl
theorem qi1{pg:Pg}[RU pg](k:Nat)(b c:Bool)(rs:List Ru)(ps:List Pa)(hr:rs.length<=8)(hp:ps.length<=12)(h:∀p∈ps,0<=p.1/\p.1 < rs.length/\0<=p.2.1/\p.2.1<=p.2.2/\p.2.2<=1000000000) :
  pg.nw (k+12) "Book" [aL b (rs.map ruI),aL c (ps.map paD)]=.ok (.val (bkI rs ps)):=by
 have e:∀(b:Bool) (l:List D),arL (aL b l)=some l:=λb l=>by cases b<;>rfl
 have h1:((decide ((rs.map ruI).length<=8)&&(rs.map ruI).all qaw)&&(decide ((ps.map paD).length<=12)&&(ps.map paD).all (yB (rs.map ruI).length)))=true:=by simp only[List.length_map,Bool.and_eq_true,decide_eq_true_eq,List.all_eq_true,List.mem_map];refine⟨⟨hr,λx ⟨r,_,hx⟩=>by rw[<-hx];exact qgk r⟩,hp,λx ⟨p,hm,hx⟩=>?_⟩;obtain⟨q1,q2,q3,q4,q5⟩:=h p hm;rw[<-hx];show(btw p.1 0 ((rs.length:Int) - 1)&&btw p.2.1 0 1000000000&&btw p.2.2 0 1000000000&&decide (p.2.1<=p.2.2))=true;unfold btw;simp only[Bool.and_eq_true,decide_eq_true_eq];omega
 rw[RU.nw]
 show(if k+12 < 12 then R.no else qc1 "Book" (match arL (aL b (rs.map ruI)),arL (aL c (ps.map paD)) with
  |some l,some ps=>if ((decide (l.length<=8)&&l.all qaw)&&(decide (ps.length<=12)&&ps.all (yB l.length)))=true then some [("kept_rules",D.lst l),("kept_papers",D.lst ps)] else none
  |_,_=>none))=_
 rw[if_neg (1:),e,e];dsimp only;rw[if_pos h1];rfl
theorem Ch.weak{l:List St}{e e':Int}(h:e'<=e)(hc:Ch e l):Ch e' l:=by
 cases l with
 |nil=>trivial
 |cons s l=>exact⟨⟨hc.1.nm,by have:=hc.1.lo;omega,hc.1.ab,hc.1.hi⟩,hc.2⟩
end DG
namespace DG
open PySem L2 DE
noncomputable abbrev qaF:T:=(.and (.cmp .Lt (.var 3) (.b1 .len (.var 0))) (.one (.cmp .Lt (.var 4) (.b1 .len (.var 1)))))
def Zu:T:=qaF
theorem yy:UT Zu qaF:=λ_ _ _=>(rfl)
noncomputable abbrev qaG:Ss:=%[.set 5 (.b2 .max (.idx (.idx (.var 0) (.var 3)) (.con (.int 0))) (.idx (.idx (.var 1) (.var 4)) (.con (.int 0)))),.set 6 (.b2 .min (.idx (.idx (.var 0) (.var 3)) (.con (.int 1))) (.idx (.idx (.var 1) (.var 4)) (.con (.int 1)))),.ite (.cmp .LtE (.var 5) (.var 6)) %[.app 2 (.tup %[5,6|0])|0] .nil,.ite (.cmp .Lt (.idx (.idx (.var 0) (.var 3)) (.con (.int 1))) (.idx (.idx (.var 1) (.var 4)) (.con (.int 1)))) %[.set 3 (.bin .Add (.var 3) (.con (.int 1)))|0] %[.set 4 (.bin .Add (.var 4) (.con (.int 1)))|0]|0]
def Zv:Ss:=qaG
theorem QG:USs Zv qaG:=λ_ _ _ _=>(rfl)
noncomputable def qhk:Nat×Nat×Ss:=(2,7,%[.set 2 (.lst .nil),.set 3 (.con (.int 0)),.set 4 (.con (.int 0)),.whl Zu Zv,.ret (.var 2)|0])
noncomputable abbrev JW:Ss:=%[.ite (.cmp .Lt (.var 4) (.idx (.var 5) (.con (.int 0)))) %[.app 3 (.tup %[4,.bin .Sub (.idx (.var 5) (.con (.int 0))) (.con (.int 1))|0])|0] .nil,.set 4 (.b2 .max (.var 4) (.bin .Add (.idx (.var 5) (.con (.int 1))) (.con (.int 1))))|0]
def yN:Ss:=JW
theorem Jb:USs yN JW:=λ_ _ _ _=>(rfl)
noncomputable def YI:Nat×Nat×Ss:=(3,6,%[.set 3 (.lst .nil),.set 4 (.var 1),.for_ (.one 5) (.seq (.var 0)) yN,.ite (.cmp .LtE (.var 4) (.var 2)) %[.app 3 (.tup %[4,2|0])|0] .nil,.ret (.var 3)|0])
noncomputable def qhl:Nat×Nat×Ss:=(2,2,%[.ite (.not (.val (.var 0))) %[.ret (.lst .nil)|0] .nil,.ret (.call "both" %[0,.call "outside" %[1,.idx (.idx (.var 0) (.con (.int 0))) (.con (.int 0)),.idx (.idx (.var 0) (.neg (.con (.int 1)))) (.con (.int 1))|0]|0])|0])
class BT(pg:Pg):Prop where
 r_both:RW pg "both" qhk
 r_outside:RW pg "outside" YI
 r_less:RW pg "less" qhl
abbrev jm:E:=(.tup %[0,1,2|0])
def zf:E:=jm
theorem Jc:UE zf jm:=λ_ _ _=>(rfl)
noncomputable abbrev jn:Ss:=%[.set 9 (.met (.var 3) "weight" %[6|0]),.ite (.cmp .Gt (.var 9) (.con (.int 0))) %[.ext 5 (.comp zf (.seq (.call "less" %[.lst %[.tup %[7,8|0]|0],4|0])) (.many [0,1]) .yes 2 [9])|0] .nil|0]
def zg:Ss:=jn
theorem zW:USs zg jn:=λ_ _ _ _=>(rfl)
noncomputable def yF:Nat×Nat×Ss:=(3,10,%[.set 3 (.idx (.met (.var 0) "rules" .nil) (.var 1)),.set 4 (.met (.var 0) "lifted" %[1|0]),.set 5 (.lst .nil),.for_ (.many [6,7,8]) (.seq (.var 2)) zg,.ret (.var 5)|0])
class PC(pg:Pg):Prop where
 r_pieces_among:RW pg "pieces_among" yF
noncomputable abbrev YJ:Ss:=%[.set 7 (.bin .Add (.bin .Sub (.b2 .min (.var 5) (.var 2)) (.b2 .max (.var 4) (.var 1))) (.con (.int 1))),.ite (.cmp .Gt (.var 7) (.con (.int 0))) %[.set 3 (.bin .Add (.var 3) (.bin .Mult (.var 7) (.var 6)))|0] .nil|0]
def JE:Ss:=YJ
theorem JX:USs JE YJ:=λ_ _ _ _=>(rfl)
noncomputable def qca:Nat×Nat×Ss:=(3,8,%[.set 3 (.con (.int 0)),.for_ (.many [4,5,6]) (.seq (.var 0)) JE,.ret (.var 3)|0])
noncomputable abbrev jQ:Ss:=%[.ite (.cmp .LtE (.var 4) (.var 2)) %[.ite (.cmp .GtE (.bin .Sub (.bin .Sub (.var 3) (.con (.int 1))) (.b2 .min (.var 5) (.var 2))) (.var 1)) %[.ret (.var 3)|0] .nil,.set 3 (.var 4)|0] .nil|0]
def zH:Ss:=jQ
theorem qZ:USs zH jQ:=λ_ _ _ _=>(rfl)
noncomputable def Jd:Nat×Nat×Ss:=(3,7,%[.set 3 (.bin .Add (.var 2) (.con (.int 1))),.for_ (.many [4,5,6]) (.rev (.var 0)) zH,.ret (.var 3)|0])
noncomputable def q9:Nat×Nat×Ss:=(3,3,%[.ite (.val (.isc "Within" (.var 0))) %[.ret (.bin .Add (.bin .Sub (.var 2) (.fld (.var 0) "span")) (.con (.int 1)))|0] .nil,.ret (.call "first_since" %[1,.fld (.var 0) "leave",2|0])|0])
noncomputable def Je:Nat×Nat×Ss:=(3,3,%[.ret (.call "sum_of" %[1,.call "first_of_window" %[0,1,2|0],2|0])|0])
class SU(pg:Pg):Prop where
 r_sum_of:RW pg "sum_of" qca
 r_first_since:RW pg "first_since" Jd
 r_first_of_window:RW pg "first_of_window" q9
 r_count_among:RW pg "count_among" Je
noncomputable abbrev Jf:Ss:=%[.app 2 (.bin .Add (.var 3) (.fld (.var 0) "span")),.app 2 (.bin .Add (.bin .Add (.var 4) (.con (.int 1))) (.fld (.var 0) "span"))|0]
def yh:Ss:=Jf
theorem Qh:USs yh Jf:=λ_ _ _ _=>(rfl)
noncomputable def JF:Nat×Nat×Ss:=(2,6,%[.set 2 (.lst .nil),.ite (.val (.isc "Within" (.var 0))) %[.for_ (.many [3,4,5]) (.seq (.var 1)) yh|0] .nil,.ret (.var 2)|0])
noncomputable def zu:Nat×Nat×Ss:=(4,7,%[.set 4 (.call "count_among" %[0,1,.bin .Sub (.var 2) (.con (.int 1))|0]),.set 5 (.bin .Sub (.call "count_among" %[0,1,2|0]) (.var 4)),.ite (.cmp .LtE (.var 5) (.con (.int 0))) %[.ret (.con .non)|0] .nil,.set 6 (.bin .Add (.var 2) (.bin .FloorDiv (.bin .Sub (.fld (.var 0) "most") (.var 4)) (.var 5))),.ret (.ite (.cmp .LtE (.var 6) (.var 3)) (.var 6) (.con .non))|0])
abbrev jo:E:=(.var 0)
def zh:E:=jo
theorem Jg:UE zh jo:=λ_ _ _=>(rfl)
abbrev jp:E:=(.bin .Sub (.var 0) (.con (.int 1)))
def zi:E:=jp
theorem Jh:UE zi jp:=λ_ _ _=>(rfl)
noncomputable abbrev jq:Ss:=%[.set 10 (.call "first_above" %[0,1,7,9|0]),.ite (.cmp .IsNot (.var 10) (.con .non)) %[.ret (.var 10)|0] .nil|0]
def zj:Ss:=jq
theorem zX:USs zj jq:=λ_ _ _ _=>(rfl)
noncomputable abbrev jr:Ss:=%[.set 6 (.bin .Add (.lst %[3|0]) (.comp zh (.seq (.var 2)) (.one 0) (.test (.and (.cmp .Lt (.var 1) (.var 0)) (.one (.cmp .LtE (.var 0) (.var 2))))) 1 [3,4])),.set 8 (.bin .Add (.comp zi (.seq (.sli (.var 6) (.some (.con (.int 1))) .none)) (.one 0) .yes 1 []) (.lst %[4|0])),.for_ (.many [7,9]) (.zip (.var 6) (.var 8)) zj|0]
def zk:Ss:=jr
theorem zY:USs zk jr:=λ_ _ _ _=>(rfl)
noncomputable def jb:Nat×Nat×Ss:=(2,11,%[.set 2 (.call "turns_of" %[0,1|0]),.for_ (.many [3,4,5]) (.seq (.var 1)) zk,.ret (.con .non)|0])
class FK(pg:Pg):Prop where
 r_turns_of:RW pg "turns_of" JF
 r_first_above:RW pg "first_above" zu
 r_first_broken:RW pg "first_broken" jb
noncomputable abbrev jR:Ss:=%[.set 5 (.call "pieces_among" %[0,3,1|0]),.set 6 (.call "first_broken" %[4,5|0]),.ite (.and (.cmp .IsNot (.var 6) (.con .non)) (.one (.or (.cmp .Is (.var 2) (.con .non)) (.one (.cmp .Lt (.var 6) (.idx (.var 2) (.con (.int 0)))))))) %[.set 2 (.tup %[6,3,.call "first_of_window" %[4,5,6|0]|0])|0] .nil|0]
def zI:Ss:=jR
theorem JG:USs zI jR:=λ_ _ _ _=>(rfl)
noncomputable def Ji:Nat×Nat×Ss:=(2,7,%[.set 2 (.con .non),.for_ (.many [3,4]) (.enum (.met (.var 0) "rules" .nil)) zI,.ret (.var 2)|0])
class FM(pg:Pg):Prop where
 r_fault_among:RW pg "fault_among" Ji
noncomputable def QH:Nat×Nat×Ss:=(2,2,%[.ret (.call "fault_among" %[0,.call "stays_of" %[1|0]|0])|0])
class FO(pg:Pg):Prop where
 r_fault_of:RW pg "fault_of" QH
end DG
namespace FZ
open PySem L2 DE DG
noncomputable def YK:Nat×Nat×Ss:=(2,2,%[.ite (.cmp .Lt (.var 1) (.b1 .len (.var 0))) %[.ret (.idx (.var 0) (.var 1))|0] .nil,.ret (.con (.int 0))|0])
class ZA(pg:Pg):Prop where
 r__law_at:RW pg "_law_at" YK
noncomputable abbrev yG:Ss:=%[.set 3 (.bin .Add (.var 3) (.idx (.con (.str "abcdefghijklmnopqrstuvwxyz")) (.bin .Mod (.var 1) (.con (.int 26))))),.set 1 (.bin .FloorDiv (.var 1) (.con (.int 26)))|0]
def jG:Ss:=yG
theorem YL:USs jG yG:=λ_ _ _ _=>(rfl)
noncomputable def YM:Nat×Nat×Ss:=(1,5,%[.set 1 (.bin .Mod (.bin .Mult (.var 0) (.con (.int 1099087573))) (.con (.int 10000000000037))),.set 2 (.bin .Add (.con (.int 1)) (.bin .Mod (.var 1) (.con (.int 7)))),.set 1 (.bin .FloorDiv (.var 1) (.con (.int 7))),.set 3 (.con (.str "")),.for_ (.one 4) (.rng (.var 2)) jG,.ret (.var 3)|0])
class ZW(pg:Pg):Prop where
 r__law_word:RW pg "_law_word" YM
noncomputable abbrev yi:E:=(.bin .Add (.bin .Add (.sli (.var 1) .none (.some (.var 2))) (.var 0)) (.sli (.var 1) (.some (.var 2)) .none))
def jc:E:=yi
theorem J4:UE jc yi:=λ_ _ _=>(rfl)
noncomputable def JY:Nat×Nat×Ss:=(2,4,%[.set 2 (.call "_law_word" %[0|0]),.set 3 (.bin .Mod (.var 0) (.bin .Add (.b1 .len (.var 2)) (.con (.int 1)))),.ret (.comp jc (.seq (.sli (.con (.str "kcxq")) .none (.some (.var 1)))) (.one 0) .yes 1 [2,3])|0])
class ZN(pg:Pg):Prop where
 r__law_names:RW pg "_law_names" JY
noncomputable def jH:Nat×Nat×Ss:=(1,1,%[.ite (.cmp .Eq (.idx (.var 0) (.con (.int 0))) (.con (.int 0))) %[.ret (.new "Within" %[.b1 .list (.idx (.var 0) (.con (.int 1))),.idx (.var 0) (.con (.int 2)),.idx (.var 0) (.con (.int 3))|0])|0] .nil,.ite (.cmp .Eq (.idx (.var 0) (.con (.int 0))) (.con (.int 1))) %[.ret (.new "Since" %[.b1 .list (.idx (.var 0) (.con (.int 1))),.idx (.var 0) (.con (.int 2)),.idx (.var 0) (.con (.int 3))|0])|0] .nil,.ret (.new "InRow" %[.b1 .list (.idx (.var 0) (.con (.int 1))),.idx (.var 0) (.con (.int 2))|0])|0])
class ZR(pg:Pg):Prop where
 r__law_rule:RW pg "_law_rule" jH
noncomputable abbrev yj:Ss:=%[.set 6 (.bin .Mod (.bin .Mult (.var 5) (.con (.int 69621))) (.con (.int 2147483647))),.set 7 (.bin .Add (.var 3) (.bin .Mod (.var 6) (.con (.int 10)))),.set 8 (.bin .Add (.var 7) (.bin .Mod (.bin .FloorDiv (.var 6) (.con (.int 10))) (.con (.int 12)))),.ite (.and (.val (.var 2)) (.one (.cmp .Eq (.bin .Mod (.bin .FloorDiv (.var 6) (.con (.int 120))) (.con (.int 3))) (.con (.int 1))))) %[.set 7 (.bin .Add (.bin .Add (.var 7) (.bin .Mult (.bin .Mod (.var 5) (.con (.int 2))) (.bin .Pow (.con (.int 10)) (.con (.int 6))))) (.bin .Mod (.bin .FloorDiv (.var 6) (.con (.int 360))) (.bin .Pow (.con (.int 10)) (.con (.int 6))))),.set 8 (.bin .Add (.bin .Add (.var 7) (.bin .Mult (.bin .Mod (.bin .FloorDiv (.var 6) (.con (.int 360))) (.con (.int 2))) (.bin .Pow (.con (.int 10)) (.con (.int 6))))) (.bin .Mod (.var 5) (.bin .Pow (.con (.int 10)) (.con (.int 6)))))|0] .nil,.app 4 (.tup %[.idx (.var 1) (.bin .Mod (.bin .FloorDiv (.var 6) (.con (.int 840))) (.b1 .len (.var 1))),7,8|0]),.set 3 (.bin .Add (.var 8) (.con (.int 1)))|0]
def jd:Ss:=yj
theorem J5:USs jd yj:=λ_ _ _ _=>(rfl)
noncomputable def JZ:Nat×Nat×Ss:=(4,9,%[.set 4 (.lst .nil),.for_ (.one 5) (.seq (.var 0)) jd,.ret (.var 4)|0])
class ZT(pg:Pg):Prop where
 r__law_stays:RW pg "_law_stays" JZ
noncomputable abbrev jS:Ss:=%[.set 6 (.bin .Mod (.bin .Mult (.var 5) (.con (.int 16807))) (.con (.int 2147483629))),.ite (.cmp .Gt (.var 1) (.con (.int 0))) %[.set 7 (.bin .Add (.var 2) (.bin .Mod (.bin .FloorDiv (.var 6) (.con (.int 8))) (.b2 .max (.con (.int 1)) (.var 3)))),.app 4 (.tup %[.bin .Mod (.var 6) (.var 1),7,.bin .Add (.var 7) (.bin .Mod (.bin .FloorDiv (.var 6) (.con (.int 64))) (.bin .Add (.con (.int 1)) (.bin .FloorDiv (.var 3) (.con (.int 4)))))|0])|0] .nil|0]
def zJ:Ss:=jS
theorem JH:USs zJ jS:=λ_ _ _ _=>(rfl)
noncomputable def Jj:Nat×Nat×Ss:=(4,8,%[.set 4 (.lst .nil),.for_ (.one 5) (.seq (.var 0)) zJ,.ret (.var 4)|0])
class ZP(pg:Pg):Prop where
 r__law_papers:RW pg "_law_papers" Jj
end FZ
namespace DG
open PySem DE FA Dy
open L2 hiding St
open CH ST SP RU BO BT PC SU FK FM FO
abbrev Pr:=Int×Int
def mx(a b:Int):Int:=if b > a then b else a
def mn(a b:Int):Int:=if b < a then b else a
theorem mxF(a b:Int):(if b > a then b else a)=mx a b:=(rfl)
theorem mnF(a b:Int):(if b < a then b else a)=mn a b:=(rfl)
theorem qeE(a b:Int):(a<=b->mx a b=b)/\(b<=a->mx a b=a):=by unfold mx;split<;>omega
theorem qaH(a b:Int):(a<=b->mn a b=a)/\(b<=a->mn a b=b):=by unfold mn;split<;>omega
noncomputable def js:Nat->List Pr->List Pr->List Pr
 |0,_,_=>[]
 | _+1,[],_=>[]
 | _+1,_,[]=>[]
 | n+1,p::a,q::b=>(if mx p.1 q.1<=mn p.2 q.2 then [(mx p.1 q.1,mn p.2 q.2)] else [])++(if p.2 < q.2 then js n a (q::b) else js n (p::a) b)
theorem qeF(l:List Pr)(i:Nat)(p:Pr)(h:l[i]?=some p):atI (l.map pD) (i:Int)=some (.tup [.int p.1,.int p.2]):=qhe (by rw[List.getElem?_map,h];rfl)
theorem YN(cl:Cl)(A B:List Pr):∀(n i j:Nat) (acc:List Pr) (s5 s6:Sl),(A.length - i)+(B.length - j) < n->acc.length+n < 10000->
  ∃ρ',whD cl 1000 Zu Zv n [.val (.lst (A.map pD)),.val (.lst (B.map pD)),.own (acc.map pD),.val (.int (i:Int)),.val (.int (j:Int)),s5,s6]=.ok (.next (.val (.lst (A.map pD))::.val (.lst (B.map pD))::.own ((acc++js n (A.drop i) (B.drop j)).map pD)::ρ'))
 |0,i,j,acc,s5,s6,h,_=>by omega
 | n+1,i,j,acc,s5,s6,h,hl=>by
  have two:0+1+1<=sizeLine:=by decide+kernel
  have hs:(acc.map pD).length < sizeLine:=by rw[List.length_map];exact qr (1:)
  by_cases hi:i < A.length
  ·by_cases hj:j < B.length
   ·obtain⟨p,hp⟩:∃p,A[i]?=some p:=⟨A[i],List.getElem?_eq_getElem hi⟩;obtain⟨q,hq⟩:∃q,B[j]?=some q:=⟨B[j],List.getElem?_eq_getElem hj⟩;have ap:=qeF A i p hp;have aq:=qeF B j q hq;have c1:(i:Int) < ((A.map pD).length:Int):=by rw[List.length_map];omega
    have c2:(j:Int) < ((B.map pD).length:Int):=by rw[List.length_map];omega
    have dA:A.drop i=p::A.drop (i+1):=by rw[List.drop_eq_getElem_cons hi];congr 1;rw[List.getElem?_eq_getElem hi] at hp;exact Option.some.inj hp
    have dB:B.drop j=q::B.drop (j+1):=by rw[List.drop_eq_getElem_cons hj];congr 1;rw[List.getElem?_eq_getElem hj] at hq;exact Option.some.inj hq
    have X:∀{β:Type} (K:Fl->R β) (a b c d:Sl),(iS cl 1000 (.ite (.cmp .LtE (.var 5) (.var 6)) %[.app 2 (.tup %[5,6|0])|0] .nil) [a,b,.own (acc.map pD),c,d,.val (.int (mx p.1 q.1)),.val (.int (mn p.2 q.2))]).th K=K (.next [a,b,.own ((acc++if mx p.1 q.1<=mn p.2 q.2 then [(mx p.1 q.1,mn p.2 q.2)] else []).map pD),c,d,.val (.int (mx p.1 q.1)),.val (.int (mn p.2 q.2))]):=by
     intro β K a b c d
     by_cases hc:mx p.1 q.1<=mn p.2 q.2
     ·rw[if_pos hc,List.map_append];simp? only[hc,two,hs,ja]
     ·rw[if_neg hc,List.append_nil];simp? only[hc]
    have hl':(acc++if mx p.1 q.1<=mn p.2 q.2 then [(mx p.1 q.1,mn p.2 q.2)] else []).length<=acc.length+1:=by
     rw[List.length_append]
     split<;>simp
    rw[dA,dB,js,<-List.append_assoc];generalize acc++(if mx p.1 q.1<=mn p.2 q.2 then [(mx p.1 q.1,mn p.2 q.2)] else [])=acc' at *
    by_cases hd:p.2 < q.2
    ·obtain⟨ρ',e⟩:=YN cl A B n (i+1) j acc' (.val (.int (mx p.1 q.1))) (.val (.int (mn p.2 q.2))) (1:) (1:);refine⟨ρ',?_⟩;rw[dB] at e;rw[if_pos hd];simp only[show((i+1:Nat):Int)=(i:Int)+1 by omega] at e;refine(qf _).symm.trans ?_;simp? only[↓X,yy,QG,c1,c2,ap,aq,mxF,mnF,hd,e]
    ·obtain⟨ρ',e⟩:=YN cl A B n i (j+1) acc' (.val (.int (mx p.1 q.1))) (.val (.int (mn p.2 q.2))) (1:) (1:);refine⟨ρ',?_⟩;rw[dA] at e;rw[if_neg hd];simp only[show((j+1:Nat):Int)=(j:Int)+1 by omega] at e;refine(qf _).symm.trans ?_;simp? only[↓X,yy,QG,c1,c2,ap,aq,mxF,mnF,hd,e]
   ·have c1:(i:Int) < ((A.map pD).length:Int):=by rw[List.length_map];omega
    have c2:¬ (j:Int) < ((B.map pD).length:Int):=by rw[List.length_map];omega
    have e:js (n+1) (A.drop i) (B.drop j)=[]:=by
     rw[show B.drop j=[] from List.drop_eq_nil_of_le (1:)]
     cases A.drop i<;>rfl
    rw[e,List.append_nil];refine⟨[.val (.int (i:Int)),.val (.int (j:Int)),s5,s6],?_⟩;refine(qf _).symm.trans ?_;simp? only[yy,c1,c2]
  ·have c1:¬ (i:Int) < ((A.map pD).length:Int):=by rw[List.length_map];omega
   have e:js (n+1) (A.drop i) (B.drop j)=[]:=by rw[show A.drop i=[] from List.drop_eq_nil_of_le (1:)];rfl
   rw[e,List.append_nil];refine⟨[.val (.int (i:Int)),.val (.int (j:Int)),s5,s6],?_⟩;refine(qf _).symm.trans ?_;simp? only[yy,c1]
theorem qi2{pg:Pg}[BT pg](k:Nat)(A B:List Pr)(hl:A.length+B.length < 999):clK pg (k+1) "both" [.val (.lst (A.map pD)),.val (.lst (B.map pD))]=.ok (.tmp ((js 1000 A B).map pD)):=by obtain⟨ρ',e⟩:=YN (pg.kk k) A B 1000 0 0 [] .no .no (1:) (by simp);rw[List.map_nil,List.nil_append,List.drop_zero,List.drop_zero,show((0:Nat):Int)=0 from rfl] at e;rw[r_both];simp? only[qhk,show(0:Nat)<=sizeLine by decide+kernel,e]
noncomputable def J6:Int->List Pr->List Pr×Int
 |b,[]=>([],b)
 | b,t::l=>((if b < t.1 then [(b,t.1 - 1)] else [])++(J6 (mx b (t.2+1)) l).1,(J6 (mx b (t.2+1)) l).2)
noncomputable def qO(l:List Pr)(first last:Int):List Pr:=(J6 first l).1++(if (J6 first l).2<=last then [((J6 first l).2,last)] else [])
theorem Zw(cl:Cl)(v0 v1 v2:Sl):∀(l:List Pr) (b:Int) (acc:List Pr) (s5:Sl),acc.length+l.length < 10000->∃s5',jN cl 1000 (.one 5) yN (l.map pD) [v0,v1,v2,.own (acc.map pD),.val (.int b),s5]=.ok (.next [v0,v1,v2,.own ((acc++(J6 b l).1).map pD),.val (.int (J6 b l).2),s5'])
 |[],b,acc,s5,_=>⟨s5,by simp[J6,qL]⟩
 | t::l,b,acc,s5,hl=>by
  rw[List.length_cons] at hl;have two:0+1+1<=sizeLine:=by decide+kernel
  have hs:(acc.map pD).length < sizeLine:=by rw[List.length_map];exact qr (1:)
  rw[J6]
  by_cases hc:b < t.1
  ·obtain⟨s5',ih⟩:=Zw cl v0 v1 v2 l (mx b (t.2+1)) (acc++[(b,t.1 - 1)]) (.val (pD t)) (by simp;omega);refine⟨s5',?_⟩;rw[if_pos hc];simp only[List.map_append,List.map_cons,List.map_nil,ja,List.append_assoc,List.cons_append,List.nil_append] at ih ⊢;refine(qf _).symm.trans ?_;simp? only[Jb,hc,two,hs,mxF,ih]
  ·obtain⟨s5',ih⟩:=Zw cl v0 v1 v2 l (mx b (t.2+1)) acc (.val (pD t)) (1:);refine⟨s5',?_⟩;rw[if_neg hc,List.nil_append];simp only[ja] at ih;refine(qf _).symm.trans ?_;rw[List.map_cons];simp? only[Jb,ja,hc,mxF,ih]
theorem qc3{pg:Pg}[BT pg](k:Nat)(b:Bool)(l:List Pr)(hl:l.length < 5000)(first last:Int):clK pg (k+1) "outside" [aL b (l.map pD),.val (.int first),.val (.int last)]=.ok (.tmp ((qO l first last).map pD)):=by
 have two:0+1+1<=sizeLine:=by decide+kernel
 have len:∀(l:List Pr) (b:Int),(J6 b l).1.length<=l.length:=by
  intro l
  induction l with
  |nil=>intro b;simp[J6]
  |cons t l ih=>
   intro b;rw[J6]
   have:=ih (mx b (t.2+1))
   dsimp only;rw[List.length_append,List.length_cons]
   split<;>simp<;>omega
 have hs:((J6 first l).1.map pD).length < sizeLine:=by rw[List.length_map];have:=len l first;exact qr (1:)
 rw[r_outside];unfold qO;obtain⟨s5,e⟩:=Zw (pg.kk k) (pS b (l.map pD)) (.val (.int first)) (.val (.int last)) l first [] .no (by simp;omega);rw[List.map_nil,List.nil_append] at e
 by_cases hc:(J6 first l).2<=last
 ·rw[if_pos hc,List.map_append,List.map_cons,List.map_nil];simp? only[YI,show(0:Nat)<=sizeLine by decide+kernel,e,hc,two,hs,ja]
 ·rw[if_neg hc,List.append_nil];simp? only[YI,show(0:Nat)<=sizeLine by decide+kernel,e,hc]
def yP(p:Pr)(l:List Pr):List Pr:=js 1000 [p] (qO l p.1 p.2)
theorem yQ(l:List Pr)(f t:Int):(qO l f t).length<=l.length+1:=by
 have len:∀(l:List Pr) (b:Int),(J6 b l).1.length<=l.length:=by
  intro l
  induction l with
  |nil=>intro b;simp[J6]
  |cons t l ih=>
   intro b;rw[J6]
   have:=ih (mx b (t.2+1))
   dsimp only;rw[List.length_append,List.length_cons]
   split<;>simp<;>omega
 unfold qO;rw[List.length_append]
 have:=len l f
 split<;>simp<;>omega
theorem qi3{pg:Pg}[BT pg](k:Nat)(b:Bool)(p:Pr)(l:List Pr)(hl:l.length < 900):clK pg (k+2) "less" [.val (.lst [.tup [.int p.1,.int p.2]]),aL b (l.map pD)]=.ok (.tmp ((yP p l).map pD)):=by
 have o:=qc3 (pg:=pg) k b l (1:) p.1 p.2;have t:=qi2 (pg:=pg) k [p] (qO l p.1 p.2) (by have:=yQ l p.1 p.2;simp;omega);simp only[qau,qav,List.map_cons,List.map_nil,ja] at t;have g:atI [D.tup [.int p.1,.int p.2]] (-1)=some (.tup [.int p.1,.int p.2]):=g_last [] _;rw[r_less]
 try simp only[qau,qav] at o ⊢
 simp? only[qhl,List.isEmpty_cons,g,o,t,yP]
end DG
namespace DG
open PySem DE FA Dy
open L2 hiding St
open CH ST SP RU BO BT PC SU FK FM FO
theorem YO:∀(n:Nat) (A B:List Pr),(js n A B).length<=A.length+B.length
 |0,_,_=>by simp[js]
 | n+1,[],B=>by simp[js]
 | n+1,p::A,[]=>by simp[js]
 | n+1,p::A,q::B=>by
  have h1:=YO n A (q::B);have h2:=YO n (p::A) B;simp only[List.length_cons] at h1 h2;rw[js,List.length_append,List.length_cons,List.length_cons]
  split<;>split<;>simp<;>omega
theorem Jk(p:Pr)(l:List Pr):(yP p l).length<=l.length+2:=by have h1:=YO 1000 [p] (qO l p.1 p.2);have h2:=yQ l p.1 p.2;unfold yP;simp at h1;omega
def JI(w:Int)(p:Pr):Pa:=(p.1,p.2,w)
noncomputable def qC(r:Ru)(lf:List Pr)(s:St):List Pa:=if 0 < wt r.lands (some s.1) then (yP (s.2.1,s.2.2) lf).map (JI (wt r.lands (some s.1))) else []
def qq(r:Ru)(lf:List Pr):List St->List Pa
 |[]=>[]
 | s::l=>qC r lf s++qq r lf l
theorem qlV(cl:Cl)(w:Int):∀(l:List Pr) (acc:List Pa) (s0 s1:Sl),acc.length+l.length < 10000->zt cl zf (.many [0,1]) .yes (l.map pD) [s0,s1,.val (.int w)] (acc.map paD)=.ok ((acc++l.map (JI w)).map paD)
 |[],acc,s0,s1,_=>by simp[qH]
 | p::l,acc,s0,s1,hl=>by
  rw[List.length_cons] at hl;have ih:=qlV cl w l (acc++[JI w p]) (.val (.int p.1)) (.val (.int p.2)) (by simp;omega);have three:0+1+1+1<=sizeLine:=by decide+kernel
  have hs:(acc.map paD).length < sizeLine:=by rw[List.length_map];exact qr (1:)
  simp only[List.map_append,List.map_cons,List.map_nil,List.append_assoc,List.cons_append,List.nil_append,qS,JI] at ih ⊢;refine(qf _).symm.trans ?_;simp? only[Jc,ja,three,hs,ih]
theorem YQ(r:Ru)(lf:List Pr)(s:St):(qC r lf s).length<=lf.length+2:=by
 unfold qC;split
 ·rw[List.length_map];exact Jk _ _
 ·simp
theorem YR(r:Ru)(lf:List Pr):∀st:List St,(qq r lf st).length<=st.length * (lf.length+2)
 |[]=>by simp[qq]
 | s::l=>by
  rw[qq,List.length_append,List.length_cons,Nat.succ_mul]
  have:=YQ r lf s
  have:=YR r lf l
  omega
section
variable{pg:Pg}[RU pg][BT pg]
theorem qQ(k:Nat)(v0 v1 v2:Sl)(r:Ru)(hr:∀p∈r.lands,LnOk p)(lf:List Pr)(hf:lf.length<=20):∀(st:List St) (acc:List Pa) (s6 s7 s8 s9:Sl),(∀s∈st,NameOk s.1)->acc.length+st.length * 22 < 9000->
  ∃ρ',jN (pg.kk (k+2)) 1000 (.many [6,7,8]) zg (st.map stD) [v0,v1,v2,.val (ruI r),.own (lf.map pD),.own (acc.map paD),s6,s7,s8,s9]=.ok (.next (v0::v1::v2::.val (ruI r)::.own (lf.map pD)::.own ((acc++qq r lf st).map paD)::ρ'))
 |[],acc,s6,s7,s8,s9,_,_=>⟨[s6,s7,s8,s9],by simp[qq,qL]⟩
 | s::st,acc,s6,s7,s8,s9,hn,hl=>by
  rw[List.length_cons,Nat.succ_mul] at hl;have w:clK pg (k+2) "Rule.weight" [.val (ruI r),.val (.str s.1)]=.ok (.val (.int (wt r.lands (some s.1)))):=qev (pg:=pg) (k+1) r hr (some s.1) (λz hz=>by cases hz;exact hn s (by simp));have l1:=YQ r lf s;have two:0+1+1<=sizeLine:=by decide+kernel
  have one:0+1<=sizeLine:=by decide+kernel
  by_cases hc:0 < wt r.lands (some s.1)
  ·have e1:qC r lf s=(yP (s.2.1,s.2.2) lf).map (JI (wt r.lands (some s.1))):=by unfold qC;rw[if_pos hc]
   obtain⟨ρ',ih⟩:=qQ k v0 v1 v2 r hr lf hf st (acc++qC r lf s) (.val (.str s.1)) (.val (.int s.2.1)) (.val (.int s.2.2)) (.val (.int (wt r.lands (some s.1)))) (λx hx=>hn x (by simp[hx])) (by rw[List.length_append];omega);refine⟨ρ',?_⟩;have le:clK pg (k+2) "less" [.val (.lst [.tup [.int s.2.1,.int s.2.2]]),.bor (lf.map pD)]=.ok (.tmp ((yP (s.2.1,s.2.2) lf).map pD)):=qi3 (pg:=pg) k true (s.2.1,s.2.2) lf (1:);have c:=qlV (pg.kk (k+2)) (wt r.lands (some s.1)) (yP (s.2.1,s.2.2) lf) [] .no .no (by have:=Jk (s.2.1,s.2.2) lf;simp;omega);rw[List.map_nil,List.nil_append,<-e1] at c;have z1:((yP (s.2.1,s.2.2) lf).map pD).length<=sizeLine:=by rw[List.length_map];have:=Jk (s.2.1,s.2.2) lf;exact qy (1:)
   have z2:(acc.map paD).length+((qC r lf s).map paD).length<=sizeLine:=by rw[List.length_map,List.length_map];exact qy (1:)
   rw[qq,<-List.append_assoc];rw[List.map_append (l₁:=acc)] at ih;refine(qf _).symm.trans ?_;rw[List.map_cons];simp? only[zW,zm,RU.cs,qaD,w,hc,one,two,le,z1,Qt,List.getD_cons_succ,List.getD_cons_zero,c,z2,ih]
  ·have e1:qC r lf s=[]:=by unfold qC;rw[if_neg hc]
   obtain⟨ρ',ih⟩:=qQ k v0 v1 v2 r hr lf hf st acc (.val (.str s.1)) (.val (.int s.2.1)) (.val (.int s.2.2)) (.val (.int (wt r.lands (some s.1)))) (λx hx=>hn x (by simp[hx])) (1:);refine⟨ρ',?_⟩;rw[qq,e1,List.nil_append];refine(qf _).symm.trans ?_;rw[List.map_cons];simp? only[zW,zm,RU.cs,qaD,w,hc,ih]
end
section
variable{pg:Pg}[RU pg][BO pg][SP pg][BT pg][PC pg]
theorem qaI(k:Nat)(b:Bool)(rs:List Ru)(ps:List Pa)(hp:ps.length<=18)(n:Nat)(r:Ru)(hn:rs[n]?=some r)(hr:∀p∈r.lands,LnOk p)(hlf:(zU n ps).length<=20)(st:List St)(hs:∀s∈st,NameOk s.1)(hl:st.length<=170) :
  clK pg (k+3) "pieces_among" [.val (bkI rs ps),.val (.int (n:Int)),aL b (st.map stD)]=.ok (.tmp ((qq r (zU n ps) st).map paD)):=by
 have a:=Zp (pg:=pg) (k+1) rs ps;have l:=qew (pg:=pg) k rs ps (n:Int) (1:);have e:=qi0 hn;rw[r_pieces_among];obtain⟨ρ',i⟩:=qQ (pg:=pg) k (.val (bkI rs ps)) (.val (.int (n:Int))) (pS b (st.map stD)) r hr (zU n ps) hlf st [] .no .no .no .no hs (by simp;omega);rw[List.map_nil,List.nil_append] at i;simp? only[yF,RU.cs,Yg,qeu,a,l,e,show(0:Nat)<=sizeLine by decide+kernel,i]
end
noncomputable def qhm(f t:Int):List Pa->Int->Int
 |[],a=>a
 | p::l,a=>qhm f t l (if 0 < mn p.2.1 t - mx p.1 f+1 then a+(mn p.2.1 t - mx p.1 f+1) * p.2.2 else a)
def WOk(l:List Pa):Prop:=∀p∈l,1<=p.2.2/\p.2.2<=9
theorem Zx(cl:Cl)(v0:Sl)(f t:Int):∀(l:List Pa) (a:Int) (s4 s5 s6 s7:Sl),WOk l->∃ρ',jN cl 1000 (.many [4,5,6]) JE (l.map paD) [v0,.val (.int f),.val (.int t),.val (.int a),s4,s5,s6,s7]=.ok (.next (v0::.val (.int f)::.val (.int t)::.val (.int (qhm f t l a))::ρ'))
 |[],a,s4,s5,s6,s7,_=>⟨[s4,s5,s6,s7],rfl⟩
 | p::l,a,s4,s5,s6,s7,h=>by
  have hw:=h p (by simp);have mul:ZO (mn p.2.1 t - mx p.1 f+1) p.2.2=true:=JV (1:) (1:);rw[qhm]
  by_cases hc:0 < mn p.2.1 t - mx p.1 f+1
  ·obtain⟨ρ',ih⟩:=Zx cl v0 f t l (a+(mn p.2.1 t - mx p.1 f+1) * p.2.2) (.val (.int p.1)) (.val (.int p.2.1)) (.val (.int p.2.2)) (.val (.int (mn p.2.1 t - mx p.1 f+1))) (λq hq=>h q (by simp[hq]));refine⟨ρ',?_⟩;rw[if_pos hc];refine(qf _).symm.trans ?_;rw[List.map_cons];simp? only[JX,qS,mxF,mnF,hc,mul,ih]
  ·obtain⟨ρ',ih⟩:=Zx cl v0 f t l a (.val (.int p.1)) (.val (.int p.2.1)) (.val (.int p.2.2)) (.val (.int (mn p.2.1 t - mx p.1 f+1))) (λq hq=>h q (by simp[hq]));refine⟨ρ',?_⟩;rw[if_neg hc];refine(qf _).symm.trans ?_;rw[List.map_cons];simp? only[JX,qS,mxF,mnF,hc,ih]
noncomputable def fsF(leave day:Int):List Pa->Int->Int
 |[],f=>f
 | p::l,f=>if p.1<=day then (if leave<=f - 1 - mn p.2.1 day then f else fsF leave day l p.1) else fsF leave day l f
theorem qbr(cl:Cl)(v0:Sl)(leave day:Int):∀(l:List Pa) (f:Int) (s4 s5 s6:Sl),∃F,jN cl 1000 (.many [4,5,6]) zH (l.map paD) [v0,.val (.int leave),.val (.int day),.val (.int f),s4,s5,s6]=.ok F/\(F=.ret (.val (.int (fsF leave day l f)))\/∃ρ',F=.next (v0::.val (.int leave)::.val (.int day)::.val (.int (fsF leave day l f))::ρ'))
 |[],f,s4,s5,s6=>⟨_,rfl,.inr ⟨[s4,s5,s6],rfl⟩⟩
 | p::l,f,s4,s5,s6=>by
  rw[fsF]
  by_cases h1:p.1<=day
  ·rw[if_pos h1]
   by_cases h2:leave<=f - 1 - mn p.2.1 day
   ·rw[if_pos h2];refine⟨_,?_,.inl rfl⟩;refine(qf _).symm.trans ?_;rw[List.map_cons];simp? only[qZ,qS,h1,mnF,h2]
   ·rw[if_neg h2];obtain⟨F,i,a⟩:=qbr cl v0 leave day l p.1 (.val (.int p.1)) (.val (.int p.2.1)) (.val (.int p.2.2));refine⟨F,?_,a⟩;refine(qf _).symm.trans ?_;rw[List.map_cons];simp? only[qZ,qS,h1,mnF,h2,i]
  ·rw[if_neg h1];obtain⟨F,i,a⟩:=qbr cl v0 leave day l f (.val (.int p.1)) (.val (.int p.2.1)) (.val (.int p.2.2));refine⟨F,?_,a⟩;refine(qf _).symm.trans ?_;rw[List.map_cons];simp? only[qZ,qS,h1,i]
section
variable{pg:Pg}[RU pg][SU pg]
theorem qgl(k:Nat)(b:Bool)(l:List Pa)(h:WOk l)(f t:Int):clK pg (k+1) "sum_of" [aL b (l.map paD),.val (.int f),.val (.int t)]=.ok (.val (.int (qhm f t l 0))):=by rw[r_sum_of];obtain⟨ρ',i⟩:=Zx (pg.kk k) (pS b (l.map paD)) f t l 0 .no .no .no .no h;simp? only[qca,i]
theorem Zy(k:Nat)(b:Bool)(l:List Pa)(leave day:Int):clK pg (k+1) "first_since" [aL b (l.map paD),.val (.int leave),.val (.int day)]=.ok (.val (.int (fsF leave day l.reverse (day+1)))):=by rw[r_first_since];obtain⟨F,i,a⟩:=qbr (pg.kk k) (pS b (l.map paD)) leave day l.reverse (day+1) .no .no .no;rw[List.map_reverse] at i;rcases a with rfl | ⟨ρ',rfl⟩<;>simp? only[Jd,i]
noncomputable def J7(r:Ru)(l:List Pa)(d:Int):Int:=if r.kd.isW=true then d - r.days+1 else fsF r.days d l.reverse (d+1)
def qJ(r:Ru)(l:List Pa)(d:Int):Int:=qhm (J7 r l d) d l 0
theorem qeG(k:Nat)(b:Bool)(r:Ru)(l:List Pa)(d:Int):clK pg (k+2) "first_of_window" [.val (ruI r),aL b (l.map paD),.val (.int d)]=.ok (.val (.int (J7 r l d))):=by
 have s:=Zy (pg:=pg) k b l r.days d;have iw:=qaE r;rw[r_first_of_window];unfold J7
 cases hk:r.kd.isW with
 |true=>rw[hk] at iw;simp? only[q9,RU.cs,iw,qes r hk]
 |false=>
  rw[hk] at iw
  try simp only[qau,qav] at s
  simp? only[q9,RU.cs,iw,qgh r hk,s]
theorem jI(k:Nat)(b:Bool)(r:Ru)(l:List Pa)(h:WOk l)(d:Int):clK pg (k+3) "count_among" [.val (ruI r),aL b (l.map paD),.val (.int d)]=.ok (.val (.int (qJ r l d))):=by
 have s:=qgl (pg:=pg) (k+1) b l h (J7 r l d) d;have f:=qeG (pg:=pg) k b r l d;rw[r_count_among];unfold qJ
 try simp only[qau,qav] at s f
 simp? only[Je,f,s]
end
end DG
namespace DG
open PySem DE FA Dy
open L2 hiding St
open CH ST SP RU BO BT PC SU FK FM FO
def zK(span:Int):List Pa->List Int
 |[]=>[]
 | p::l=>(p.1+span)::(p.2.1+1+span)::zK span l
def zZ(r:Ru)(l:List Pa):List Int:=if r.kd.isW=true then zK r.days l else []
theorem QI(cl:Cl)(hcs:cl.cs=pcs)(v1:Sl)(r:Ru)(hk:r.kd.isW=true):∀(l:List Pa) (acc:List Int) (s3 s4 s5:Sl),acc.length+2 * l.length < 10000->∃ρ',jN cl 1000 (.many [3,4,5]) yh (l.map paD) [.val (ruI r),v1,.own (acc.map D.int),s3,s4,s5]=.ok (.next (.val (ruI r)::v1::.own ((acc++zK r.days l).map D.int)::ρ'))
 |[],acc,s3,s4,s5,_=>⟨[s3,s4,s5],by simp[zK,qL]⟩
 | p::l,acc,s3,s4,s5,hl=>by
  rw[List.length_cons] at hl;obtain⟨ρ',ih⟩:=QI cl hcs v1 r hk l (acc++[p.1+r.days]++[p.2.1+1+r.days]) (.val (.int p.1)) (.val (.int p.2.1)) (.val (.int p.2.2)) (by simp;omega);refine⟨ρ',?_⟩;have hs:(acc.map D.int).length < sizeLine:=by rw[List.length_map];exact qr (1:)
  have hs2:(acc.map D.int++[D.int (p.1+r.days)]).length < sizeLine:=by simp;exact qr (1:)
  rw[zK,show acc++(p.1+r.days)::(p.2.1+1+r.days)::zK r.days l=acc++[p.1+r.days]++[p.2.1+1+r.days]++zK r.days l by simp];rw[List.map_append (l₁:=acc++[p.1+r.days]),List.map_append (l₁:=acc),List.map_cons,List.map_nil,List.map_cons,List.map_nil] at ih;refine(qf _).symm.trans ?_;rw[List.map_cons];simp? only[Qh,qS,hcs,qes r hk,hs,hs2,ih]
theorem QJ(s:Int):∀l:List Pa,(zK s l).length=2 * l.length
 |[]=>rfl
 | p::l=>by rw[zK,List.length_cons,List.length_cons,QJ s l,List.length_cons];omega
noncomputable def J0(r:Ru)(l:List Pa)(b e:Int):Option Int:=if qJ r l b - qJ r l (b - 1)<=0 then none else if b+(r.most - qJ r l (b - 1)) / (qJ r l b - qJ r l (b - 1))<=e then some (b+(r.most - qJ r l (b - 1)) / (qJ r l b - qJ r l (b - 1))) else none
def qa2:Option Int->D
 |none=>.non
 |some d=>.int d
noncomputable def JJ(r:Ru)(l:List Pa):List Pr->Option Int
 |[]=>none
 | p::s=>match J0 r l p.1 p.2 with
  |some d=>some d
  |none=>JJ r l s
def inB(f t x:Int):Bool:=decide (f < x)&&decide (x<=t)
def qhn(f t:Int)(ts:List Int):List Pr:=(f::ts).zip (ts.map (· - 1)++[t])
noncomputable def yk(r:Ru)(L:List Pa)(ts:List Int):List Pa->Option Int
 |[]=>none
 | p::l=>match JJ r L (qhn p.1 p.2.1 (ts.filter (inB p.1 p.2.1))) with
  |some d=>some d
  |none=>yk r L ts l
theorem qho:∀(a b:List Int),qcS (a.map D.int) (b.map D.int)=(a.zip b).map pD
 |[],b=>by simp[qcS]
 | x::a,[]=>by simp[qcS]
 | x::a,y::b=>by
  have:=qho a b
  unfold qcS at this ⊢;rw[List.map_cons,List.map_cons,List.zipWith_cons_cons,this];rfl
theorem qeH(d:D)(l:List D):qbR (d::l) (some 1) none=l:=by unfold qbR;rw[show(some (1:Int))=some ((1:Nat):Int) from rfl,HT.QX,HT.qbM];simp
theorem qgm(cl:Cl)(f t:Int):∀(ts acc:List Int) (s0:Sl),acc.length+ts.length < 10000->zt cl zh (.one 0) (.test (.and (.cmp .Lt (.var 1) (.var 0)) (.one (.cmp .LtE (.var 0) (.var 2))))) (ts.map D.int) [s0,.val (.int f),.val (.int t)] (acc.map D.int)=.ok ((acc++ts.filter (inB f t)).map D.int)
 |[],acc,s0,_=>by simp[qH]
 | x::ts,acc,s0,hl=>by
  rw[List.length_cons] at hl;have hs:(acc.map D.int).length < sizeLine:=by rw[List.length_map];exact qr (1:)
  by_cases h1:f < x
  ·by_cases h2:x<=t
   ·have ih:=qgm cl f t ts (acc++[x]) (.val (.int x)) (by simp;omega);have e:(x::ts).filter (inB f t)=x::ts.filter (inB f t):=by simp[inB,h1,h2]
    rw[e];simp only[List.map_append,List.map_cons,List.map_nil,List.append_assoc,List.cons_append,List.nil_append] at ih ⊢;refine(qf _).symm.trans ?_;simp? only[Jg,h1,h2,hs,ih]
   ·have ih:=qgm cl f t ts acc (.val (.int x)) (1:);have e:(x::ts).filter (inB f t)=ts.filter (inB f t):=by simp[inB,h2]
    rw[e];refine(qf _).symm.trans ?_;rw[List.map_cons];simp? only[h1,h2,ih]
  ·have ih:=qgm cl f t ts acc (.val (.int x)) (1:);have e:(x::ts).filter (inB f t)=ts.filter (inB f t):=by simp[inB,h1]
   rw[e];refine(qf _).symm.trans ?_;rw[List.map_cons];simp? only[h1,ih]
theorem qlW(cl:Cl):∀(ts acc:List Int) (s0:Sl),acc.length+ts.length < 10000->zt cl zi (.one 0) .yes (ts.map D.int) [s0] (acc.map D.int)=.ok ((acc++ts.map (· - 1)).map D.int)
 |[],acc,s0,_=>by simp[qH]
 | x::ts,acc,s0,hl=>by
  rw[List.length_cons] at hl;have hs:(acc.map D.int).length < sizeLine:=by rw[List.length_map];exact qr (1:)
  have ih:=qlW cl ts (acc++[x - 1]) (.val (.int x)) (by simp;omega);simp only[List.map_append,List.map_cons,List.map_nil,List.append_assoc,List.cons_append,List.nil_append] at ih ⊢;refine(qf _).symm.trans ?_;simp? only[Jh,hs,ih]
def qjA(r:Ru)(l:List Pa):Prop:=∀d,qJ r l d - qJ r l (d - 1) < 1073741824
section
variable{pg:Pg}[RU pg][SU pg][FK pg]
theorem qc4(k:Nat)(b:Bool)(r:Ru)(l:List Pa)(hl:l.length < 4000):clK pg (k+1) "turns_of" [.val (ruI r),aL b (l.map paD)]=.ok (.tmp ((zZ r l).map D.int)):=by
 have iw:=qaE r;rw[r_turns_of];unfold zZ
 cases hk:r.kd.isW with
 |true=>rw[hk] at iw;obtain⟨ρ',i⟩:=QI (pg.kk k) RU.cs (pS b (l.map paD)) r hk l [] .no .no .no (by simp;omega);rw[List.map_nil,List.nil_append] at i;simp? only[JF,RU.cs,iw,show(0:Nat)<=sizeLine by decide+kernel,i]
 |false=>rw[hk] at iw;simp? only[JF,RU.cs,iw,show(0:Nat)<=sizeLine by decide+kernel]
theorem qgn(k:Nat)(b:Bool)(r:Ru)(l:List Pa)(h:WOk l)(hs:qjA r l)(f t:Int):clK pg (k+4) "first_above" [.val (ruI r),aL b (l.map paD),.val (.int f),.val (.int t)]=.ok (.val (qa2 (J0 r l f t))):=by
 have c1:=jI (pg:=pg) k b r l h (f - 1);have c2:=jI (pg:=pg) k b r l h f;have hg:=hs f;rw[r_first_above];unfold J0
 by_cases h1:qJ r l f - qJ r l (f - 1)<=0
 ·rw[if_pos h1]
  try simp only[qau,qav] at c1 c2
  simp? only[zu,c1,c2,h1,qa2]
 ·rw[if_neg h1];have hd:(0:Int) < qJ r l f - qJ r l (f - 1)/\qJ r l f - qJ r l (f - 1) < 1073741824:=⟨by omega,hg⟩
  by_cases h2:f+(r.most - qJ r l (f - 1)) / (qJ r l f - qJ r l (f - 1))<=t
  ·rw[if_pos h2]
   try simp only[qau,qav] at c1 c2
   simp? only[zu,c1,c2,h1,RU.cs,Zo,hd,h2,qa2]
  ·rw[if_neg h2]
   try simp only[qau,qav] at c1 c2
   simp? only[zu,c1,c2,h1,RU.cs,Zo,hd,h2,qa2]
theorem qcb(k:Nat)(b:Bool)(r:Ru)(l:List Pa)(h:WOk l)(hs:qjA r l)(v2 v3 v4 v5 v6 v8:Sl):∀(ss:List Pr) (s7 s9 s10:Sl),
  ∃F,jN (pg.kk (k+4)) 1000 (.many [7,9]) zj (ss.map pD) [.val (ruI r),pS b (l.map paD),v2,v3,v4,v5,v6,s7,v8,s9,s10]=.ok F/\(∀d,JJ r l ss=some d->F=.ret (.val (.int d)))/\(JJ r l ss=none->∃s7' s9' s10',F=.next [.val (ruI r),pS b (l.map paD),v2,v3,v4,v5,v6,s7',v8,s9',s10'])
 |[],s7,s9,s10=>⟨_,rfl,λd e=>(by cases e),λ_=>⟨s7,s9,s10,rfl⟩⟩
 | p::ss,s7,s9,s10=>by
  have a:=qgn (pg:=pg) k b r l h hs p.1 p.2;rw[JJ]
  cases e:J0 r l p.1 p.2 with
  |some d0=>rw[e] at a;dsimp only;refine⟨_,?_,λd ed=>(by cases ed;rfl),λq=>(by cases q)⟩;refine(qf _).symm.trans ?_;rw[List.map_cons];simp? only[zX,ja,a,qa2]
  |none=>rw[e] at a;dsimp only;obtain⟨F,i,c⟩:=qcb k b r l h hs v2 v3 v4 v5 v6 v8 ss (.val (.int p.1)) (.val (.int p.2)) (.val .non);refine⟨F,?_,c⟩;refine(qf _).symm.trans ?_;rw[List.map_cons];simp? only[zX,ja,a,qa2,i]
theorem YS(k:Nat)(b:Bool)(r:Ru)(L:List Pa)(h:WOk L)(hs:qjA r L)(ts:List Int)(ht:ts.length < 8000):∀(l:List Pa) (c:Bool) (s3 s4 s5 s6 s7 s8 s9 s10:Sl),
  ∃F,jN (pg.kk (k+4)) 1000 (.many [3,4,5]) zk (l.map paD) [.val (ruI r),pS b (L.map paD),qhh c (ts.map D.int),s3,s4,s5,s6,s7,s8,s9,s10]=.ok F/\(∀d,yk r L ts l=some d->F=.ret (.val (.int d)))/\(yk r L ts l=none->∃ρ',F=.next ρ')
 |[],c,s3,s4,s5,s6,s7,s8,s9,s10=>⟨_,rfl,λd e=>(by cases e),λ_=>⟨_,rfl⟩⟩
 | p::l,c,s3,s4,s5,s6,s7,s8,s9,s10=>by
  have fl:=List.length_filter_le (inB p.1 p.2.1) ts;have t1:=qgm (pg.kk (k+4)) p.1 p.2.1 ts [] .no (by simp;omega);have t2:=qlW (pg.kk (k+4)) (ts.filter (inB p.1 p.2.1)) [] .no (by simp;omega);rw[List.map_nil,List.nil_append] at t1 t2;have z:=qho (p.1::ts.filter (inB p.1 p.2.1)) ((ts.filter (inB p.1 p.2.1)).map (· - 1)++[p.2.1]);rw[List.map_cons,List.map_append,List.map_cons,List.map_nil] at z;have z0:ts.length<=sizeLine:=qy (1:);have z1:0+1<=sizeLine:=by decide+kernel
  have z2:1+(ts.filter (inB p.1 p.2.1)).length<=sizeLine:=qy (1:);have z3:(ts.filter (inB p.1 p.2.1)).length<=sizeLine:=qy (1:);have z4:(ts.filter (inB p.1 p.2.1)).length+1<=sizeLine:=qy (1:);obtain⟨G,i,seg⟩:=qcb (pg:=pg) k b r L h hs (.val (.lst (ts.map D.int))) (.val (.int p.1)) (.val (.int p.2.1)) (.val (.int p.2.2)) (.val (.lst (D.int p.1::(ts.filter (inB p.1 p.2.1)).map D.int))) (.val (.lst (((ts.filter (inB p.1 p.2.1)).map (· - 1)).map D.int++[D.int p.2.1]))) (qhn p.1 p.2.1 (ts.filter (inB p.1 p.2.1))) s7 s9 s10;rw[show qhn p.1 p.2.1 (ts.filter (inB p.1 p.2.1))=(p.1::ts.filter (inB p.1 p.2.1)).zip ((ts.filter (inB p.1 p.2.1)).map (· - 1)++[p.2.1]) from rfl] at i seg;rw[yk,show qhn p.1 p.2.1 (ts.filter (inB p.1 p.2.1))=(p.1::ts.filter (inB p.1 p.2.1)).zip ((ts.filter (inB p.1 p.2.1)).map (· - 1)++[p.2.1]) from rfl]
  cases e:JJ r L ((p.1::ts.filter (inB p.1 p.2.1)).zip ((ts.filter (inB p.1 p.2.1)).map (· - 1)++[p.2.1])) with
  |some d0=>rw[seg.1 d0 e] at i;dsimp only;refine⟨_,?_,λd ed=>(by cases ed;rfl),λq=>(by cases q)⟩;refine(qf _).symm.trans ?_;rw[List.map_cons];simp? only[zY,qS,List.length_map,z0,z1,z2,z3,z4,Qt,List.getD_cons_succ,List.getD_cons_zero,t1,qeH,t2,z,i]
  |none=>obtain⟨s7',s9',s10',eG⟩:=seg.2 e;rw[eG] at i;dsimp only;obtain⟨F,i2,c2⟩:=YS k b r L h hs ts ht l false (.val (.int p.1)) (.val (.int p.2.1)) (.val (.int p.2.2)) (.val (.lst (D.int p.1::(ts.filter (inB p.1 p.2.1)).map D.int))) s7' (.val (.lst (((ts.filter (inB p.1 p.2.1)).map (· - 1)).map D.int++[D.int p.2.1]))) s9' s10';refine⟨F,?_,c2⟩;simp only[qek,qel] at i2;refine(qf _).symm.trans ?_;rw[List.map_cons];simp? only[zY,qS,List.length_map,z0,z1,z2,z3,z4,Qt,List.getD_cons_succ,List.getD_cons_zero,t1,qeH,t2,z,i,i2]
def qu(r:Ru)(l:List Pa):Option Int:=yk r l (zZ r l) l
theorem qc5(r:Ru)(l:List Pa):(zZ r l).length<=2 * l.length:=by
 unfold zZ;split
 ·rw[QJ];omega
 ·simp
theorem Jl(k:Nat)(b:Bool)(r:Ru)(l:List Pa)(h:WOk l)(hs:qjA r l)(hl:l.length < 3900):clK pg (k+5) "first_broken" [.val (ruI r),aL b (l.map paD)]=.ok (.val (qa2 (qu r l))):=by
 have t:=qc4 (pg:=pg) (k+3) b r l (1:);obtain⟨F,i,lp⟩:=YS (pg:=pg) k b r l h hs (zZ r l) (by have:=qc5 r l;omega) l true .no .no .no .no .no .no .no .no;rw[r_first_broken];unfold qu
 cases e:yk r l (zZ r l) l with
 |some d=>
  rw[lp.1 d e] at i
  try simp only[qau,qav,qek,qel] at t i ⊢
  simp? only[jb,t,i,qa2]
 |none=>
  obtain⟨ρ',eF⟩:=lp.2 e;rw[eF] at i
  try simp only[qau,qav,qek,qel] at t i ⊢
  simp? only[jb,t,i,qa2]
end
end DG
namespace DG
open PySem DE FA Dy
open L2 hiding St
open CH ST SP RU BO BT PC SU FK FM FO
def qX(st:List St)(x:Rl):List Pa:=qq x.1 x.2 st
def YT(d:Int):Option (Int×Int×Int)->Bool
 |none=>true
 |some z=>decide (d < z.1)
noncomputable def ym(st:List St):List Rl->Nat->Option (Int×Int×Int)->Option (Int×Int×Int)
 |[],_,f=>f
 | x::l,i,f=>match qu x.1 (qX st x) with
  |none=>ym st l (i+1) f
  |some d=>if YT d f=true then ym st l (i+1) (some (d,(i:Int),J7 x.1 (qX st x) d)) else ym st l (i+1) f
structure RlOk(st:List St)(x:Rl):Prop where
 ln:∀p∈x.1.lands,LnOk p
 w:WOk (qX st x)
 slow:qjA x.1 (qX st x)
 lf:x.2.length<=20
section
variable{pg:Pg}[RU pg][BO pg][SP pg][BT pg][PC pg][SU pg][FK pg]
theorem QK(k:Nat)(b:Bool)(rs:List Ru)(ps:List Pa)(hp:ps.length<=18)(st:List St)(hs:∀s∈st,NameOk s.1)(hl:st.length<=70):∀(rest:List Rl) (i:Nat) (f:Option (Int×Int×Int)) (s3 s4 s5 s6:Sl),(∀(j:Nat) x,rest[j]?=some x->rs[i+j]?=some x.1/\x.2=zU ((i+j:Nat):Int) ps/\RlOk st x)->
  ∃ρ',jN (pg.kk (k+6)) 1000 (.many [3,4]) zI (enF i (rest.map λx=>ruI x.1)) [.val (bkI rs ps),pS b (st.map stD),.val (YF f),s3,s4,s5,s6]=.ok (.next (.val (bkI rs ps)::pS b (st.map stD)::.val (YF (ym st rest i f))::ρ'))
 |[],i,f,s3,s4,s5,s6,_=>⟨[s3,s4,s5,s6],rfl⟩
 | x::rest,i,f,s3,s4,s5,s6,h=>by
  obtain⟨e1,e2,ok⟩:=h 0 x rfl;rw[Nat.add_zero] at e1 e2
  have nxt:∀(j:Nat) y,rest[j]?=some y->rs[i+1+j]?=some y.1/\y.2=zU ((i+1+j:Nat):Int) ps/\RlOk st y:=λj y hy=>by
   have:=h (j+1) y hy
   rwa[show i+(j+1)=i+1+j by omega] at this
  have pl:(qX st x).length < 3900:=by
   have:=YR x.1 x.2 st
   have h1:=ok.lf
   have:st.length * (x.2.length+2)<=70 * 22:=Nat.mul_le_mul hl (1:)
   unfold qX;omega
  have p:=qaI (pg:=pg) (k+3) b rs ps hp i x.1 e1 ok.ln (by rw[<-e2];exact ok.lf) st hs (1:);rw[<-e2] at p;rw[show qq x.1 x.2 st=qX st x from rfl] at p;have br:=Jl (pg:=pg) (k+1) true x.1 (qX st x) ok.w ok.slow pl;have three:0+1+1+1<=sizeLine:=by decide+kernel
  simp only[qau,qav] at br;have fw:∀d,clK pg (k+6) "first_of_window" [.val (ruI x.1),.bor ((qX st x).map paD),.val (.int d)]=.ok (.val (.int (J7 x.1 (qX st x) d))):=λd=>qeG (pg:=pg) (k+4) true x.1 (qX st x) d
  obtain⟨f',ef,X⟩:∃f',ym st (x::rest) i f=ym st rest (i+1) f'/\∀{β:Type} (K:Fl->R β) (a b:Sl),(iS (pg.kk (k+6)) 1000 (.ite (.and (.cmp .IsNot (.var 6) (.con D.non)) (.one (.or (.cmp .Is (.var 2) (.con D.non)) (.one (.cmp .Lt (.var 6) (.idx (.var 2) (.con (D.int 0)))))))) %[.set 2 (.tup %[6,3,.call "first_of_window" %[4,5,6|0]|0])|0] .nil) [a,b,.val (YF f),.val (.int i),.val (ruI x.1),.own ((qX st x).map paD),.val (qa2 (qu x.1 (qX st x)))]).th K=K (.next [a,b,.val (YF f'),.val (.int i),.val (ruI x.1),.own ((qX st x).map paD),.val (qa2 (qu x.1 (qX st x)))]):=by
   rw[ym]
   cases e:qu x.1 (qX st x) with
   |none=>exact⟨f,rfl,λK a b=>by simp? only[qa2]⟩
   |some d=>
    dsimp only
    cases f with
    |none=>exact⟨some (d,(i:Int),J7 x.1 (qX st x) d),by rw[show YT d none=true from rfl,if_pos rfl],λK a b=>by simp? only[qa2,YF,f3D,fw,three]⟩
    |some z=>
     by_cases hc:d < z.1
     ·exact⟨some (d,(i:Int),J7 x.1 (qX st x) d),by rw[if_pos (by simp[YT,hc])],λK a b=>by simp? only[qa2,YF,f3D,hc,fw,three]⟩
     ·exact⟨some z,by rw[if_neg (by simp[YT,hc])],λK a b=>by simp? only[qa2,YF,f3D,hc]⟩
  rw[ef];obtain⟨ρ',ih⟩:=QK k b rs ps hp st hs hl rest (i+1) f' (.val (.int i)) (.val (ruI x.1)) (.own ((qX st x).map paD)) (.val (qa2 (qu x.1 (qX st x)))) nxt;refine⟨ρ',?_⟩;refine(qf _).symm.trans ?_;rw[List.map_cons,enF];simp? only[↓X,JG,p,br,ih]
end
def qv(rs:List Ru)(ps:List Pa)(st:List St):Option (Int×Int×Int):=ym st (rlF ps 0 rs) 0 none
section
variable{pg:Pg}[RU pg][BO pg][SP pg][BT pg][PC pg][SU pg][FK pg][FM pg]
theorem Jm(k:Nat)(b:Bool)(rs:List Ru)(ps:List Pa)(hp:ps.length<=18)(st:List St)(hs:∀s∈st,NameOk s.1)(hl:st.length<=70)(hr:∀x∈rlF ps 0 rs,RlOk st x) :
  clK pg (k+7) "fault_among" [.val (bkI rs ps),aL b (st.map stD)]=.ok (.val (YF (qv rs ps st))):=by
 have a:=Zp (pg:=pg) (k+5) rs ps
 obtain⟨ρ',i⟩:=QK (pg:=pg) k b rs ps hp st hs hl (rlF ps 0 rs) 0 none .no .no .no .no (λj x hx=>by have hm:=List.mem_of_getElem? hx;rw[YG] at hx;obtain⟨r,e1,e2⟩:=Option.map_eq_some_iff.mp hx;rw[Nat.zero_add];rw[Nat.zero_add] at e2;exact⟨by rw[e1,<-e2],by rw[<-e2],hr x hm⟩)
 rw[qez] at i;rw[r_fault_among]
 try simp only[qau,qav,YF] at i ⊢
 simp? only[Ji,RU.cs,Yg,a,y6,i,qv]
end
section
variable{pg:Pg}[CH pg][ST pg][RU pg][BO pg][SP pg][BT pg][PC pg][SU pg][FK pg][FM pg][FO pg]
theorem qc6(k:Nat)(b:Bool)(rs:List Ru)(ps:List Pa)(hp:ps.length<=18)(st:List St)(hs:∀s∈st,NameOk s.1)(hc:Ch (-1) st)(hl:st.length<=60)(hr:∀x∈rlF ps 0 rs,RlOk st x) :
  clK pg (k+8) "fault_of" [.val (bkI rs ps),aL b (st.map stD)]=.ok (.val (YF (qv rs ps st))):=by
 have s:=qb6 (pg:=pg) (k+2) b st hc hl;have f:=Jm (pg:=pg) k false rs ps hp st hs (1:) hr;rw[r_fault_of]
 try simp only[qau,qav] at s f ⊢
 simp? only[QH,s,f]
end
end DG
namespace FZ
open PySem DE DG Dy FA
open L2 hiding St
open ZA ZW ZN ZR ZT ZP RU
theorem qcc(z:Str)(i:Nat)(h:i<=z.length):(Txt.slice z none (some (i:Int))).cps.toList=z.cps.toList.take i:=by
 have e:Builtin.Str.strSliceIndices none (some (i:Int)) 1 z.length=(List.range i).map (0 + ·):=by
  have:=sliceRange_one 0 i
  rw[Nat.sub_zero] at this;rw[<-this];unfold Builtin.Str.strSliceIndices;simp only[show(1:Int) > 0 by decide,if_true]
  congr 1
  rw[if_neg (1:)];omega
 unfold Txt.slice;rw[e];split
 ·rename_i hc;simp at hc;rw[hc,List.take_of_length_le (by simp[Str.length])]
 ·show(List.toArray _).toList=_;rw[pick_run];simp
theorem qgo(z:Str)(i:Nat)(h:i<=z.length):(Txt.slice z (some (i:Int)) none).cps.toList=z.cps.toList.drop i:=by
 have e:Builtin.Str.strSliceIndices (some (i:Int)) none 1 z.length=(List.range (z.length - i)).map (i + ·):=by
  rw[<-sliceRange_one i z.length];unfold Builtin.Str.strSliceIndices;simp only[show(1:Int) > 0 by decide,if_true]
  congr 1
  rw[if_neg (1:)];omega
 unfold Txt.slice;rw[e];split
 ·rename_i hc;simp at hc
  have:i=0\/z.length=0:=by omega
  rcases this with q | q
  ·rw[q];simp
  ·have:z.cps.toList=[]:=by simpa [Str.length] using q
   rw[this];simp
 ·show(List.toArray _).toList=_;rw[pick_run,List.take_of_length_le (by simp[Str.length])]
section
variable{pg:Pg}[ZA pg]
theorem qlX(k:Nat)(ns:List Int)(i:Nat):clK pg (k+1) "_law_at" [.scr (ns.map D.int),.val (.int (i:Int))]=.ok (.val (.int (qN ns i))):=by
 rw[r__law_at]
 by_cases h:i < ns.length
 ·have h1:(i:Int) < ((ns.map D.int).length:Int):=by rw[List.length_map];omega
  have h2:atI (ns.map D.int) (i:Int)=some (.int (qN ns i)):=qhe (by simp[h,qN]);simp? only[YK,Nat.reduceAdd,Nat.reduceSub,h1,h2,decide_true]
 ·have h1:¬ (i:Int) < ((ns.map D.int).length:Int):=by rw[List.length_map];omega
  have h2:qN ns i=0:=by simp[qN,h]
  simp? only[YK,Nat.reduceAdd,Nat.reduceSub,h1,h2,decide_false]
end
def qmE(z:Str):Prop:=∀c∈z.cps.toList,yL c
theorem qaJ(cl:Cl)(v0 v2:Sl):∀(n:Nat) (j:Int) (m:Int) (z:Str) (s4:Sl),z.cps.size+n<=8->qmE z->∃(z':Str) (m':Int) (s4':Sl),jN cl 1000 (.one 4) jG (rgF j n) [v0,.val (.int m),v2,.val (.str z),s4]=.ok (.next [v0,.val (.int m'),v2,.val (.str z'),s4'])/\z'.cps.size=z.cps.size+n/\qmE z'
 |0,j,m,z,s4,_,h=>⟨z,m,s4,rfl,rfl,h⟩
 | n+1,j,m,z,s4,hn,h=>by
  obtain⟨h1,hl⟩:=qlR (m % 26) (Int.emod_nonneg _ (2:)) (Int.emod_lt_of_pos _ (2:));generalize 97+(m % 26).toNat=c at h1 hl
  obtain⟨z',m',s4',ih,i1,i2⟩:=qaJ cl v0 v2 n (j+1) (m / 26) (z++(⟨#[c]⟩:Str)) (.val (.int j)) (by rw[Zi];omega) (λx hx=>by
   rw[qgc] at hx;rcases List.mem_append.mp hx with q | q
   ·exact h x q
   ·rw[List.mem_singleton.mp q];exact hl)
  refine⟨z',m',s4',?_,by rw[i1,Zi];omega,i2⟩
  have hs:z.length+(⟨#[c]⟩:Str).length<=sizeLine:=by show z.cps.size+1<=2 ^ 24;omega
  have h26:("abcdefghijklmnopqrstuvwxyz" : Str).length<=sizeLine:=by decide+kernel
  refine(qf _).symm.trans ?_;rw[rgF];simp? only[YL,h1,hs,h26,ih]
theorem qi4{pg:Pg}[ZW pg](k:Nat)(c:Int):∃z:Str,clK pg (k+1) "_law_word" [.val (.int c)]=.ok (.val (.str z))/\1<=z.cps.size/\z.cps.size<=7/\qmE z:=by
 have mul:ZO c 1099087573=true:=JV (2:) (2:);generalize hN:c * 1099087573 % 10000000000037=n;have a0:0<=n % 7:=Int.emod_nonneg _ (2:);have a1:n % 7 < 7:=Int.emod_lt_of_pos _ (2:);obtain⟨m,em⟩:∃m:Nat,1+n % 7=(m:Int):=⟨(1+n % 7).toNat,by omega⟩;have e0:("" : Str).cps.size=0:=by decide+kernel
 obtain⟨z,m',s4,e,e1,e2⟩:=qaJ (pg.kk k) (.val (.int c)) (.val (.int (m:Int))) m 0 (n / 7) "" .no (1:) (λx hx=>by rw[show("" : Str).cps.toList=[] by decide+kernel] at hx;cases hx)
 refine⟨z,?_,by omega,by omega,e2⟩
 have sm:qD (m:Int)=true:=by unfold qD;simp;omega
 rw[r__law_word];simp? only[YM,mul,hN,em,sm,y7,Int.sub_zero,Int.toNat_natCast,e]
noncomputable def Qi(z:Str)(a c:Nat):Str:=Txt.slice z none (some (a:Int))++(⟨#[c]⟩:Str)++Txt.slice z (some (a:Int)) none
theorem qeI(x y:Str):(x++y).cps.toList=x.cps.toList++y.cps.toList:=by show(x.cps++y.cps).toList=_;simp
theorem jt{z:Str}{a:Nat}(h:a<=z.length)(c:Nat):(Qi z a c).cps.toList=z.cps.toList.take a++c::z.cps.toList.drop a:=by unfold Qi;rw[qeI,qeI,qcc z a h,qgo z a h];simp
theorem QL{z:Str}{a:Nat}(h:a<=z.length)(c:Nat):(Qi z a c).cps.size=z.cps.size+1:=by have h':a<=z.cps.size:=h;rw[<-Array.length_toList,jt h];simp;omega
theorem qgp{z:Str}{a:Nat}(h:a<=z.length)(h7:z.cps.size<=7)(hl:qmE z){c:Nat}(hc:yL c):NameOk (Qi z a c):=by
 refine⟨by rw[QL h];omega,by rw[QL h];omega,λx hx=>?_⟩;rw[jt h] at hx;rcases List.mem_append.mp hx with q | q
 ·exact hl x (List.mem_of_mem_take q)
 ·rcases List.mem_cons.mp q with q | q
  ·rw[q];exact hc
  ·exact hl x (List.mem_of_mem_drop q)
theorem qeJ{z:Str}{a:Nat}(h:a<=z.length){c c':Nat}(e:Qi z a c=Qi z a c'):c=c':=by
 have e1:=congrArg (λx:Str=>x.cps.toList) e;rw[jt h,jt h] at e1
 have:=List.append_cancel_left e1
 exact(List.cons.inj this).1
theorem QM(cl:Cl)(z:Str)(a:Nat)(ha:a<=z.length)(h7:z.cps.size<=7):∀(cs:List Nat) (acc:List Str) (s0:Sl),acc.length+cs.length < 10000->zt cl jc (.one 0) .yes (cs.map λc=>D.str ⟨#[c]⟩) [s0,.val (.str z),.val (.int (a:Int))] (acc.map D.str)=.ok ((acc++cs.map (Qi z a)).map D.str)
 |[],acc,s0,_=>by simp[qH]
 | c::cs,acc,s0,hl=>by
  rw[List.length_cons] at hl;have hs:(acc.map D.str).length < sizeLine:=by rw[List.length_map];exact qr (1:)
  have hz:z.length<=sizeLine:=by show z.cps.size<=2 ^ 24;omega
  have l1:(Txt.slice z none (some (a:Int))).length<=z.length:=Txt.slice_le _ _ _;have l2:(Txt.slice z (some (a:Int)) none).length<=z.length:=Txt.slice_le _ _ _;have h7':z.length<=7:=h7
  have s1:(Txt.slice z none (some (a:Int))).length+(⟨#[c]⟩:Str).length<=sizeLine:=by
   have:(⟨#[c]⟩:Str).length=1:=rfl
   show _<=2 ^ 24;omega
  have s2:(Txt.slice z none (some (a:Int))++(⟨#[c]⟩:Str)).length+(Txt.slice z (some (a:Int)) none).length<=sizeLine:=by
   have:(Txt.slice z none (some (a:Int))++(⟨#[c]⟩:Str)).length=(Txt.slice z none (some (a:Int))).length+1:=Zi _ _
   show _<=2 ^ 24;omega
  have ih:=QM cl z a ha h7 cs (acc++[Qi z a c]) (.val (.str ⟨#[c]⟩)) (by simp;omega);simp only[List.map_append,List.map_cons,List.map_nil,List.append_assoc,List.cons_append,List.nil_append,Qi] at ih ⊢;refine(qf _).symm.trans ?_;simp? only[J4,hs,hz,s1,s2,ih]
theorem qgq(n:Nat)(h:n<=4):qdi (Txt.slice "kcxq" none (some (n:Int)))=(([107,99,120,113]:List Nat).take n).map λc=>D.str ⟨#[c]⟩:=by unfold qdi;rw[qcc _ _ (by show n<=("kcxq" : Str).length;rw[show("kcxq" : Str).length=4 by decide+kernel];exact h),show("kcxq" : Str).cps.toList=[107,99,120,113] by decide+kernel]
theorem qgr{pg:Pg}[ZW pg][ZN pg](k:Nat)(c:Int)(n:Nat)(hn:2<=n/\n<=4):∃zs:List Str,clK pg (k+2) "_law_names" [.val (.int c),.val (.int (n:Int))]=.ok (.tmp (zs.map D.str))/\zs.length=n/\NamesOk zs/\∀y∈zs,∃c∈([107,99,120,113]:List Nat),c∈y.cps.toList:=by
 obtain⟨z,hw,h1,h7,hl⟩:=qi4 (pg:=pg) k c;have hp:(0:Int) < (z.length:Int)+1:=by omega
 obtain⟨a,ea⟩:∃a:Nat,c % ((z.length:Int)+1)=(a:Int):=⟨(c % ((z.length:Int)+1)).toNat,by have:=Int.emod_nonneg c (show(z.length:Int)+1≠0 by omega);omega⟩;have ha:a<=z.length:=by have:=Int.emod_lt_of_pos c hp;omega
 have hz:z.length<=sizeLine:=by show z.cps.size<=2 ^ 24;omega
 have cs:=QM (pg.kk (k+1)) z a ha h7 (([107,99,120,113]:List Nat).take n) [] .no (by simp;omega);rw[List.map_nil,List.nil_append] at cs;have hk:("kcxq" : Str).length<=sizeLine:=by decide+kernel
 have let4:∀x∈([107,99,120,113]:List Nat).take n,yL x:=λx hx=>by
  have:=List.mem_of_mem_take hx
  unfold yL;simp at this;omega
 refine⟨(([107,99,120,113]:List Nat).take n).map (Qi z a),?_,by simp;omega,⟨by simp;omega,by simp;omega,λy hy=>?_,λi j y hi hj=>?_⟩,λy hy=>?_⟩
 ·have sig:=qgq n hn.2;rw[r__law_names];have hs4:((([107,99,120,113]:List Nat).take n).map λc=>D.str ⟨#[c]⟩).length<=sizeLine:=qy (by simp;omega);simp? only[JY,hw,hz,hp,ea,hk,sig,hs4,Qt,List.getD_cons_succ,List.getD_cons_zero,cs]
 ·obtain⟨x,hx,rfl⟩:=List.mem_map.mp hy;exact qgp ha h7 hl (let4 x hx)
 ·rw[List.getElem?_map] at hi hj;obtain⟨x,hx,ex⟩:=Option.map_eq_some_iff.mp hi;obtain⟨x',hx',ex'⟩:=Option.map_eq_some_iff.mp hj;have e:=qeJ ha (ex.trans ex'.symm);subst e;have nd:(([107,99,120,113]:List Nat).take n).Nodup:=(List.take_sublist n _).nodup (2:);exact(List.getElem?_inj (List.getElem?_eq_some_iff.mp hx).1 nd).mp (hx.trans hx'.symm)
 ·obtain⟨x,hx,rfl⟩:=List.mem_map.mp hy;exact⟨x,List.mem_of_mem_take hx,by rw[jt ha];simp⟩
end FZ
namespace FZ
open PySem DE DG Dy FA
open L2 hiding St
open ZA ZW ZN ZR ZT ZP RU
def kw:Kd->Int
 |.wi=>0
 |.si=>1
 |.ro=>2
def spD(r:Ru):D:=.tup [.int (kw r.kd),.lst (r.lands.map lnD),.int r.most,.int r.days]
theorem qlY(r:Ru):spD r=.tup [.int (kw r.kd),.lst (r.lands.map lnD),.int r.most,.int r.days]:=rfl
def mkR(r:Ru):Ru:=match r.kd with
 |.ro=>{ r with days:=1 }
 |_=>r
structure SpOk(r:Ru):Prop where
 nd:(r.lands.map (·.1)).Nodup
 l1:1<=r.lands.length
 l6:r.lands.length<=6
 ok:∀p∈r.lands,LnOk p
 m0:0<=r.most
 m1:r.most<=1000000000
 d0:1<=r.days
 d1:r.days<=1000000000
theorem SpOk.lands{r:Ru}(h:SpOk r):qG (r.lands.map lnD)=true:=qc2 h.ok h.nd h.l1 h.l6
theorem qhp(r:Ru):(mkR r).lands=r.lands:=by obtain⟨kd,_,_,_⟩:=r;cases kd<;>rfl
theorem qcd(r:Ru):(mkR r).most=r.most:=by obtain⟨kd,_,_,_⟩:=r;cases kd<;>rfl
theorem qgs(r:Ru):(mkR r).days=match r.kd with |.ro=>1 |_=>r.days:=by obtain⟨kd,_,_,_⟩:=r;cases kd<;>rfl
theorem qlZ{r:Ru}(h:SpOk r):(∀p∈(mkR r).lands,LnOk p)/\1<=(mkR r).days/\0<=(mkR r).most:=by
 have h1:=h.d0;refine⟨by rw[qhp];exact h.ok,?_,by rw[qcd];exact h.m0⟩;rw[qgs]
 split<;>omega
theorem ql0(n:Int):∃kd:Kd,n % 3=kw kd:=by
 have h0:0<=n % 3:=Int.emod_nonneg _ (2:);have h1:n % 3 < 3:=Int.emod_lt_of_pos _ (2:)
 by_cases a:n % 3=0
 ·exact⟨.wi,a⟩
 ·by_cases b:n % 3=1
  ·exact⟨.si,b⟩
  ·exact⟨.ro,by show n % 3=2;omega⟩
theorem at3(a b c d:D):atI [a,b,c,d] (3:Int)=some d:=(rfl)
theorem qi5{pg:Pg}[RU pg][ZR pg](k:Nat)(r:Ru)(h:SpOk r):clK pg (k+13) "_law_rule" [.val (spD r)]=.ok (.val (ruI (mkR r))):=by
 have hl:=h.lands;have h0:=h.m0;have h1:=h.m1;have h2:=h.d0;have h3:=h.d1;have hm:btw r.most 0 1000000000=true:=by unfold btw;simp;omega
 have hd:btw r.days 1 1000000000=true:=by unfold btw;simp;omega
 obtain⟨kd,lands,most,days⟩:=r;dsimp only at hl hm hd;rw[r__law_rule]
 cases kd with
 |wi=>
  have e:pg.nw (k+12) "Within" [.val (.lst (lands.map lnD)),.val (.int most),.val (.int days)]=.ok (.val (ruI ⟨.wi,lands,most,days⟩)):=by rw[RU.nw];show(if k+12 < 12 then R.no else qc1 "Within" (if (qG (lands.map lnD)&&btw most 0 1000000000&&btw days 1 1000000000)=true then _ else none))=_;rw[if_neg Zr,if_pos (by rw[hl,hm,hd];rfl)];rfl
  simp? only[jH,spD,kw,mkR,qp,show((0:Int) == 0)=true by decide,at3,e]
 |si=>
  have e:pg.nw (k+12) "Since" [.val (.lst (lands.map lnD)),.val (.int most),.val (.int days)]=.ok (.val (ruI ⟨.si,lands,most,days⟩)):=by rw[RU.nw];show(if k+12 < 12 then R.no else qc1 "Since" (if (qG (lands.map lnD)&&btw most 0 1000000000&&btw days 1 1000000000)=true then _ else none))=_;rw[if_neg Zr,if_pos (by rw[hl,hm,hd];rfl)];rfl
  simp? only[jH,spD,kw,mkR,qp,show((1:Int) == 0)=false by decide,show((1:Int) == 1)=true by decide,at3,e]
 |ro=>
  have e:pg.nw (k+12) "InRow" [.val (.lst (lands.map lnD)),.val (.int most)]=.ok (.val (ruI ⟨.ro,lands,most,1⟩)):=by rw[RU.nw];show(if k+12 < 12 then R.no else qc1 "InRow" (if (qG (lands.map lnD)&&btw most 0 1000000000)=true then _ else none))=_;rw[if_neg Zr,if_pos (by rw[hl,hm];rfl)];rfl
  simp? only[jH,spD,kw,mkR,qp,show((2:Int) == 0)=false by decide,show((2:Int) == 1)=false by decide,e]
end FZ
namespace FZ
open PySem DE DG Dy FA
open L2 hiding St
open ZA ZW ZN ZR ZT ZP RU
theorem qhq(a b:Int):a<=mx a b/\b<=mx a b/\(mx a b=a\/mx a b=b):=by
 unfold mx
 split<;>omega
theorem p6:(10:Int) ^ (6:Int).toNat=1000000:=by decide
theorem c6:(0:Int)<=6/\(6:Int)<=1000000/\(10:Int).natAbs < 2 ^ 64:=by decide
def wd(g:Bool):Int:=if g=true then 4000030 else 21
theorem qi6(g:Bool):21<=wd g/\(g=true->4000030<=wd g)/\wd g<=4000030:=by cases g<;>simp[wd]
theorem jl(cl:Cl)(v0:Sl)(g:Bool)(zs:List Str)(hz:NamesOk zs):∀(cs:List Int) (acc:List St) (day:Int) (s5 s6 s7 s8:Sl),acc.length+cs.length < 10000->0<=day->day+wd g * (cs.length:Int)<=1000000000->
  ∃(l:List St) (ρ':List Sl),jN cl 1000 (.one 5) jd (cs.map D.int) [v0,.bor (zs.map D.str),.val (.bl g),.val (.int day),.own (acc.map stD),s5,s6,s7,s8]=.ok (.next (v0::.bor (zs.map D.str)::.val (.bl g)::(ρ'.headD .no)::.own ((acc++l).map stD)::ρ'.tail))/\Ch (day - 1) l/\l.length=cs.length/\(∀s∈l,s.1∈zs/\s.2.2 < day+wd g * (cs.length:Int))
 |[],acc,day,s5,s6,s7,s8,_,_,_=>⟨[],.val (.int day)::[s5,s6,s7,s8],by simp[qL],trivial,rfl,λs h=>(by cases h)⟩
 | c::cs,acc,day,s5,s6,s7,s8,hl,h0,h1=>by
  rw[List.length_cons] at hl h1;have e5:wd g * ((cs.length+1:Nat):Int)=wd g * (cs.length:Int)+wd g:=by rw[show((cs.length+1:Nat):Int)=(cs.length:Int)+1 from rfl,Int.mul_add,Int.mul_one]
  have w0:=qi6 g;have w2:0<=wd g * (cs.length:Int):=Int.mul_nonneg (1:) (1:);rw[e5] at h1;have hL:(0:Int) < (zs.length:Int):=by have:=hz.two;omega
  have mul:ZO c 69621=true:=JV (2:) (2:);generalize hN:c * 69621 % 2147483647=n;have hn:0<=n:=by rw[<-hN];exact Int.emod_nonneg _ (2:)
  obtain⟨z,e1,e2⟩:=Zj (zs:=zs) (n / 840 % (zs.length:Int)) (Int.emod_nonneg _ (1:)) (Int.emod_lt_of_pos _ hL);have hzm:z∈zs:=List.mem_of_getElem? e2;have hs:(acc.map stD).length < sizeLine:=by rw[List.length_map];exact qr (1:)
  have three:0+1+1+1<=sizeLine:=by decide+kernel
  have a0:0<=c % 2:=Int.emod_nonneg _ (2:);have a1:c % 2 < 2:=Int.emod_lt_of_pos _ (2:);have b0:0<=c % 1000000:=Int.emod_nonneg _ (2:);have b1:c % 1000000 < 1000000:=Int.emod_lt_of_pos _ (2:);have mul2:ZO (c % 2) 1000000=true:=JV (2:) (2:);have mul3:ZO (n / 360 % 2) 1000000=true:=JV (2:) (2:)
  obtain⟨f,t,⟨g1,g2,g3⟩,A⟩:∃f t:Int,(day<=f/\f<=t/\t < day+wd g)/\∀{β:Type} (K:Fl->R β),(iS cl 1000 (.ite (.and (.val (.var 2)) (.one (.cmp .Eq (.bin .Mod (.bin .FloorDiv (.var 6) (.con (D.int 120))) (.con (D.int 3))) (.con (D.int 1))))) %[.set 7 (.bin .Add (.bin .Add (.var 7) (.bin .Mult (.bin .Mod (.var 5) (.con (D.int 2))) (.bin .Pow (.con (D.int 10)) (.con (D.int 6))))) (.bin .Mod (.bin .FloorDiv (.var 6) (.con (D.int 360))) (.bin .Pow (.con (D.int 10)) (.con (D.int 6))))),.set 8 (.bin .Add (.bin .Add (.var 7) (.bin .Mult (.bin .Mod (.bin .FloorDiv (.var 6) (.con (D.int 360))) (.con (D.int 2))) (.bin .Pow (.con (D.int 10)) (.con (D.int 6))))) (.bin .Mod (.var 5) (.bin .Pow (.con (D.int 10)) (.con (D.int 6)))))|0] .nil) [v0,.bor (zs.map D.str),.val (.bl g),.val (.int day),.own (acc.map stD),.val (.int c),.val (.int n),.val (.int (day+n % 10)),.val (.int (day+n % 10+n / 10 % 12))]).th K=K (.next [v0,.bor (zs.map D.str),.val (.bl g),.val (.int day),.own (acc.map stD),.val (.int c),.val (.int n),.val (.int f),.val (.int t)]):=by
   cases hg:g with
   |false=>rw[hg] at w0;exact⟨day+n % 10,day+n % 10+n / 10 % 12,⟨by omega,by omega,by omega⟩,λK=>by simp? only[qp]⟩
   |true=>
    rw[hg] at w0;have w1:=w0.2.1 rfl
    cases hq:(n / 120 % 3 == 1) with
    |true=>exact⟨day+n % 10+c % 2 * 1000000+n / 360 % 1000000,day+n % 10+c % 2 * 1000000+n / 360 % 1000000+n / 360 % 2 * 1000000+c % 1000000,⟨by omega,by omega,by omega⟩,λK=>by simp? only[mul2,mul3,qp,hq,p6,c6]⟩
    |false=>exact⟨day+n % 10,day+n % 10+n / 10 % 12,⟨by omega,by omega,by omega⟩,λK=>by simp? only[qp,hq]⟩
  obtain⟨l,ρ',i0,i1,i2,i3⟩:=jl cl v0 g zs hz cs (acc++[(z,f,t)]) (t+1) (.val (.int c)) (.val (.int n)) (.val (.int f)) (.val (.int t)) (by simp;omega) (1:) (1:);refine⟨(z,f,t)::l,ρ',?_,⟨⟨hz.ok z hzm,by dsimp only;omega,g2,by dsimp only;omega⟩,by rw[show t+1 - 1=t by omega] at i1;exact i1⟩,by rw[List.length_cons,i2,List.length_cons],λs hs=>?_⟩
  ·rw[show acc++(z,f,t)::l=acc++[(z,f,t)]++l by simp];simp only[List.map_append,List.map_cons,List.map_nil,zm] at i0 ⊢;refine(qf _).symm.trans ?_;simp? only[↓A,J5,mul,hN,e1,YC,hL,three,hs,i0]
  ·rw[List.length_cons,e5];rcases List.mem_cons.mp hs with rfl | hs
   ·exact⟨hzm,by dsimp only;omega⟩
   ·have:=(i3 s hs).2
    exact⟨(i3 s hs).1,by omega⟩
theorem qeK{pg:Pg}[ZT pg](k:Nat)(b g:Bool)(cs:List Int)(hl:cs.length < 1000)(zs:List Str)(hz:NamesOk zs)(day:Int)(h0:0<=day)(h1:day+wd g * (cs.length:Int)<=1000000000) :
  ∃l:List St,clK pg (k+1) "_law_stays" [aL b (cs.map D.int),.bor (zs.map D.str),.val (.bl g),.val (.int day)]=.ok (.tmp (l.map stD))/\Ch (day - 1) l/\l.length=cs.length/\(∀s∈l,s.1∈zs/\s.2.2 < day+wd g * (cs.length:Int)):=by
 obtain⟨l,ρ',e,e1,e2,e3⟩:=jl (pg.kk k) (pS b (cs.map D.int)) g zs hz cs [] day .no .no .no .no (by simp;omega) h0 h1;refine⟨l,?_,e1,e2,e3⟩;rw[List.map_nil,List.nil_append] at e;rw[r__law_stays];simp? only[JZ,show(0:Nat)<=sizeLine by decide+kernel,e]
theorem qgt{pg:Pg}[ZT pg](k:Nat)(g:Bool)(cs:List Int)(hl:cs.length < 1000)(zs:List Str)(hz:NamesOk zs)(day:Int)(h0:0<=day)(h1:day+wd g * (cs.length:Int)<=1000000000) :
  ∃l:List St,clK pg (k+1) "_law_stays" [.val (.lst (cs.map D.int)),.bor (zs.map D.str),.val (.bl g),.val (.int day)]=.ok (.tmp (l.map stD))/\Ch (day - 1) l/\l.length=cs.length/\(∀s∈l,s.1∈zs/\s.2.2 < day+wd g * (cs.length:Int)):=qeK k false g cs hl zs hz day h0 h1
structure PpOk(m:Int)(p:Pa):Prop where
 o0:0<=p.1
 o1:p.1 < m
 a0:0<=p.2.1
 ab:p.2.1<=p.2.2
 b1:p.2.2<=1000000000
theorem zG(cl:Cl)(v0:Sl)(m long day:Int)(hm:0 < m)(h0:0<=day)(hl0:0<=long)(hl1:day+long+long / 4<=1000000000):∀(cs:List Int) (acc:List Pa) (s5 s6 s7:Sl),acc.length+cs.length < 10000->
  ∃(l:List Pa) (ρ':List Sl),jN cl 1000 (.one 5) zJ (cs.map D.int) [v0,.val (.int m),.val (.int day),.val (.int long),.own (acc.map paD),s5,s6,s7]=.ok (.next (v0::.val (.int m)::.val (.int day)::.val (.int long)::.own ((acc++l).map paD)::ρ'))/\l.length=cs.length/\∀p∈l,PpOk m p/\p.2.2<=day+long+long / 4
 |[],acc,s5,s6,s7,_=>⟨[],[s5,s6,s7],by simp[qL],rfl,λs h=>(by cases h)⟩
 | c::cs,acc,s5,s6,s7,hl=>by
  rw[List.length_cons] at hl;have mul:ZO c 16807=true:=JV (2:) (2:);generalize hN:c * 16807 % 2147483629=n;have hn:0<=n:=by rw[<-hN];exact Int.emod_nonneg _ (2:)
  have hx:(0:Int) < mx 1 long:=by have:=qhq 1 long;omega
  have hx2:mx 1 long<=long+1:=by have:=qhq 1 long;omega
  have hq:(0:Int) < 1+long / 4:=by omega
  have a0:0<=n / 8 % mx 1 long:=Int.emod_nonneg _ (1:);have a1:n / 8 % mx 1 long < mx 1 long:=Int.emod_lt_of_pos _ hx;have b0:0<=n / 64 % (1+long / 4):=Int.emod_nonneg _ (1:);have b1:n / 64 % (1+long / 4) < 1+long / 4:=Int.emod_lt_of_pos _ hq;have o0:0<=n % m:=Int.emod_nonneg _ (1:);have o1:n % m < m:=Int.emod_lt_of_pos _ hm;obtain⟨l,ρ',i0,i1,i2⟩:=zG cl v0 m long day hm h0 hl0 hl1 cs (acc++[(n % m,day+n / 8 % mx 1 long,day+n / 8 % mx 1 long+n / 64 % (1+long / 4))]) (.val (.int c)) (.val (.int n)) (.val (.int (day+n / 8 % mx 1 long))) (by simp;omega);refine⟨(n % m,day+n / 8 % mx 1 long,day+n / 8 % mx 1 long+n / 64 % (1+long / 4))::l,ρ',?_,by rw[List.length_cons,i1,List.length_cons],λp hp=>?_⟩
  ·have hs:(acc.map paD).length < sizeLine:=by rw[List.length_map];exact qr (1:)
   have three:0+1+1+1<=sizeLine:=by decide+kernel
   have mxr:(if long > 1 then long else 1)=mx 1 long:=rfl;simp only[List.map_append,List.map_cons,List.map_nil,List.append_assoc,List.cons_append,List.nil_append,qS] at i0 ⊢;refine(qf _).symm.trans ?_;simp? only[JH,mul,hN,hm,hx,hq,three,hs,mxr,i0]
  ·rcases List.mem_cons.mp hp with rfl | hp
   ·exact⟨⟨o0,o1,by dsimp only;omega,by dsimp only;omega,by dsimp only;omega⟩,by dsimp only;omega⟩
   ·exact i2 p hp
theorem qeL{pg:Pg}[ZP pg](k:Nat)(b:Bool)(m long day:Int)(hm:0 < m)(h0:0<=day)(hl0:0<=long)(hl1:day+long+long / 4<=1000000000)(cs:List Int)(hl:cs.length < 1000) :
  ∃l:List Pa,clK pg (k+1) "_law_papers" [.val (.lst (cs.map D.int)),.val (.int m),.val (.int day),.val (.int long)]=.ok (.tmp (l.map paD))/\l.length=cs.length/\∀p∈l,PpOk m p/\p.2.2<=day+long+long / 4:=by
 obtain⟨l,ρ',e,e1,e2⟩:=zG (pg.kk k) (.val (.lst (cs.map D.int))) m long day hm h0 hl0 hl1 cs [] .no .no .no (by simp;omega);refine⟨l,?_,e1,e2⟩;rw[List.map_nil,List.nil_append] at e;rw[r__law_papers];simp? only[Jj,show(0:Nat)<=sizeLine by decide+kernel,e]
end FZ
namespace DG
open PySem DE FA Dy
open L2 hiding St
theorem Spr.tail{p:Pr}{l:List Pr}(h:Spr (p::l)):Spr l:=⟨λq hq=>h.ok q (by simp[hq]),(List.pairwise_cons.mp h.gap).2⟩
theorem qw{p:Pr}{l:List Pr}{d:Int}:Day (p::l) d↔(p.1<=d/\d<=p.2)\/Day l d:=by
 unfold Day;constructor
 ·rintro⟨q,hq,h⟩;rcases List.mem_cons.mp hq with rfl | hq
  ·exact .inl h
  ·exact .inr ⟨q,hq,h⟩
 ·rintro (h | ⟨q,hq,h⟩)
  ·exact⟨p,by simp,h⟩
  ·exact⟨q,by simp[hq],h⟩
theorem zc{d:Int}:¬ Day [] d:=λ⟨_,h,_⟩=>by cases h
structure Apart(l:List Pr):Prop where
 ok:∀p∈l,p.1<=p.2
 ap:l.Pairwise λp q=>p.2+1 < q.1
structure OutOk(b:Int)(l:List Pr)(F:List Pr)(b':Int):Prop where
 apart:Apart F
 lo:∀x∈F,b<=x.1
 hi:∀x∈F,x.2+1 < b'
 le:b<=b'
 day:∀d,b<=d->d < b'->(Day F d↔¬ Day l d)
 end_:∀d,b'<=d->¬ Day l d
theorem qhr:∀(l:List Pr) (b:Int),Spr l->OutOk b l (J6 b l).1 (J6 b l).2
 |[],b,_=>⟨⟨λ_ h=>(by cases h),List.Pairwise.nil⟩,λ_ h=>(by cases h),λ_ h=>(by cases h),Int.le_refl _,λd h1 h2=>by dsimp only[J6] at h2;omega,λd _=>zc⟩
 | t::l,b,hS=>by
  have hS':=Spr.tail hS;have ht:=hS.ok t (by simp);have hg:=(List.pairwise_cons.mp hS.gap).1;have hlow:∀d,Day l d->t.2+2<=d:=λd ⟨q,hq,h1,_⟩=>by have:=hg q hq;omega
  have ih:=qhr l (mx b (t.2+1)) hS';have hm:=qeE b (t.2+1);rw[J6];generalize hb1:mx b (t.2+1)=b1 at *;have hle:=ih.le
  have hb:b<=b1/\t.2+1<=b1/\(b1=b\/b1=t.2+1):=by
   rcases Int.le_total b (t.2+1) with q | q
   ·have:=hm.1 q;omega
   ·have:=hm.2 q;omega
  generalize (J6 b1 l).1=F at *;generalize (J6 b1 l).2=b' at *;dsimp only
  by_cases hc:b < t.1
  ·rw[if_pos hc];refine⟨⟨λx hx=>?_,?_⟩,λx hx=>?_,λx hx=>?_,by omega,λd h1 h2=>?_,λd h1=>?_⟩
   ·rcases List.mem_cons.mp hx with rfl | hx
    ·dsimp only;omega
    ·exact ih.apart.ok x hx
   ·refine List.pairwise_cons.mpr ⟨λx hx=>?_,ih.apart.ap⟩
    have:=ih.lo x hx
    dsimp only;omega
   ·rcases List.mem_cons.mp hx with rfl | hx
    ·dsimp only;omega
    ·have:=ih.lo x hx;omega
   ·rcases List.mem_cons.mp hx with rfl | hx
    ·dsimp only;omega
    ·exact ih.hi x hx
   ·show Day ((b,t.1 - 1)::F) d↔_;rw[qw,qw]
    by_cases q:d < b1
    ·have n1:¬ Day F d:=λ⟨x,hx,h3,_⟩=>by have:=ih.lo x hx;omega
     have n2:¬ Day l d:=λz=>by have:=hlow d z;omega
     dsimp only;constructor
     ·rintro (z | z)
      ·rintro (y | y)
       ·omega
       ·exact n2 y
      ·exact absurd z n1
     ·intro z;left;refine⟨h1,?_⟩
      by_cases y:t.1<=d
      ·exact absurd (.inl ⟨y,by omega⟩) z
      ·omega
    ·have:=ih.day d (1:) h2
     rw[this];dsimp only;constructor
     ·rintro (z | z)
      ·omega
      ·rintro (y | y)
       ·omega
       ·exact z y
     ·intro z;exact .inr λy=>z (.inr y)
   ·rw[qw];rintro (z | z)
    ·omega
    ·exact ih.end_ d h1 z
  ·rw[if_neg hc,List.nil_append];refine⟨ih.apart,λx hx=>by have:=ih.lo x hx;omega,ih.hi,by omega,λd h1 h2=>?_,λd h1=>?_⟩
   ·rw[qw]
    by_cases q:d < b1
    ·have n1:¬ Day F d:=λ⟨x,hx,h3,_⟩=>by have:=ih.lo x hx;omega
     constructor
     ·intro z;exact absurd z n1
     ·intro z;exact absurd (.inl ⟨by omega,by omega⟩) z
    ·rw[ih.day d (1:) h2];constructor
     ·intro z;rintro (y | y)
      ·omega
      ·exact z y
     ·intro z y;exact z (.inr y)
   ·rw[qw];rintro (z | z)
    ·omega
    ·exact ih.end_ d h1 z
theorem qc7{l:List Pr}(h:Spr l)(f t:Int):Apart (qO l f t)/\(∀x∈qO l f t,f<=x.1)/\∀d,f<=d->d<=t->(Day (qO l f t) d↔¬ Day l d):=by
 have o:=qhr l f h;have hle:=o.le;unfold qO;generalize (J6 f l).1=F at *;generalize (J6 f l).2=b at *
 by_cases hc:b<=t
 ·rw[if_pos hc];refine⟨⟨λx hx=>?_,?_⟩,λx hx=>?_,λd h1 h2=>?_⟩
  ·rcases List.mem_append.mp hx with q | q
   ·exact o.apart.ok x q
   ·rw[List.mem_singleton.mp q];exact hc
  ·refine List.pairwise_append.mpr ⟨o.apart.ap,by simp,λx hx y hy=>?_⟩;rw[List.mem_singleton.mp hy];exact o.hi x hx
  ·rcases List.mem_append.mp hx with q | q
   ·exact o.lo x q
   ·rw[List.mem_singleton.mp q];exact hle
  ·rw[JD,Zl]
   by_cases q:d < b
   ·rw[<-o.day d h1 q];dsimp only;constructor
    ·rintro (z | z)
     ·exact z
     ·omega
    ·exact .inl
   ·have n:=o.end_ d (1:);constructor
    ·intro _;exact n
    ·intro _;exact .inr ⟨by dsimp only;omega,h2⟩
 ·rw[if_neg hc,List.append_nil];exact⟨o.apart,o.lo,λd h1 h2=>o.day d h1 (1:)⟩
theorem ql1(p:Pr)(hp:p.1<=p.2):∀(n:Nat) (B:List Pr),B.length < n->Apart B->Apart (js n [p] B)/\(∀x∈js n [p] B,p.1<=x.1/\x.2<=p.2/\∃q∈B,q.1<=x.1/\x.2<=q.2)/\∀d,Day (js n [p] B) d↔(p.1<=d/\d<=p.2)/\Day B d
 |0,B,h,_=>by omega
 | n+1,[],_,_=>⟨⟨λ_ h=>(by cases h),List.Pairwise.nil⟩,λ_ h=>(by cases h),λd=>⟨λz=>absurd z zc,λz=>absurd z.2 zc⟩⟩
 | n+1,q::B,h,hA=>by
  rw[List.length_cons] at h;have hq:=hA.ok q (by simp);have hg:=(List.pairwise_cons.mp hA.ap);have hlow:∀d,Day B d->q.2 < d:=λd ⟨x,hx,h1,_⟩=>by have:=hg.1 x hx;omega
  have m1:=qeE p.1 q.1;have m2:=qaH p.2 q.2;rw[js]
  have hm1:p.1<=mx p.1 q.1/\q.1<=mx p.1 q.1/\(mx p.1 q.1=p.1\/mx p.1 q.1=q.1):=by
   rcases Int.le_total p.1 q.1 with z | z
   ·have:=m1.1 z;omega
   ·have:=m1.2 z;omega
  have hm2:mn p.2 q.2<=p.2/\mn p.2 q.2<=q.2/\(mn p.2 q.2=p.2\/mn p.2 q.2=q.2):=by
   rcases Int.le_total p.2 q.2 with z | z
   ·have:=m2.1 z;omega
   ·have:=m2.2 z;omega
  generalize mx p.1 q.1=a at *;generalize mn p.2 q.2=b at *
  obtain⟨R,hR,r1,r2,r3⟩:∃R,(if p.2 < q.2 then js n [] (q::B) else js n [p] B)=R/\Apart R/\(∀x∈R,p.1<=x.1/\x.2<=p.2/\(∃y∈q::B,y.1<=x.1/\x.2<=y.2)/\b+1 < x.1)/\∀d,Day R d↔(p.1<=d/\d<=p.2)/\Day B d:=by
   by_cases hd:p.2 < q.2
   ·rw[if_pos hd];have e:js n [] (q::B)=[]:=by cases n<;>rfl
    rw[e];exact⟨[],rfl,⟨λ_ h=>(by cases h),List.Pairwise.nil⟩,λ_ h=>(by cases h),λd=>⟨λz=>absurd z zc,λz=>by have:=hlow d z.2;omega⟩⟩
   ·rw[if_neg hd];obtain⟨i1,i2,i3⟩:=ql1 p hp n B (1:) ⟨λx hx=>hA.ok x (by simp[hx]),hg.2⟩;refine⟨_,rfl,i1,λx hx=>?_,i3⟩;obtain⟨j1,j2,y,hy,j3,j4⟩:=i2 x hx
    have:=hg.1 y hy
    exact⟨j1,j2,⟨y,by simp[hy],j3,j4⟩,by omega⟩
  rw[hR]
  by_cases hc:a<=b
  ·rw[if_pos hc];refine⟨⟨λx hx=>?_,?_⟩,λx hx=>?_,λd=>?_⟩
   ·rcases List.mem_cons.mp hx with rfl | hx
    ·exact hc
    ·exact r1.ok x hx
   ·exact List.pairwise_cons.mpr ⟨λx hx=>(r2 x hx).2.2.2,r1.ap⟩
   ·rcases List.mem_cons.mp hx with rfl | hx
    ·exact⟨by dsimp only;omega,by dsimp only;omega,q,by simp,by dsimp only;omega,by dsimp only;omega⟩
    ·exact⟨(r2 x hx).1,(r2 x hx).2.1,(r2 x hx).2.2.1⟩
   ·show Day ((a,b)::R) d↔_;rw[qw,qw,r3];dsimp only;constructor
    ·rintro (z | z)
     ·exact⟨by omega,.inl (1:)⟩
     ·exact⟨z.1,.inr z.2⟩
    ·rintro⟨z,y | y⟩
     ·left;omega
     ·exact .inr ⟨z,y⟩
  ·rw[if_neg hc,List.nil_append];refine⟨r1,λx hx=>⟨(r2 x hx).1,(r2 x hx).2.1,(r2 x hx).2.2.1⟩,λd=>?_⟩;rw[qw,r3];constructor
   ·intro z;exact⟨z.1,.inr z.2⟩
   ·rintro⟨z,y | y⟩
    ·omega
    ·exact⟨z,y⟩
theorem qeM{l:List Pr}(h:Spr l)(hl:l.length < 900){p:Pr}(hp:p.1<=p.2):Apart (yP p l)/\(∀x∈yP p l,p.1<=x.1/\x.2<=p.2)/\∀d,Day (yP p l) d↔(p.1<=d/\d<=p.2)/\¬ Day l d:=by
 obtain⟨o1,o2,o3⟩:=qc7 h p.1 p.2;obtain⟨b1,b2,b3⟩:=ql1 p hp 1000 (qO l p.1 p.2) (by have:=yQ l p.1 p.2;omega) o1;refine⟨b1,λx hx=>⟨(b2 x hx).1,(b2 x hx).2.1⟩,λd=>?_⟩;unfold yP;rw[b3];constructor
 ·rintro⟨z,y⟩;exact⟨z,(o3 d z.1 z.2).mp y⟩
 ·rintro⟨z,y⟩;exact⟨z,(o3 d z.1 z.2).mpr y⟩
end DG
namespace DG
open PySem DE FA Dy
open L2 hiding St
def inP(p:Pa)(d:Int):Prop:=p.1<=d/\d<=p.2.1
instance (p:Pa)(d:Int):Decidable (inP p d):=by unfold inP;infer_instance
def ind(p:Pa)(d:Int):Int:=if inP p d then p.2.2 else 0
def pf:List Pa->Int->Int
 |[],_=>0
 | p::l,d=>if inP p d then p.2.2 else pf l d
structure PcOk(L:List Pa):Prop where
 ok:∀p∈L,p.1<=p.2.1/\1<=p.2.2/\p.2.2<=9
 ap:L.Pairwise λp q=>p.2.1 < q.1
theorem PcOk.tail{p:Pa}{l:List Pa}(h:PcOk (p::l)):PcOk l:=⟨λq hq=>h.ok q (by simp[hq]),(List.pairwise_cons.mp h.ap).2⟩
theorem PcOk.w{L:List Pa}(h:PcOk L):WOk L:=λp hp=>(h.ok p hp).2
theorem qR{L:List Pa}{d:Int}(h:∀p∈L,¬ inP p d):pf L d=0:=by
 induction L with
 |nil=>rfl
 |cons p l ih=>rw[pf,if_neg (h p (by simp))];exact ih λq hq=>h q (by simp[hq])
theorem ql2{a b:List Pa}{d:Int}:pf (a++b) d=if ∃p∈a,inP p d then pf a d else pf b d:=by
 induction a with
 |nil=>simp
 |cons p l ih=>
  rw[List.cons_append,pf]
  by_cases h:inP p d
  ·rw[if_pos h,if_pos ⟨p,by simp,h⟩,pf,if_pos h]
  ·rw[if_neg h,ih]
   by_cases g:∃q∈l,inP q d
   ·rw[if_pos g,if_pos (by obtain⟨q,hq,hh⟩:=g;exact⟨q,by simp[hq],hh⟩),pf,if_neg h]
   ·rw[if_neg g,if_neg];rintro⟨q,hq,hh⟩;rcases List.mem_cons.mp hq with rfl | hq
    ·exact h hh
    ·exact g ⟨q,hq,hh⟩
theorem jJ{L:List Pa}(hL:PcOk L){p:Pa}(hp:p∈L){d:Int}(h:inP p d):pf L d=p.2.2:=by
 induction L with
 |nil=>cases hp
 |cons q l ih=>
  rw[pf];rcases List.mem_cons.mp hp with rfl | hp
  ·rw[if_pos h]
  ·have:=(List.pairwise_cons.mp hL.ap).1 p hp
   rw[if_neg (λz=>by unfold inP at *;omega)];exact ih hL.tail hp
theorem qnw{L:List Pa}(hL:PcOk L)(d:Int):0<=pf L d:=by
 by_cases h:∃p∈L,inP p d
 ·obtain⟨p,hp,hd⟩:=h;rw[jJ hL hp hd]
  have:=(hL.ok p hp).2.1
  omega
 ·rw[qR λp hp hd=>h ⟨p,hp,hd⟩];exact Int.le_refl _
theorem ql3{L:List Pa}{d:Int}(h:pf L d≠0):∃p∈L,inP p d:=by
 by_cases q:∃p∈L,inP p d
 ·exact q
 ·exact absurd (qR λp hp hd=>q ⟨p,hp,hd⟩) h
theorem qnx{l:List (Str×Int)}(h:∀p∈l,LnOk p)(o:Option Str):wt l o<=9:=by
 induction l with
 |nil=>show(0:Int)<=9;decide
 |cons p l ih=>
  unfold wt;split
  ·exact(h p (by simp)).nine
  ·exact ih λq hq=>h q (by simp[hq])
instance dayDec(F:List Pr)(d:Int):Decidable (Day F d):=decidable_of_iff _ jF
theorem ql4(w:Int)(F:List Pr)(d:Int):pf (F.map (JI w)) d=if Day F d then w else 0:=by
 induction F with
 |nil=>rw[if_neg zc];rfl
 |cons p l ih=>
  rw[List.map_cons,pf,ih]
  by_cases h:p.1<=d/\d<=p.2
  ·rw[if_pos (show inP (JI w p) d from h),if_pos (qw.mpr (.inl h))];rfl
  ·rw[if_neg (show ¬ inP (JI w p) d from h)]
   by_cases g:Day l d
   ·rw[if_pos g,if_pos (qw.mpr (.inr g))]
   ·rw[if_neg g,if_neg (λz=>(qw.mp z).elim h g)]
def Chw:Int->List St->Prop
 |_,[]=>True
 | e,s::l=>(e < s.2.1/\s.2.1<=s.2.2)/\Chw s.2.2 l
theorem Ch.w:∀{l:List St} {e:Int},Ch e l->Chw e l
 |[],_,_=>trivial
 | _::_,_,h=>⟨⟨h.1.lo,h.1.ab⟩,Ch.w h.2⟩
theorem Chw.snoc:∀{l:List St} {e:Int} {s:St},Chw e l->(∀t∈l,t.2.2 < s.2.1)->e < s.2.1->s.2.1<=s.2.2->Chw e (l++[s])
 |[],_,_,_,_,h1,h2=>⟨⟨h1,h2⟩,trivial⟩
 | t::l,_,s,h,h0,_,h2=>⟨h.1,Chw.snoc h.2 (λu hu=>h0 u (by simp[hu])) (h0 t (by simp)) h2⟩
theorem YU{r:Ru}(hr:∀p∈r.lands,LnOk p){lf:List Pr}(hS:Spr lf)(hl:lf.length < 900):∀(st:List St) (e:Int),Chw e st->PcOk (qq r lf st)/\(∀p∈qq r lf st,e < p.1)/\∀d,pf (qq r lf st) d=wgt r lf st d
 |[],e,_=>⟨⟨λ_ h=>(by cases h),List.Pairwise.nil⟩,λ_ h=>(by cases h),λd=>(qbq rfl).symm⟩
 | s::st,e,hc=>by
  obtain⟨i1,i2,i3⟩:=YU hr hS hl st s.2.2 hc.2;have h1:=hc.1.1;have h2:=hc.1.2;obtain⟨l1,l2,l3⟩:=qeM hS hl (p:=(s.2.1,s.2.2)) h2;have w9:=qnx hr (some s.1)
  have one:PcOk (qC r lf s)/\(∀p∈qC r lf s,s.2.1<=p.1/\p.2.1<=s.2.2)/\∀d,pf (qC r lf s) d=if (s.2.1<=d/\d<=s.2.2)/\¬ Day lf d then wt r.lands (some s.1) else 0:=by
   unfold qC
   by_cases hw:0 < wt r.lands (some s.1)
   ·rw[if_pos hw];refine⟨⟨λp hp=>?_,?_⟩,λp hp=>?_,λd=>?_⟩
    ·obtain⟨x,hx,rfl⟩:=List.mem_map.mp hp;exact⟨l1.ok x hx,hw,w9⟩
    ·exact List.pairwise_map.mpr (l1.ap.imp λq=>by dsimp only[JI];omega)
    ·obtain⟨x,hx,rfl⟩:=List.mem_map.mp hp;exact l2 x hx
    ·rw[ql4]
     by_cases g:Day (yP (s.2.1,s.2.2) lf) d
     ·rw[if_pos g,if_pos ((l3 d).mp g)]
     ·rw[if_neg g,if_neg (λz=>g ((l3 d).mpr z))]
   ·rw[if_neg hw];refine⟨⟨λ_ h=>(by cases h),List.Pairwise.nil⟩,λ_ h=>(by cases h),λd=>?_⟩
    have:wt r.lands (some s.1)=0:=by have:=qlS hr (some s.1);omega
    rw[this];simp[pf]
  obtain⟨o1,o2,o3⟩:=one;rw[qq];refine⟨⟨λp hp=>?_,?_⟩,λp hp=>?_,λd=>?_⟩
  ·rcases List.mem_append.mp hp with q | q
   ·exact o1.ok p q
   ·exact i1.ok p q
  ·refine List.pairwise_append.mpr ⟨o1.ap,i1.ap,λx hx y hy=>?_⟩
   have:=(o2 x hx).2
   have:=i2 y hy
   omega
  ·rcases List.mem_append.mp hp with q | q
   ·have:=(o2 p q).1;omega
   ·have:=i2 p q;omega
  ·rw[ql2]
   by_cases hd:s.2.1<=d/\d<=s.2.2
   ·have n:pf (qq r lf st) d=0:=qR λp hp z=>by have:=i2 p hp;unfold inP at z;omega
    have e1:(if ∃p∈qC r lf s,inP p d then pf (qC r lf s) d else pf (qq r lf st) d)=pf (qC r lf s) d:=by
     split
     ·rfl
     ·rename_i g;rw[n,qR λp hp hz=>g ⟨p,hp,hz⟩]
    rw[e1,o3];unfold wgt qK;rw[if_pos hd]
    by_cases g:Day lf d
    ·rw[if_neg (λz=>z.2 g),if_pos (jF.mpr g)]
    ·rw[if_pos ⟨hd,g⟩,if_neg (λz=>g (jF.mp z))]
   ·rw[if_neg (λ⟨p,hp,z⟩=>by have:=o2 p hp;unfold inP at z;omega),i3];unfold wgt;rw[show qK (s::st) d=qK st d by conv=>lhs;unfold qK;rw[if_neg hd]]
noncomputable def qbs(f t:Int)(p:Pa):Int:=if 0 < mn p.2.1 t - mx p.1 f+1 then (mn p.2.1 t - mx p.1 f+1) * p.2.2 else 0
def J8(f t:Int):List Pa->Int
 |[]=>0
 | p::l=>qbs f t p+J8 f t l
theorem YV(f t:Int):∀(l:List Pa) (a:Int),qhm f t l a=a+J8 f t l
 |[],a=>by simp[qhm,J8]
 | p::l,a=>by
  rw[qhm,YV f t l,J8];unfold qbs
  split<;>omega
theorem qce(f t:Int):∀a b:List Pa,J8 f t (a++b)=J8 f t a+J8 f t b
 |[],b=>by simp[J8]
 | p::a,b=>by rw[List.cons_append,J8,J8,qce f t a b];omega
theorem qcf(f t:Int):∀l:List Pa,J8 f t l.reverse=J8 f t l
 |[]=>rfl
 | p::l=>by rw[List.reverse_cons,qce,qcf f t l,J8,J8,J8];omega
theorem qhs(p:Pa)(hp:p.1<=p.2.1)(f:Int):∀n:Nat,(ws (ind p) f n).sum=qbs f (f+n - 1) p
 |0=>by
  have m1:=qeE p.1 f;have m2:=qaH p.2.1 (f+(0:Nat) - 1);unfold qbs;rw[if_neg]
  ·simp[ws]
  ·rcases Int.le_total p.1 f with z | z<;>rcases Int.le_total p.2.1 (f+(0:Nat) - 1) with y | y
   ·have:=m1.1 z;have:=m2.1 y;omega
   ·have:=m1.1 z;have:=m2.2 y;omega
   ·have:=m1.2 z;have:=m2.1 y;omega
   ·have:=m1.2 z;have:=m2.2 y;omega
 | n+1=>by
  rw[Zs,qhs p hp f n];have m1:=qeE p.1 f;have m2:=qaH p.2.1 (f+(n:Int) - 1);have m3:=qaH p.2.1 (f+((n+1:Nat):Int) - 1);have e:f+((n+1:Nat):Int) - 1=f+n:=by omega
  rw[e] at m3 ⊢;unfold qbs ind
  have hm1:p.1<=mx p.1 f/\f<=mx p.1 f/\(mx p.1 f=p.1\/mx p.1 f=f):=by
   rcases Int.le_total p.1 f with z | z
   ·have:=m1.1 z;omega
   ·have:=m1.2 z;omega
  generalize mx p.1 f=a at *
  by_cases h1:f+(n:Int) < p.1
  ·rw[if_neg (c:=inP p (f+(n:Int))) (λz=>by unfold inP at z;omega)]
   have:=m2.2 (1:)
   have:=m3.2 (1:)
   rw[if_neg (1:),if_neg (1:)];rfl
  ·by_cases h2:p.2.1 < f+(n:Int)
   ·rw[if_neg (c:=inP p (f+(n:Int))) (λz=>by unfold inP at z;omega)];have a1:=m2.1 (1:);have a2:=m3.1 (1:);rw[a1,a2];omega
   ·rw[if_pos (c:=inP p (f+(n:Int))) ⟨by omega,by omega⟩];have a1:=m2.2 (1:);have a2:=m3.2 (1:);rw[a1,a2];have hpos:0 < f+(n:Int) - a+1:=by omega
    rw[if_pos hpos]
    by_cases h3:0 < f+(n:Int) - 1 - a+1
    ·rw[if_pos h3,show f+(n:Int) - a+1=(f+(n:Int) - 1 - a+1)+1 by omega];generalize f+(n:Int) - 1 - a+1=k;rw[Int.add_mul,Int.one_mul]
    ·rw[if_neg h3,show f+(n:Int) - a+1=1 by omega,Int.one_mul];omega
theorem qht{f g h:Int->Int}:∀(n:Nat) (lo:Int),(∀x,f x=g x+h x)->(ws f lo n).sum=(ws g lo n).sum+(ws h lo n).sum
 |0,_,_=>by simp[ws]
 | n+1,lo,e=>by rw[ws,ws,ws,List.sum_cons,List.sum_cons,List.sum_cons,qht n (lo+1) e,e lo];omega
theorem qi7{L:List Pa}(hL:PcOk L)(f:Int)(n:Nat):(ws (pf L) f n).sum=J8 f (f+n - 1) L:=by
 induction L with
 |nil=>rw[J8];exact Zt n f λx _ _=>rfl
 |cons p l ih=>
  have hp:=(hL.ok p (by simp)).1;rw[J8,<-qhs p hp,<-ih hL.tail];refine qht n f λx=>?_;rw[pf];unfold ind
  by_cases h:inP p x
  ·rw[if_pos h,if_pos h,qR λq hq z=>by have:=(List.pairwise_cons.mp hL.ap).1 q hq;unfold inP at *;omega];omega
  ·rw[if_neg h,if_neg h];omega
noncomputable def chn(leave d:Int):List Pa->Int->Int
 |[],_=>0
 | p::R,f=>if p.1<=d then (if leave<=f - 1 - mn p.2.1 d then 0 else (mn p.2.1 d - p.1+1) * p.2.2+chn leave d R p.1) else chn leave d R f
structure RvOk(R:List Pa):Prop where
 ok:∀p∈R,p.1<=p.2.1
 ap:R.Pairwise λp q=>q.2.1 < p.1
theorem RvOk.of{L:List Pa}(h:PcOk L):RvOk L.reverse:=⟨λp hp=>(h.ok p (by simpa using hp)).1,List.pairwise_reverse.mpr h.ap⟩
theorem RvOk.tail{p:Pa}{R:List Pa}(h:RvOk (p::R)):RvOk R:=⟨λq hq=>h.ok q (by simp[hq]),(List.pairwise_cons.mp h.ap).2⟩
theorem Zz(a b:Int):mn a b<=a/\mn a b<=b/\(mn a b=a\/mn a b=b):=by
 unfold mn
 split<;>omega
theorem qeN(a b:Int):a<=mx a b/\b<=mx a b/\(mx a b=a\/mx a b=b):=by
 unfold mx
 split<;>omega
theorem qaK{f t:Int}:∀{R:List Pa},(∀p∈R,p.2.1 < f)->J8 f t R=0
 |[],_=>rfl
 | p::R,h=>by rw[J8,qaK λq hq=>h q (by simp[hq])];have h0:=h p (by simp);have h1:=Zz p.2.1 t;have h2:=qeN p.1 f;unfold qbs;rw[if_neg (1:)];rfl
theorem qeO{leave d:Int}(hl:1<=leave):∀(R:List Pa) (f:Int),RvOk R->(d < f\/∀p∈R,p.2.1 < f)->fsF leave d R f<=f/\J8 (fsF leave d R f) d R=chn leave d R f
 |[],f,_,_=>⟨Int.le_refl _,rfl⟩
 | p::R,f,hR,hf=>by
  have hp:=hR.ok p (by simp);have hg:=(List.pairwise_cons.mp hR.ap).1;have hm:=Zz p.2.1 d;rw[fsF,chn,J8]
  by_cases h1:p.1<=d
  ·rw[if_pos h1,if_pos h1]
   by_cases h2:leave<=f - 1 - mn p.2.1 d
   ·rw[if_pos h2,if_pos h2];refine⟨Int.le_refl _,?_⟩;rw[qaK λq hq=>by have:=hg q hq;omega]
    have:=qeN p.1 f
    unfold qbs;rw[if_neg (1:)];rfl
   ·rw[if_neg h2,if_neg h2];obtain⟨i1,i2⟩:=qeO (d:=d) hl R p.1 hR.tail (.inr hg)
    have hlt:p.1<=f:=by
     rcases hf with q | q
     ·omega
     ·have:=q p (by simp);omega
    refine⟨by omega,?_⟩;rw[i2]
    have:=qeN p.1 (fsF leave d R p.1)
    have e:mx p.1 (fsF leave d R p.1)=p.1:=by omega
    unfold qbs;rw[e,if_pos (1:)]
  ·rw[if_neg h1,if_neg h1];obtain⟨i1,i2⟩:=qeO hl R f hR.tail (hf.imp id λq x hx=>q x (by simp[hx]));refine⟨i1,?_⟩;rw[i2]
   have:=qeN p.1 (fsF leave d R f)
   unfold qbs;rw[if_neg (1:)];omega
theorem ZB{leave d:Int}:∀(B R:List Pa) (f:Int),(∀p∈B,d < p.1)->chn leave d (B++R) f=chn leave d R f
 |[],R,f,_=>rfl
 | p::B,R,f,h=>by have h0:=h p (by simp);rw[List.cons_append,chn,if_neg (1:)];exact ZB B R f λq hq=>h q (by simp[hq])
theorem ZC{leave d d':Int}:∀(R:List Pa) (f:Int),(∀p∈R,p.1<=p.2.1/\p.2.1<=d/\p.2.1<=d')->chn leave d R f=chn leave d' R f
 |[],_,_=>rfl
 | p::R,f,h=>by have h0:=h p (by simp);have e1:mn p.2.1 d=p.2.1:=(qaH p.2.1 d).1 h0.2.1;have e2:mn p.2.1 d'=p.2.1:=(qaH p.2.1 d').1 h0.2.2;rw[chn,chn,if_pos (c:=p.1<=d) (1:),if_pos (c:=p.1<=d') (1:),e1,e2,ZC R p.1 λq hq=>h q (by simp[hq])]
end DG
namespace DG
open PySem DE FA Dy
open L2 hiding St
theorem qbt{r:Ru}(hk:r.kd.isW=true)(h1:1<=r.days){L:List Pa}(hL:PcOk L)(d:Int):qJ r L d=(ws (pf L) (d - r.days+1) r.days.toNat).sum:=by unfold qJ J7;rw[if_pos hk,YV,qi7 hL,show d - r.days+1+(r.days.toNat:Int) - 1=d by omega];omega
theorem qeP{r:Ru}(hk:r.kd.isW=false)(h1:1<=r.days){L:List Pa}(hL:PcOk L)(d:Int):qJ r L d=chn r.days d L.reverse (d+1):=by unfold qJ J7;rw[if_neg (by rw[hk];decide),YV,<-qcf,(qeO h1 L.reverse (d+1) (RvOk.of hL) (.inl (1:))).2];omega
theorem qcg{d:Int}:∀{R:List Pa},RvOk R->∃B A,R=B++A/\(∀p∈B,d < p.1)/\∀p∈A,p.1<=d
 |[],_=>⟨[],[],rfl,λ_ h=>(by cases h),λ_ h=>(by cases h)⟩
 | p::R,h=>by
  by_cases hd:d < p.1
  ·obtain⟨B,A,e,h1,h2⟩:=qcg (d:=d) h.tail;refine⟨p::B,A,by rw[e];rfl,λq hq=>?_,h2⟩;rcases List.mem_cons.mp hq with rfl | hq
   ·exact hd
   ·exact h1 q hq
  ·refine⟨[],p::R,rfl,λ_ h=>(by cases h),λq hq=>?_⟩;rcases List.mem_cons.mp hq with rfl | hq
   ·omega
   ·have:=(List.pairwise_cons.mp h.ap).1 q hq
    have:=h.ok q (by simp[hq])
    omega
def Qb(f:Int->Int)(n d:Int):Prop:=∀x,d - n < x->x<=d->f x=0
theorem qc8{leave:Int}(h1:1<=leave){L:List Pa}(hL:PcOk L)(d:Int) :
  (Qb (pf L) leave d->chn leave d L.reverse (d+1)=0)/\(¬ Qb (pf L) leave d->chn leave d L.reverse (d+1)=chn leave (d - 1) L.reverse d+pf L d):=by
 have hR:=RvOk.of hL;obtain⟨B,A,e,hB,hA⟩:=qcg (d:=d) hR;have mem:∀p,p∈L↔p∈B\/p∈A:=λp=>by rw[<-List.mem_reverse,e,List.mem_append]
 rw[e,ZB B A _ hB,ZB B A _ (λp hp=>by have:=hB p hp;omega)]
 cases A with
 |nil=>
  refine⟨λ_=>rfl,λh=>absurd (λx _ hx=>?_) h⟩
  exact qR λp hp z=>by
   rcases (mem p).mp hp with q | q
   ·have:=hB p q;unfold inP at z;omega
   ·cases q
 |cons q A=>
  have hq:q∈L:=(mem q).mpr (.inr (by simp));have hqo:=hL.ok q hq;have hq1:=hA q (by simp)
  have hap:∀p∈A,p.2.1 < q.1:=by
   have:=hR.ap
   rw[e] at this;exact(List.pairwise_cons.mp (List.pairwise_append.mp this).2.1).1
  have hAo:∀p∈A,p.1<=p.2.1:=λp hp=>(hL.ok p ((mem p).mpr (.inr (by simp[hp])))).1;have hm:=qaH q.2.1 d;have hm':=qaH q.2.1 (d - 1)
  by_cases hd:d<=q.2.1
  ·have hpf:pf L d=q.2.2:=jJ hL hq ⟨hq1,hd⟩;refine⟨λh=>?_,λ_=>?_⟩
   ·have:=h d (1:) (Int.le_refl _)
    omega
   ·rw[hpf,chn,if_pos hq1,hm.2 hd,if_neg (1:)]
    by_cases hb:q.1<=d - 1
    ·rw[chn,if_pos hb,hm'.2 (1:),if_neg (1:),ZC (d:=d) (d':=d - 1) A q.1 λp hp=>by have:=hap p hp;have:=hAo p hp;omega];rw[show d - q.1+1=(d - 1 - q.1+1)+1 by omega];generalize d - 1 - q.1+1=k;rw[Int.add_mul,Int.one_mul];omega
    ·rw[chn,if_neg hb,ZC (d:=d) (d':=d - 1) A q.1 λp hp=>by have:=hap p hp;have:=hAo p hp;omega];rw[show q.1=d by omega,show d - d+1=1 by omega,Int.one_mul];omega
  ·have hz:∀x,q.2.1 < x->x<=d->pf L x=0:=λx h2 h3=>qR λp hp z=>by
    rcases (mem p).mp hp with y | y
    ·have:=hB p y;unfold inP at z;omega
    ·rcases List.mem_cons.mp y with rfl | y
     ·unfold inP at z;omega
     ·have:=hap p y;unfold inP at z;omega
   have hpf:pf L q.2.1=q.2.2:=jJ hL hq ⟨hqo.1,Int.le_refl _⟩;rw[chn,if_pos hq1,hm.1 (1:),chn,if_pos (c:=q.1<=d - 1) (1:),hm'.1 (1:),hz d (1:) (Int.le_refl _)];refine⟨λh=>?_,λh=>?_⟩
   ·rw[if_pos]
    by_cases y:leave<=d+1 - 1 - q.2.1
    ·exact y
    ·have:=h q.2.1 (1:) (1:)
     omega
   ·have y:¬ leave<=d+1 - 1 - q.2.1:=λy=>h λx h2 h3=>hz x (1:) h3;rw[if_neg y,if_neg (1:),ZC (d:=d) (d':=d - 1) A q.1 λp hp=>by have:=hap p hp;have:=hAo p hp;omega];omega
structure Cnt(w:Bool)(n:Int)(f C:Int->Int):Prop where
 nn:∀d,0<=f d
 low:∃b,∀d,d < b->C d=0/\f d=0
 win:w=true->∀d,C d=(ws f (d - n+1) n.toNat).sum
 idle:w=false->∀d,Qb f n d->C d=0
 busy:w=false->∀d,¬ Qb f n d->C d=C (d - 1)+f d
theorem ql5{L:List Pa}(hL:PcOk L):∃b,∀d,d < b->pf L d=0:=by
 induction L with
 |nil=>exact⟨0,λ_ _=>rfl⟩
 |cons p l _=>
  refine⟨p.1,λd hd=>qR λq hq z=>?_⟩;have h0:=(hL.ok p (by simp)).1;rcases List.mem_cons.mp hq with rfl | hq
  ·unfold inP at z;omega
  ·have:=(List.pairwise_cons.mp hL.ap).1 q hq
   unfold inP at z;omega
theorem YW{r:Ru}(h1:1<=r.days){L:List Pa}(hL:PcOk L):Cnt r.kd.isW r.days (pf L) (qJ r L):=by
 obtain⟨b,hb⟩:=ql5 hL
 have sn:r.kd.isW=false->∀d,(Qb (pf L) r.days d->qJ r L d=0)/\(¬ Qb (pf L) r.days d->qJ r L d=qJ r L (d - 1)+pf L d):=λhk d=>by rw[qeP hk h1 hL,qeP hk h1 hL,show d - 1+1=d by omega];exact qc8 h1 hL d
 refine⟨qnw hL,⟨b,λd hd=>⟨?_,hb d hd⟩⟩,λhk=>qbt hk h1 hL,λhk d=>(sn hk d).1,λhk d=>(sn hk d).2⟩
 cases hk:r.kd.isW with
 |true=>rw[qbt hk h1 hL];exact Zt _ _ λx h2 h3=>hb x (1:)
 |false=>exact(sn hk d).1 λx _ hx=>hb x (1:)
namespace Cnt
variable{w:Bool}{n:Int}{f C:Int->Int}
theorem step(h:Cnt w n f C)(hw:w=true)(hn:1<=n)(d:Int):C d=C (d - 1)+f d - f (d - n):=by rw[h.win hw d,h.win hw (d - 1)];obtain⟨m,rfl⟩:∃m:Nat,n=((m+1:Nat):Int):=⟨(n - 1).toNat,by omega⟩;rw[Int.toNat_natCast,Zs,show d - 1 - ((m+1:Nat):Int)+1=d - ((m+1:Nat):Int) by omega,ws,List.sum_cons,show d - ((m+1:Nat):Int)+1+(m:Int)=d by omega];omega
theorem pos(h:Cnt w n f C)(d:Int):0<=C d:=by
 cases hw:w with
 |true=>rw[h.win hw];exact qlU h.nn _ _
 |false=>
  obtain⟨b,hb⟩:=h.low
  have:∀m:Nat,∀d,d < b+m->0<=C d:=by
   intro m
   induction m with
   |zero=>intro d hd;rw[(hb d (1:)).1];exact Int.le_refl _
   |succ m ih=>
    intro d hd
    by_cases hi:Qb f n d
    ·rw[h.idle hw d hi];exact Int.le_refl _
    ·rw[h.busy hw d hi]
     have:=ih (d - 1) (1:)
     have:=h.nn d
     omega
  exact this (d - b+1).toNat d (1:)
theorem grow(h:Cnt w n f C)(hn:1<=n)(d:Int):C d<=C (d - 1)+f d:=by
 cases hw:w with
 |true=>rw[h.step hw hn d];have:=h.nn (d - n);omega
 |false=>
  by_cases hi:Qb f n d
  ·rw[h.idle hw d hi]
   have:=h.pos (d - 1)
   have:=h.nn d
   omega
  ·rw[h.busy hw d hi];exact Int.le_refl _
theorem busy'(h:Cnt w n f C)(hw:w=false)(hn:1<=n){d:Int}(hd:f d≠0):C d=C (d - 1)+f d:=
 h.busy hw d λz=>hd (z d (1:) (Int.le_refl _))
theorem keeps(h:Cnt w n f C)(hn:1<=n){m a b:Int}(ha:C a<=m)(hz:∀x,a < x->x < b->f x=0):∀x,a<=x->x < b->C x<=m:=by
 have:∀k:Nat,∀x,a<=x->x < b->x < a+k+1->C x<=m:=by
  intro k
  induction k with
  |zero=>intro x h1 h2 h3;rw[show x=a by omega];exact ha
  |succ k ih=>
   intro x h1 h2 h3
   by_cases y:x=a
   ·rw[y];exact ha
   ·have:=h.grow hn x
    rw[hz x (1:) h2] at this
    have:=ih (x - 1) (1:) (1:) (1:)
    omega
 exactλx h1 h2=>this (x - a).toNat x h1 h2 (1:)
end Cnt
theorem qeQ{f g:Int->Int}(h:∀x,f x<=g x):∀(n:Nat) (lo:Int),(ws f lo n).sum<=(ws g lo n).sum
 |0,_=>by simp[ws]
 | n+1,lo=>by
  have:=qeQ h n (lo+1)
  have:=h lo
  rw[ws,ws,List.sum_cons,List.sum_cons];omega
theorem qeR{f:Int->Int}(h:∀x,0<=f x)(k:Nat):∀(m:Nat) (lo:Int),(ws f (lo+m) k).sum<=(ws f lo (m+k)).sum
 |0,lo=>by rw[Nat.zero_add,show lo+((0:Nat):Int)=lo by omega];exact Int.le_refl _
 | m+1,lo=>by
  have i:=qeR h k m (lo+1)
  have:=h lo
  rw[show m+1+k=(m+k)+1 by omega,ws,List.sum_cons];rw[show lo+((m+1:Nat):Int)=lo+1+(m:Int) by omega];omega
theorem Cnt.mono{w:Bool}{n n':Int}{f f' C C':Int->Int}(h:Cnt w n f C)(h':Cnt w n' f' C')(h1:1<=n')(h2:n'<=n)(hf:∀x,f' x<=f x)(d:Int):C' d<=C d:=by
 cases hw:w with
 |true=>rw[h.win hw,h'.win hw];have a:=qeR h.nn n'.toNat (n - n').toNat (d - n+1);rw[show(n - n').toNat+n'.toNat=n.toNat by omega,show d - n+1+((n - n').toNat:Int)=d - n'+1 by omega] at a;have b:=qeQ hf n'.toNat (d - n'+1);omega
 |false=>
  obtain⟨b,hb⟩:=h'.low
  have:∀m:Nat,∀d,d < b+m->C' d<=C d:=by
   intro m
   induction m with
   |zero=>intro d hd;rw[(hb d (1:)).1];exact h.pos d
   |succ m ih=>
    intro d hd
    by_cases hi:Qb f' n' d
    ·rw[h'.idle hw d hi];exact h.pos d
    ·have hi':¬ Qb f n d:=λz=>hi λx h3 h4=>by
      have:=z x (1:) h4
      have:=hf x
      have:=h'.nn x
      omega
     rw[h'.busy hw d hi,h.busy hw d hi']
     have:=ih (d - 1) (1:)
     have:=hf d
     omega
  exact this (d - b+1).toNat d (1:)
end DG
namespace DG
open PySem DE FA Dy
open L2 hiding St
theorem qi8{r:Ru}(h1:1<=r.days){L:List Pa}(hL:PcOk L):qjA r L:=λd=>by
 have g:=(YW h1 hL).grow h1 d
 have:pf L d<=9:=by
  by_cases h:∃p∈L,inP p d
  ·obtain⟨p,hp,hd⟩:=h;rw[jJ hL hp hd];exact(hL.ok p hp).2.2
  ·rw[qR λp hp hd=>h ⟨p,hp,hd⟩];decide
 omega
theorem qi9{L:List Pa}(hL:PcOk L){y:Int}(h:pf L y≠pf L (y - 1)):∃p∈L,y=p.1\/y=p.2.1+1:=by
 by_cases h1:∃p∈L,inP p y
 ·obtain⟨p,hp,hd⟩:=h1;refine⟨p,hp,?_⟩
  by_cases h2:inP p (y - 1)
  ·rw[jJ hL hp hd,jJ hL hp h2] at h;exact absurd rfl h
  ·unfold inP at *;omega
 ·rw[qR λp hp hd=>h1 ⟨p,hp,hd⟩] at h;obtain⟨p,hp,hd⟩:=ql3 (Ne.symm h);refine⟨p,hp,?_⟩;have nz:¬ inP p y:=λz=>h1 ⟨p,hp,z⟩;unfold inP at *;omega
theorem YX{s x:Int}:∀{L:List Pa},x∈zK s L↔∃p∈L,x=p.1+s\/x=p.2.1+1+s
 |[]=>by simp[zK]
 | p::L=>by
  rw[zK,List.mem_cons,List.mem_cons,YX];constructor
  ·rintro (h | h | ⟨q,hq,h⟩)
   ·exact⟨p,by simp,.inl h⟩
   ·exact⟨p,by simp,.inr h⟩
   ·exact⟨q,by simp[hq],h⟩
  ·rintro⟨q,hq,h⟩;rcases List.mem_cons.mp hq with rfl | hq
   ·exact h.elim .inl λz=>.inr (.inl z)
   ·exact .inr (.inr ⟨q,hq,h⟩)
theorem qch(s:Int):∀{L:List Pa},PcOk L->(zK s L).Pairwise (·<=·)
 |[],_=>List.Pairwise.nil
 | p::L,h=>by
  have h0:=(h.ok p (by simp)).1;have hg:=(List.pairwise_cons.mp h.ap).1
  have lo:∀x∈zK s L,p.2.1+1+s<=x:=λx hx=>by
   obtain⟨q,hq,z⟩:=YX.mp hx
   have:=hg q hq
   have:=(h.ok q (by simp[hq])).1
   omega
  rw[zK];refine List.pairwise_cons.mpr ⟨λx hx=>?_,List.pairwise_cons.mpr ⟨lo,qch s h.tail⟩⟩;rcases List.mem_cons.mp hx with rfl | hx
  ·omega
  ·have:=lo x hx;omega
noncomputable def Fst(r:Ru)(L:List Pa)(f t:Int):Option Int->Prop
 |none=>∀x,f<=x->x<=t->qJ r L x<=r.most
 |some d=>f<=d/\d<=t/\r.most < qJ r L d/\∀x,f<=x->x < d->qJ r L x<=r.most
theorem qci{r:Ru}{L:List Pa}{b e:Int}(h0:qJ r L (b - 1)<=r.most)(hg:∀x,b < x->x<=e->qJ r L x - qJ r L (x - 1)=qJ r L (x - 1) - qJ r L (x - 2)):Fst r L b e (J0 r L b e):=by
 have lin:∀k:Nat,b+k<=e->qJ r L (b+k)=qJ r L (b - 1)+((k:Int)+1) * (qJ r L b - qJ r L (b - 1))/\qJ r L (b+k) - qJ r L (b+k - 1)=qJ r L b - qJ r L (b - 1):=by
  intro k
  induction k with
  |zero=>intro _;rw[show b+((0:Nat):Int)=b by omega,show(((0:Nat):Int)+1)=1 by rfl,Int.one_mul];omega
  |succ k ih=>intro hk;obtain⟨i1,i2⟩:=ih (1:);have g:=hg (b+((k+1:Nat):Int)) (1:) hk;rw[show b+((k+1:Nat):Int) - 1=b+k by omega,show b+((k+1:Nat):Int) - 2=b+k - 1 by omega] at g;rw[show b+((k+1:Nat):Int) - 1=b+k by omega,show(((k+1:Nat):Int)+1)=((k:Int)+1)+1 by omega,Int.add_mul _ 1,Int.one_mul];omega
 have lin':∀x,b<=x->x<=e->qJ r L x=qJ r L (b - 1)+(x - b+1) * (qJ r L b - qJ r L (b - 1)):=λx h1 h2=>by
  have:=(lin (x - b).toNat (1:)).1
  rw[show b+((x - b).toNat:Int)=x by omega,show((x - b).toNat:Int)=x - b by omega] at this;exact this
 unfold J0;generalize qJ r L b - qJ r L (b - 1)=g at *;generalize hc:qJ r L (b - 1)=c at *
 by_cases h1:g<=0
 ·rw[if_pos h1];intro x h2 h3;rw[lin' x h2 h3]
  have:=Int.mul_nonpos_of_nonneg_of_nonpos (show 0<=x - b+1 by omega) h1
  omega
 ·rw[if_neg h1];have q:∀x,x - b+1<=(r.most - c) / g↔(x - b+1) * g<=r.most - c:=λx=>Int.le_ediv_iff_mul_le (1:);have q0:0<=(r.most - c) / g:=Int.ediv_nonneg (1:) (1:);generalize (r.most - c) / g=k at *
  by_cases h2:b+k<=e
  ·rw[if_pos h2];refine⟨by omega,h2,?_,λx h3 h4=>?_⟩
   ·rw[lin' _ (1:) h2]
    have:=mt (q (b+k)).mpr (1:)
    omega
   ·rw[lin' x h3 (1:)]
    have:=(q x).mp (1:)
    omega
  ·rw[if_neg h2];intro x h3 h4;rw[lin' x h3 h4]
   have:=(q x).mp (1:)
   omega
theorem qhu{r:Ru}{L:List Pa}{t:Int}:∀(ts:List Int) (f:Int),qJ r L (f - 1)<=r.most->(∀x,f < x->x<=t->x∉ts->qJ r L x - qJ r L (x - 1)=qJ r L (x - 1) - qJ r L (x - 2))->(f::ts).Pairwise (·<=·)->(∀b∈ts,b<=t)->Fst r L f t (JJ r L (qhn f t ts))
 |[],f,h0,hg,_,_=>by
  have a:=qci (r:=r) (L:=L) (b:=f) (e:=t) h0 λx h1 h2=>hg x h1 h2 (by simp);show Fst r L f t (JJ r L [(f,t)]);rw[JJ]
  cases e:J0 r L f t with
  |none=>rw[e] at a;exact a
  |some d=>rw[e] at a;exact a
 | b::ts,f,h0,hg,hp,ht=>by
  obtain⟨hp1,hp2⟩:=List.pairwise_cons.mp hp;have hfb:=hp1 b (by simp);have hbt:=ht b (by simp);have hpb:=(List.pairwise_cons.mp hp2).1
  have a:=qci (r:=r) (L:=L) (b:=f) (e:=b - 1) h0 λx h1 h2=>hg x h1 (1:) (λz=>by
   rcases List.mem_cons.mp z with rfl | z
   ·omega
   ·have:=hpb x z;omega)
  show Fst r L f t (JJ r L ((f,b - 1)::qhn b t ts));rw[JJ]
  cases e:J0 r L f (b - 1) with
  |some d=>rw[e] at a;exact⟨a.1,by have:=a.2.1;omega,a.2.2.1,a.2.2.2⟩
  |none=>
   rw[e] at a;have low:∀x,f<=x->x<=b - 1->qJ r L x<=r.most:=a
   have i:=qhu ts b (by
    by_cases z:f<=b - 1
    ·exact low _ z (Int.le_refl _)
    ·rw[show b - 1=f - 1 by omega];exact h0) (λx h1 h2 h3=>hg x (1:) h2 λz=>by
     rcases List.mem_cons.mp z with rfl | z
     ·omega
     ·exact h3 z) hp2 λx hx=>ht x (by simp[hx])
   dsimp only;generalize JJ r L (qhn b t ts)=o at i
   cases o with
   |none=>
    intro x h1 h2
    by_cases z:x<=b - 1
    ·exact low x h1 z
    ·exact i x (1:) h2
   |some d=>
    refine⟨by have:=i.1;omega,i.2.1,i.2.2.1,λx h1 h2=>?_⟩
    by_cases z:x<=b - 1
    ·exact low x h1 z
    ·exact i.2.2.2 x (1:) h2
noncomputable def qn5(r:Ru)(L:List Pa):Option Int->Prop
 |none=>∀x,qJ r L x<=r.most
 |some d=>r.most < qJ r L d/\∀x,x < d->qJ r L x<=r.most
theorem qeS{r:Ru}(h1:1<=r.days){L:List Pa}(hL:PcOk L){p:Pa}(hp:p∈L){x:Int}(hx:p.1 < x)(hx':x<=p.2.1)(ht:x∉zZ r L):qJ r L x - qJ r L (x - 1)=qJ r L (x - 1) - qJ r L (x - 2):=by
 have c:=YW h1 hL;have e1:pf L x=p.2.2:=jJ hL hp ⟨by omega,hx'⟩;have e2:pf L (x - 1)=p.2.2:=jJ hL hp ⟨by omega,by omega⟩;have hw:=(hL.ok p hp).2.1
 cases hk:r.kd.isW with
 |true=>
  have s1:=c.step hk h1 x;have s2:=c.step hk h1 (x - 1);unfold zZ at ht;rw[if_pos hk] at ht
  have:pf L (x - r.days)=pf L (x - r.days - 1):=by
   by_cases z:pf L (x - r.days)=pf L (x - r.days - 1)
   ·exact z
   ·obtain⟨q,hq,y⟩:=qi9 hL z;exact absurd (YX.mpr ⟨q,hq,by omega⟩) ht
  rw[show x - 1 - r.days=x - r.days - 1 by omega,show x - 1 - 1=x - 2 by omega] at s2;omega
 |false=>have s1:=c.busy' hk h1 (d:=x) (1:);have s2:=c.busy' hk h1 (d:=x - 1) (1:);rw[show x - 1 - 1=x - 2 by omega] at s2;omega
theorem qaL{r:Ru}(h1:1<=r.days)(h0:0<=r.most){L:List Pa}(hL:PcOk L):∀(l A:List Pa),L=A++l->(∀x,(∀p∈l,x < p.1)->qJ r L x<=r.most)->qn5 r L (yk r L (zZ r L) l)
 |[],A,_,h=>λx=>h x λ_ z=>(by cases z)
 | p::l,A,e,h=>by
  have hp:p∈L:=by rw[e];simp
  have hpo:=hL.ok p hp;have hsp:=hL.ap;rw[e] at hsp;have hlo:=(List.pairwise_cons.mp (List.pairwise_append.mp hsp).2.1).1;have hA:=(List.pairwise_append.mp hsp).2.2;have hl:∀q∈l,q.1<=q.2.1:=λq hq=>(hL.ok q (by rw[e];simp[hq])).1
  have before:∀x,x < p.1->qJ r L x<=r.most:=λx hx=>h x λq hq=>by
   rcases List.mem_cons.mp hq with rfl | hq
   ·exact hx
   ·have:=hlo q hq;omega
  have tu:(zZ r L).Pairwise (·<=·):=by
   unfold zZ;split
   ·exact qch _ hL
   ·exact List.Pairwise.nil
  have i:=qhu (r:=r) (L:=L) (t:=p.2.1) ((zZ r L).filter (inB p.1 p.2.1)) p.1 (before _ (1:)) (λx h2 h3 h4=>qeS h1 hL hp h2 h3 λz=>h4 (List.mem_filter.mpr ⟨z,by unfold inB;simp;omega⟩)) (List.pairwise_cons.mpr ⟨λb hb=>by
    have:=(List.mem_filter.mp hb).2
    unfold inB at this;simp at this
    omega,tu.filter _⟩) (λb hb=>by
    have:=(List.mem_filter.mp hb).2
    unfold inB at this;simp at this
    omega)
  rw[yk]
  cases o:JJ r L (qhn p.1 p.2.1 ((zZ r L).filter (inB p.1 p.2.1))) with
  |some d=>
   rw[o] at i;refine⟨i.2.2.1,λx hx=>?_⟩
   by_cases z:x < p.1
   ·exact before x z
   ·exact i.2.2.2 x (1:) hx
  |none=>
   rw[o] at i;have within:∀x,p.1<=x->x<=p.2.1->qJ r L x<=r.most:=i;refine qaL h1 h0 hL l (A++[p]) (by rw[e];simp) λx hx=>?_
   by_cases z:x < p.1
   ·exact before x z
   ·by_cases y:x<=p.2.1
    ·exact within x (1:) y
    ·refine(YW h1 hL).keeps h1 (a:=p.2.1) (b:=x+1) (within _ hpo.1 (Int.le_refl _)) (λu h2 h3=>qR λq hq hz=>?_) x (1:) (1:);rw[e] at hq;unfold inP at hz;rcases List.mem_append.mp hq with g | g
     ·have:=hA q g p (by simp);omega
     ·rcases List.mem_cons.mp g with rfl | g
      ·omega
      ·have:=hx q g;omega
theorem qcj{r:Ru}(h1:1<=r.days)(h0:0<=r.most){L:List Pa}(hL:PcOk L):qn5 r L (qu r L):=by
 refine qaL h1 h0 hL L [] rfl λx hx=>?_;have z:∀y,y<=x->pf L y=0:=λy hy=>qR λp hp hz=>by have:=hx p hp;unfold inP at hz;omega
 have c:=YW h1 hL
 have:qJ r L x=0:=by
  cases hk:r.kd.isW with
  |true=>rw[c.win hk];exact Zt _ _ λy _ h3=>z y (1:)
  |false=>exact c.idle hk x λy _ hy=>z y hy
 omega
end DG
namespace DG
open PySem DE FA Dy
open L2 hiding St
def cb(st:List St)(x:Rl)(d:Int):Int:=qJ x.1 (qX st x) d
structure Rlw(x:Rl):Prop where
 ln:∀p∈x.1.lands,LnOk p
 days:1<=x.1.days
 most:0<=x.1.most
 spr:Spr x.2
 len:x.2.length<=20
section
variable{st:List St}{x:Rl}(h:Rlw x){e:Int}(hc:Chw e st)
include h hc
theorem QN:PcOk (qX st x):=(YU h.ln h.spr (by have:=h.len;omega) st e hc).1
theorem ql6:pf (qX st x)=wgt x.1 x.2 st:=funext (YU h.ln h.spr (by have:=h.len;omega) st e hc).2.2
theorem qc9:Cnt x.1.kd.isW x.1.days (wgt x.1 x.2 st) (cb st x):=by rw[<-ql6 h hc];exact YW h.days (QN h hc)
theorem qja:RlOk st x:=⟨h.ln,(QN h hc).w,qi8 h.days (QN h hc),h.len⟩
theorem qjb(hn:qu x.1 (qX st x)=none)(d:Int):cb st x d<=x.1.most:=by
 have:=qcj h.days h.most (QN h hc)
 rw[hn] at this;exact this d
theorem qjc{d:Int}(hn:qu x.1 (qX st x)=some d):x.1.most < cb st x d/\∀y,y < d->cb st x y<=x.1.most:=by
 have:=qcj h.days h.most (QN h hc)
 rw[hn] at this;exact this
end
structure BF(st:List St)(rs:List Rl)(z:Int×Int×Int):Prop where
 at_:∃(j:Nat) (x:Rl),rs[j]?=some x/\z.2.1=(j:Int)/\z.2.2=J7 x.1 (qX st x) z.1/\x.1.most < cb st x z.1/\∀i,i < j->∀y,rs[i]?=some y->cb st y z.1<=y.1.most
 low:∀y∈rs,∀d,d < z.1->cb st y d<=y.1.most
theorem Jn(st:List St){e:Int}(hc:Chw e st)(all:List Rl)(hr:∀x∈all,Rlw x):∀(l A:List Rl) (f:Option (Int×Int×Int)),all=A++l->
  (f=none->∀y∈A,∀d,cb st y d<=y.1.most)->(∀z,f=some z->BF st A z)->
  (ym st l A.length f=none->∀y∈all,∀d,cb st y d<=y.1.most)/\∀z,ym st l A.length f=some z->BF st all z
 |[],A,f,ea,h1,h2=>by rw[List.append_nil] at ea;subst ea;exact⟨h1,h2⟩
 | x::l,A,f,ea,h1,h2=>by
  have hx:=hr x (by rw[ea];simp);have ea':all=(A++[x])++l:=by rw[ea];simp
  have el:A.length+1=(A++[x]).length:=by simp
  have one:∀y,y∈A++[x]->y∈A\/y=x:=λy hy=>by simpa using hy
  have getA:∀(j:Nat) y,A[j]?=some y->(A++[x])[j]?=some y:=λj y hy=>by obtain⟨hj,_⟩:=List.getElem?_eq_some_iff.mp hy;rw[List.getElem?_append_left hj];exact hy
  rw[ym]
  cases hb:qu x.1 (qX st x) with
  |none=>
   dsimp only;have nb:=qjb hx hc hb;rw[el];refine Jn st hc all hr l (A++[x]) f ea' (λhf y hy d=>?_) (λz hz=>?_)
   ·rcases one y hy with q | q
    ·exact h1 hf y q d
    ·rw[q];exact nb d
   ·obtain⟨⟨j,x',g1,g2,g3,g4,g5⟩,lo⟩:=h2 z hz;refine⟨⟨j,x',getA j x' g1,g2,g3,g4,λi hi y hy=>?_⟩,λy hy d hd=>?_⟩
    ·obtain⟨hj,_⟩:=List.getElem?_eq_some_iff.mp g1;rw[List.getElem?_append_left (1:)] at hy;exact g5 i hi y hy
    ·rcases one y hy with q | q
     ·exact lo y q d hd
     ·rw[q];exact nb d
  |some d0=>
   dsimp only;obtain⟨b1,b2⟩:=qjc hx hc hb
   by_cases hbt:YT d0 f=true
   ·rw[if_pos hbt,el]
    have lowA:∀y∈A,∀d,d<=d0->cb st y d<=y.1.most:=λy hy d hd=>by
     cases f with
     |none=>exact h1 rfl y hy d
     |some z=>
      have:d0 < z.1:=by unfold YT at hbt;simpa using hbt
      exact(h2 z rfl).low y hy d (1:)
    refine Jn st hc all hr l (A++[x]) _ ea' (λhf=>(by cases hf)) (λz hz=>?_);cases hz;refine⟨⟨A.length,x,by simp,rfl,rfl,b1,λi hi y hy=>?_⟩,λy hy d hd=>?_⟩
    ·rw[List.getElem?_append_left hi] at hy;exact lowA y (List.mem_of_getElem? hy) d0 (Int.le_refl _)
    ·rcases one y hy with q | q
     ·exact lowA y q d (by dsimp only at hd;omega)
     ·rw[q];exact b2 d hd
   ·rw[if_neg hbt,el]
    cases f with
    |none=>exact absurd rfl hbt
    |some z0=>
     have hge:z0.1<=d0:=by unfold YT at hbt;simp at hbt;exact hbt
     refine Jn st hc all hr l (A++[x]) _ ea' (λhf=>(by cases hf)) (λz hz=>?_);cases hz;obtain⟨⟨j,x',g1,g2,g3,g4,g5⟩,lo⟩:=h2 z0 rfl;refine⟨⟨j,x',getA j x' g1,g2,g3,g4,λi hi y hy=>?_⟩,λy hy d hd=>?_⟩
     ·obtain⟨hj,_⟩:=List.getElem?_eq_some_iff.mp g1;rw[List.getElem?_append_left (1:)] at hy;exact g5 i hi y hy
     ·rcases one y hy with q | q
      ·exact lo y q d hd
      ·rw[q];exact b2 d (1:)
theorem yR{rs:List Ru}{ps:List Pa}{st:List St}{e:Int}(hc:Chw e st)(hr:∀x∈rlF ps 0 rs,Rlw x) :
  (qv rs ps st=none->∀y∈rlF ps 0 rs,∀d,cb st y d<=y.1.most)/\∀z,qv rs ps st=some z->BF st (rlF ps 0 rs) z:=
 Jn st hc (rlF ps 0 rs) hr (rlF ps 0 rs) [] none rfl (λ_ _ h=>(by cases h)) (λ_ h=>(by cases h))
theorem ql7{rs:List Ru}{ps:List Pa}(hr:∀r∈rs,(∀p∈r.lands,LnOk p)/\1<=r.days/\0<=r.most)(hp:∀p∈ps,p.2.1<=p.2.2)(hl:ps.length<=18):∀x∈rlF ps 0 rs,Rlw x:=λx hx=>by
 obtain⟨j,e1,e2⟩:=qeA hx;obtain⟨a,b,c⟩:=hr x.1 (List.mem_of_getElem? e1)
 have ok:∀n:Int,∀p∈ofN n ps,p.1<=p.2:=λn p h=>by unfold ofN at h;obtain⟨q,hq,rfl⟩:=List.mem_map.mp h;exact hp q (List.mem_filter.mp hq).1
 refine⟨a,b,c,?_,?_⟩
 ·rw[e2];exact qer (ok _)
 ·rw[e2];have h1:=qbp (ok ((0+j:Nat):Int));have h2:=Zq ((0+j:Nat):Int) ps;unfold zU;omega
end DG
namespace DG
open PySem DE FA Dy
open L2 hiding St
structure WF(f:Int->Int)(n d a:Int):Prop where
 le:a<=d
 ne:f a≠0
 ahead:Qb f n (a - 1)
 busy:∀x,a<=x->x<=d->¬ Qb f n x
theorem WF.unique{f:Int->Int}{n d a b:Int}(h:WF f n d a)(h':WF f n d b):a=b:=by
 rcases Int.lt_trichotomy a b with q | q | q
 ·exact absurd h'.ahead (h.busy (b - 1) (1:) (by have:=h'.le;omega))
 ·exact q
 ·exact absurd h.ahead (h'.busy (a - 1) (1:) (by have:=h.le;omega))
theorem qjd{leave d:Int}(hl:1<=leave)(F:Int->Int):∀(R:List Pa) (f:Int),RvOk R->f<=d+1->(∀x,x < f->x<=d->(F x≠0↔∃p∈R,inP p x))->(f<=d->F f≠0/\∀x,f<=x->x<=d->¬ Qb F leave x)->(f=d+1\/∀p∈R,p.2.1 < f)->
  (fsF leave d R f=d+1/\Qb F leave d)\/WF F leave d (fsF leave d R f)
 |[],f,_,h2,h1,h3,_=>by
  rw[fsF]
  by_cases hf:f=d+1
  ·refine .inl ⟨hf,λx hx hd=>?_⟩
   by_cases q:F x=0
   ·exact q
   ·obtain⟨p,hp,_⟩:=(h1 x (1:) hd).mp q;cases hp
  ·have hf':f<=d:=by omega
   refine .inr ⟨hf',(h3 hf').1,λx hx hd=>?_,(h3 hf').2⟩
   by_cases q:F x=0
   ·exact q
   ·obtain⟨p,hp,_⟩:=(h1 x (1:) (1:)).mp q;cases hp
 | p::l,f,hR,h2,h1,h3,h4=>by
  have hp:=hR.ok p (by simp);have hap:=(List.pairwise_cons.mp hR.ap).1;rw[fsF]
  by_cases c1:p.1<=d
  ·rw[if_pos c1];have m:=Zz p.2.1 d
   have pf':p.1 < f:=by
    rcases h4 with q | q
    ·omega
    ·have:=q p (by simp);omega
   have hbelow:∀x,p.2.1 < x->x < f->x<=d->F x=0:=λx hx hf hd=>by
    by_cases q:F x=0
    ·exact q
    ·obtain⟨p',hp',i1,i2⟩:=(h1 x hf hd).mp q;rcases List.mem_cons.mp hp' with rfl | hm
     ·omega
     ·have:=hap p' hm;omega
   by_cases c2:leave<=f - 1 - mn p.2.1 d
   ·rw[if_pos c2]
    have hm:mn p.2.1 d=p.2.1:=by
     rcases m.2.2 with q | q
     ·exact q
     ·omega
    rw[hm] at c2;have idl:Qb F leave (f - 1):=λx hx hd=>hbelow x (1:) (1:) (1:)
    by_cases hf:f=d+1
    ·exact .inl ⟨hf,by rw[hf,show d+1 - 1=d by omega] at idl;exact idl⟩
    ·have hf':f<=d:=by omega
     exact .inr ⟨hf',(h3 hf').1,idl,(h3 hf').2⟩
   ·rw[if_neg c2];have inn:∀x,p.1<=x->x<=p.2.1->x < f->x<=d->F x≠0:=λx a b c e=>(h1 x c e).mpr ⟨p,by simp,a,b⟩;refine qjd hl F l p.1 hR.tail (1:) (λx hx hd=>?_) (λ_=>⟨inn p.1 (Int.le_refl _) hp pf' c1,λx hx hd=>?_⟩) (.inr λq hq=>hap q hq)
    ·rw[h1 x (1:) hd];constructor
     ·rintro⟨q,hq,i1,i2⟩;rcases List.mem_cons.mp hq with rfl | hm
      ·omega
      ·exact⟨q,hm,i1,i2⟩
     ·rintro⟨q,hq,i⟩;exact⟨q,by simp[hq],i⟩
    ·by_cases hxf:f<=x
     ·exact(h3 (1:)).2 x hxf hd
     ·by_cases hxe:x<=p.2.1
      ·exactλidl=>inn x hx hxe (1:) hd (idl x (1:) (Int.le_refl _))
      ·have hm:mn p.2.1 d=p.2.1:=by
        rcases m.2.2 with q | q
        ·exact q
        ·omega
       rw[hm] at c2;exactλidl=>inn p.2.1 hp (Int.le_refl _) (1:) (1:) (idl p.2.1 (1:) (1:))
  ·rw[if_neg c1]
   have hf:f=d+1:=by
    rcases h4 with q | q
    ·exact q
    ·have:=q p (by simp);omega
   refine qjd hl F l f hR.tail h2 (λx hx hd=>?_) h3 (.inl hf);rw[h1 x hx hd];constructor
   ·rintro⟨q,hq,i1,i2⟩;rcases List.mem_cons.mp hq with rfl | hm
    ·omega
    ·exact⟨q,hm,i1,i2⟩
   ·rintro⟨q,hq,i⟩;exact⟨q,by simp[hq],i⟩
theorem qhv{L:List Pa}(hL:PcOk L)(x:Int):pf L x≠0↔∃p∈L,inP p x:=by
 constructor
 ·exact ql3
 ·rintro⟨p,hp,i⟩;rw[jJ hL hp i]
  have:=(hL.ok p hp).2.1
  omega
theorem qeT{r:Ru}(hk:r.kd.isW=false)(h1:1<=r.days){L:List Pa}(hL:PcOk L){d:Int}(hb:¬ Qb (pf L) r.days d):WF (pf L) r.days d (J7 r L d):=by
 unfold J7;rw[if_neg (by rw[hk];simp)];rcases qjd h1 (pf L) L.reverse (d+1) (RvOk.of hL) (Int.le_refl _) (λx _ _=>by rw[qhv hL];simp) (λq=>absurd q (1:)) (.inl rfl) with ⟨_,q⟩ | q
 ·exact absurd q hb
 ·exact q
theorem qeU(ps:List Pa):∀(i:Nat) (rs:List Ru),(rlF ps i rs).length=rs.length
 |_,[]=>rfl
 | i,r::rs=>by rw[rlF,List.length_cons,qeU ps (i+1) rs,List.length_cons]
end DG
namespace DG
open PySem L2 DE
noncomputable def YY:Nat×Nat×Ss:=(2,4,%[.set 2 (.call "stays_of" %[1|0]),.set 3 (.call "fault_among" %[0,2|0]),.ite (.cmp .IsNot (.var 3) (.con .non)) %[.stuck|0] .nil,.ret (.var 2)|0])
noncomputable def yS:Nat×Nat×Ss:=(2,2,%[.ite (.or (.not (.val (.call "is_between" %[1,.con (.int 0),.con (.int 1000000000)|0]))) (.one (.and (.val (.var 0)) (.one (.cmp .LtE (.var 1) (.idx (.idx (.var 0) (.neg (.con (.int 1)))) (.con (.int 2)))))))) %[.stuck|0] .nil|0])
class LI(pg:Pg):Prop where
 r_let_stays:RW pg "let_stays" YY
 r_check_day:RW pg "check_day" yS
end DG
namespace DG
open PySem DE FA Dy
open L2 hiding St
open CH ST SP RU BO BT PC SU FK FM FO LI
section
variable{pg:Pg}[CH pg][ST pg][RU pg][BO pg][SP pg][BT pg][PC pg][SU pg][FK pg][FM pg][LI pg]
theorem ql8(k:Nat)(b:Bool)(rs:List Ru)(ps:List Pa)(hp:ps.length<=18)(st:List St)(hc:Ch (-1) st)(hs:∀s∈st,NameOk s.1)(hl:st.length<=60)(hr:∀x∈rlF ps 0 rs,RlOk st x)(hf:qv rs ps st=none) :
  clK pg (k+8) "let_stays" [.val (bkI rs ps),aL b (st.map stD)]=.ok (.tmp (st.map stD)):=by
 have e1:=qb6 (pg:=pg) (k+2) b st hc hl;have e2:=Jm (pg:=pg) k true rs ps hp st hs (1:) hr;rw[hf] at e2;rw[r_let_stays]
 try simp only[qau,qav] at e1 e2 ⊢
 simp? only[YY,e1,e2,YF]
def qmF(st:List St):Int:=match st.getLast? with
 |none=>-1
 |some s=>s.2.2
theorem qje{st:List St}(h:st≠[]):atI (st.map stD) (-1)=some (.tup [.str (st.getLast h).1,.int (st.getLast h).2.1,.int (st.getLast h).2.2]):=by
 have hl:0 < st.length:=List.length_pos_iff.mpr h
 have e:ixN (st.map stD).length (-1)=some (st.length - 1):=by
  unfold ixN;rw[List.length_map,if_neg (1:),if_pos (1:)]
  congr 1
  omega
 unfold atI;rw[e,Option.bind_some,List.getElem?_map,<-List.getLast?_eq_getElem?,List.getLast?_eq_some_getLast h];rfl
theorem qbu(k:Nat)(b:Bool)(st:List St)(hl:st.length<=60)(d:Int)(h0:0<=d)(h1:d<=1000000000)(h:qmF st < d):clK pg (k+3) "check_day" [aL b (st.map stD),.val (.int d)]=.ok (.val .non):=by
 have e:=zx (pg:=pg) k d 0 1000000000 h0 h1;rw[r_check_day]
 by_cases hn:st=[]
 ·subst hn;have ie:([]:List D).isEmpty=true:=rfl;simp? only[yS,e,List.map_nil,ie,Bool.not_true,Bool.false_eq_true]
 ·have la:=qje hn
  have hlt:¬ d<=(st.getLast hn).2.2:=by unfold qmF at h;rw[List.getLast?_eq_some_getLast hn] at h;dsimp only at h;omega
  have ie:(st.map stD).isEmpty=false:=by
   cases st with
   |nil=>exact absurd rfl hn
   |cons a b=>rfl
  simp? only[yS,e,ie,Bool.not_false,la,hlt]
end
end DG
namespace FY
open PySem L2 DE DG
noncomputable def YZ:Nat×Nat×Ss:=(3,7,%[.set 3 (.bin .Mod (.bin .Mult (.var 0) (.con (.int 48271))) (.con (.int 2147483647))),.set 4 (.lst %[.tup %[.idx (.var 1) (.bin .Mod (.var 3) (.b1 .len (.var 1))),.bin .Add (.con (.int 1)) (.bin .Mod (.bin .FloorDiv (.var 3) (.con (.int 4))) (.con (.int 3)))|0]|0]),.ite (.and (.cmp .Eq (.bin .Mod (.bin .FloorDiv (.var 3) (.con (.int 12))) (.con (.int 2))) (.con (.int 1))) (.one (.cmp .Gt (.b1 .len (.var 1)) (.con (.int 1))))) %[.app 4 (.tup %[.idx (.var 1) (.bin .Mod (.bin .Add (.var 3) (.con (.int 1))) (.b1 .len (.var 1))),.bin .Add (.con (.int 1)) (.bin .Mod (.bin .FloorDiv (.var 3) (.con (.int 24))) (.con (.int 9)))|0])|0] .nil,.set 5 (.bin .Mod (.bin .FloorDiv (.var 3) (.con (.int 216))) (.con (.int 25))),.set 6 (.bin .Add (.con (.int 1)) (.bin .Mod (.bin .FloorDiv (.var 3) (.con (.int 5400))) (.con (.int 30)))),.ite (.val (.var 2)) %[.set 5 (.bin .Mod (.var 0) (.bin .Pow (.con (.int 10)) (.con (.int 7)))),.set 6 (.bin .Add (.con (.int 1)) (.bin .Mod (.var 3) (.bin .Pow (.con (.int 10)) (.con (.int 7)))))|0] .nil,.ret (.tup %[.bin .Mod (.bin .FloorDiv (.var 3) (.con (.int 162000))) (.con (.int 3)),4,5,6|0])|0])
class ZY(pg:Pg):Prop where
 r__law_spec:RW pg "_law_spec" YZ
end FY
namespace FY
open PySem DE DG FZ FA Dy
open L2 hiding St
open ZY
theorem qjf{pg:Pg}[ZY pg](k:Nat)(g:Bool)(c:Int)(zs:List Str)(hz:NamesOk zs):∃r:Ru,SpOk r/\(r.most<=10000000/\(∀p∈r.lands,p.1∈zs)/\r.days<=10000000/\(g=false->r.most<=24/\r.days<=30))/\clK pg (k+1) "_law_spec" [.val (.int c),.bor (zs.map D.str),.val (.bl g)]=.ok (.val (spD r)):=by
 have two:=hz.two;have four:=hz.four;have hL:(0:Int) < (zs.length:Int):=by omega
 have mul:ZO c 48271=true:=JV (2:) (2:);generalize hN:c * 48271 % 2147483647=n;have hn:0<=n:=by rw[<-hN];exact Int.emod_nonneg _ (2:)
 obtain⟨z1,e1,f1⟩:=Zj (zs:=zs) (n % (zs.length:Int)) (Int.emod_nonneg _ (1:)) (Int.emod_lt_of_pos _ hL);obtain⟨z2,e2,f2⟩:=Zj (zs:=zs) ((n+1) % (zs.length:Int)) (Int.emod_nonneg _ (1:)) (Int.emod_lt_of_pos _ hL);have w1:LnOk (z1,1+n / 4 % 3):=⟨hz.ok _ (List.mem_of_getElem? f1),by dsimp only;omega,by dsimp only;omega⟩;have w2:LnOk (z2,1+n / 24 % 9):=⟨hz.ok _ (List.mem_of_getElem? f2),by dsimp only;omega,by dsimp only;omega⟩
 have lns:Lns zs n [(z1,1+n / 4 % 3),(z2,1+n / 24 % 9)]:=λi p hp=>by
  match i with
  |0=>simp at hp;subst hp;exact⟨by simpa using f1,w1⟩
  |1=>simp at hp;subst hp;exact⟨by simpa using f2,w2⟩
  | i+2=>simp at hp
 have nd2:=lns.nodup hz (by simpa using two);obtain⟨kd,ek⟩:=ql0 (n / 162000)
 have lands:∃l:List (Str×Int),(∀p∈l,LnOk p)/\((l.map (·.1)).Nodup/\1<=l.length/\l.length<=6)/\(((n / 12 % 2 == 1)=true/\l=[(z1,1+n / 4 % 3),(z2,1+n / 24 % 9)])\/((n / 12 % 2 == 1)=false/\l=[(z1,1+n / 4 % 3)])):=by
  cases q:(n / 12 % 2 == 1) with
  |true=>
   have ok:∀p∈[(z1,1+n / 4 % 3),(z2,1+n / 24 % 9)],LnOk p:=λp hp=>by
    rcases List.mem_cons.mp hp with rfl | hp
    ·exact w1
    ·rw[List.mem_singleton.mp hp];exact w2
   exact⟨_,ok,⟨nd2,by simp,by simp⟩,.inl ⟨rfl,rfl⟩⟩
  |false=>
   have ok:∀p∈[(z1,1+n / 4 % 3)],LnOk p:=λp hp=>by rw[List.mem_singleton.mp hp];exact w1
   exact⟨_,ok,⟨by simp,by simp,by simp⟩,.inr ⟨rfl,rfl⟩⟩
 obtain⟨l,lok,lnd,hl⟩:=lands
 have lz:∀p∈l,p.1∈zs:=by
  have q1:=List.mem_of_getElem? f1;have q2:=List.mem_of_getElem? f2;rcases hl with ⟨_,rfl⟩ | ⟨_,rfl⟩
  ·intro p hp;rcases List.mem_cons.mp hp with rfl | hp
   ·exact q1
   ·rw[List.mem_singleton.mp hp];exact q2
  ·intro p hp;rw[List.mem_singleton.mp hp];exact q1
 have s1:0+1+1<=sizeLine:=by decide+kernel
 have s0:0+1<=sizeLine:=by decide+kernel
 have s4:0+1+1+1+1<=sizeLine:=by decide+kernel
 have sa:0+1 < sizeLine:=by decide+kernel
 have gt:(1:Int) < (zs.length:Int):=by omega
 have p7:(10:Int) ^ (7:Int).toNat=10000000:=by decide
 have c7:(0:Int)<=7/\(7:Int)<=1000000/\(10:Int).natAbs < 2 ^ 64:=by decide
 have A:∀{β:Type} (K:Fl->R β),(iS (pg.kk k) 1000 (.ite (.and (.cmp .Eq (.bin .Mod (.bin .FloorDiv (.var 3) (.con (D.int 12))) (.con (D.int 2))) (.con (D.int 1))) (.one (.cmp .Gt (.b1 .len (.var 1)) (.con (D.int 1))))) %[.app 4 (.tup %[.idx (.var 1) (.bin .Mod (.bin .Add (.var 3) (.con (D.int 1))) (.b1 .len (.var 1))),.bin .Add (.con (D.int 1)) (.bin .Mod (.bin .FloorDiv (.var 3) (.con (D.int 24))) (.con (D.int 9)))|0])|0] .nil) [.val (.int c),.bor (zs.map D.str),.val (.bl g),.val (.int n),.own [.tup [.str z1,.int (1+n / 4 % 3)]],.no,.no]).th K=K (.next [.val (.int c),.bor (zs.map D.str),.val (.bl g),.val (.int n),.own (l.map lnD),.no,.no]):=by intro β K;rcases hl with ⟨q,rfl⟩ | ⟨q,rfl⟩<;>simp? only[YC,hL,e2,qp,q,gt,s1,sa,qep,List.map_cons,List.map_nil]
 have m0:0<=c % 10000000:=Int.emod_nonneg _ (2:);have m1:c % 10000000 < 10000000:=Int.emod_lt_of_pos _ (2:);have d0:0<=n % 10000000:=Int.emod_nonneg _ (2:);have d1:n % 10000000 < 10000000:=Int.emod_lt_of_pos _ (2:)
 obtain⟨most,days,⟨b1,b2,b3,b4,b5⟩,B⟩:∃most days:Int,(0<=most/\most<=10000000/\1<=days/\days<=10000000/\(g=false->most<=24/\days<=30))/\∀{β:Type} (K:Fl->R β),(iS (pg.kk k) 1000 (.ite (.val (.var 2)) %[.set 5 (.bin .Mod (.var 0) (.bin .Pow (.con (D.int 10)) (.con (D.int 7)))),.set 6 (.bin .Add (.con (D.int 1)) (.bin .Mod (.var 3) (.bin .Pow (.con (D.int 10)) (.con (D.int 7)))))|0] .nil) [.val (.int c),.bor (zs.map D.str),.val (.bl g),.val (.int n),.own (l.map lnD),.val (.int (n / 216 % 25)),.val (.int (1+n / 5400 % 30))]).th K=K (.next [.val (.int c),.bor (zs.map D.str),.val (.bl g),.val (.int n),.own (l.map lnD),.val (.int most),.val (.int days)]):=by
  cases g with
  |false=>exact⟨n / 216 % 25,1+n / 5400 % 30,⟨by omega,by omega,by omega,by omega,λ_=>⟨by omega,by omega⟩⟩,λK=>by simp? only[qp]⟩
  |true=>exact⟨c % 10000000,1+n % 10000000,⟨by omega,by omega,by omega,by omega,λh=>(by cases h)⟩,λK=>by simp? only[p7,c7]⟩
 refine⟨⟨kd,l,most,days⟩,⟨lnd.1,lnd.2.1,lnd.2.2,lok,b1,by dsimp only;omega,b3,by dsimp only;omega⟩,⟨b2,lz,b4,b5⟩,?_⟩;rw[r__law_spec];simp? only[↓A,↓B,YZ,YC,mul,hN,hL,e1,s0,s1,s4,qlY,ek]
end FY
namespace DG
open PySem DE FA Dy
open L2 hiding St
theorem Cnt.sum{n:Int}{f C:Int->Int}(h:Cnt false n f C){d a:Int}(w:WF f n d a):C d=(ws f a (d+1 - a).toNat).sum:=by
 have key:∀k:Nat,a+k - 1<=d->C (a+k - 1)=(ws f a k).sum:=by
  intro k
  induction k with
  |zero=>intro _;rw[show a+((0:Nat):Int) - 1=a - 1 by omega,h.idle rfl _ w.ahead];rfl
  |succ k ih=>intro hk;have b:=h.busy rfl (a+(k+1:Nat) - 1) (w.busy _ (1:) hk);rw[show a+((k+1:Nat):Int) - 1 - 1=a+(k:Int) - 1 by omega,ih (1:)] at b;rw[b,Zs,show a+((k+1:Nat):Int) - 1=a+(k:Int) by omega]
 have:=key (d+1 - a).toNat (by have:=w.le;omega)
 rw[show a+((d+1 - a).toNat:Int) - 1=d by have:=w.le;omega] at this;exact this
end DG
namespace DG
open PySem DE FA Dy
open L2 hiding St
theorem Cnt.loc{w:Bool}{n:Int}{f f' C C':Int->Int}(h:Cnt w n f C)(h':Cnt w n f' C')(hn:1<=n){D:Int}(he:∀x,x<=D->f' x=f x):C' D=C D:=by
 cases hw:w with
 |true=>rw[h.win hw,h'.win hw,qeC _ _ λx h1 h2=>he x (1:)]
 |false=>
  obtain⟨b,hb⟩:=h.low;obtain⟨b',hb'⟩:=h'.low
  have key:∀k:Nat,∀d,d<=D->d < mn b b'+k->C' d=C d:=by
   intro k;have m:=Zz b b'
   induction k with
   |zero=>intro d _ hd;rw[(hb d (1:)).1,(hb' d (1:)).1]
   |succ k ih=>
    intro d h1 hd
    by_cases i:Qb f n d
    ·have i':Qb f' n d:=λx hx hx'=>by rw[he x (1:)];exact i x hx hx'
     rw[h.idle hw d i,h'.idle hw d i']
    ·have i':¬ Qb f' n d:=λz=>i λx hx hx'=>by rw[<-he x (1:)];exact z x hx hx'
     rw[h.busy hw d i,h'.busy hw d i',he d h1,ih (d - 1) (1:) (1:)]
  exact key (D - mn b b'+1).toNat D (Int.le_refl _) (1:)
end DG
namespace DG
open PySem DE FA Dy
open L2 hiding St
theorem qck{z:Str}{a b:Int}:∀{st:List St},(∀s∈st,s.2.2 < a)->∀d,qK (st++[(z,a,b)]) d=if a<=d/\d<=b then some z else qK st d
 |[],_,d=>rfl
 | s::l,h,d=>by
  rw[List.cons_append,qK,qK,qck (λt ht=>h t (by simp[ht])) d]
  by_cases c:s.2.1<=d/\d<=s.2.2
  ·have:=h s (by simp)
   rw[if_pos c,if_pos c,if_neg (1:)]
  ·rw[if_neg c,if_neg c]
theorem Y0{r:Ru}{lf:List (Int×Int)}{st:List St}{z:Str}{a b:Int}(h:∀s∈st,s.2.2 < a)(d:Int):wgt r lf (st++[(z,a,b)]) d=if a<=d/\d<=b then (if qjy lf d=true then 0 else wt r.lands (some z)) else wgt r lf st d:=by
 unfold wgt;rw[qck h]
 split<;>split<;>rfl
theorem ZD{r:Ru}{lf:List (Int×Int)}{st:List St}{a:Int}(h:∀s∈st,s.2.2 < a){d:Int}(hd:a<=d):wgt r lf st d=0:=qbq (YH.mpr λs hs q=>by have:=h s hs;omega)
section
variable{x:Rl}{st:List St}{e0:Int}{z:Str}(hx:Rlw x)(hc:Chw e0 st)
include hx hc
theorem qhw{st':List St}{e1:Int}(hc':Chw e1 st'){D:Int}(h:∀y,y<=D->wgt x.1 x.2 st' y=wgt x.1 x.2 st y):cb st' x D=cb st x D:=Cnt.loc (qc9 hx hc) (qc9 hx hc') hx.days h
theorem qcl{a b:Int}(h:∀s∈st,s.2.2 < a)(h0:e0 < a)(hab:a<=b){D:Int}(hD:D < a):cb (st++[(z,a,b)]) x D=cb st x D:=
 qhw hx hc (Chw.snoc hc h h0 hab) λy hy=>by rw[Y0 h,if_neg (1:)]
theorem qeV{a b b':Int}(h:∀s∈st,s.2.2 < a)(h0:e0 < a)(hab:a<=b)(hab':a<=b'){D:Int}(hD:D<=b)(hD':D<=b'):cb (st++[(z,a,b)]) x D=cb (st++[(z,a,b')]) x D:=
 qhw hx (Chw.snoc hc h h0 hab') (Chw.snoc hc h h0 hab) λy hy=>by
  rw[Y0 h,Y0 h]
  by_cases q:a<=y
  ·rw[if_pos (show a<=y/\y<=b from⟨q,by omega⟩),if_pos (show a<=y/\y<=b' from⟨q,by omega⟩)]
  ·rw[if_neg (show ¬ (a<=y/\y<=b) fromλz=>q z.1),if_neg (show ¬ (a<=y/\y<=b') fromλz=>q z.1)]
theorem qgu{a b:Int}(h:∀s∈st,s.2.2 < a)(h0:e0 < a)(hab:a<=b){m:Int}(hb:cb (st++[(z,a,b)]) x b<=m){D:Int}(hD:b<=D):cb (st++[(z,a,b)]) x D<=m:=
 (qc9 hx (Chw.snoc hc h h0 hab)).keeps hx.days hb (b:=D+1) (λy h1 _=>by rw[Y0 h,if_neg (1:)];exact ZD h (1:)) D hD (1:)
end
end DG
namespace DG
open PySem DE FA Dy
open L2 hiding St
def ql9(A:List Rl)(st:List St)(z:Str)(e:Int):Prop:=∀x∈A,cb (st++[(z,e,e)]) x e<=x.1.most
theorem qhx{rs:List Ru}{ps:List Pa}{st:List St}{e:Int}(hc:Chw e st)(hr:∀x∈rlF ps 0 rs,Rlw x)(h:∀x∈rlF ps 0 rs,∀D,cb st x D<=x.1.most):qv rs ps st=none:=by
 cases q:qv rs ps st with
 |none=>rfl
 |some z=>
  obtain⟨⟨j,x,g1,_,_,g4,_⟩,_⟩:=(yR hc hr).2 z q
  have:=h x (List.mem_of_getElem? g1) z.1
  omega
section
variable{rs:List Ru}{ps:List Pa}{st:List St}{e0:Int}{z:Str}(hr:∀x∈rlF ps 0 rs,Rlw x)(hc:Chw e0 st)(hlet:∀x∈rlF ps 0 rs,∀D,cb st x D<=x.1.most)
include hr hc hlet
theorem ZE{a b:Int}(h:∀s∈st,s.2.2 < a)(h0:e0 < a)(hab:a<=b)(hf:∀x∈rlF ps 0 rs,∀D,a<=D->D<=b->cb (st++[(z,a,b)]) x D<=x.1.most):∀x∈rlF ps 0 rs,∀D,cb (st++[(z,a,b)]) x D<=x.1.most:=λx hx D=>by
 by_cases h1:D < a
 ·rw[qcl (hr x hx) hc h h0 hab h1];exact hlet x hx D
 ·by_cases h2:D<=b
  ·exact hf x hx D (1:) h2
  ·exact qgu (hr x hx) hc h h0 hab (hf x hx b hab (Int.le_refl _)) (1:)
theorem qgv{e:Int}(h:∀s∈st,s.2.2 < e)(h0:e0 < e):ql9 (rlF ps 0 rs) st z e↔qv rs ps (st++[(z,e,e)])=none:=by
 have hc':=Chw.snoc (s:=(z,e,e)) hc h h0 (Int.le_refl _);constructor
 ·intro f;exact qhx hc' hr (ZE hr hc hlet h h0 (Int.le_refl _) λx hx D h1 h2=>by rw[show D=e by omega];exact f x hx)
 ·intro q x hx;exact(yR hc' hr).1 q x hx e
noncomputable def qma(A:List Rl)(st:List St)(z:Str)(a b:Int):Option (Int×Int×Int)->Prop
 |some f=>a<=f.1/\f.1<=b/\(∃x∈A,x.1.most < cb (st++[(z,a,f.1)]) x f.1)/\∀y,a<=y->y < f.1->∀x∈A,∀D,cb (st++[(z,a,y)]) x D<=x.1.most
 |none=>∀y,a<=y->y<=b->∀x∈A,∀D,cb (st++[(z,a,y)]) x D<=x.1.most
theorem qjg{a b:Int}(h:∀s∈st,s.2.2 < a)(h0:e0 < a)(hab:a<=b):qma (rlF ps 0 rs) st z a b (qv rs ps (st++[(z,a,b)])):=by
 have hc':=Chw.snoc (s:=(z,a,b)) hc h h0 hab;have f:=yR hc' hr
 cases q:qv rs ps (st++[(z,a,b)]) with
 |none=>
  intro y h1 h2
  exact ZE hr hc hlet h h0 h1 λx hx D h3 h4=>by rw[qeV (hr x hx) hc h h0 h1 hab h4 (1:)];exact f.1 q x hx D
 |some w=>
  obtain⟨⟨j,x,g1,g2,g3,g4,g5⟩,lo⟩:=f.2 w q;have hx:=List.mem_of_getElem? g1
  have w1:a<=w.1:=by
   by_cases c:a<=w.1
   ·exact c
   ·rw[qcl (hr x hx) hc h h0 hab (1:)] at g4
    have:=hlet x hx w.1
    omega
  have w2:w.1<=b:=by
   by_cases c:w.1<=b
   ·exact c
   ·have l1:=lo x hx (w.1 - 1) (1:);have gr:=(qc9 (hr x hx) hc').grow (hr x hx).days w.1;rw[Y0 h,if_neg (1:),ZD h (1:)] at gr;omega
  refine⟨w1,w2,⟨x,hx,by rw[qeV (hr x hx) hc h h0 w1 hab (Int.le_refl _) w2];exact g4⟩,λy h1 h2=>?_⟩
  exact ZE hr hc hlet h h0 h1 λx' hx' D h3 h4=>by rw[qeV (hr x' hx') hc h h0 h1 hab h4 (1:)];exact lo x' hx' D (1:)
end
end DG
namespace DG
open PySem DE FA Dy
open L2 hiding St
theorem qjh{st:List St}{d:Int}(h:∀s∈st,s.2.2 < d)(h0:0<=d):qmF st < d:=by
 unfold qmF
 cases q:st.getLast? with
 |none=>dsimp only;omega
 |some s=>exact h s (List.mem_of_getLast? q)
structure LimOk(rs:List Ru)(ps:List Pa)(st:List St):Prop where
 w:∀x∈rlF ps 0 rs,Rlw x
 lf:∀x∈rlF ps 0 rs,x.2.length<=5
 r8:rs.length<=8
 p18:ps.length<=18
 ch:Ch (-1) st
 nm:∀s∈st,NameOk s.1
 len:st.length<=60
 fit:∀x∈rlF ps 0 rs,∀D,cb st x D<=x.1.most
end DG
namespace DG
open PySem DE FA Dy
open L2 hiding St
theorem qhy:∀l:List (Str×Int),qfj (l.map lnD)=some l
 |[]=>rfl
 | p::l=>by rw[List.map_cons,qfj,qhy l];rfl
theorem qeW(z:Str):∀l:List (Str×Int),(qid l z).getD 0=wt l (some z)
 |[]=>rfl
 | p::l=>by
  have ih:=qeW z l;unfold qid at ih ⊢;unfold wt
  by_cases e:p.1=z
  ·rw[List.find?_cons,show decide (p.1=z)=true from decide_eq_true e,if_pos (by rw[e])];rfl
  ·rw[List.find?_cons,show decide (p.1=z)=false from decide_eq_false e,if_neg (λq=>e (by cases q;rfl))];exact ih
theorem qji{l:List (Str×Int)}(nd:(l.map (·.1)).Nodup)(z:Str):qcR 0 (.val (.lst (l.map lnD))) (.val (.str z))=.ok (.val (.int (wt l (some z)))):=by show(match qfj (l.map lnD) with |some kvs=>_ |none=>_)=_;rw[qhy];dsimp only;rw[if_pos nd,qeW]
end DG
namespace DG
open PySem L2 DE
noncomputable abbrev yH:Ss:=%[.ite (.or (.not (.val (.call "is_name" %[3|0]))) (.one (.cmp .In (.var 3) (.var 2)))) %[.ret (.con (.bl false))|0] .nil,.app 2 (.var 3)|0]
def jK:Ss:=yH
theorem Y1:USs jK yH:=λ_ _ _ _=>(rfl)
noncomputable def yT:Nat×Nat×Ss:=(2,4,%[.ite (.or (.not (.val (.isi Ty.list (.var 0)))) (.or (.cmp .Lt (.b1 .len (.var 0)) (.con (.int 1))) (.one (.cmp .Gt (.b1 .len (.var 0)) (.var 1))))) %[.ret (.con (.bl false))|0] .nil,.set 2 (.lst .nil),.for_ (.one 3) (.seq (.var 0)) jK,.ret (.con (.bl true))|0])
class PN(pg:Pg):Prop where
 r_are_names:RW pg "are_names" yT
noncomputable abbrev Jo:Ss:=%[.set 5 (.call "pieces_among" %[0,3,1|0]),.ite (.cmp .Gt (.call "count_among" %[4,5,2|0]) (.fld (.var 4) "most")) %[.ret (.tup %[2,3,.call "first_of_window" %[4,5,2|0]|0])|0] .nil|0]
def yn:Ss:=Jo
theorem yI:USs yn Jo:=λ_ _ _ _=>(rfl)
noncomputable def JK:Nat×Nat×Ss:=(3,6,%[.for_ (.many [3,4]) (.enum (.met (.var 0) "rules" .nil)) yn,.ret (.con .non)|0])
noncomputable abbrev jT:Ss:=%[.set 6 (.call "fault_on" %[0,.bin .Add (.var 1) (.lst %[.tup %[5,3,3|0]|0]),3|0]),.ite (.cmp .Is (.var 6) (.con .non)) %[.ret (.tup %[3,5,4|0])|0] .nil,.app 4 (.tup %[5,6|0])|0]
def zL:Ss:=jT
theorem ju:USs zL jT:=λ_ _ _ _=>(rfl)
noncomputable def jL:Nat×Nat×Ss:=(4,7,%[.set 4 (.lst .nil),.for_ (.one 5) (.seq (.var 2)) zL,.ret (.tup %[3,.con .non,4|0])|0])
noncomputable abbrev J1:Ss:=%[.set 8 (.call "planned_day" %[0,5,2,7|0]),.app 6 (.var 8),.ite (.cmp .IsNot (.idx (.var 8) (.con (.int 1))) (.con .non)) %[.app 5 (.tup %[.idx (.var 8) (.con (.int 1)),7,7|0])|0] .nil|0]
def yU:Ss:=J1
theorem Jp:USs yU J1:=λ_ _ _ _=>(rfl)
noncomputable def qaM:Nat×Nat×Ss:=(5,9,%[.set 5 (.call "let_stays" %[0,1|0]),.expr (.call "check_day" %[5,3|0]),.ite (.not (.val (.call "are_names" %[2,.con (.int 6)|0]))) %[.stuck|0] .nil,.set 6 (.lst .nil),.for_ (.one 7) (.rng2 (.var 3) (.bin .Add (.var 3) (.var 4))) yU,.ret (.var 6)|0])
class PF(pg:Pg):Prop where
 r_fault_on:RW pg "fault_on" JK
 r_planned_day:RW pg "planned_day" jL
 r_plan_of:RW pg "plan_of" qaM
end DG
namespace DG
open PySem DE FA Dy
open L2 hiding St
open CH ST SP RU BO BT PC SU FK FM FO LI PN PF
noncomputable def qcm(st:List St)(e:Int):List Rl->Nat->Option (Int×Int×Int)
 |[],_=>none
 | x::l,i=>if x.1.most < cb st x e then some (e,(i:Int),J7 x.1 (qX st x) e) else qcm st e l (i+1)
theorem qeX(st:List St)(e:Int):∀(l:List Rl) (i:Nat),(qcm st e l i=none/\∀x∈l,cb st x e<=x.1.most)\/∃(j:Nat) (x:Rl),l[j]?=some x/\qcm st e l i=some (e,((i+j:Nat):Int),J7 x.1 (qX st x) e)/\x.1.most < cb st x e/\∀j',j' < j->∀y,l[j']?=some y->cb st y e<=y.1.most
 |[],i=>.inl ⟨rfl,λx h=>by cases h⟩
 | x::l,i=>by
  by_cases c:x.1.most < cb st x e
  ·exact .inr ⟨0,x,rfl,by rw[qcm,if_pos c];rfl,c,λj h=>absurd h (1:)⟩
  ·rw[qcm,if_neg c];rcases qeX st e l (i+1) with ⟨h1,h2⟩ | ⟨j,y,h1,h2,h3,h4⟩
   ·refine .inl ⟨h1,λy hy=>?_⟩;rcases List.mem_cons.mp hy with rfl | hy
    ·omega
    ·exact h2 y hy
   ·refine .inr ⟨j+1,y,h1,by rw[h2,show i+1+j=i+(j+1) by omega],h3,λj' hj u hu=>?_⟩
    cases j' with
    |zero=>cases hu;omega
    | succ j'=>exact h4 j' (1:) u hu
structure Kp(rs:List Ru)(ps:List Pa)(st:List St)(e:Int):Prop where
 w:∀x∈rlF ps 0 rs,Rlw x
 p18:ps.length<=18
 ch:Chw (-1) st
 nm:∀s∈st,NameOk s.1
 fit:∀x∈rlF ps 0 rs,∀D,cb st x D<=x.1.most
 lt:∀s∈st,s.2.2 < e
 e0:0<=e
section
variable{rs:List Ru}{ps:List Pa}{st:List St}{e:Int}(h:Kp rs ps st e){z:Str}
include h
theorem Kp.ch1:Chw (-1) (st++[(z,e,e)]):=Chw.snoc h.ch h.lt (by show -1 < e;have:=h.e0;omega) (Int.le_refl _)
theorem Kp.fon:qcm (st++[(z,e,e)]) e (rlF ps 0 rs) 0=qv rs ps (st++[(z,e,e)]):=by
 have li:=qjg h.w h.ch h.fit (z:=z) h.lt (by show -1 < e;have:=h.e0;omega) (Int.le_refl e);have fb:=yR (h.ch1 (z:=z)) h.w;rcases qeX (st++[(z,e,e)]) e (rlF ps 0 rs) 0 with ⟨h1,h2⟩ | ⟨j,x,h1,h2,h3,h4⟩
 ·rw[h1];exact((qgv h.w h.ch h.fit h.lt (by show -1 < e;have:=h.e0;omega)).mp h2).symm
 ·cases q:qv rs ps (st++[(z,e,e)]) with
  |none=>have:=fb.1 q x (List.mem_of_getElem? h1) e;omega
  |some f=>
   rw[q] at li;have fe:f.1=e:=by have:=li.1;have:=li.2.1;omega
   obtain⟨⟨j',y,g1,g2,g3,g4,g5⟩,lo⟩:=fb.2 f q;rw[fe] at g3 g4 g5
   have ej:j'=j:=by
    rcases Nat.lt_trichotomy j' j with u | u | u
    ·have:=h4 j' u y g1;omega
    ·exact u
    ·have:=g5 j u x h1;omega
   subst ej;rw[h1] at g1;cases g1;rw[h2,Nat.zero_add,<-g3,<-g2,<-fe]
theorem Kp.next:Kp rs ps st (e+1):=⟨h.w,h.p18,h.ch,h.nm,h.fit,λs hs=>by have:=h.lt s hs;omega,by have:=h.e0;omega⟩
theorem Kp.more(hz:NameOk z)(q:qv rs ps (st++[(z,e,e)])=none):Kp rs ps (st++[(z,e,e)]) (e+1):=by
 refine⟨h.w,h.p18,h.ch1,λs hs=>?_,(yR h.ch1 h.w).1 q,λs hs=>?_,by have:=h.e0;omega⟩
 ·rcases List.mem_append.mp hs with y | y
  ·exact h.nm s y
  ·rw[List.mem_singleton.mp y];exact hz
 ·rcases List.mem_append.mp hs with y | y
  ·have:=h.lt s y;omega
  ·rw[List.mem_singleton.mp y];show e < e+1;omega
end
noncomputable def pdF(rs:List Ru)(ps:List Pa)(st:List St)(e:Int):List Str->List (Str×Int×Int×Int)->Option Str×List (Str×Int×Int×Int)
 |[],acc=>(none,acc)
 | z::zs,acc=>match qv rs ps (st++[(z,e,e)]) with
  |none=>(some z,acc)
  |some f=>pdF rs ps st e zs (acc++[(z,f)])
def Y2(p:Str×Int×Int×Int):D:=.tup [.str p.1,f3D p.2]
def qjB:Option Str->D
 |none=>.non
 |some z=>.str z
def pdD(e:Int)(p:Option Str×List (Str×Int×Int×Int)):D:=.tup [.int e,qjB p.1,.lst (p.2.map Y2)]
theorem qcn{rs:List Ru}{ps:List Pa}{st:List St}{e:Int}{z:Str}:∀{zs:List Str} {acc:List (Str×Int×Int×Int)},(pdF rs ps st e zs acc).1=some z->z∈zs/\qv rs ps (st++[(z,e,e)])=none
 |[],acc,h=>by cases h
 | y::zs,acc,h=>by
  rw[pdF] at h
  cases q:qv rs ps (st++[(y,e,e)]) with
  |none=>rw[q] at h;cases h;exact⟨by simp,q⟩
  |some f=>rw[q] at h;have:=qcn h;exact⟨by simp[this.1],this.2⟩
def J9(st:List St)(e:Int):Option Str->List St
 |none=>st
 |some z=>st++[(z,e,e)]
noncomputable def plF(rs:List Ru)(ps:List Pa)(zs:List Str):Nat->Int->List St->List D×List St
 |0,_,st=>([],st)
 | n+1,e,st=>(pdD e (pdF rs ps st e zs [])::(plF rs ps zs n (e+1) (J9 st e (pdF rs ps st e zs []).1)).1,(plF rs ps zs n (e+1) (J9 st e (pdF rs ps st e zs []).1)).2)
theorem Kp.keep{rs:List Ru}{ps:List Pa}{st:List St}{e:Int}{zs:List Str}(h:Kp rs ps st e)(hz:∀z∈zs,NameOk z):Kp rs ps (J9 st e (pdF rs ps st e zs []).1) (e+1):=by
 cases q:(pdF rs ps st e zs []).1 with
 |none=>exact h.next
 |some z=>have:=qcn q;exact h.more (hz z this.1) this.2
section
variable{pg:Pg}[RU pg][BO pg][SP pg][BT pg][PC pg][SU pg][FK pg][PF pg]{rs:List Ru}{ps:List Pa}
theorem qco(k:Nat)(b:Bool)(hp:ps.length<=18)(st:List St)(hs:∀s∈st,NameOk s.1)(hl:st.length<=170)(e:Int):∀(rest:List Rl) (i:Nat) (s3 s4 s5:Sl),(∀(j:Nat) x,rest[j]?=some x->rs[i+j]?=some x.1/\x.2=zU ((i+j:Nat):Int) ps/\RlOk st x)->
  ∃F,jN (pg.kk (k+6)) 1000 (.many [3,4]) yn (enF i (rest.map λx=>ruI x.1)) [.val (bkI rs ps),pS b (st.map stD),.val (.int e),s3,s4,s5]=.ok F/\(qcm st e rest i=none->∃ρ',F=.next ρ')/\∀z,qcm st e rest i=some z->F=.ret (.val (f3D z))
 |[],i,s3,s4,s5,_=>⟨_,rfl,λ_=>⟨_,rfl⟩,λz h=>by cases h⟩
 | x::rest,i,s3,s4,s5,h=>by
  obtain⟨e1,e2,ok⟩:=h 0 x rfl;rw[Nat.add_zero] at e1 e2
  have nxt:∀(j:Nat) y,rest[j]?=some y->rs[i+1+j]?=some y.1/\y.2=zU ((i+1+j:Nat):Int) ps/\RlOk st y:=λj y hy=>by
   have:=h (j+1) y hy
   rwa[show i+(j+1)=i+1+j by omega] at this
  have p:=qaI (pg:=pg) (k+3) b rs ps hp i x.1 e1 ok.ln (by rw[<-e2];exact ok.lf) st hs hl;rw[<-e2] at p;rw[show qq x.1 x.2 st=qX st x from rfl] at p;have co:clK pg (k+6) "count_among" [.val (ruI x.1),.bor ((qX st x).map paD),.val (.int e)]=.ok (.val (.int (cb st x e))):=jI (pg:=pg) (k+3) true x.1 (qX st x) ok.w e;have fw:clK pg (k+6) "first_of_window" [.val (ruI x.1),.bor ((qX st x).map paD),.val (.int e)]=.ok (.val (.int (J7 x.1 (qX st x) e))):=qeG (pg:=pg) (k+4) true x.1 (qX st x) e;have three:0+1+1+1<=sizeLine:=by decide+kernel
  by_cases c:x.1.most < cb st x e
  ·refine⟨.ret (.val (f3D (e,(i:Int),J7 x.1 (qX st x) e))),?_,λq=>?_,λz q=>?_⟩
   ·refine(qf _).symm.trans ?_;rw[List.map_cons,enF];simp? only[yI,p,co,RU.cs,Zo,c,fw,three,f3D]
   ·rw[qcm,if_pos c] at q;cases q
   ·rw[qcm,if_pos c] at q;cases q;rfl
  ·obtain⟨F,ih,f1,f2⟩:=qco k b hp st hs hl e rest (i+1) (.val (.int i)) (.val (ruI x.1)) (.own ((qX st x).map paD)) nxt;rw[qcm,if_neg c];refine⟨F,?_,f1,f2⟩;refine(qf _).symm.trans ?_;rw[List.map_cons,enF];simp? only[yI,p,co,RU.cs,Zo,c,ih]
theorem qmb(k:Nat){st:List St}{e:Int}(h:Kp rs ps st e){z:Str}(hz:NameOk z)(hl:st.length<=160):clK pg (k+7) "fault_on" [.val (bkI rs ps),.val (.lst (st.map stD++[.tup [.str z,.int e,.int e]])),.val (.int e)]=.ok (.val (YF (qv rs ps (st++[(z,e,e)])))):=by
 have a:=Zp (pg:=pg) (k+5) rs ps;have e9:st.map stD++[.tup [.str z,.int e,.int e]]=(st++[(z,e,e)]).map stD:=by rw[List.map_append];rfl
 have F:=h.fon (z:=z);have c1:=h.ch1 (z:=z);rw[e9,<-F];generalize hS:st++[(z,e,e)]=S at c1
 have hn:∀s∈S,NameOk s.1:=λs hs=>by
  rw[<-hS] at hs;rcases List.mem_append.mp hs with y | y
  ·exact h.nm s y
  ·rw[List.mem_singleton.mp y];exact hz
 obtain⟨F,lp,f1,f2⟩:=qco (pg:=pg) (rs:=rs) k false h.p18 S hn (by rw[<-hS,List.length_append];show st.length+1<=170;omega) e (rlF ps 0 rs) 0 .no .no .no (λj x hx=>by have hm:=List.mem_of_getElem? hx;rw[YG] at hx;obtain⟨r,e1,e2⟩:=Option.map_eq_some_iff.mp hx;rw[Nat.zero_add];rw[Nat.zero_add] at e2;exact⟨by rw[e1,<-e2],by rw[<-e2],qja (h.w x hm) c1⟩)
 rw[qez,show pS false (S.map stD)=.val (.lst (S.map stD)) from rfl] at lp;rw[r_fault_on]
 cases q:qcm S e (rlF ps 0 rs) 0 with
 |none=>
  obtain⟨ρ',e'⟩:=f1 q;rw[e'] at lp
  try simp only[qau,qav,YF] at lp ⊢
  simp? only[JK,RU.cs,Yg,a,y6,lp]
 |some w=>
  rw[f2 w q] at lp
  try simp only[qau,qav,YF] at lp ⊢
  simp? only[JK,RU.cs,Yg,a,y6,lp]
theorem qeY(k:Nat){st:List St}{e:Int}(h:Kp rs ps st e)(hl:st.length<=160)(v2:Sl):∀(zs:List Str) (acc:List (Str×Int×Int×Int)) (s5 s6:Sl),(∀z∈zs,NameOk z)->acc.length+zs.length < 1000->
  ∃F,jN (pg.kk (k+7)) 1000 (.one 5) zL (zs.map D.str) [.val (bkI rs ps),.bor (st.map stD),v2,.val (.int e),.own (acc.map Y2),s5,s6]=.ok F/\((pdF rs ps st e zs acc).1=none->∃s5' s6',F=.next [.val (bkI rs ps),.bor (st.map stD),v2,.val (.int e),.own ((pdF rs ps st e zs acc).2.map Y2),s5',s6'])/\∀z,(pdF rs ps st e zs acc).1=some z->F=.ret (.val (pdD e (pdF rs ps st e zs acc)))
 |[],acc,s5,s6,_,_=>⟨_,rfl,λ_=>⟨_,_,rfl⟩,λz q=>by cases q⟩
 | z::zs,acc,s5,s6,hz,ha=>by
  rw[List.length_cons] at ha;have fo:=qmb (pg:=pg) k h (hz z (by simp)) hl;have one:0+1<=sizeLine:=by decide+kernel
  have two:0+1+1<=sizeLine:=by decide+kernel
  have three:0+1+1+1<=sizeLine:=by decide+kernel
  have z1:st.length+(0+1)<=sizeLine:=qy (1:);have za:acc.length < sizeLine:=qr (1:);rw[pdF,List.map_cons]
  cases q:qv rs ps (st++[(z,e,e)]) with
  |none=>rw[q] at fo;dsimp only[YF] at fo ⊢;refine⟨.ret (.val (pdD e (some z,acc))),?_,λw=>(by cases w),λw hw=>rfl⟩;refine(qf _).symm.trans ?_;simp? only[ju,one,three,List.length_map,z1,fo,pdD,qjB]
  |some f=>rw[q] at fo;obtain⟨F,ih,f1,f2⟩:=qeY k h hl v2 zs (acc++[(z,f)]) (.val (.str z)) (.val (f3D f)) (λy hy=>hz y (by simp[hy])) (by simp;omega);dsimp only[YF] at fo ⊢;refine⟨F,?_,f1,f2⟩;simp only[List.map_append,List.map_cons,List.map_nil,Y2] at ih;rw[show(f3D f)=.tup [.int f.1,.int f.2.1,.int f.2.2] from rfl] at fo ih;refine(qf _).symm.trans ?_;simp? only[ju,one,two,three,List.length_map,z1,za,fo,ih]
theorem qny(k:Nat)(b2:Bool){st:List St}{e:Int}(h:Kp rs ps st e)(hl:st.length<=160)(zs:List Str)(hz:∀z∈zs,NameOk z)(hzl:zs.length < 1000):clK pg (k+8) "planned_day" [.val (bkI rs ps),.bor (st.map stD),aL b2 (zs.map D.str),.val (.int e)]=.ok (.val (pdD e (pdF rs ps st e zs []))):=by
 obtain⟨F,lp,f1,f2⟩:=qeY (pg:=pg) k h hl (pS b2 (zs.map D.str)) zs [] .no .no hz (by simp;omega);rw[List.map_nil] at lp;have z0:(0:Nat)<=sizeLine:=by decide+kernel
 have three:0+1+1+1<=sizeLine:=by decide+kernel
 rw[r_planned_day]
 cases q:(pdF rs ps st e zs []).1 with
 |none=>obtain⟨s5',s6',e'⟩:=f1 q;rw[e'] at lp;simp? only[jL,z0,three,lp,pdD,q,qjB]
 |some w=>rw[f2 w q] at lp;simp? only[jL,z0,three,lp]
end
end DG
namespace DG
open PySem DE FA Dy
open L2 hiding St
open CH ST SP RU BO BT PC SU FK FM FO LI PN PF
section
variable{pg:Pg}[CH pg]
theorem QO(k:Nat)(v0 v1:Sl):∀(zs acc:List Str) (s3:Sl),(∀z∈zs,NameOk z)->(acc++zs).Nodup->acc.length+zs.length < 1000->
  ∃s3',jN (pg.kk (k+2)) 1000 (.one 3) jK (zs.map D.str) [v0,v1,.own (acc.map D.str),s3]=.ok (.next [v0,v1,.own ((acc++zs).map D.str),s3'])
 |[],acc,s3,_,_,_=>⟨s3,by simp[qL]⟩
 | z::zs,acc,s3,hz,hn,ha=>by
  rw[List.length_cons] at ha;have nm:=qbj (pg:=pg) k z (hz z (by simp));have mm:=qaB z acc
  have nc:acc.contains z=false:=by
   rw[List.contains_eq_any_beq,List.any_eq_false];intro y hy q;have q:z=y:=by simpa using q
   subst q;exact(List.nodup_append.mp hn).2.2 z hy z (by simp) rfl
  rw[nc] at mm;obtain⟨s3',ih⟩:=QO k v0 v1 zs (acc++[z]) (.val (.str z)) (λy hy=>hz y (by simp[hy])) (by simpa using hn) (by simp;omega);refine⟨s3',?_⟩;have za:acc.length < sizeLine:=qr (1:);simp only[List.map_append,List.map_cons,List.map_nil,List.append_assoc,List.cons_append,List.nil_append] at ih ⊢;refine(qf _).symm.trans ?_;simp? only[Y1,nm,mm,List.length_map,za,ih]
theorem qbv[PN pg](k:Nat)(b:Bool)(zs:List Str)(hz:∀z∈zs,NameOk z)(hn:zs.Nodup)(h1:1<=zs.length)(h6:zs.length<=6):clK pg (k+3) "are_names" [aL b (zs.map D.str),.val (.int 6)]=.ok (.val (.bl true)):=by
 obtain⟨s3,lp⟩:=QO (pg:=pg) k (pS b (zs.map D.str)) (.val (.int 6)) zs [] .no hz (by simpa using hn) (by simp;omega);rw[List.map_nil,List.nil_append] at lp;have z0:(0:Nat)<=sizeLine:=by decide+kernel
 have c1:¬ (zs.length:Int) < 1:=by omega
 have c6:¬ (6:Int) < (zs.length:Int):=by omega
 rw[r_are_names]
 cases b with
 |true=>rw[show pS true (zs.map D.str)=.bor (zs.map D.str) from rfl] at lp;simp only[qau];simp? only[yT,List.length_map,c1,c6,z0,lp]
 |false=>rw[show pS false (zs.map D.str)=.val (.lst (zs.map D.str)) from rfl] at lp;simp only[qav];simp? only[yT,List.length_map,c1,c6,z0,lp]
end
section
variable{pg:Pg}[RU pg][BO pg][SP pg][BT pg][PC pg][SU pg][FK pg][PF pg]{rs:List Ru}{ps:List Pa}
theorem qbw(k:Nat)(b2:Bool)(zs:List Str)(hz:∀z∈zs,NameOk z)(hzl:zs.length < 1000)(v1 v3 v4:Sl):∀(n:Nat) (e:Int) (st:List St) (acc:List D) (s7 s8:Sl),Kp rs ps st e->st.length+n<=160->acc.length+n < 1000->
  ∃s7' s8',jN (pg.kk (k+8)) 1000 (.one 7) yU (rgF e n) [.val (bkI rs ps),v1,pS b2 (zs.map D.str),v3,v4,.own (st.map stD),.own acc,s7,s8]=.ok (.next [.val (bkI rs ps),v1,pS b2 (zs.map D.str),v3,v4,.own ((plF rs ps zs n e st).2.map stD),.own (acc++(plF rs ps zs n e st).1),s7',s8'])
 |0,e,st,acc,s7,s8,_,_,_=>⟨s7,s8,by simp[rgF,plF,qL]⟩
 | n+1,e,st,acc,s7,s8,h,hl,ha=>by
  have pd:=qny (pg:=pg) k b2 h (1:) zs hz hzl;have kp:=h.keep (zs:=zs) hz;have za:acc.length < sizeLine:=qr (1:);have zs':st.length < sizeLine:=qr (1:);have three:0+1+1+1<=sizeLine:=by decide+kernel
  have a1:∀x y z:D,atI [x,y,z] 1=some y:=λ_ _ _=>rfl;rw[plF]
  cases q:(pdF rs ps st e zs []).1 with
  |none=>rw[q] at kp;obtain⟨s7',s8',ih⟩:=qbw k b2 zs hz hzl v1 v3 v4 n (e+1) st (acc++[pdD e (pdF rs ps st e zs [])]) (.val (.int e)) (.val (pdD e (pdF rs ps st e zs []))) kp (1:) (by simp;omega);refine⟨s7',s8',?_⟩;dsimp only[J9];rw[List.append_assoc,List.cons_append,List.nil_append] at ih;rw[show pdD e (pdF rs ps st e zs [])=.tup [.int e,.non,.lst ((pdF rs ps st e zs []).2.map Y2)] by rw[pdD,q];rfl] at pd ih ⊢;generalize (pdF rs ps st e zs []).2.map Y2=L at pd ih ⊢;refine(qf _).symm.trans ?_;rw[rgF];simp? only[Jp,pd,za,a1,ih]
  |some z=>rw[q] at kp;obtain⟨s7',s8',ih⟩:=qbw k b2 zs hz hzl v1 v3 v4 n (e+1) (st++[(z,e,e)]) (acc++[pdD e (pdF rs ps st e zs [])]) (.val (.int e)) (.val (pdD e (pdF rs ps st e zs []))) kp (by rw[List.length_append];show st.length+1+n<=160;omega) (by simp;omega);refine⟨s7',s8',?_⟩;dsimp only[J9];rw[List.append_assoc,List.cons_append,List.nil_append,List.map_append (l₁:=st),List.map_cons,List.map_nil,zm] at ih;rw[show pdD e (pdF rs ps st e zs [])=.tup [.int e,.str z,.lst ((pdF rs ps st e zs []).2.map Y2)] by rw[pdD,q];rfl] at pd ih ⊢;generalize (pdF rs ps st e zs []).2.map Y2=L at pd ih ⊢;dsimp only at ih;refine(qf _).symm.trans ?_;rw[rgF];simp? only[Jp,pd,za,zs',three,List.length_map,a1,ih]
end
section
variable{pg:Pg}[CH pg][ST pg][RU pg][BO pg][SP pg][BT pg][PC pg][SU pg][FK pg][FM pg][LI pg][PN pg][PF pg]{rs:List Ru}{ps:List Pa}
theorem qjj(k:Nat)(b b2:Bool){st:List St}(o:LimOk rs ps st){d:Int}(h0:0<=d)(h1:d<=1000000000)(h:∀s∈st,s.2.2 < d)(zs:List Str)(hz:∀z∈zs,NameOk z)(hn:zs.Nodup)(hl1:1<=zs.length)(hl6:zs.length<=6)(n:Nat)(hn100:n<=100) :
  clK pg (k+9) "plan_of" [.val (bkI rs ps),aL b (st.map stD),aL b2 (zs.map D.str),.val (.int d),.val (.int (n:Int))]=.ok (.tmp (plF rs ps zs n d st).1):=by
 have e1:=ql8 (pg:=pg) k b rs ps o.p18 st o.ch o.nm o.len (λx hx=>qja (o.w x hx) o.ch.w) (qhx o.ch.w o.w o.fit);have e2:clK pg (k+8) "check_day" [.bor (st.map stD),.val (.int d)]=.ok (.val .non):=qbu (pg:=pg) (k+5) true st o.len d h0 h1 (qjh h h0);have e3:clK pg (k+8) "are_names" [aL b2 (zs.map D.str),.val (.int 6)]=.ok (.val (.bl true)):=qbv (pg:=pg) (k+5) b2 zs hz hn hl1 hl6;obtain⟨s7,s8,lp⟩:=qbw (pg:=pg) k b2 zs hz (1:) (pS b (st.map stD)) (.val (.int d)) (.val (.int (n:Int))) n d st [] .no .no ⟨o.w,o.p18,o.ch.w,o.nm,o.fit,h,h0⟩ (by have:=o.len;omega) (by simp;omega);rw[List.nil_append] at lp;have z0:(0:Nat)<=sizeLine:=by decide+kernel
 have s1:qD d=true:=yg (1:) (1:);have s2:qD (d+(n:Int))=true:=yg (1:) (1:);have tn:(d+(n:Int) - d).toNat=n:=by omega
 rw[r_plan_of];simp? only[qaM,e1,e2,e3,z0,s1,s2,y7,tn,lp]
end
end DG
namespace FX
open PySem L2 DE DG
noncomputable abbrev jU:Ss:=%[.set 13 (.bin .Add (.var 13) (.lst %[.tup %[14,.b2 .min (.var 15) (.bin .Sub (.var 11) (.con (.int 1)))|0],.tup %[.b2 .max (.var 14) (.bin .Add (.var 12) (.con (.int 1))),15|0]|0]))|0]
def zM:Ss:=jU
theorem JL:USs zM jU:=λ_ _ _ _=>(rfl)
abbrev jV:E:=(.var 0)
def zN:E:=jV
theorem jv:UE zN jV:=λ_ _ _=>(rfl)
noncomputable abbrev jW:Ss:=%[.ite (.cmp .Eq (.var 10) (.var 2)) %[.set 13 (.lst .nil),.for_ (.many [14,15]) (.seq (.var 9)) zM,.set 9 (.comp zN (.seq (.var 13)) (.one 0) (.test (.cmp .LtE (.idx (.var 0) (.con (.int 0))) (.idx (.var 0) (.con (.int 1))))) 1 [])|0] .nil|0]
def zO:Ss:=jW
theorem jw:USs zO jW:=λ_ _ _ _=>(rfl)
abbrev jX:E:=(.tup %[0,1,2|0])
def zP:E:=jX
theorem JM:UE zP jX:=λ_ _ _=>(rfl)
noncomputable abbrev jY:Ss:=%[.set 8 (.b2 (.get 0) (.idx (.var 0) (.con (.int 1))) (.var 5)),.set 9 (.lst %[.tup %[6,7|0]|0]),.for_ (.many [10,11,12]) (.seq (.var 1)) zO,.ite (.cmp .Gt (.var 8) (.con (.int 0))) %[.set 4 (.bin .Add (.var 4) (.comp zP (.seq (.b1 .srt (.var 9))) (.many [0,1]) .yes 2 [8]))|0] .nil|0]
def zQ:Ss:=jY
theorem jx:USs zQ jY:=λ_ _ _ _=>(rfl)
noncomputable def Jq:Nat×Nat×Ss:=(4,16,%[.set 4 (.lst .nil),.for_ (.many [5,6,7]) (.seq (.var 3)) zQ,.ret (.var 4)|0])
class XP(pg:Pg):Prop where
 r__law_pieces:RW pg "_law_pieces" Jq
noncomputable abbrev Jr:E:=(.bin .Mult (.var 2) (.b2 .max (.con (.int 0)) (.bin .Add (.bin .Sub (.b2 .min (.var 1) (.var 4)) (.b2 .max (.var 0) (.var 3))) (.con (.int 1)))))
def yo:E:=Jr
theorem Qj:UE yo Jr:=λ_ _ _=>(rfl)
noncomputable def QP:Nat×Nat×Ss:=(3,3,%[.ret (.b1 .sum (.comp yo (.seq (.var 0)) (.many [0,1,2]) .yes 3 [1,2]))|0])
noncomputable abbrev yq:Ss:=%[.ite (.cmp .LtE (.var 6) (.var 2)) %[.ite (.or (.cmp .Is (.var 5) (.con .non)) (.one (.cmp .GtE (.bin .Sub (.bin .Sub (.var 6) (.var 5)) (.con (.int 1))) (.var 3)))) %[.set 4 (.var 6)|0] .nil,.set 5 (.b2 .min (.var 7) (.var 2))|0] .nil|0]
def je:Ss:=yq
theorem qP:USs je yq:=λ_ _ _ _=>(rfl)
noncomputable def qT:Nat×Nat×Ss:=(3,9,%[.ite (.cmp .Eq (.idx (.var 0) (.con (.int 0))) (.con (.int 0))) %[.ret (.bin .Add (.bin .Sub (.var 2) (.idx (.var 0) (.con (.int 3)))) (.con (.int 1)))|0] .nil,.set 3 (.idx (.lst %[.con (.int 1),.idx (.var 0) (.con (.int 3)),.con (.int 1)|0]) (.idx (.var 0) (.con (.int 0)))),.set 4 (.con .non),.set 5 (.con .non),.for_ (.many [6,7,8]) (.seq (.var 1)) je,.ite (.or (.cmp .Is (.var 5) (.con .non)) (.one (.cmp .GtE (.bin .Sub (.var 2) (.var 5)) (.var 3)))) %[.ret (.con .non)|0] .nil,.ret (.var 4)|0])
noncomputable def yr:Nat×Nat×Ss:=(3,4,%[.set 3 (.call "_law_first" %[0,1,2|0]),.ite (.cmp .Is (.var 3) (.con .non)) %[.ret (.con (.int 0))|0] .nil,.ret (.call "_law_sum" %[1,3,2|0])|0])
class XS(pg:Pg):Prop where
 r__law_sum:RW pg "_law_sum" QP
class XC(pg:Pg):Prop where
 r__law_first:RW pg "_law_first" qT
 r__law_count:RW pg "_law_count" yr
end FX
namespace FX
open PySem DE DG FA Dy FZ
open L2 hiding St
open XP
noncomputable def jZ(b e:Int):List Pr->List Pr
 |[]=>[]
 | p::l=>(p.1,mn p.2 (b - 1))::(mx p.1 (e+1),p.2)::jZ b e l
def okP(p:Pr):Bool:=decide (p.1<=p.2)
def qcp(b e:Int)(l:List Pr):List Pr:=(jZ b e l).filter okP
noncomputable def yt(n:Int):List Pa->List Pr->List Pr
 |[],l=>l
 | p::ps,l=>yt n ps (if (p.1 == n)=true then qcp p.2.1 p.2.2 l else l)
theorem qgw(b e:Int)(p:Pr)(l:List Pr):qcp b e (p::l)=((if p.1<=mn p.2 (b - 1) then [(p.1,mn p.2 (b - 1))] else [])++(if mx p.1 (e+1)<=p.2 then [(mx p.1 (e+1),p.2)] else []))++qcp b e l:=by
 unfold qcp;rw[jZ,List.filter_cons,List.filter_cons];unfold okP;dsimp only
 by_cases h1:p.1<=mn p.2 (b - 1)<;>by_cases h2:mx p.1 (e+1)<=p.2<;>simp[h1,h2]
theorem qhz{b e:Int}(hb:b<=e):∀{l:List Pr},Spr l->Spr (qcp b e l)/\(∀x∈qcp b e l,∃p∈l,p.1<=x.1/\x.2<=p.2)/\(∀d,Day (qcp b e l) d↔Day l d/\¬ (b<=d/\d<=e))/\(qcp b e l).length<=2 * l.length
 |[],h=>⟨h,λx hx=>(by cases hx),λd=>⟨λz=>absurd z zc,λz=>absurd z.1 zc⟩,Nat.le_refl _⟩
 | p::l,h=>by
  obtain⟨i1,i2,i3,i4⟩:=qhz hb (Spr.tail h);have hp:=h.ok p (by simp);have hg:=(List.pairwise_cons.mp h.gap).1;rw[qgw];have m1:=Zz p.2 (b - 1);have m2:=qeN p.1 (e+1);generalize mn p.2 (b - 1)=u at *;generalize mx p.1 (e+1)=v at *
  have hA:∃A,((if p.1<=u then [(p.1,u)] else [])++(if v<=p.2 then [(v,p.2)] else []))=A/\Spr A/\(∀x∈A,p.1<=x.1/\x.2<=p.2)/\(∀d,Day A d↔(p.1<=d/\d<=p.2)/\¬ (b<=d/\d<=e))/\A.length<=2:=by
   have d0:∀d,(p.1<=d/\d<=p.2)/\¬ (b<=d/\d<=e)↔(p.1<=d/\d<=u)\/(v<=d/\d<=p.2):=λd=>by omega
   by_cases h1:p.1<=u
   ·by_cases h2:v<=p.2
    ·rw[if_pos h1,if_pos h2];refine⟨[(p.1,u),(v,p.2)],rfl,⟨λx hx=>?_,by simp;omega⟩,λx hx=>?_,λd=>?_,Nat.le_refl _⟩
     ·simp at hx;rcases hx with rfl | rfl<;>assumption
     ·simp at hx;rcases hx with rfl | rfl<;>(dsimp only;omega)
     ·rw[qw,qw,d0];simp[zc]
    ·rw[if_pos h1,if_neg h2];refine⟨[(p.1,u)],rfl,⟨λx hx=>?_,by simp⟩,λx hx=>?_,λd=>?_,by simp⟩
     ·simp at hx;subst hx;exact h1
     ·simp at hx;subst hx;dsimp only;omega
     ·rw[qw,d0];simp only[zc,or_false];omega
   ·by_cases h2:v<=p.2
    ·rw[if_neg h1,if_pos h2];refine⟨[(v,p.2)],rfl,⟨λx hx=>?_,by simp⟩,λx hx=>?_,λd=>?_,by simp⟩
     ·simp at hx;subst hx;exact h2
     ·simp at hx;subst hx;dsimp only;omega
     ·rw[qw,d0];simp only[zc,or_false];omega
    ·rw[if_neg h1,if_neg h2];refine⟨[],rfl,⟨λx hx=>(by cases hx),List.Pairwise.nil⟩,λx hx=>(by cases hx),λd=>?_,by simp⟩;rw[d0];simp only[zc,false_iff];omega
  obtain⟨A,hA,a1,a2,a3,a4⟩:=hA;rw[hA];refine⟨⟨λx hx=>?_,List.pairwise_append.mpr ⟨a1.gap,i1.gap,λx hx y hy=>?_⟩⟩,λx hx=>?_,λd=>?_,?_⟩
  ·rcases List.mem_append.mp hx with q | q
   ·exact a1.ok x q
   ·exact i1.ok x q
  ·obtain⟨q,hq,q1,q2⟩:=i2 y hy
   have:=hg q hq
   have:=a2 x hx
   omega
  ·rcases List.mem_append.mp hx with q | q
   ·exact⟨p,by simp,a2 x q⟩
   ·obtain⟨y,hy,z⟩:=i2 x q;exact⟨y,by simp[hy],z⟩
  ·have ap:Day (A++qcp b e l) d↔Day A d\/Day (qcp b e l) d:=by
    unfold Day;simp only[List.mem_append];constructor
    ·rintro⟨x,hx | hx,z⟩
     ·exact .inl ⟨x,hx,z⟩
     ·exact .inr ⟨x,hx,z⟩
    ·rintro (⟨x,hx,z⟩ | ⟨x,hx,z⟩)
     ·exact⟨x,.inl hx,z⟩
     ·exact⟨x,.inr hx,z⟩
   rw[ap,a3,i3,qw];constructor
   ·rintro (z | z)
    ·exact⟨.inl z.1,z.2⟩
    ·exact⟨.inr z.1,z.2⟩
   ·rintro⟨z | z,y⟩
    ·exact .inl ⟨z,y⟩
    ·exact .inr ⟨z,y⟩
  ·rw[List.length_append,List.length_cons];omega
theorem ZF{n:Int}:∀{ps:List Pa} {l:List Pr},(∀p∈ps,p.2.1<=p.2.2)->Spr l->Spr (yt n ps l)/\(∀d,Day (yt n ps l) d↔Day l d/\¬ Day (ofN n ps) d)/\(yt n ps l).length<=2 ^ ps.length * l.length
 |[],l,_,h=>⟨h,λd=>⟨λz=>⟨z,zc⟩,λz=>z.1⟩,by simp[yt]⟩
 | p::ps,l,hp,h=>by
  have hp':∀q∈ps,q.2.1<=q.2.2:=λq hq=>hp q (by simp[hq])
  have e:ofN n (p::ps)=if (p.1 == n)=true then (p.2.1,p.2.2)::ofN n ps else ofN n ps:=by
   unfold ofN;rw[List.filter_cons]
   split<;>rfl
  rw[yt,e]
  cases q:(p.1 == n) with
  |true=>
   rw[if_pos rfl,if_pos rfl];obtain⟨c1,_,c3,c4⟩:=qhz (hp p (by simp)) h;obtain⟨i1,i2,i3⟩:=ZF (n:=n) hp' c1;refine⟨i1,λd=>?_,?_⟩
   ·rw[i2,c3,qw];constructor
    ·rintro⟨⟨z1,z2⟩,z3⟩;exact⟨z1,λz=>z.elim z2 z3⟩
    ·rintro⟨z1,z2⟩;exact⟨⟨z1,λz=>z2 (.inl z)⟩,λz=>z2 (.inr z)⟩
   ·rw[List.length_cons,Nat.pow_succ]
    have:2 ^ ps.length * (qcp p.2.1 p.2.2 l).length<=2 ^ ps.length * (2 * l.length):=Nat.mul_le_mul_left _ c4
    rw[<-Nat.mul_assoc] at this;exact Nat.le_trans i3 this
  |false=>rw[if_neg (2:),if_neg (2:)];obtain⟨i1,i2,i3⟩:=ZF (n:=n) hp' h;refine⟨i1,i2,Nat.le_trans i3 ?_⟩;rw[List.length_cons,Nat.pow_succ];exact Nat.mul_le_mul_right _ (1:)
theorem qgx{n:Int}{ps:List Pa}(hp:∀p∈ps,p.2.1<=p.2.2)(d:Int):Day (zU n ps) d↔Day (ofN n ps) d:=by
 rw[<-jF,<-jF];unfold zU
 rw[qiX λp hq=>by unfold ofN at hq;obtain⟨q,hm,rfl⟩:=List.mem_map.mp hq;exact hp q (List.mem_filter.mp hm).1]
theorem qgy{n:Int}{ps:List Pa}(hp:∀p∈ps,p.2.1<=p.2.2):Spr (zU n ps):=qer λp hq=>by unfold ofN at hq;obtain⟨q,hm,rfl⟩:=List.mem_map.mp hq;exact hp q (List.mem_filter.mp hm).1
theorem qeZ{n:Int}{ps:List Pa}(hp:∀p∈ps,p.2.1<=p.2.2)(hl:ps.length < 900){a b:Int}(h:a<=b):yt n ps [(a,b)]=yP (a,b) (zU n ps):=by
 obtain⟨l1,l2,_⟩:=ZF (n:=n) hp (l:=[(a,b)]) ⟨λx hx=>(by simp at hx;subst hx;exact h),by simp⟩
 have len:(zU n ps).length < 900:=by
  have:=qbp (ps:=ofN n ps) λp hq=>by unfold ofN at hq;obtain⟨q,hm,rfl⟩:=List.mem_map.mp hq;exact hp q (List.mem_filter.mp hm).1
  have h2:=Zq n ps;unfold zU;omega
 obtain⟨m1,_,m3⟩:=qeM (qgy (n:=n) hp) len (p:=(a,b)) h;refine Spr.same l1 ⟨m1.ok,m1.ap.imp λq=>by omega⟩ λd=>?_;rw[l2,m3,qgx hp,qw];simp[zc]
theorem qgz{l:List Pr}(h:Spr l):yK l=l:=by
 refine qbV (List.Perm.refl _) (h.gap.imp_of_mem λ{a b} ha hb q=>?_)
 have:=h.ok a ha
 unfold qcN;left;omega
end FX
namespace FX
open PySem DE DG FA Dy FZ
open L2 hiding St
open XP
theorem QQ(cl:Cl)(v0 v1 v2 v3 v4 v5 v6 v7 v8 v9 v10:Sl)(b e:Int):∀(l acc:List Pr) (s14 s15:Sl),acc.length+2 * l.length < 10000->
  ∃s14' s15',jN cl 1000 (.many [14,15]) zM (l.map pD) [v0,v1,v2,v3,v4,v5,v6,v7,v8,v9,v10,.val (.int b),.val (.int e),.own (acc.map pD),s14,s15]=.ok (.next [v0,v1,v2,v3,v4,v5,v6,v7,v8,v9,v10,.val (.int b),.val (.int e),.own ((acc++jZ b e l).map pD),s14',s15'])
 |[],acc,s14,s15,_=>⟨s14,s15,by simp[jZ,qL]⟩
 | p::l,acc,s14,s15,h=>by
  rw[List.length_cons] at h;obtain⟨s14',s15',ih⟩:=QQ cl v0 v1 v2 v3 v4 v5 v6 v7 v8 v9 v10 b e l (acc++[(p.1,mn p.2 (b - 1)),(mx p.1 (e+1),p.2)]) (.val (.int p.1)) (.val (.int p.2)) (by simp;omega);refine⟨s14',s15',?_⟩;have two:0+1+1<=sizeLine:=by decide+kernel
  have hz:acc.length+(0+1+1)<=sizeLine:=qy (1:);rw[jZ,List.map_cons];simp only[List.map_append,List.map_cons,List.map_nil,List.append_assoc,List.cons_append,List.nil_append,ja] at ih ⊢;refine(qf _).symm.trans ?_;simp? only[JL,mnF,mxF,two,List.length_map,hz,ih]
theorem Y3(cl:Cl):∀(l acc:List Pr) (s0:Sl),acc.length+l.length < 10000->
  zt cl zN (.one 0) (.test (.cmp .LtE (.idx (.var 0) (.con (.int 0))) (.idx (.var 0) (.con (.int 1))))) (l.map pD) [s0] (acc.map pD)=.ok ((acc++l.filter okP).map pD)
 |[],acc,s0,_=>by simp[qH]
 | p::l,acc,s0,h=>by
  rw[List.length_cons] at h;have a0:atI [D.int p.1,.int p.2] 0=some (.int p.1):=rfl;have a1:atI [D.int p.1,.int p.2] 1=some (.int p.2):=rfl;have hz:(acc.map pD).length < sizeLine:=by rw[List.length_map];exact qr (1:)
  rw[List.filter_cons,List.map_cons]
  by_cases hp:p.1<=p.2
  ·rw[if_pos (show okP p=true from decide_eq_true hp)];have ih:=Y3 cl l (acc++[p]) (.val (pD p)) (by simp;omega);simp only[List.map_append,List.map_cons,List.map_nil,List.append_assoc,List.cons_append,List.nil_append,ja] at ih ⊢;refine(qf _).symm.trans ?_;simp? only[jv,a0,a1,hp,hz,ih]
  ·rw[if_neg (show ¬ okP p=true from by unfold okP;simpa using hp)];have ih:=Y3 cl l acc (.val (pD p)) (1:);simp only[ja] at ih ⊢;refine(qf _).symm.trans ?_;simp? only[jv,a0,a1,hp,ih]
theorem Js(b e:Int):∀l:List Pr,(jZ b e l).length=2 * l.length
 |[]=>rfl
 | p::l=>by rw[jZ,List.length_cons,List.length_cons,List.length_cons,Js b e l];omega
theorem Y4(cl:Cl)(v0 v1 v3 v4 v5 v6 v7 v8:Sl)(n:Int):∀(ps:List Pa) (l:List Pr) (s10 s11 s12 s13 s14 s15:Sl),2 ^ ps.length * l.length < 2000->
  ∃s10' s11' s12' s13' s14' s15',jN cl 1000 (.many [10,11,12]) zO (ps.map paD) [v0,v1,.val (.int n),v3,v4,v5,v6,v7,v8,.own (l.map pD),s10,s11,s12,s13,s14,s15]=.ok (.next [v0,v1,.val (.int n),v3,v4,v5,v6,v7,v8,.own ((yt n ps l).map pD),s10',s11',s12',s13',s14',s15'])
 |[],l,s10,s11,s12,s13,s14,s15,_=>⟨s10,s11,s12,s13,s14,s15,rfl⟩
 | p::ps,l,s10,s11,s12,s13,s14,s15,h=>by
  rw[List.length_cons,Nat.pow_succ,Nat.mul_assoc] at h;have h1:1<=2 ^ ps.length:=Nat.one_le_two_pow
  have hl:2 * l.length < 2000:=by
   have:=Nat.mul_le_mul_right (2 * l.length) h1
   omega
  rw[yt,List.map_cons]
  cases q:(p.1 == n) with
  |true=>
   rw[if_pos rfl];obtain⟨t14,t15,pl⟩:=QQ cl v0 v1 (.val (.int n)) v3 v4 v5 v6 v7 v8 (.val (.lst (l.map pD))) (.val (.int p.1)) p.2.1 p.2.2 l [] s14 s15 (by simp;omega);have kc:=Y3 cl (jZ p.2.1 p.2.2 l) [] .no (by rw[Js];simp;omega)
   have hc:(qcp p.2.1 p.2.2 l).length<=2 * l.length:=by
    have:=List.length_filter_le okP (jZ p.2.1 p.2.2 l)
    rw[Js] at this;exact this
   obtain⟨s10',s11',s12',s13',s14',s15',ih⟩:=Y4 cl v0 v1 v3 v4 v5 v6 v7 v8 n ps (qcp p.2.1 p.2.2 l) (.val (.int p.1)) (.val (.int p.2.1)) (.val (.int p.2.2)) (.val (.lst ((jZ p.2.1 p.2.2 l).map pD))) t14 t15 (Nat.lt_of_le_of_lt (Nat.mul_le_mul_left _ hc) h);refine⟨s10',s11',s12',s13',s14',s15',?_⟩;have z0:(0:Nat)<=sizeLine:=by decide+kernel
   have zp:((jZ p.2.1 p.2.2 l).map pD).length<=sizeLine:=by rw[List.length_map,Js];exact qy (1:)
   rw[List.map_nil,List.nil_append] at pl kc;unfold qcp at ih ⊢;refine(qf _).symm.trans ?_;simp? only[jw,qS,qp,q,z0,pl,zp,Qt,qfN,List.getD_cons_succ,List.getD_cons_zero,kc,ih]
  |false=>
   rw[if_neg (2:)]
   obtain⟨s10',s11',s12',s13',s14',s15',ih⟩:=Y4 cl v0 v1 v3 v4 v5 v6 v7 v8 n ps l (.val (.int p.1)) (.val (.int p.2.1)) (.val (.int p.2.2)) s13 s14 s15 (by
    have:=Nat.mul_le_mul_left (2 ^ ps.length) (show l.length<=2 * l.length by omega)
    omega)
   refine⟨s10',s11',s12',s13',s14',s15',?_⟩;refine(qf _).symm.trans ?_;simp? only[jw,qS,qp,q,ih]
theorem qaN(cl:Cl)(w:Int):∀(l:List Pr) (acc:List Pa) (s0 s1:Sl),acc.length+l.length < 10000->
  zt cl zP (.many [0,1]) .yes (l.map pD) [s0,s1,.val (.int w)] (acc.map paD)=.ok ((acc++l.map (JI w)).map paD)
 |[],acc,s0,s1,_=>by simp[qH]
 | p::l,acc,s0,s1,h=>by
  rw[List.length_cons] at h;have ih:=qaN cl w l (acc++[JI w p]) (.val (.int p.1)) (.val (.int p.2)) (by simp;omega);have three:0+1+1+1<=sizeLine:=by decide+kernel
  have hz:(acc.map paD).length < sizeLine:=by rw[List.length_map];exact qr (1:)
  simp only[List.map_append,List.map_cons,List.map_nil,List.append_assoc,List.cons_append,List.nil_append,qS,JI] at ih ⊢;refine(qf _).symm.trans ?_;simp? only[JM,ja,three,hz,ih]
theorem qQ(cl:Cl)(b1:Bool)(r:Ru)(nd:(r.lands.map (·.1)).Nodup)(ps:List Pa)(hp:∀p∈ps,p.2.1<=p.2.2)(hl:ps.length<=5)(n:Int)(v3:Sl):∀(st:List St) (acc:List Pa) (s5 s6 s7 s8 s9 s10 s11 s12 s13 s14 s15:Sl),(∀s∈st,s.2.1<=s.2.2)->acc.length+32 * st.length < 10000->
  ∃s5' s6' s7' s8' s9' s10' s11' s12' s13' s14' s15',jN cl 1000 (.many [5,6,7]) zQ (st.map stD) [.val (spD r),pS b1 (ps.map paD),.val (.int n),v3,.own (acc.map paD),s5,s6,s7,s8,s9,s10,s11,s12,s13,s14,s15]=.ok (.next [.val (spD r),pS b1 (ps.map paD),.val (.int n),v3,.own ((acc++qq r (zU n ps) st).map paD),s5',s6',s7',s8',s9',s10',s11',s12',s13',s14',s15'])
 |[],acc,s5,s6,s7,s8,s9,s10,s11,s12,s13,s14,s15,_,_=>⟨s5,s6,s7,s8,s9,s10,s11,s12,s13,s14,s15,by simp[qq,qL]⟩
 | s::st,acc,s5,s6,s7,s8,s9,s10,s11,s12,s13,s14,s15,hs,h=>by
  rw[List.length_cons] at h;have hs0:=hs s (by simp);have sp1:Spr [(s.2.1,s.2.2)]:=⟨λx hx=>(by simp at hx;subst hx;exact hs0),by simp⟩;obtain⟨l1,_,l3⟩:=ZF (n:=n) hp sp1;have e32:2 ^ ps.length<=32:=Nat.le_trans (Nat.pow_le_pow_right (1:) hl) (2:)
  have l3':(yt n ps [(s.2.1,s.2.2)]).length<=32:=by simp only[List.length_cons,List.length_nil,Nat.zero_add,Nat.mul_one] at l3;omega
  have eL:=qeZ (n:=n) hp (1:) hs0;have eS:=qgz l1;obtain⟨t10,t11,t12,t13,t14,t15,lp⟩:=Y4 cl (.val (spD r)) (pS b1 (ps.map paD)) v3 (.own (acc.map paD)) (.val (.str s.1)) (.val (.int s.2.1)) (.val (.int s.2.2)) (.val (.int (wt r.lands (some s.1)))) n ps [(s.2.1,s.2.2)] s10 s11 s12 s13 s14 s15 (by simp;omega);have g:=qji nd s.1;have a1:atI [D.int (kw r.kd),.lst (r.lands.map lnD),.int r.most,.int r.days] 1=some (.lst (r.lands.map lnD)):=rfl;have two:0+1+1<=sizeLine:=by decide+kernel
  have one:0+1<=sizeLine:=by decide+kernel
  have zl:(yt n ps [(s.2.1,s.2.2)]).length < 64:=by omega
  have zs:(yt n ps [(s.2.1,s.2.2)]).length<=sizeLine:=qy (1:);simp only[List.map_cons,List.map_nil,ja,spD] at lp;rw[qq,List.map_cons];unfold qC
  by_cases hw:0 < wt r.lands (some s.1)
  ·rw[if_pos hw];have wc:=qaN cl (wt r.lands (some s.1)) (yt n ps [(s.2.1,s.2.2)]) [] .no .no (by simp;omega);rw[List.map_nil,List.nil_append] at wc;obtain⟨s5',s6',s7',s8',s9',s10',s11',s12',s13',s14',s15',ih⟩:=qQ cl b1 r nd ps hp hl n v3 st (acc++(yt n ps [(s.2.1,s.2.2)]).map (JI (wt r.lands (some s.1)))) (.val (.str s.1)) (.val (.int s.2.1)) (.val (.int s.2.2)) (.val (.int (wt r.lands (some s.1)))) (.own ((yt n ps [(s.2.1,s.2.2)]).map pD)) t10 t11 t12 t13 t14 t15 (λt ht=>hs t (by simp[ht])) (by rw[List.length_append,List.length_map];omega);refine⟨s5',s6',s7',s8',s9',s10',s11',s12',s13',s14',s15',?_⟩;have za:acc.length+(yt n ps [(s.2.1,s.2.2)]).length<=sizeLine:=qy (1:);rw[<-eL];simp only[List.map_append,List.append_assoc,spD] at ih ⊢;refine(qf _).symm.trans ?_;simp? only[jx,zm,a1,g,two,one,lp,hw,Yv,qbo,zl,eS,List.length_map,zs,Qt,qfN,List.getD_cons_succ,List.getD_cons_zero,wc,za,ih]
  ·rw[if_neg hw,List.nil_append];obtain⟨s5',s6',s7',s8',s9',s10',s11',s12',s13',s14',s15',ih⟩:=qQ cl b1 r nd ps hp hl n v3 st acc (.val (.str s.1)) (.val (.int s.2.1)) (.val (.int s.2.2)) (.val (.int (wt r.lands (some s.1)))) (.own ((yt n ps [(s.2.1,s.2.2)]).map pD)) t10 t11 t12 t13 t14 t15 (λt ht=>hs t (by simp[ht])) (1:);refine⟨s5',s6',s7',s8',s9',s10',s11',s12',s13',s14',s15',?_⟩;simp only[spD] at ih ⊢;refine(qf _).symm.trans ?_;simp? only[jx,zm,a1,g,two,one,lp,hw,ih]
theorem qda{pg:Pg}[XP pg](k:Nat)(b1 b2:Bool)(r:Ru)(nd:(r.lands.map (·.1)).Nodup)(ps:List Pa)(hp:∀p∈ps,p.2.1<=p.2.2)(hl:ps.length<=5)(n:Int)(st:List St)(hs:∀s∈st,s.2.1<=s.2.2)(h6:st.length<=70) :
  clK pg (k+1) "_law_pieces" [.val (spD r),aL b1 (ps.map paD),.val (.int n),aL b2 (st.map stD)]=.ok (.tmp ((qq r (zU n ps) st).map paD)):=by
 obtain⟨s5,s6,s7,s8,s9,s10,s11,s12,s13,s14,s15,lp⟩:=qQ (pg.kk k) b1 r nd ps hp hl n (pS b2 (st.map stD)) st [] .no .no .no .no .no .no .no .no .no .no .no hs (by simp;omega);rw[List.map_nil,List.nil_append] at lp;have z0:(0:Nat)<=sizeLine:=by decide+kernel
 rw[r__law_pieces];simp? only[Jq,z0,lp]
end FX
namespace FX
open PySem DE DG FA Dy FZ
open L2 hiding St
open XS
theorem qgA(f t:Int)(p:Pa):p.2.2 * mx 0 (mn p.2.1 t - mx p.1 f+1)=qbs f t p:=by
 unfold qbs;have m:=qeE 0 (mn p.2.1 t - mx p.1 f+1);split
 ·rw[m.1 (1:),Int.mul_comm]
 ·rw[m.2 (1:),Int.mul_zero]
def qdb(f t:Int)(l:List Pa):List Int:=l.map (qbs f t)
theorem qcq(f t:Int):∀l:List Pa,(qdb f t l).sum=J8 f t l
 |[]=>rfl
 | p::l=>by show qbs f t p+(qdb f t l).sum=_;rw[qcq f t l];rfl
theorem qcr(cl:Cl)(f t:Int):∀(l:List Pa) (acc:List Int) (s0 s1 s2:Sl),(∀p∈l,0<=p.2.2/\p.2.2<=9)->acc.length+l.length < 10000->
  zt cl yo (.many [0,1,2]) .yes (l.map paD) [s0,s1,s2,.val (.int f),.val (.int t)] (acc.map D.int)=.ok ((acc++qdb f t l).map D.int)
 |[],acc,s0,s1,s2,_,_=>by simp[qdb,qH]
 | p::l,acc,s0,s1,s2,hw,h=>by
  rw[List.length_cons] at h;have ih:=qcr cl f t l (acc++[qbs f t p]) (.val (.int p.1)) (.val (.int p.2.1)) (.val (.int p.2.2)) (λq hq=>hw q (by simp[hq])) (by simp;omega);have hz:(acc.map D.int).length < sizeLine:=by rw[List.length_map];exact qr (1:)
  have hw0:=hw p (by simp);have e:=qgA f t p;have mu:ZO p.2.2 (mx 0 (mn p.2.1 t - mx p.1 f+1))=true:=qhi (1:) (1:);rw[show qdb f t (p::l)=qbs f t p::qdb f t l from rfl];simp only[List.map_append,List.map_cons,List.map_nil,List.append_assoc,List.cons_append,List.nil_append] at ih ⊢;refine(qf _).symm.trans ?_;simp? only[Qj,qS,mnF,mxF,mu,e,hz,ih]
theorem qjk{pg:Pg}[XS pg](k:Nat)(b:Bool)(l:List Pa)(hw:∀p∈l,0<=p.2.2/\p.2.2<=9)(hl:l.length < 5000)(f t:Int):clK pg (k+1) "_law_sum" [aL b (l.map paD),.val (.int f),.val (.int t)]=.ok (.val (.int (J8 f t l))):=by have c:=qcr (pg.kk k) f t l [] .no .no .no hw (by simp;omega);rw[List.map_nil,List.nil_append] at c;have z:l.length<=sizeLine:=qy (1:);rw[r__law_sum];simp? only[QP,List.length_map,z,Qt,qfN,List.getD_cons_succ,List.getD_cons_zero,c,qmx,qb9,qcq]
noncomputable def lfS(n d:Int)(s:Option (Int×Int))(p:Pa):Option (Int×Int):=if p.1<=d then (match s with
 |none=>some (p.1,mn p.2.1 d)
 |some (a,e)=>some (if n<=p.1 - e - 1 then p.1 else a,mn p.2.1 d)) else s
noncomputable def lfF(n d:Int):List Pa->Option (Int×Int)->Option (Int×Int)
 |[],s=>s
 | p::l,s=>lfF n d l (lfS n d s p)
noncomputable def lfE(n d:Int)(s:Option (Int×Int)):Option Int:=match s with
 |none=>none
 |some (a,e)=>if n<=d - e then none else some a
structure ChI(L:List Pa)(n d:Int)(A:List Pa)(s:Option (Int×Int)):Prop where
 no:s=none->∀p∈A,d < p.1
 yes:∀a e,s=some (a,e)->WF (pf L) n e a/\e<=d/\pf L e≠0/\(∃p∈A,inP p e)/\∀p∈A,p.1<=d->mn p.2.1 d<=e
theorem qmc{p:Pa}{d:Int}(h:p.1<=d)(hp:p.1<=p.2.1):inP p (mn p.2.1 d):=by
 have:=Zz p.2.1 d
 unfold inP;omega
theorem Jt{f:Int->Int}{n x y:Int}(h1:x - n < y)(h2:y<=x)(h:f y≠0):¬ Qb f n x:=λq=>h (q y h1 h2)
theorem qmd{L:List Pa}(hL:PcOk L){n d:Int}(hn:1<=n):∀(B A:List Pa) (s:Option (Int×Int)),L=A++B->ChI L n d A s->ChI L n d L (lfF n d B s)
 |[],A,s,e,h=>by rw[List.append_nil] at e;subst e;exact h
 | p::B,A,s,e,h=>by
  have e':L=(A++[p])++B:=by rw[e];simp
  refine qmd hL hn B (A++[p]) _ e' ?_;have hpL:p∈L:=by rw[e];simp
  have hp:=(hL.ok p hpL).1;have hap:=hL.ap;rw[e] at hap;have hA:∀q∈A,q.2.1 < p.1:=λq hq=>(List.pairwise_append.mp hap).2.2 q hq p (by simp);have hB:∀q∈B,p.2.1 < q.1:=λq hq=>(List.pairwise_cons.mp (List.pairwise_append.mp hap).2.1).1 q hq;unfold lfS
  by_cases hd:p.1<=d
  case neg=>
   rw[if_neg hd];refine⟨λq x hx=>?_,λa e q=>?_⟩
   ·rcases List.mem_append.mp hx with z | z
    ·exact h.no q x z
    ·rw[List.mem_singleton.mp z];omega
   ·obtain⟨y1,y2,y3,⟨x,hx,y4⟩,y5⟩:=h.yes a e q;refine⟨y1,y2,y3,⟨x,by simp[hx],y4⟩,λx hx hx'=>?_⟩;rcases List.mem_append.mp hx with z | z
    ·exact y5 x z hx'
    ·rw[List.mem_singleton.mp z] at hx';omega
  rw[if_pos hd];have m:=Zz p.2.1 d;have hin:=qmc hd hp;have ne:∀x,p.1<=x->x<=mn p.2.1 d->pf L x≠0:=λx h1 h2=>(qhv hL x).mpr ⟨p,hpL,by unfold inP;omega⟩
  have amid:∀x,x < p.1->(∀q∈A,¬ inP q x)->pf L x=0:=λx h1 h2=>qR λq hq z=>by
   rw[e] at hq;unfold inP at z;rcases List.mem_append.mp hq with y | y
   ·exact h2 q y z
   ·rcases List.mem_cons.mp y with rfl | y
    ·omega
    ·have:=hB q y;omega
  cases s with
  |none=>
   dsimp only;refine⟨λq=>(by cases q),λa e q=>?_⟩;cases q;have hno:=h.no rfl;refine⟨⟨by unfold inP at hin;omega,ne _ (Int.le_refl _) (by unfold inP at hin;omega),λx h1 h2=>amid x (1:) λq hq z=>?_,λx h1 h2=>Jt (1:) (Int.le_refl _) (ne x h1 h2)⟩,by omega,ne _ (by unfold inP at hin;omega) (Int.le_refl _),⟨p,by simp,hin⟩,λx hx hx'=>?_⟩
   ·have:=hno q hq
    unfold inP at z;omega
   ·rcases List.mem_append.mp hx with z | z
    ·have:=hno x z;omega
    ·rw[List.mem_singleton.mp z];exact Int.le_refl _
  |some ae=>
   obtain⟨a,e0⟩:=ae;dsimp only;obtain⟨w,y2,y3,⟨q0,hq0,y4⟩,y5⟩:=h.yes a e0 rfl;have he:e0 < p.1:=by have:=hA q0 hq0;unfold inP at y4;omega
   have gap:∀x,e0 < x->x < p.1->pf L x=0:=λx h1 h2=>amid x h2 λq hq z=>by
    unfold inP at z
    have:=y5 q hq (1:)
    have:=Zz q.2.1 d
    have:=hA q hq
    omega
   refine⟨λq=>(by cases q),λa' e' q=>?_⟩;cases q
   have last:∀x∈A++[p],x.1<=d->mn x.2.1 d<=mn p.2.1 d:=λx hx hx'=>by
    rcases List.mem_append.mp hx with z | z
    ·have:=y5 x z hx'
     unfold inP at hin;omega
    ·rw[List.mem_singleton.mp z];exact Int.le_refl _
   unfold inP at hin;refine⟨?_,by omega,ne _ (1:) (Int.le_refl _),⟨p,by simp,by unfold inP;omega⟩,last⟩
   by_cases hg:n<=p.1 - e0 - 1
   ·rw[if_pos hg];exact⟨by omega,ne _ (Int.le_refl _) (1:),λx h1 h2=>gap x (1:) (1:),λx h1 h2=>Jt (1:) (Int.le_refl _) (ne x h1 h2)⟩
   ·rw[if_neg hg]
    have:=w.le
    refine⟨by omega,w.ne,w.ahead,λx h1 h2=>?_⟩
    by_cases q1:x<=e0
    ·exact w.busy x h1 q1
    ·by_cases q2:x < p.1
     ·exact Jt (y:=e0) (1:) (1:) y3
     ·exact Jt (1:) (Int.le_refl _) (ne x (1:) h2)
theorem qaO{L:List Pa}(hL:PcOk L){n d:Int}(hn:1<=n):(∀a,lfE n d (lfF n d L none)=some a->WF (pf L) n d a)/\(lfE n d (lfF n d L none)=none->Qb (pf L) n d):=by
 have h:=qmd hL hn L [] none rfl (d:=d) ⟨λ_ p hp=>(by cases hp),λa e q=>(by cases q)⟩
 cases e:lfF n d L none with
 |none=>
  rw[e] at h;refine⟨λa q=>(by cases q),λ_ x h1 h2=>qR λp hp z=>?_⟩
  have:=h.no rfl p hp
  unfold inP at z;omega
 |some ae=>
  obtain⟨a,e0⟩:=ae;rw[e] at h;obtain⟨w,y2,y3,⟨q0,hq0,y4⟩,y5⟩:=h.yes a e0 rfl
  have gap:∀x,e0 < x->x<=d->pf L x=0:=λx h1 h2=>qR λq hq z=>by
   unfold inP at z
   have:=y5 q hq (1:)
   have:=Zz q.2.1 d
   omega
  unfold lfE;dsimp only
  by_cases hg:n<=d - e0
  ·rw[if_pos hg];exact⟨λa q=>(by cases q),λ_ x h1 h2=>gap x (1:) h2⟩
  ·rw[if_neg hg];refine⟨λa' q=>?_,λq=>(by cases q)⟩;cases q
   have:=w.le
   refine⟨by omega,w.ne,w.ahead,λx h1 h2=>?_⟩
   by_cases q1:x<=e0
   ·exact w.busy x h1 q1
   ·exact Jt (y:=e0) (1:) (1:) y3
noncomputable def lfW(r:Ru)(L:List Pa)(d:Int):Option Int:=if r.kd.isW=true then some (d - r.days+1) else lfE r.days d (lfF r.days d L none)
def lcF(r:Ru)(L:List Pa)(d:Int):Int:=match lfW r L d with
 |none=>0
 |some a=>J8 a d L
theorem qnz{r:Ru}(h1:1<=r.days){L:List Pa}(hL:PcOk L)(d:Int):lcF r L d=qJ r L d:=by
 unfold lcF lfW
 cases hk:r.kd.isW with
 |true=>rw[if_pos rfl,qbt hk h1 hL,qi7 hL,show d - r.days+1+(r.days.toNat:Int) - 1=d by omega]
 |false=>
  rw[if_neg (2:)];have C:=YW h1 hL;rw[hk] at C;obtain⟨e1,e2⟩:=qaO hL h1 (d:=d)
  cases e:lfE r.days d (lfF r.days d L none) with
  |none=>exact(C.idle rfl d (e2 e)).symm
  |some a=>
   have w:=e1 a e
   have:=w.le
   rw[C.sum w,qi7 hL,show a+((d+1 - a).toNat:Int) - 1=d by omega]
theorem qnA{r:Ru}(h1:1<=r.days){L:List Pa}(hL:PcOk L){d:Int}(hp:0 < qJ r L d):lfW r L d=some (J7 r L d):=by
 unfold lfW
 cases hk:r.kd.isW with
 |true=>rw[if_pos rfl];unfold J7;rw[if_pos hk]
 |false=>
  rw[if_neg (2:)];have C:=YW h1 hL;rw[hk] at C;obtain⟨e1,e2⟩:=qaO hL h1 (d:=d)
  cases e:lfE r.days d (lfF r.days d L none) with
  |none=>have:=C.idle rfl d (e2 e);omega
  |some a=>
   have hb:¬ Qb (pf L) r.days d:=λq=>by have:=C.idle rfl d q;omega
   rw[(qeT hk h1 hL hb).unique (e1 a e)]
end FX
namespace FX
open PySem DE DG FA Dy FZ
open L2 hiding St
open XC
def oI:Option Int->D
 |none=>.non
 |some a=>.int a
theorem QR(cl:Cl)(v0 v1:Sl)(n d:Int):∀(l:List Pa) (s:Option (Int×Int)) (s6 s7 s8:Sl),
  ∃s6' s7' s8',jN cl 1000 (.many [6,7,8]) je (l.map paD) [v0,v1,.val (.int d),.val (.int n),.val (oI (s.map (·.1))),.val (oI (s.map (·.2))),s6,s7,s8]=.ok (.next [v0,v1,.val (.int d),.val (.int n),.val (oI ((lfF n d l s).map (·.1))),.val (oI ((lfF n d l s).map (·.2))),s6',s7',s8'])
 |[],s,s6,s7,s8=>⟨s6,s7,s8,rfl⟩
 | p::l,s,s6,s7,s8=>by
  obtain⟨s6',s7',s8',ih⟩:=QR cl v0 v1 n d l (lfS n d s p) (.val (.int p.1)) (.val (.int p.2.1)) (.val (.int p.2.2));refine⟨s6',s7',s8',?_⟩;rw[lfF,List.map_cons]
  by_cases hd:p.1<=d
  ·cases s with
   |none=>
    have e:lfS n d none p=some (p.1,mn p.2.1 d):=by unfold lfS;rw[if_pos hd]
    rw[e] at ih ⊢;simp only[Option.map,oI] at ih ⊢;refine(qf _).symm.trans ?_;simp? only[qP,qS,hd,mnF,ih]
   |some ae=>
    obtain⟨a,e0⟩:=ae
    by_cases hg:n<=p.1 - e0 - 1
    ·have e:lfS n d (some (a,e0)) p=some (p.1,mn p.2.1 d):=by unfold lfS;rw[if_pos hd];dsimp only;rw[if_pos hg]
     rw[e] at ih ⊢;simp only[Option.map,oI] at ih ⊢;refine(qf _).symm.trans ?_;simp? only[qP,qS,hd,hg,mnF,ih]
    ·have e:lfS n d (some (a,e0)) p=some (a,mn p.2.1 d):=by unfold lfS;rw[if_pos hd];dsimp only;rw[if_neg hg]
     rw[e] at ih ⊢;simp only[Option.map,oI] at ih ⊢;refine(qf _).symm.trans ?_;simp? only[qP,qS,hd,hg,mnF,ih]
  ·have e:lfS n d s p=s:=by unfold lfS;rw[if_neg hd]
   rw[e] at ih ⊢;refine(qf _).symm.trans ?_;simp? only[qP,qS,hd,ih]
theorem qaP{pg:Pg}[XC pg](k:Nat)(b:Bool)(r:Ru)(L:List Pa)(d:Int):clK pg (k+1) "_law_first" [.val (spD r),aL b (L.map paD),.val (.int d)]=.ok (.val (oI (lfW (mkR r) L d))):=by
 obtain⟨kd,lands,most,days⟩:=r;have a0:atI [D.int (kw kd),.lst (lands.map lnD),.int most,.int days] 0=some (.int (kw kd)):=rfl;have a3:atI [D.int (kw kd),.lst (lands.map lnD),.int most,.int days] 3=some (.int days):=rfl;have three:0+1+1+1<=sizeLine:=by decide+kernel
 rw[r__law_first];unfold spD;dsimp only
 have fin:∀n:Int,(kw kd == 0)=false->atI [D.int 1,.int days,.int 1] (kw kd)=some (.int n)->lfW (mkR ⟨kd,lands,most,days⟩) L d=lfE n d (lfF n d L none)->runD (pg.kk k) 1000 qT [.val (.tup [.int (kw kd),.lst (lands.map lnD),.int most,.int days]),aL b (L.map paD),.val (.int d)]=.ok (.val (oI (lfW (mkR ⟨kd,lands,most,days⟩) L d))):=λn h0 h1 h2=>by
  obtain⟨s6,s7,s8,lp⟩:=QR (pg.kk k) (.val (.tup [.int (kw kd),.lst (lands.map lnD),.int most,.int days])) (pS b (L.map paD)) n d L none .no .no .no;rw[h2]
  cases e:lfF n d L none with
  |none=>rw[e] at lp;simp only[Option.map,oI,lfE] at lp ⊢;simp? only[qT,a0,a3,qp,h0,three,h1,lp]
  |some ae=>
   obtain⟨a,e0⟩:=ae;rw[e] at lp;unfold lfE;dsimp only
   by_cases hg:n<=d - e0
   ·rw[if_pos hg];simp only[Option.map,oI] at lp ⊢;simp? only[qT,a0,a3,qp,h0,three,h1,lp,hg]
   ·rw[if_neg hg];simp only[Option.map,oI] at lp ⊢;simp? only[qT,a0,a3,qp,h0,three,h1,lp,hg]
 cases kd with
 |wi=>have h0:(kw .wi == 0)=true:=rfl;have e:lfW (mkR ⟨.wi,lands,most,days⟩) L d=some (d - days+1):=rfl;rw[e];simp? only[qT,a0,a3,qp,h0,oI]
 |si=>exact fin days rfl rfl rfl
 |ro=>exact fin 1 rfl rfl rfl
theorem qe0{pg:Pg}[XS pg][XC pg](k:Nat)(b:Bool)(r:Ru)(L:List Pa)(hw:∀p∈L,0<=p.2.2/\p.2.2<=9)(hl:L.length < 5000)(d:Int):clK pg (k+2) "_law_count" [.val (spD r),aL b (L.map paD),.val (.int d)]=.ok (.val (.int (lcF (mkR r) L d))):=by
 have f:=qaP (pg:=pg) k b r L d;unfold lcF;rw[r__law_count]
 cases e:lfW (mkR r) L d with
 |none=>rw[e] at f;simp only[oI] at f;simp? only[yr,f]
 |some a=>rw[e] at f;have s:=qjk (pg:=pg) k b L hw hl a d;simp only[oI] at f;simp? only[yr,f,s]
theorem qaQ{r r':Ru}(h:r.lands=r'.lands)(lf:List Pr):∀st:List St,qq r lf st=qq r' lf st
 |[]=>rfl
 | s::st=>by rw[qq,qq,qaQ h lf st];unfold qC;rw[h]
theorem qe1(r:Ru)(lf:List Pr)(st:List St):qq r lf st=qX st (mkR r,lf):=qaQ (qhp r).symm lf st
theorem qgB{x:Rl}{n:Nat}(h:x.2.length<=n)(st:List St):(qX st x).length<=(n+2) * st.length:=by
 unfold qX
 induction st with
 |nil=>exact Nat.zero_le _
 |cons s st ih=>
  rw[qq,List.length_append,List.length_cons]
  have:(qC x.1 x.2 s).length<=n+2:=by
   unfold qC;split
   ·rw[List.length_map]
    have:=Jk (s.2.1,s.2.2) x.2
    omega
   ·simp
  rw[Nat.mul_succ];omega
theorem Chw.ab:∀{st:List St} {e:Int},Chw e st->∀s∈st,s.2.1<=s.2.2
 |[],_,_,s,hs=>by cases hs
 | t::l,e,h,s,hs=>by
  rcases List.mem_cons.mp hs with rfl | hs
  ·exact h.1.2
  ·exact Chw.ab h.2 s hs
end FX
namespace K56
open PySem L2 DE DG FX FY FZ
noncomputable def top(i:Nat):Stmt:=PySem.Challenge.pw_daysgate_k56_whole_plan_shown.main.body.getD i (.Pass ⟨0,0,0,0⟩)
def mem(i j:Nat):Stmt:=(qiP (top i)).getD j (.Pass ⟨0,0,0,0⟩)
noncomputable def pg:Pg:={ defs:=[(("is_whole" : Str),top 5),(("is_between" : Str),top 6),(("are_days" : Str),top 7),(("is_made_of" : Str),top 8),(("is_name" : Str),top 9),(("are_names" : Str),top 10),(("spread" : Str),top 19),(("both" : Str),top 20),(("outside" : Str),top 21),(("less" : Str),top 22),(("is_land" : Str),top 26),(("are_lands" : Str),top 27),(("is_stay" : Str),top 34),(("stays_of" : Str),top 35),(("pieces_among" : Str),top 37),(("sum_of" : Str),top 38),(("first_since" : Str),top 39),(("first_of_window" : Str),top 40),(("count_among" : Str),top 41),(("turns_of" : Str),top 42),(("first_above" : Str),top 43),(("first_broken" : Str),top 44),(("fault_among" : Str),top 45),(("fault_of" : Str),top 46),(("let_stays" : Str),top 48),(("check_day" : Str),top 49),(("fault_on" : Str),top 52),(("planned_day" : Str),top 53),(("plan_of" : Str),top 54),(("are_rules" : Str),top 58),(("is_paper" : Str),top 59),(("check_papers" : Str),top 60),(("_law_at" : Str),top 63),(("_law_word" : Str),top 64),(("_law_names" : Str),top 65),(("_law_spec" : Str),top 66),(("_law_rule" : Str),top 67),(("_law_stays" : Str),top 68),(("_law_papers" : Str),top 69),(("_law_pieces" : Str),top 70),(("_law_sum" : Str),top 71),(("_law_first" : Str),top 72),(("_law_count" : Str),top 73),(("_law_broken" : Str),top 74),(("_law_day" : Str),top 75),(("law" : Str),top 76)],gl:=λx=>if x = "GREATEST" then some (.int 1000000000) else if x = "LETTERS" then some (.str "abcdefghijklmnopqrstuvwxyz") else if x = "LONGEST_NAME" then some (.int 8) else if x = "MOST_LANDS" then some (.int 6) else if x = "GREATEST_WEIGHT" then some (.int 9) else if x = "MOST_STAYS" then some (.int 60) else if x = "MOST_WISHES" then some (.int 6) else if x = "MOST_RULES" then some (.int 8) else if x = "MOST_PAPERS" then some (.int 12) else none,m:=40,w:=1000,meths:=[("Rule.weight",mem 28 1),("Book.rules",mem 61 1),("Book.papers",mem 61 2),("Book.lifted",mem 61 3)],cs:=pcs,nw:=pnw }
instance:DG.CH pg:=⟨%[5|1],%[6|1],%[7|1],%[8|1],%[9|1]⟩
instance:DG.ST pg:=⟨%[34|1],%[35|1]⟩
instance:DG.SP pg:=⟨%[19|1]⟩
instance:DG.RU pg:=⟨rfl,rfl,%[26|1],%[27|1],ql (pg:=pg) (st:=mem 28 1) (by kernel_rfl) (λk cl=>by kernel_rfl)⟩
instance:DG.BO pg:=⟨%[58|1],%[59|1],%[60|1],ql (pg:=pg) (st:=mem 61 1) (by kernel_rfl) (λk cl=>by kernel_rfl),ql (pg:=pg) (st:=mem 61 2) (by kernel_rfl) (λk cl=>by kernel_rfl),ql (pg:=pg) (st:=mem 61 3) (by kernel_rfl) (λk cl=>by kernel_rfl)⟩
instance:DG.BT pg:=⟨%[20|1],%[21|1],%[22|1]⟩
instance:DG.PC pg:=⟨%[37|1]⟩
instance:DG.SU pg:=⟨%[38|1],%[39|1],%[40|1],%[41|1]⟩
instance:DG.FK pg:=⟨%[42|1],%[43|1],%[44|1]⟩
instance:DG.FM pg:=⟨%[45|1]⟩
instance:DG.FO pg:=⟨%[46|1]⟩
instance:FZ.ZA pg:=⟨%[63|1]⟩
instance:FZ.ZW pg:=⟨%[64|1]⟩
instance:FZ.ZN pg:=⟨%[65|1]⟩
instance:FZ.ZR pg:=⟨%[67|1]⟩
instance:FZ.ZT pg:=⟨%[68|1]⟩
instance:FZ.ZP pg:=⟨%[69|1]⟩
instance:FY.ZY pg:=⟨%[66|1]⟩
instance:FX.XP pg:=⟨%[70|1]⟩
instance:FX.XS pg:=⟨%[71|1]⟩
instance:FX.XC pg:=⟨%[72|1],%[73|1]⟩
instance:DG.LI pg:=⟨%[48|1],%[49|1]⟩
instance:DG.PN pg:=⟨%[10|1]⟩
instance:DG.PF pg:=⟨%[52|1],%[53|1],%[54|1]⟩
noncomputable abbrev j5:Ss:=%[.set 6 (.call "_law_pieces" %[.idx (.var 0) (.var 5),1,5,2|0]),.ite (.cmp .Gt (.call "_law_count" %[.idx (.var 0) (.var 5),6,3|0]) (.idx (.idx (.var 0) (.var 5)) (.con (.int 2)))) %[.app 4 (.tup %[3,5,.call "_law_first" %[.idx (.var 0) (.var 5),6,3|0]|0])|0] .nil|0]
def zR:Ss:=j5
theorem jy:USs zR j5:=λ_ _ _ _=>(rfl)
noncomputable def Ju:Nat×Nat×Ss:=(4,7,%[.set 4 (.lst .nil),.for_ (.one 5) (.rng (.b1 .len (.var 0))) zR,.ret (.var 4)|0])
theorem ZG:RW pg "_law_broken" Ju:=%[74|1]
abbrev Jv:E:=(.var 0)
def yu:E:=Jv
theorem Qk:UE yu Jv:=λ_ _ _=>(rfl)
noncomputable abbrev Jw:Ss:=%[.set 9 (.call "_law_broken" %[0,1,.bin .Add (.comp yu (.seq (.var 2)) (.one 0) (.test (.cmp .Lt (.idx (.var 0) (.con (.int 2))) (.var 1))) 1 [4]) (.lst %[.tup %[8,4,4|0]|0]),4|0]),.ite (.cmp .Eq (.var 9) (.lst .nil)) %[.ret (.con .non)|0] .nil,.app 7 (.tup %[8,.idx (.var 9) (.con (.int 0))|0])|0]
def yv:Ss:=Jw
theorem Ql:USs yv Jw:=λ_ _ _ _=>(rfl)
noncomputable def jz:Nat×Nat×Ss:=(6,10,%[.ite (.or (.not (.val (.isi Ty.tuple (.var 5)))) (.or (.cmp .NotEq (.b1 .len (.var 5)) (.con (.int 3))) (.or (.cmp .NotEq (.idx (.var 5) (.con (.int 0))) (.var 4)) (.one (.not (.val (.isi Ty.list (.idx (.var 5) (.con (.int 2)))))))))) %[.ret (.con .non)|0] .nil,.ite (.and (.cmp .IsNot (.idx (.var 5) (.con (.int 1))) (.con .non)) (.one (.cmp .NotIn (.idx (.var 5) (.con (.int 1))) (.var 3)))) %[.ret (.con .non)|0] .nil,.set 6 (.var 3),.ite (.cmp .IsNot (.idx (.var 5) (.con (.int 1))) (.con .non)) %[.set 6 (.sli (.var 3) .none (.some (.met (.var 3) "index" %[.idx (.var 5) (.con (.int 1))|0]))),.set 2 (.bin .Add (.var 2) (.lst %[.tup %[.idx (.var 5) (.con (.int 1)),4,4|0]|0])),.ite (.cmp .NotEq (.call "_law_broken" %[0,1,2,4|0]) (.lst .nil)) %[.ret (.con .non)|0] .nil|0] .nil,.set 7 (.lst .nil),.for_ (.one 8) (.seq (.var 6)) yv,.ite (.cmp .NotEq (.idx (.var 5) (.con (.int 2))) (.var 7)) %[.ret (.con .non)|0] .nil,.ret (.var 2)|0])
theorem QS:RW pg "_law_day" jz:=%[75|1]
noncomputable abbrev qcs:E:=(.call "_law_spec" %[.bin .Add (.call "_law_at" %[1,.con (.int 1)|0]) (.bin .Mult (.con (.int 47)) (.var 0)),3,2|0])
def qbx:E:=qcs
theorem qe2:UE qbx qcs:=λ_ _ _=>(rfl)
abbrev qct:E:=(.call "_law_rule" %[0|0])
def qby:E:=qct
theorem qe3:UE qby qct:=λ_ _ _=>(rfl)
abbrev qcu:E:=(.var 0)
def ZH:E:=qcu
theorem qe4:UE ZH qcu:=λ_ _ _=>(rfl)
noncomputable abbrev qcv:Ss:=%[.set 18 (.calF "_law_day" %[5,10,18,15,.bin .Add (.var 13) (.var 4),.idx (.var 17) (.var 4)|0]),.ite (.cmp .Is (.var 18) (.con .non)) %[.ret (.con (.bl false))|0] .nil|0]
def qbz:Ss:=qcv
theorem qaR:USs qbz qcv:=λ_ _ _ _=>(rfl)
noncomputable def qme:Nat×Nat×Ss:=(1,19,%[.set 1 (.cmp .Eq (.bin .Mod (.call "_law_at" %[0,.con (.int 0)|0]) (.con (.int 2))) (.con (.int 1))),.set 2 (.call "_law_names" %[.call "_law_at" %[0,.con (.int 0)|0],.con (.int 2)|0]),.set 3 (.bin .Add (.con (.int 1)) (.bin .Mod (.call "_law_at" %[0,.con (.int 1)|0]) (.con (.int 3)))),.set 5 (.comp qbx (.rng (.var 3)) (.one 0) .yes 1 [0,1,2]),.set 6 (.bin .Mod (.call "_law_at" %[0,.con (.int 2)|0]) (.con (.int 1000))),.ite (.and (.cmp .Eq (.bin .Mod (.bin .FloorDiv (.call "_law_at" %[0,.con (.int 2)|0]) (.con (.int 1000))) (.con (.int 4))) (.con (.int 1))) (.one (.not (.val (.var 1))))) %[.set 6 (.bin .Sub (.bin .Pow (.con (.int 10)) (.con (.int 9))) (.con (.int 400)))|0] .nil,.set 7 (.cmp .Eq (.bin .Mod (.bin .FloorDiv (.call "_law_at" %[0,.con (.int 3)|0]) (.con (.int 40))) (.con (.int 4))) (.con (.int 1))),.set 8 (.call "_law_stays" %[.sli (.var 0) (.some (.con (.int 4))) (.some (.idx (.lst %[.con (.int 20),.con (.int 8)|0]) (.b1 .int (.var 7)))),2,1,6|0]),.set 9 (.con (.int 10)),.ite (.cmp .NotEq (.var 8) (.lst .nil)) %[.set 9 (.bin .Sub (.idx (.idx (.var 8) (.bin .Sub (.b1 .len (.var 8)) (.con (.int 1)))) (.con (.int 2))) (.var 6))|0] .nil,.set 10 (.call "_law_papers" %[.sli (.var 0) (.some (.con (.int 3))) (.some (.con (.int 7))),3,6,.bin .FloorDiv (.bin .Mult (.b2 .min (.bin .Add (.var 9) (.con (.int 40))) (.bin .Sub (.bin .Pow (.con (.int 10)) (.con (.int 9))) (.var 6))) (.con (.int 4))) (.con (.int 5))|0]),.set 11 (.new "Book" %[.comp qby (.seq (.var 5)) (.one 0) .yes 1 [],10|0]),.set 12 (.call "fault_of" %[11,8|0]),.ite (.cmp .IsNot (.var 12) (.con .non)) %[.set 8 (.comp ZH (.seq (.var 8)) (.one 0) (.test (.cmp .Lt (.idx (.var 0) (.con (.int 2))) (.idx (.var 1) (.con (.int 0))))) 1 [12])|0] .nil,.set 13 (.bin .Add (.bin .Add (.var 6) (.bin .Mod (.call "_law_at" %[0,.con (.int 3)|0]) (.con (.int 10)))) (.con (.int 1))),.ite (.cmp .NotEq (.var 8) (.lst .nil)) %[.set 13 (.bin .Add (.bin .Sub (.var 13) (.var 6)) (.idx (.idx (.var 8) (.bin .Sub (.b1 .len (.var 8)) (.con (.int 1)))) (.con (.int 2))))|0] .nil,.set 14 (.bin .Mod (.call "_law_at" %[0,.con (.int 2)|0]) (.con (.int 21))),.ite (.val (.var 7)) %[.set 14 (.bin .Add (.con (.int 41)) (.bin .Mod (.call "_law_at" %[0,.con (.int 2)|0]) (.con (.int 20))))|0] .nil,.set 15 (.idx (.lst %[2,.rvs (.var 2),.sli (.var 2) .none (.some (.con (.int 1))),.sli (.var 2) (.some (.con (.int 1))) .none|0]) (.bin .Mod (.bin .FloorDiv (.call "_law_at" %[0,.con (.int 3)|0]) (.con (.int 10))) (.con (.int 4)))),.set 16 (.lst %[.b1 .list (.var 8),.b1 .list (.var 15)|0]),.set 17 (.call "plan_of" %[11,.idx (.var 16) (.con (.int 0)),.idx (.var 16) (.con (.int 1)),13,14|0]),.ite (.or (.not (.val (.isi Ty.list (.var 17)))) (.or (.cmp .NotEq (.b1 .len (.var 17)) (.var 14)) (.one (.cmp .NotEq (.var 16) (.lst %[8,15|0]))))) %[.ret (.con (.bl false))|0] .nil,.set 18 (.b1 .list (.var 8)),.for_ (.one 4) (.rng (.var 14)) qbz,.ret (.con (.bl true))|0])
theorem qnB:RW pg "law" qme:=%[76|1]
end K56
namespace K56
open PySem DE DG FX FZ FA Dy
open L2 hiding St
noncomputable def brP(S:List St)(e:Int):List Rl->Nat->List (Int×Int×Int)
 |[],_=>[]
 | x::l,i=>if x.1.most < cb S x e then (e,(i:Int),J7 x.1 (qX S x) e)::brP S e l (i+1) else brP S e l (i+1)
theorem qbA(S:List St)(e:Int):∀(l:List Rl) (i:Nat),qcm S e l i=(brP S e l i).head?
 |[],i=>rfl
 | x::l,i=>by
  rw[qcm,brP]
  by_cases c:x.1.most < cb S x e
  ·rw[if_pos c,if_pos c];rfl
  ·rw[if_neg c,if_neg c];exact qbA S e l (i+1)
structure Lw(rs:List Ru)(ps:List Pa):Prop where
 r:∀r∈rs,SpOk r
 p:∀p∈ps,p.2.1<=p.2.2
 pn:ps.length<=5
 rn:rs.length<=8
 w:∀x∈rlF ps 0 (rs.map mkR),Rlw x
 lf:∀x∈rlF ps 0 (rs.map mkR),x.2.length<=5
section
variable{rs:List Ru}{ps:List Pa}(l:Lw rs ps)
include l
theorem Lw.get{j:Nat}{r:Ru}(hj:rs[j]?=some r):(rlF ps 0 (rs.map mkR))[j]?=some (mkR r,zU (j:Int) ps):=by rw[YG,List.getElem?_map,hj,Nat.zero_add];rfl
theorem Lw.rl{j:Nat}{r:Ru}(hj:rs[j]?=some r):Rlw (mkR r,zU (j:Int) ps):=l.w _ (List.mem_of_getElem? (l.get hj))
theorem qe5(k:Nat)(b b2:Bool){S:List St}{e:Int}(hc:Chw e S)(hn:S.length<=70){j:Nat}{r:Ru}(hj:rs[j]?=some r)(y:Int) :
  clK pg (k+1) "_law_pieces" [.val (spD r),aL b (ps.map paD),.val (.int (j:Int)),aL b2 (S.map stD)]=.ok (.tmp ((qX S (mkR r,zU (j:Int) ps)).map paD))/\
  clK pg (k+2) "_law_count" [.val (spD r),.bor ((qX S (mkR r,zU (j:Int) ps)).map paD),.val (.int y)]=.ok (.val (.int (cb S (mkR r,zU (j:Int) ps) y)))/\
  (r.most < cb S (mkR r,zU (j:Int) ps) y->clK pg (k+1) "_law_first" [.val (spD r),.bor ((qX S (mkR r,zU (j:Int) ps)).map paD),.val (.int y)]=.ok (.val (.int (J7 (mkR r) (qX S (mkR r,zU (j:Int) ps)) y)))):=by
 have rl:=l.rl hj;have sp:=l.r r (List.mem_of_getElem? hj);have pc:=QN rl hc;have q:=qda (pg:=pg) k b b2 r sp.nd ps l.p l.pn j S (Chw.ab hc) hn;rw[qe1] at q;refine⟨q,?_,λlt=>?_⟩
 ·have ln:=qgB (x:=(mkR r,zU (j:Int) ps)) (l.lf _ (List.mem_of_getElem? (l.get hj))) S;have c:=qe0 (pg:=pg) k true r (qX S (mkR r,zU (j:Int) ps)) (λp hp=>by have:=pc.ok p hp;omega) (1:) y;rw[qnz rl.days pc] at c;exact c
 ·have fi:=qaP (pg:=pg) k true r (qX S (mkR r,zU (j:Int) ps)) y;have m0:=sp.m0;have pos:0 < cb S (mkR r,zU (j:Int) ps) y:=by omega
  rw[qnA rl.days pc pos] at fi;exact fi
theorem qbB(b b2:Bool){S:List St}{e0 e:Int}(hc:Chw e0 S)(hn:S.length<=70):∀(n i:Nat) (acc:List (Int×Int×Int)) (s5 s6:Sl),i+n=rs.length->acc.length+n < 1000->
  ∃s5' s6',jN (pg.kk 17) 1000 (.one 5) zR (rgF (i:Int) n) [.val (.lst (rs.map spD)),pS b (ps.map paD),pS b2 (S.map stD),.val (.int e),.own (acc.map f3D),s5,s6]=.ok (.next [.val (.lst (rs.map spD)),pS b (ps.map paD),pS b2 (S.map stD),.val (.int e),.own ((acc++brP S e ((rlF ps 0 (rs.map mkR)).drop i) i).map f3D),s5',s6'])
 |0,i,acc,s5,s6,hi,_=>⟨s5,s6,by rw[List.drop_of_length_le (by rw[qeU,List.length_map];omega)];simp[rgF,brP,qL]⟩
 | n+1,i,acc,s5,s6,hi,ha=>by
  obtain⟨r,hr⟩:∃r,rs[i]?=some r:=⟨rs[i]'(1:),List.getElem?_eq_getElem (1:)⟩;obtain⟨pc,_,fi⟩:=qe5 l 16 b b2 hc hn hr e;have ct:=(qe5 l 15 b b2 hc hn hr e).2.1;have pc:clK pg 17 "_law_pieces" [.val (spD r),aL b (ps.map paD),.val (.int (i:Int)),aL b2 (S.map stD)]=_:=pc;have ct:clK pg 17 "_law_count" [.val (spD r),.bor ((qX S (mkR r,zU (i:Int) ps)).map paD),.val (.int e)]=_:=ct
  have hdrop:(rlF ps 0 (rs.map mkR)).drop i=(mkR r,zU (i:Int) ps)::(rlF ps 0 (rs.map mkR)).drop (i+1):=by have g:=l.get hr;obtain⟨hlt,ge⟩:=List.getElem?_eq_some_iff.mp g;rw[List.drop_eq_getElem_cons hlt,ge]
  have a1:atI (rs.map spD) (i:Int)=some (spD r):=qhe (by rw[List.getElem?_map,hr];rfl);have a2:atI [D.int (kw r.kd),.lst (r.lands.map lnD),.int r.most,.int r.days] 2=some (.int r.most):=rfl;have za:acc.length < sizeLine:=qr (1:);have three:0+1+1+1<=sizeLine:=by decide+kernel
  rw[hdrop,brP,qcd]
  by_cases c:r.most < cb S (mkR r,zU (i:Int) ps) e
  ·rw[if_pos c];have fi:clK pg 17 "_law_first" [.val (spD r),.bor ((qX S (mkR r,zU (i:Int) ps)).map paD),.val (.int e)]=_:=fi c;dsimp only;obtain⟨s5',s6',ih⟩:=qbB (e:=e) b b2 hc hn n (i+1) (acc++[(e,(i:Int),J7 (mkR r) (qX S (mkR r,zU (i:Int) ps)) e)]) (.val (.int i)) (.own ((qX S (mkR r,zU (i:Int) ps)).map paD)) (1:) (by simp;omega);refine⟨s5',s6',?_⟩;rw[show((i+1:Nat):Int)=(i:Int)+1 by omega] at ih;simp only[List.map_append,List.map_cons,List.map_nil,List.append_assoc,List.cons_append,List.nil_append] at ih ⊢;rw[show f3D (e,(i:Int),J7 (mkR r) (qX S (mkR r,zU (i:Int) ps)) e)=.tup [.int e,.int (i:Int),.int (J7 (mkR r) (qX S (mkR r,zU (i:Int) ps)) e)] from rfl] at ih ⊢;generalize J7 (mkR r) (qX S (mkR r,zU (i:Int) ps)) e=fw at fi ih ⊢;generalize (qX S (mkR r,zU (i:Int) ps)).map paD=P at pc ct fi ih;simp only[spD] at pc ct fi a1;refine(qf _).symm.trans ?_;rw[rgF];simp? only[jy,a1,a2,pc,ct,c,fi,three,List.length_map,za,ih]
  ·rw[if_neg c];obtain⟨s5',s6',ih⟩:=qbB (e:=e) b b2 hc hn n (i+1) acc (.val (.int i)) (.own ((qX S (mkR r,zU (i:Int) ps)).map paD)) (1:) (1:);refine⟨s5',s6',?_⟩;rw[show((i+1:Nat):Int)=(i:Int)+1 by omega] at ih;generalize (qX S (mkR r,zU (i:Int) ps)).map paD=P at pc ct ih;simp only[spD] at pc ct a1;refine(qf _).symm.trans ?_;rw[rgF];simp? only[jy,a1,a2,pc,ct,c,ih]
theorem Jl(b b2:Bool){S:List St}{e0 e:Int}(hc:Chw e0 S)(hn:S.length<=70):clK pg 18 "_law_broken" [.val (.lst (rs.map spD)),aL b (ps.map paD),aL b2 (S.map stD),.val (.int e)]=.ok (.tmp ((brP S e (rlF ps 0 (rs.map mkR)) 0).map f3D)):=by
 obtain⟨s5,s6,lp⟩:=qbB l b b2 (e:=e) hc hn rs.length 0 [] .no .no (1:) (by have:=l.rn;simp;omega);rw[List.map_nil,List.nil_append,List.drop_zero,show((0:Nat):Int)=0 from rfl] at lp;have sm:qD (rs.length:Int)=true:=yg (1:) (by have:=l.rn;omega);have z0:(0:Nat)<=sizeLine:=by decide+kernel
 rw[show(18:Nat)=17+1 from rfl,ZG];simp? only[Ju,z0,List.length_map,sm,y7,Int.sub_zero,Int.toNat_natCast,lp]
end
end K56
namespace K56
open PySem DE DG FX FZ FA Dy
open L2 hiding St
theorem qhA{rs:List Ru}{ps:List Pa}{st:List St}{e:Int}:∀(ws:List Str) (acc:List (Str×Int×Int×Int)),∃L:List (Str×Int×Int×Int),(pdF rs ps st e ws acc).2=acc++L/\(∀(i:Nat) p,L[i]?=some p->ws[i]?=some p.1/\qv rs ps (st++[(p.1,e,e)])=some p.2)/\(((pdF rs ps st e ws acc).1=none/\L.length=ws.length)\/∃z,(pdF rs ps st e ws acc).1=some z/\ws[L.length]?=some z/\qv rs ps (st++[(z,e,e)])=none)
 |[],acc=>⟨[],by simp[pdF],λi p h=>by simp at h,.inl ⟨rfl,rfl⟩⟩
 | w::ws,acc=>by
  rw[pdF]
  cases q:qv rs ps (st++[(w,e,e)]) with
  |none=>exact⟨[],by simp,λi p h=>by simp at h,.inr ⟨w,rfl,rfl,q⟩⟩
  |some f=>
   obtain⟨L,h1,h2,h3⟩:=qhA (rs:=rs) (ps:=ps) (st:=st) (e:=e) ws (acc++[(w,f)]);refine⟨(w,f)::L,by dsimp only;rw[h1];simp,λi p h=>?_,?_⟩
   ·cases i with
    |zero=>cases h;exact⟨rfl,q⟩
    |succ i=>exact h2 i p h
   ·rcases h3 with ⟨g1,g2⟩ | ⟨z,g1,g2,g3⟩
    ·exact .inl ⟨g1,by simp[g2]⟩
    ·exact .inr ⟨z,g1,g2,g3⟩
theorem qmf{ws:List Str}(hn:ws.Nodup):∀{i:Nat} {z:Str},ws[i]?=some z->ws.idxOf z=i:=by
 induction ws with
 |nil=>intro i z h;simp at h
 |cons w l ih=>
  intro i z h;obtain⟨n1,n2⟩:=List.nodup_cons.mp hn
  cases i with
  |zero=>cases h;simp
  |succ i=>have h:l[i]?=some z:=h;have ne:w≠z:=λq=>n1 (by rw[q];exact List.mem_of_getElem? h);rw[List.idxOf_cons,show(w == z)=false by simpa using ne];simp[ih n2 h]
theorem qgC(l:List D)(i:Nat)(h:i<=l.length):qbR l none (some (i:Int))=l.take i:=by unfold qbR;rw[HT.qbM,HT.QX];simp[Nat.min_eq_left h]
theorem Y5(k:Nat)(e:Int):∀(l acc:List St) (s0:Sl),acc.length+l.length < 1000->zt (pg.kk k) yu (.one 0) (F.test (T.cmp CmpOp.Lt (E.idx (E.var 0) (E.con (D.int 2))) (E.var 1))) (l.map stD) [s0,.val (.int e)] (acc.map stD)=.ok ((acc++l.filter λs=>decide (s.2.2 < e)).map stD)
 |[],acc,s0,_=>by simp[qH]
 | s::l,acc,s0,hl=>by
  rw[List.length_cons] at hl;have hs:(acc.map stD).length < sizeLine:=by rw[List.length_map];exact qr (1:)
  have a2:∀x y z:D,atI [x,y,z] 2=some z:=λ_ _ _=>rfl
  by_cases c:s.2.2 < e
  ·have ih:=Y5 k e l (acc++[s]) (.val (stD s)) (by simp;omega);rw[List.filter_cons_of_pos (by simpa using c)];simp only[List.map_append,List.map_cons,List.map_nil,List.append_assoc,List.cons_append,List.nil_append,zm] at ih ⊢;refine(qf _).symm.trans ?_;simp? only[Qk,a2,c,hs,ih]
  ·have ih:=Y5 k e l acc (.val (stD s)) (1:);rw[List.filter_cons_of_neg (by simpa using c)];simp only[zm] at ih;refine(qf _).symm.trans ?_;rw[List.map_cons];simp? only[zm,a2,c,ih]
section
variable{rs:List Ru}{ps:List Pa}{S:List St}{e:Int}(l:Lw rs ps)(h:Kp (rs.map mkR) ps S e)(hn:S.length<=69)
include l h hn
theorem ZI{T:List St}(hT:T.length<=70)(hf:T.filter (λs=>decide (s.2.2 < e))=S)(v3 v5 v6:Sl):∀(L acc:List (Str×Int×Int×Int)) (c:Bool) (s8 s9:Sl),acc.length+L.length < 900->(∀p∈L,NameOk p.1/\qv (rs.map mkR) ps (S++[(p.1,e,e)])=some p.2)->
  ∃(c':Bool) (s8' s9':Sl),jN (pg.kk 18) 1000 (.one 8) yv ((L.map (·.1)).map D.str) [.val (.lst (rs.map spD)),.val (.lst (ps.map paD)),qhh c (T.map stD),v3,.val (.int e),v5,v6,.own (acc.map Y2),s8,s9]=.ok (.next [.val (.lst (rs.map spD)),.val (.lst (ps.map paD)),qhh c' (T.map stD),v3,.val (.int e),v5,v6,.own ((acc++L).map Y2),s8',s9'])
 |[],acc,c,s8,s9,_,_=>⟨c,s8,s9,by simp[qL]⟩
 | p::L,acc,c,s8,s9,ha,hp=>by
  rw[List.length_cons] at ha;obtain⟨q1,q2⟩:=hp p (by simp);have br:clK pg 18 "_law_broken" [.val (.lst (rs.map spD)),.val (.lst (ps.map paD)),.val (.lst ((S++[(p.1,e,e)]).map stD)),.val (.int e)]=_:=Jl l false false (e:=e) (h.ch1 (z:=p.1)) (by rw[List.length_append];show S.length+1<=70;omega);have hd:=qbA (S++[(p.1,e,e)]) e (rlF ps 0 (rs.map mkR)) 0;rw[h.fon,q2] at hd
  obtain⟨B,hB⟩:∃B,brP (S++[(p.1,e,e)]) e (rlF ps 0 (rs.map mkR)) 0=p.2::B:=by
   cases q:brP (S++[(p.1,e,e)]) e (rlF ps 0 (rs.map mkR)) 0 with
   |nil=>rw[q] at hd;cases hd
   |cons a B=>rw[q] at hd;cases hd;exact⟨B,rfl⟩
  rw[hB,List.map_append,List.map_cons,List.map_nil,zm,List.map_cons] at br;dsimp only at br;obtain⟨c',s8',s9',ih⟩:=ZI hT hf v3 v5 v6 L (acc++[p]) false (.val (.str p.1)) (.own (f3D p.2::B.map f3D)) (by simp;omega) λu hu=>hp u (by simp[hu]);refine⟨c',s8',s9',?_⟩;have fc:=Y5 18 e T [] .no (by simp;omega);rw[List.map_nil,List.nil_append,hf] at fc;have at0:atI (f3D p.2::B.map f3D) 0=some (f3D p.2):=qhe (j:=0) rfl
  have en:eqD (.lst (f3D p.2::B.map f3D)) (.lst [])=some false:=by
   have ok:∀l:List (Int×Int×Int),Qx (l.map f3D)=true/\Qe (l.map f3D)<=60:=λl=>by
    induction l with
    |nil=>simp[Qx,Qe]
    |cons a l ih=>rw[List.map_cons];exact⟨by simp[Qx,okD,f3D,ih.1],by simp only[Qe,dpD,f3D];have:=ih.2;omega⟩
   have:=qbi (l:=(p.2::B).map f3D) (ok (p.2::B)).1 (by have:=(ok (p.2::B)).2;omega)
   exact this
  have z0:(0:Nat)<=sizeLine:=by decide+kernel
  have one:0+1<=sizeLine:=by decide+kernel
  have two:0+1+1<=sizeLine:=by decide+kernel
  have three:0+1+1+1<=sizeLine:=by decide+kernel
  have zT:T.length<=sizeLine:=qy (1:);have zS:S.length+(0+1)<=sizeLine:=qy (1:);have za:acc.length < sizeLine:=qr (1:);rw[qel] at ih;rw[show acc++p::L=acc++[p]++L by simp];rw[List.map_append (l₁:=acc),List.map_cons,List.map_nil,show Y2 p=.tup [.str p.1,f3D p.2] from rfl] at ih;generalize (acc++[p]++L).map Y2=AL at ih ⊢;generalize f3D p.2=FV at *;generalize B.map f3D=BV at *;refine(qf _).symm.trans ?_;rw[List.map_cons,List.map_cons];simp? only[Ql,List.length_map,zT,Qt,qfN,List.getD_cons_succ,List.getD_cons_zero,fc,one,two,three,zS,br,z0,en,at0,za,ih]
end
end K56
namespace K56
open PySem DE DG FX FZ FA Dy
open L2 hiding St
theorem qgD{L:List (Str×Int×Int×Int)}{ws:List Str}(h:∀(i:Nat) p,L[i]?=some p->ws[i]?=some p.1):L.map (·.1)=ws.take L.length:=by
 refine List.ext_getElem? λi=>?_;rw[List.getElem?_map,List.getElem?_take]
 by_cases c:i < L.length
 ·rw[if_pos c,List.getElem?_eq_getElem c];exact(h i _ (List.getElem?_eq_getElem c)).symm
 ·rw[if_neg c,List.getElem?_eq_none (1:)];rfl
theorem qe6:∀(L:List (Str×Int×Int×Int)),(∀p∈L,NameOk p.1)->Qx (L.map Y2)=true/\Qe (L.map Y2)<=60
 |[],_=>by simp[Qx,Qe]
 | s::l,h=>by obtain⟨a,b⟩:=qe6 l λt ht=>h t (by simp[ht]);have n:=yx (h s (by simp));rw[List.map_cons];refine⟨by simp[Qx,okD,Y2,f3D,n,a],?_⟩;simp only[Qe,dpD,Y2,f3D];omega
section
variable{rs:List Ru}{ps:List Pa}{S:List St}{e:Int}(l:Lw rs ps)(h:Kp (rs.map mkR) ps S e)(hn:S.length<=69)
include l h hn
theorem qmg(ws:List Str)(hw:∀w∈ws,NameOk w)(hnd:ws.Nodup)(h6:ws.length<=6):∃c:Bool,clK pg 19 "_law_day" [.val (.lst (rs.map spD)),.val (.lst (ps.map paD)),.val (.lst (S.map stD)),.val (.lst (ws.map D.str)),.val (.int e),.val (pdD e (pdF (rs.map mkR) ps S e ws []))]=.ok (if c=true then .tmp ((J9 S e (pdF (rs.map mkR) ps S e ws []).1).map stD) else .val (.lst ((J9 S e (pdF (rs.map mkR) ps S e ws []).1).map stD))):=by
 obtain⟨L,h1,h2,h3⟩:=qhA (rs:=rs.map mkR) (ps:=ps) (st:=S) (e:=e) ws [];rw[List.nil_append] at h1;have ft:=qgD λi p q=>(h2 i p q).1
 have hL:∀p∈L,NameOk p.1/\qv (rs.map mkR) ps (S++[(p.1,e,e)])=some p.2:=λp hp=>by obtain⟨i,hi⟩:=List.getElem?_of_mem hp;exact⟨hw _ (List.mem_of_getElem? (h2 i p hi).1),(h2 i p hi).2⟩
 have Ll:L.length<=6:=by
  rcases h3 with ⟨_,g⟩ | ⟨z,_,g,_⟩
  ·omega
  ·have:=(List.getElem?_eq_some_iff.mp g).1;omega
 obtain⟨okL,dpL⟩:=qe6 L λp hp=>(hL p hp).1;have eqL:eqD (.lst (L.map Y2)) (.lst (L.map Y2))=some true:=Ze (by rw[okD];exact okL) (by rw[dpD];omega);have a0:∀x y z:D,atI [x,y,z] 0=some x:=λ_ _ _=>rfl;have a1:∀x y z:D,atI [x,y,z] 1=some y:=λ_ _ _=>rfl;have a2:∀x y z:D,atI [x,y,z] 2=some z:=λ_ _ _=>rfl;have ee:(e == e)=true:=by simp
 have t33:((3:Int) == 3)=true:=rfl;have e33:(((0:Nat)+1+1+1:Nat):Int)=3:=rfl;have z0:(0:Nat)<=sizeLine:=by decide+kernel
 have one:0+1<=sizeLine:=by decide+kernel
 have three:0+1+1+1<=sizeLine:=by decide+kernel
 have zS:S.length+(0+1)<=sizeLine:=qy (1:);rw[show pdD e (pdF (rs.map mkR) ps S e ws [])=.tup [.int e,qjB (pdF (rs.map mkR) ps S e ws []).1,.lst (L.map Y2)] by rw[pdD,h1]];have fS:S.filter (λs=>decide (s.2.2 < e))=S:=List.filter_eq_self.mpr λs hs=>by simpa using h.lt s hs
 rcases h3 with ⟨g1,g2⟩ | ⟨z,g1,g2,g3⟩
 ·rw[g1];rw[g2,List.take_length] at ft;obtain⟨c',s8,s9,lp⟩:=ZI l h hn (T:=S) (1:) fS (.val (.lst (ws.map D.str))) (.val (.tup [.int e,.non,.lst (L.map Y2)])) (.val (.lst (ws.map D.str))) L [] false .no .no (by simp;omega) hL;rw[List.map_nil,List.nil_append,ft,qel] at lp;refine⟨c',?_⟩;dsimp only[J9,qjB];generalize L.map Y2=LD at *;rw[show(19:Nat)=18+1 from rfl,QS]
  cases c' with
  |true=>rw[qek] at lp;rw[if_pos rfl];simp? only[jz,a0,a1,a2,t33,e33,qp,ee,z0,lp,eqL]
  |false=>rw[qel] at lp;rw[if_neg (2:)];simp? only[jz,a0,a1,a2,t33,e33,qp,ee,z0,lp,eqL]
 ·rw[g1];have hzw:=List.mem_of_getElem? g2;have hz:=hw z hzw;have mm:qdZ (.val (.str z)) (.val (.lst (ws.map D.str)))=some (ws.contains z):=qb7 z ws;rw[show ws.contains z=true by simpa using hzw] at mm;have ix:ixM (.val (.lst (ws.map D.str))) [.val (.str z)]=.ok (.val (.int ((ws.idxOf z:Nat):Int))):=qlP (r:=.val (.lst (ws.map D.str))) rfl hzw;rw[qmf hnd g2] at ix;have mt:mtD (pg.kk 18).cs (.val (.lst (ws.map D.str))) "index" = none:=rfl
  have cu:qbR (ws.map D.str) none (some (L.length:Int))=(ws.take L.length).map D.str:=by rw[qgC _ _ (by rw[List.length_map];have:=(List.getElem?_eq_some_iff.mp g2).1;omega),List.map_take]
  have br:clK pg 18 "_law_broken" [.val (.lst (rs.map spD)),.val (.lst (ps.map paD)),.bor ((S++[(z,e,e)]).map stD),.val (.int e)]=_:=Jl l false true (e:=e) (h.ch1 (z:=z)) (by rw[List.length_append];show S.length+1<=70;omega);have hd:=qbA (S++[(z,e,e)]) e (rlF ps 0 (rs.map mkR)) 0;rw[h.fon,g3] at hd
  have hB:brP (S++[(z,e,e)]) e (rlF ps 0 (rs.map mkR)) 0=[]:=by
   cases q:brP (S++[(z,e,e)]) e (rlF ps 0 (rs.map mkR)) 0 with
   |nil=>rfl
   |cons a B=>rw[q] at hd;cases hd
  rw[hB,List.map_nil] at br;have eqN:eqD (.lst []) (.lst [])=some true:=Ze (by simp[okD,Qx]) (by simp[dpD,Qe])
  have fT:(S++[(z,e,e)]).filter (λs=>decide (s.2.2 < e))=S:=by rw[List.filter_append,fS];simp
  obtain⟨c',s8,s9,lp⟩:=ZI l h hn (T:=S++[(z,e,e)]) (by rw[List.length_append];show S.length+1<=70;omega) fT (.val (.lst (ws.map D.str))) (.val (.tup [.int e,.str z,.lst (L.map Y2)])) (.val (.lst ((ws.take L.length).map D.str))) L [] true .no .no (by simp;omega) hL;rw[List.map_nil,List.nil_append,ft,qek] at lp;refine⟨c',?_⟩;dsimp only[J9,qjB];have eT:(S++[(z,e,e)]).map stD=S.map stD++[.tup [.str z,.int e,.int e]]:=by rw[List.map_append];rfl
  rw[eT] at br lp ⊢;generalize L.map Y2=LD at *;rw[show(19:Nat)=18+1 from rfl,QS]
  cases c' with
  |true=>rw[qek] at lp;rw[if_pos rfl];simp? only[jz,a0,a1,a2,t33,e33,qp,ee,z0,one,three,mm,mt,ix,cu,List.length_map,zS,br,eqN,lp,eqL]
  |false=>rw[qel] at lp;rw[if_neg (2:)];simp? only[jz,a0,a1,a2,t33,e33,qp,ee,z0,one,three,mm,mt,ix,cu,List.length_map,zS,br,eqN,lp,eqL]
end
end K56
namespace K56
open PySem DE DG FX FZ FA Dy
open L2 hiding St
theorem qe7:∀(st:List St),(∀s∈st,NameOk s.1)->Qx (st.map stD)=true/\Qe (st.map stD)<=60
 |[],_=>by simp[Qx,Qe]
 | s::l,h=>by obtain⟨a,b⟩:=qe7 l λt ht=>h t (by simp[ht]);have n:=yx (h s (by simp));rw[List.map_cons,zm];refine⟨by simp[Qx,okD,n,a],?_⟩;simp only[Qe,dpD];omega
theorem qaS(ns:List Int)(g:Bool)(zs:List Str)(hz:NamesOk zs):∀(n i:Nat) (acc:List Ru) (s0:Sl),acc.length+n < 1000->
  ∃rs:List Ru,(∀r∈rs,SpOk r/\r.days<=10000000/\r.most<=10000000/\(g=false->r.days<=30))/\rs.length=n/\zt (pg.kk 19) qbx (.one 0) .yes (rgF (i:Int) n) [s0,.scr (ns.map D.int),.val (.bl g),.bor (zs.map D.str)] (acc.map spD)=.ok ((acc++rs).map spD)
 |0,i,acc,s0,_=>⟨[],λ_ h=>(by cases h),rfl,by simp[rgF,qH]⟩
 | n+1,i,acc,s0,hl=>by
  have c1:clK pg 19 "_law_at" [.scr (ns.map D.int),.val (.int 1)]=.ok (.val (.int (qN ns 1))):=qlX (pg:=pg) 18 ns 1;obtain⟨r,h1,⟨h2,_,h3,h4⟩,e⟩:=FY.qjf (pg:=pg) 18 g (qN ns 1+47 * (i:Int)) zs hz;have e:clK pg 19 "_law_spec" [.val (.int (qN ns 1+47 * (i:Int))),.bor (zs.map D.str),.val (.bl g)]=.ok (.val (spD r)):=e;obtain⟨rs,g1,g2,ih⟩:=qaS ns g zs hz n (i+1) (acc++[r]) (.val (.int (i:Int))) (by simp;omega);refine⟨r::rs,λx hx=>?_,by simp[g2],?_⟩
  ·rcases List.mem_cons.mp hx with rfl | hx
   ·exact⟨h1,h3,h2,λq=>(h4 q).2⟩
   ·exact g1 x hx
  ·have mul:ZO 47 (i:Int)=true:=qhi (2:) (2:);have hs:(acc.map spD).length < sizeLine:=by rw[List.length_map];exact qr (1:)
   rw[show((i+1:Nat):Int)=(i:Int)+1 by omega] at ih;rw[show acc++r::rs=acc++[r]++rs by simp];rw[List.map_append (l₁:=acc),List.map_cons,List.map_nil] at ih;refine(qf _).symm.trans ?_;rw[rgF];simp? only[qe2,c1,mul,e,hs,ih]
theorem QT:∀(rs acc:List Ru) (s0:Sl),acc.length+rs.length < 1000->(∀r∈rs,SpOk r)->zt (pg.kk 19) qby (.one 0) .yes (rs.map spD) [s0] (acc.map ruI)=.ok ((acc++rs.map mkR).map ruI)
 |[],acc,s0,_,_=>by simp[qH]
 | r::rs,acc,s0,hl,h=>by
  rw[List.length_cons] at hl;have e:clK pg 19 "_law_rule" [.val (spD r)]=.ok (.val (ruI (mkR r))):=FZ.qi5 (pg:=pg) 6 r (h r (by simp));have ih:=QT rs (acc++[mkR r]) (.val (spD r)) (by simp;omega) λx hx=>h x (by simp[hx]);have hs:(acc.map ruI).length < sizeLine:=by rw[List.length_map];exact qr (1:)
  simp only[List.map_append,List.map_cons,List.map_nil,List.append_assoc,List.cons_append,List.nil_append] at ih ⊢;refine(qf _).symm.trans ?_;simp? only[qe3,e,hs,ih]
theorem qhB{st:List St}(h:st≠[]):atI (st.map stD) ((st.length:Int) - 1)=some (.tup [.str (st.getLast h).1,.int (st.getLast h).2.1,.int (st.getLast h).2.2]):=by have hl:0 < st.length:=List.length_pos_iff.mpr h;rw[show((st.length:Int) - 1)=((st.length - 1:Nat):Int) by omega];refine qhe ?_;rw[List.getElem?_map,<-List.getLast?_eq_getElem?,List.getLast?_eq_some_getLast h];rfl
theorem ZJ(f:Int×Int×Int):∀(l acc:List St) (s0:Sl),acc.length+l.length < 1000->zt (pg.kk 19) ZH (.one 0) (F.test (T.cmp CmpOp.Lt (E.idx (E.var 0) (E.con (D.int 2))) (E.idx (E.var 1) (E.con (D.int 0))))) (l.map stD) [s0,.val (f3D f)] (acc.map stD)=.ok ((acc++l.filter λs=>decide (s.2.2 < f.1)).map stD)
 |[],acc,s0,_=>by simp[qH]
 | s::l,acc,s0,hl=>by
  rw[List.length_cons] at hl;have hs:(acc.map stD).length < sizeLine:=by rw[List.length_map];exact qr (1:)
  have a2:∀x y z:D,atI [x,y,z] 2=some z:=λ_ _ _=>rfl;have a0:∀x y z:D,atI [x,y,z] 0=some x:=λ_ _ _=>rfl
  by_cases c:s.2.2 < f.1
  ·have ih:=ZJ f l (acc++[s]) (.val (stD s)) (by simp;omega);rw[List.filter_cons_of_pos (by simpa using c)];simp only[List.map_append,List.map_cons,List.map_nil,List.append_assoc,List.cons_append,List.nil_append,zm,f3D] at ih ⊢;refine(qf _).symm.trans ?_;simp? only[qe4,a0,a2,c,hs,ih]
  ·have ih:=ZJ f l acc (.val (stD s)) (1:);rw[List.filter_cons_of_neg (by simpa using c)];simp only[zm,f3D] at ih;refine(qf _).symm.trans ?_;rw[List.map_cons];simp? only[zm,f3D,a0,a2,c,ih]
theorem Y6(p:St->Bool):∀{l:List St} {e:Int},Ch e l->Ch e (l.filter p)
 |[],_,_=>trivial
 | s::l,e,h=>by
  have i:=Y6 p (l:=l) h.2
  cases q:p s with
  |true=>rw[List.filter_cons_of_pos q];exact⟨h.1,i⟩
  |false=>rw[List.filter_cons_of_neg (by rw[q];decide)];exact Ch.weak (by have:=h.1.lo;have:=h.1.ab;omega) i
theorem Y7(p:St->Bool):∀{l:List St} {e:Int},Ch e l->∀d,qK (l.filter p) d=none\/qK (l.filter p) d=qK l d
 |[],_,_,d=>.inl rfl
 | s::l,e,h,d=>by
  have i:=Y7 p (l:=l) h.2 d
  cases q:p s with
  |true=>
   rw[List.filter_cons_of_pos q,qK,qK];split
   ·exact .inr rfl
   ·exact i
  |false=>
   rw[List.filter_cons_of_neg (by rw[q];decide),show qK (s::l) d=if s.2.1<=d/\d<=s.2.2 then some s.1 else qK l d from rfl];split
   ·rename_i c;left;rw[YH];intro t ht
    have:=(Ch.lo h.2 t (List.mem_filter.mp ht).1).1
    omega
   ·exact i
theorem qdc{rs:List Ru}{ps:List Pa}{st:List St}(hc:Ch (-1) st)(hr:∀x∈rlF ps 0 rs,Rlw x){f:Int×Int×Int}(hf:qv rs ps st=some f):∀x∈rlF ps 0 rs,∀D,cb (st.filter λs=>decide (s.2.2 < f.1)) x D<=x.1.most:=λx hx D=>by
 have hx':=hr x hx;have hc':=Y6 (λs=>decide (s.2.2 < f.1)) hc;have cn:=qc9 hx' hc.w;have cn':=qc9 hx' hc'.w;have bf:=(yR hc.w hr).2 f hf
 have le:∀y,cb (st.filter λs=>decide (s.2.2 < f.1)) x y<=cb st x y:=λy=>Cnt.mono cn cn' hx'.days (Int.le_refl _) (λd=>by
  rcases Y7 (λs=>decide (s.2.2 < f.1)) hc d with q | q
  ·rw[qbq q];exact qlT hx'.ln _ _ _
  ·rw[qgj q];exact Int.le_refl _) y
 by_cases c:D < f.1
 ·exact Int.le_trans (le D) (bf.low x hx D c)
 ·refine cn'.keeps hx'.days (m:=x.1.most) (a:=f.1 - 1) (b:=D+1) (Int.le_trans (le _) (bf.low x hx _ (1:))) (λy h1 _=>ZD (a:=f.1) (λs hs=>by simpa using (List.mem_filter.mp hs).2) (1:)) D (1:) (1:)
theorem qhC:∀(ws:List Str),(∀s∈ws,NameOk s)->Qx (ws.map D.str)=true/\Qe (ws.map D.str)<=60
 |[],_=>by simp[Qx,Qe]
 | s::l,h=>by obtain⟨a,b⟩:=qhC l λt ht=>h t (by simp[ht]);have n:=yx (h s (by simp));rw[List.map_cons];refine⟨by simp[Qx,okD,n,a],?_⟩;simp only[Qe,dpD];omega
theorem qe8(rs:List Ru)(ps:List Pa)(ws:List Str):∀(n:Nat) (e:Int) (st:List St),(plF rs ps ws n e st).1.length=n
 |0,_,_=>rfl
 | n+1,e,st=>by rw[plF];simp[qe8 rs ps ws n]
theorem qgE(S:List St)(e:Int)(o:Option Str):(J9 S e o).length<=S.length+1:=by cases o<;>simp[J9]
theorem qcw{rs:List Ru}{ps:List Pa}(l:Lw rs ps){ws:List Str}(hw:∀w∈ws,NameOk w)(hnd:ws.Nodup)(h6:ws.length<=6)(v0 v1 v2 v3 v6 v7 v8 v9 v11 v12 v14 v16:Sl)(P:List D)(d:Int):∀(n i:Nat) (e:Int) (S:List St) (c c':Bool) (s4:Sl),e=d+(i:Int)->Kp (rs.map mkR) ps S e->S.length+n<=69->P.drop i=(plF (rs.map mkR) ps ws n e S).1->
  ∃ρ',jN (pg.kk 19) 1000 (.one 4) qbz (rgF (i:Int) n) [v0,v1,v2,v3,s4,.val (.lst (rs.map spD)),v6,v7,v8,v9,qhh c (ps.map paD),v11,v12,.val (.int d),v14,.val (.lst (ws.map D.str)),v16,.own P,qhh c' (S.map stD)]=.ok (.next ρ')
 | 0,i,e,S,c,c',s4,_,_,_,_=>⟨_,by rw[rgF,qL]⟩
 | n+1,i,e,S,c,c',s4,he,h,hl,hP=>by
  obtain⟨c2,dy⟩:=qmg l h (1:) ws hw hnd h6;have kp:=h.keep hw;rw[plF] at hP;dsimp only at hP;have at1:atI P (i:Int)=some (pdD e (pdF (rs.map mkR) ps S e ws [])):=qhe (by rw[<-List.head?_drop,hP];rfl);have kl:=qgE S e (pdF (rs.map mkR) ps S e ws []).1;obtain⟨ρ',ih⟩:=qcw l hw hnd h6 v0 v1 v2 v3 v6 v7 v8 v9 v11 v12 v14 v16 P d n (i+1) (e+1) _ false c2 (.val (.int i)) (1:) kp (1:) (by rw[<-List.drop_drop,hP];rfl);refine⟨ρ',?_⟩;rw[qel,show((i+1:Nat):Int)=(i:Int)+1 by omega] at ih;generalize (J9 S e (pdF (rs.map mkR) ps S e ws []).1).map stD=T at *;generalize pdD e (pdF (rs.map mkR) ps S e ws [])=PD at *;generalize rs.map spD=RD at *;generalize ps.map paD=PA at *;generalize S.map stD=SD at *;subst he
  cases c2 with
  |true=>
   rw[if_pos rfl] at dy;rw[qek] at ih
   cases c<;>cases c'<;>simp only[qek,qel]<;>(refine(qf _).symm.trans ?_;rw[rgF];simp? only[qaR,at1,dy,ih])
  |false=>
   rw[if_neg (2:)] at dy;rw[qel] at ih
   cases c<;>cases c'<;>simp only[qek,qel]<;>(refine(qf _).symm.trans ?_;rw[rgF];simp? only[qaR,at1,dy,ih])
def bt(f:Bool):Nat:=if f=true then 8 else 20
theorem qgF(ns:List Int)(hl:ns.length<=63):clK pg 20 "law" [.scr (ns.map D.int)]=.ok (.val (.bl true)):=by
 have cell:∀i:Nat,clK pg 19 "_law_at" [.scr (ns.map D.int),.val (.int (i:Int))]=.ok (.val (.int (qN ns i))):=λi=>qlX (pg:=pg) 18 ns i;have c0:clK pg 19 "_law_at" [.scr (ns.map D.int),.val (.int 0)]=.ok (.val (.int (qN ns 0))):=cell 0;have c1:clK pg 19 "_law_at" [.scr (ns.map D.int),.val (.int 1)]=.ok (.val (.int (qN ns 1))):=cell 1;have c2:clK pg 19 "_law_at" [.scr (ns.map D.int),.val (.int 2)]=.ok (.val (.int (qN ns 2))):=cell 2;have c3:clK pg 19 "_law_at" [.scr (ns.map D.int),.val (.int 3)]=.ok (.val (.int (qN ns 3))):=cell 3;generalize qN ns 0=n0 at c0;generalize qN ns 2=n2 at c2;generalize qN ns 3=n3 at c3;generalize hg:(n0 % 2 == 1)=g;generalize hf:(n3 / 40 % 4 == 1)=fr;obtain⟨cs1,e1,l1⟩:=qeD ns 4 (bt fr);obtain⟨cs2,e2,l2⟩:=qeD ns 3 7;have e1:qbR (ns.map D.int) (some 4) (some (bt fr:Int))=cs1.map D.int:=e1;have e2:qbR (ns.map D.int) (some 3) (some 7)=cs2.map D.int:=e2;have bt2:(fr=true/\bt fr=8)\/(fr=false/\bt fr=20):=by cases fr<;>simp[bt]
 have ab:atI [D.int 20,.int 8] (if fr=true then 1 else 0)=some (.int (bt fr:Int)):=by cases fr<;>rfl
 obtain⟨zs,ez,lz,hz,_⟩:=qgr (pg:=pg) 17 n0 2 (1:);have ez:clK pg 19 "_law_names" [.val (.int n0),.val (.int 2)]=.ok (.tmp (zs.map D.str)):=ez
 obtain⟨za,zb,rfl⟩:∃a b,zs=[a,b]:=by
  match zs,lz with
  |[a,b],_=>exact⟨a,b,rfl⟩
 have m0:=Int.emod_nonneg (qN ns 1) (show(3:Int)≠0 by decide);have m1:=Int.emod_lt_of_pos (qN ns 1) (show(0:Int) < 3 by decide);obtain⟨m,hm⟩:∃m:Nat,1+qN ns 1 % 3=(m:Int):=⟨(1+qN ns 1 % 3).toNat,by omega⟩;have hm1:1<=m/\m<=3:=by omega
 clear m0 m1;obtain⟨rs,r1,r2,er⟩:=qaS ns g [za,zb] hz m 0 [] .no (by simp;omega);have rok:∀r∈rs,SpOk r:=λr hr=>(r1 r hr).1;rw[List.map_nil,List.nil_append,show((0:Nat):Int)=0 from rfl] at er;generalize qN ns 1=n1 at c1 hm;have HM:=λ_:Unit=>hm;clear hm;have p9:(10:Int) ^ (9:Int).toNat=1000000000:=by decide
 have c9:(0:Int)<=9/\(9:Int)<=1000000/\(10:Int).natAbs < 2 ^ 64:=by decide
 have two:0+1+1<=sizeLine:=by decide+kernel
 have q0:=Int.emod_nonneg n2 (show(1000:Int)≠0 by decide);have q1:=Int.emod_lt_of_pos n2 (show(0:Int) < 1000 by decide)
 obtain⟨base,hb,X0⟩:∃base:Int,(0<=base/\(base < 1000\/(g=false/\base=999999600)))/\∀{β:Type} (K:Fl->R β) (v2 v3 v4 v5 v7 v8 v9 v10 v11 v12 v13 v14 v15 v16 v17 v18:Sl),(iS (pg.kk 19) 1000 (.ite (.and (.cmp .Eq (.bin .Mod (.bin .FloorDiv (.call "_law_at" %[0,.con (D.int 2)|0]) (.con (D.int 1000))) (.con (D.int 4))) (.con (D.int 1))) (.one (.not (.val (.var 1))))) %[.set 6 (.bin .Sub (.bin .Pow (.con (D.int 10)) (.con (D.int 9))) (.con (D.int 400)))|0] .nil) [.scr (ns.map D.int),.val (.bl g),v2,v3,v4,v5,.val (.int (n2 % 1000)),v7,v8,v9,v10,v11,v12,v13,v14,v15,v16,v17,v18]).th K=K (.next [.scr (ns.map D.int),.val (.bl g),v2,v3,v4,v5,.val (.int base),v7,v8,v9,v10,v11,v12,v13,v14,v15,v16,v17,v18]):=by
  cases g with
  |true=>exact⟨n2 % 1000,⟨q0,.inl q1⟩,λK v2 v3 v4 v5 v7 v8 v9 v10 v11 v12 v13 v14 v15 v16 v17 v18=>by
    cases hq:(n2 / 1000 % 4 == 1) with
    |true=>simp? only[c2,qp,hq]
    |false=>simp? only[c2,qp,hq]⟩
  |false=>
   cases hq:(n2 / 1000 % 4 == 1) with
   |true=>exact⟨1000000000 - 400,⟨by decide,.inr ⟨rfl,by decide⟩⟩,λK v2 v3 v4 v5 v7 v8 v9 v10 v11 v12 v13 v14 v15 v16 v17 v18=>by simp? only[c2,qp,hq,p9,c9]⟩
   |false=>exact⟨n2 % 1000,⟨q0,.inl q1⟩,λK v2 v3 v4 v5 v7 v8 v9 v10 v11 v12 v13 v14 v15 v16 v17 v18=>by simp? only[c2,qp,hq]⟩
 clear q0 q1
 have W:(base < 1000/\wd g * (cs1.length:Int)<=64000480)\/(base=999999600/\wd g * (cs1.length:Int)<=336):=by
  rcases hb.2 with y | ⟨y,y2⟩
  ·exact .inl ⟨y,Int.le_trans (Int.mul_le_mul_of_nonneg_right (qi6 g).2.2 (1:)) (1:)⟩
  ·exact .inr ⟨y2,by rw[y];show 21 * (cs1.length:Int)<=_;omega⟩
 have b0:=hb.1;obtain⟨st,est,hch,hlen,hst⟩:=FZ.qgt (pg:=pg) 18 g cs1 (1:) [za,zb] hz base b0 (1:);have est:clK pg 19 "_law_stays" [.val (.lst (cs1.map D.int)),.bor ([za,zb].map D.str),.val (.bl g),.val (.int base)]=.ok (.tmp (st.map stD)):=est;have wl0:0<=wd g * (cs1.length:Int):=Int.mul_nonneg (by have:=qi6 g;omega) (1:);generalize wlE:wd g * (cs1.length:Int)=wl at *;have W2:base<=999999600/\base+wl<=999999936:=by omega
 have bt3:8<=bt fr/\bt fr<=20:=by omega
 have BT:=λ_:Unit=>bt2;clear W hb bt2 wlE;have lo:∀s∈st,base<=s.2.1:=λs hs=>by have:=(Ch.lo hch s hs).1;omega
 have hch:Ch (-1) st:=Ch.weak (1:) hch;have nmk:∀s∈st,NameOk s.1:=λs hs=>hz.ok _ (hst s hs).1;have top:∀s∈st,s.2.2 < base+wl:=λs hs=>(hst s hs).2
 have lng:∃long:Int,0<=long/\((st=[]/\long=10)\/∃h:st≠[],long=(st.getLast h).2.2 - base):=by
  by_cases h:st=[]
  ·exact⟨10,by decide,.inl ⟨h,rfl⟩⟩
  ·have mm:=List.getLast_mem h;have b:=Ch.lo hch _ mm;have b1:=lo _ mm;exact⟨_,by omega,.inr ⟨h,rfl⟩⟩
 obtain⟨long,g0,glong⟩:=lng;have z0':(0:Nat)<=sizeLine:=by decide+kernel
 obtain⟨ok1,dp1⟩:=qe7 st nmk;have en:=qbi ok1 (1:)
 have lg:∀{β:Type} (K:Fl->R β) (v0 v1 v2 v3 v4 v5 v7 v10 v11 v12 v13 v14 v15 v16 v17 v18:Sl),(iS (pg.kk 19) 1000 (.ite (.cmp .NotEq (.var 8) (.lst .nil)) %[.set 9 (.bin .Sub (.idx (.idx (.var 8) (.bin .Sub (.b1 .len (.var 8)) (.con (D.int 1)))) (.con (D.int 2))) (.var 6))|0] .nil) [v0,v1,v2,v3,v4,v5,.val (.int base),v7,.own (st.map stD),.val (.int 10),v10,v11,v12,v13,v14,v15,v16,v17,v18]).th K=K (.next [v0,v1,v2,v3,v4,v5,.val (.int base),v7,.own (st.map stD),.val (.int long),v10,v11,v12,v13,v14,v15,v16,v17,v18]):=by
  intro β K v0 v1 v2 v3 v4 v5 v7 v10 v11 v12 v13 v14 v15 v16 v17 v18;rcases glong with ⟨h,rfl⟩ | ⟨h,hlo⟩
  ·have en':(st.map stD).isEmpty=true:=by rw[h];rfl
   rw[en'] at en;simp? only[z0',en]
  ·have en':(st.map stD).isEmpty=false:=by
    cases st with
    |nil=>exact absurd rfl h
    |cons a b=>rfl
   rw[en'] at en;have la:=qhB h;simp? only[z0',en,la,List.length_map,<-hlo]
 clear glong;obtain⟨L0,hL0,q2,q3⟩:∃L0:Int,(if 1000000000 - base < long+40 then 1000000000 - base else long+40)=L0/\0<=L0/\L0<=1000000000 - base:=⟨_,rfl,by split<;>omega,by split<;>omega⟩;have mul4:ZO L0 4=true:=JV (2:) (2:);obtain⟨lp,hlp⟩:∃lp:Int,L0 * 4 / 5=lp:=⟨_,rfl⟩;obtain⟨ps,ep,p1,p2⟩:=qeL (pg:=pg) 18 true (m:Int) lp base (1:) b0 (1:) (1:) cs2 (1:);have ep:clK pg 19 "_law_papers" [.val (.lst (cs2.map D.int)),.val (.int (m:Int)),.val (.int base),.val (.int lp)]=.ok (.tmp (ps.map paD)):=ep;have HL:=λ_:Unit=>hL0;have HP:=λ_:Unit=>hlp;clear hL0 hlp;have er1:=QT rs [] .no (by simp;omega) rok;rw[List.map_nil,List.nil_append] at er1;have L1:(rs.map mkR).length=m:=by rw[List.length_map];exact r2
 have po:∀p∈ps,p.2.1<=p.2.2:=λp hp=>(p2 p hp).1.ab
 have w1:∀x∈rlF ps 0 (rs.map mkR),Rlw x:=ql7 (λr hr=>by obtain⟨y,hy,rfl⟩:=List.mem_map.mp hr;exact qlZ (rok y hy)) po (1:)
 have lf5:∀x∈rlF ps 0 (rs.map mkR),x.2.length<=5:=λx hx=>by
  obtain⟨j,_,e⟩:=qeA hx;rw[e]
  have h1:=qbp (ps:=ofN ((0+j:Nat):Int) ps) λp hp=>by unfold ofN at hp;obtain⟨q,hq,rfl⟩:=List.mem_map.mp hp;exact po q (List.mem_filter.mp hq).1
  have h2:=Zq ((0+j:Nat):Int) ps;unfold zU;omega
 have b1:pg.nw 19 "Book" [.val (.lst ((rs.map mkR).map ruI)),.bor (ps.map paD)]=.ok (.val (bkI (rs.map mkR) ps)):=qi1 (pg:=pg) 7 false true (rs.map mkR) ps (1:) (1:) λp hp=>by
  have h:=(p2 p hp).1
  have:=h.o0;have:=h.o1;have:=h.a0;have:=h.ab;have:=h.b1
  omega
 have f0:clK pg 19 "fault_of" [.val (bkI (rs.map mkR) ps),.bor (st.map stD)]=.ok (.val (YF (qv (rs.map mkR) ps st))):=qc6 (pg:=pg) 11 true (rs.map mkR) ps (1:) st nmk hch (1:) λx hx=>qja (w1 x hx) hch.w;have zst:st.length<=sizeLine:=qy (1:)
 obtain⟨sf,hsub,hcf,hfit,X⟩:∃sf:List St,(sf.length<=bt fr - 4/\∀s∈sf,s∈st)/\Ch (-1) sf/\(∀x∈rlF ps 0 (rs.map mkR),∀D,cb sf x D<=x.1.most)/\∀{β:Type} (K:Fl->R β) (v0 v1 v2 v3 v4 v5 v6 v7 v9 v10 v11 v13 v14 v15 v16 v17 v18:Sl),(iS (pg.kk 19) 1000 (.ite (.cmp .IsNot (.var 12) (.con D.non)) %[.set 8 (.comp ZH (I.seq (.var 8)) (Tg.one 0) (.test (.cmp .Lt (.idx (.var 0) (.con (D.int 2))) (.idx (.var 1) (.con (D.int 0))))) 1 [12])|0] .nil) [v0,v1,v2,v3,v4,v5,v6,v7,.own (st.map stD),v9,v10,v11,.val (YF (qv (rs.map mkR) ps st)),v13,v14,v15,v16,v17,v18]).th K=K (.next [v0,v1,v2,v3,v4,v5,v6,v7,.own (sf.map stD),v9,v10,v11,.val (YF (qv (rs.map mkR) ps st)),v13,v14,v15,v16,v17,v18]):=by
  cases q:qv (rs.map mkR) ps st with
  |none=>exact⟨st,⟨by omega,λs hs=>hs⟩,hch,(yR hch.w w1).1 q,λK v0 v1 v2 v3 v4 v5 v6 v7 v9 v10 v11 v13 v14 v15 v16 v17 v18=>by simp? only[YF]⟩
  |some f=>have fc:=ZJ f st [] .no (by simp;omega);rw[List.map_nil,List.nil_append] at fc;refine⟨st.filter λs=>decide (s.2.2 < f.1),⟨Nat.le_trans (List.length_filter_le ..) (1:),λs hs=>(List.mem_filter.mp hs).1⟩,Y6 _ hch,qdc hch w1 q,λK v0 v1 v2 v3 v4 v5 v6 v7 v9 v10 v11 v13 v14 v15 v16 v17 v18=>?_⟩;generalize (st.filter λs=>decide (s.2.2 < f.1)).map stD=S' at *;rw[f3D] at fc;simp? only[YF,f3D,List.length_map,zst,Qt,List.getD_cons_succ,List.getD_cons_zero,fc]
 have o:LimOk (rs.map mkR) ps sf:=⟨w1,lf5,by omega,by omega,hcf,λs hs=>nmk s (hsub.2 s hs),by omega,hfit⟩;have t0:=Int.emod_nonneg n3 (show(10:Int)≠0 by decide);have t1:=Int.emod_lt_of_pos n3 (show(0:Int) < 10 by decide);obtain⟨okf,dpf⟩:=qe7 sf o.nm;have enf:=qbi okf (1:);have zsf:sf.length<=sizeLine:=qy (1:)
 obtain⟨d,hd,Z⟩:∃d:Int,(base+1<=d/\d<=base+wl+10/\∀s∈sf,s.2.2 < d)/\∀{β:Type} (K:Fl->R β) (v0 v1 v2 v3 v4 v5 v7 v9 v10 v11 v12 v14 v15 v16 v17 v18:Sl),(iS (pg.kk 19) 1000 (.ite (.cmp .NotEq (.var 8) (.lst .nil)) %[.set 13 (.bin .Add (.bin .Sub (.var 13) (.var 6)) (.idx (.idx (.var 8) (.bin .Sub (.b1 .len (.var 8)) (.con (D.int 1)))) (.con (D.int 2))))|0] .nil) [v0,v1,v2,v3,v4,v5,.val (.int base),v7,.own (sf.map stD),v9,v10,v11,v12,.val (.int (base+n3 % 10+1)),v14,v15,v16,v17,v18]).th K=K (.next [v0,v1,v2,v3,v4,v5,.val (.int base),v7,.own (sf.map stD),v9,v10,v11,v12,.val (.int d),v14,v15,v16,v17,v18]):=by
  by_cases h:sf=[]
  ·have en':(sf.map stD).isEmpty=true:=by rw[h];rfl
   rw[en'] at enf;exact⟨base+n3 % 10+1,⟨by omega,by omega,λs hs=>by rw[h] at hs;cases hs⟩,λK v0 v1 v2 v3 v4 v5 v7 v9 v10 v11 v12 v14 v15 v16 v17 v18=>by simp? only[z0',enf]⟩
  ·have en':(sf.map stD).isEmpty=false:=by
    cases sf with
    |nil=>exact absurd rfl h
    |cons a b=>rfl
   rw[en'] at enf;have la:=qhB h;have hi:=λs hs=>Ch.high hcf s hs;have el:qjz sf=(sf.getLast h).2.2:=by unfold qjz;rw[List.getLast?_eq_some_getLast h]
   rw[el] at hi;have mm:=hsub.2 _ (List.getLast_mem h);have tp:=top _ mm;have lw:=lo _ mm;have ab:=Ch.lo hcf _ (List.getLast_mem h);exact⟨base+n3 % 10+1 - base+(sf.getLast h).2.2,⟨by omega,by omega,λs hs=>by have:=hi s hs;omega⟩,λK v0 v1 v2 v3 v4 v5 v7 v9 v10 v11 v12 v14 v15 v16 v17 v18=>by simp? only[z0',enf,la,List.length_map]⟩
 have j0:=Int.emod_nonneg n2 (show(21:Int)≠0 by decide);have j1:=Int.emod_lt_of_pos n2 (show(0:Int) < 21 by decide);have j2:=Int.emod_nonneg n2 (show(20:Int)≠0 by decide);have j3:=Int.emod_lt_of_pos n2 (show(0:Int) < 20 by decide)
 obtain⟨n,hn,Y⟩:∃n:Nat,(n<=60/\sf.length+n<=69)/\∀{β:Type} (K:Fl->R β) (v1 v2 v3 v4 v5 v6 v8 v9 v10 v11 v12 v13 v15 v16 v17 v18:Sl),(iS (pg.kk 19) 1000 (.ite (.val (.var 7)) %[.set 14 (.bin .Add (.con (D.int 41)) (.bin .Mod (.call "_law_at" %[0,.con (D.int 2)|0]) (.con (D.int 20))))|0] .nil) [.scr (ns.map D.int),v1,v2,v3,v4,v5,v6,.val (.bl fr),v8,v9,v10,v11,v12,v13,.val (.int (n2 % 21)),v15,v16,v17,v18]).th K=K (.next [.scr (ns.map D.int),v1,v2,v3,v4,v5,v6,.val (.bl fr),v8,v9,v10,v11,v12,v13,.val (.int (n:Int)),v15,v16,v17,v18]):=by
  have hs1:=hsub.1;rcases BT () with ⟨y,y1⟩ | ⟨y,y1⟩
  ·obtain⟨n,hn⟩:∃n:Nat,41+n2 % 20=(n:Int):=⟨(41+n2 % 20).toNat,by omega⟩;exact⟨n,⟨by omega,by omega⟩,λK v1 v2 v3 v4 v5 v6 v8 v9 v10 v11 v12 v13 v15 v16 v17 v18=>by rw[y];simp? only[c2,hn]⟩
  ·obtain⟨n,hn⟩:∃n:Nat,n2 % 21=(n:Int):=⟨(n2 % 21).toNat,by omega⟩;exact⟨n,⟨by omega,by omega⟩,λK v1 v2 v3 v4 v5 v6 v8 v9 v10 v11 v12 v13 v15 v16 v17 v18=>by rw[y];simp? only[hn]⟩
 obtain⟨ws,hws,aw⟩:∃ws:List Str,((∀w∈ws,NameOk w)/\ws.Nodup/\1<=ws.length/\ws.length<=6)/\atI [D.lst ([za,zb].map D.str),D.lst ([za,zb].map D.str).reverse,D.lst (qbR ([za,zb].map D.str) none (some 1)),D.lst (qbR ([za,zb].map D.str) (some 1) none)] (n3 / 10 % 4)=some (.lst (ws.map D.str)):=by
  have na:=hz.ok za (by simp);have nb:=hz.ok zb (by simp);have ne:za≠zb:=λq=>by have:=hz.once 0 1 za rfl (by rw[q];rfl);omega
  have i0:=Int.emod_nonneg (n3 / 10) (show(4:Int)≠0 by decide);have i1:=Int.emod_lt_of_pos (n3 / 10) (show(0:Int) < 4 by decide)
  have:n3 / 10 % 4=0\/n3 / 10 % 4=1\/n3 / 10 % 4=2\/n3 / 10 % 4=3:=by omega
  rcases this with y | y | y | y<;>rw[y]
  ·exact⟨[za,zb],⟨by simp[na,nb],by simp[ne],by simp,by simp⟩,rfl⟩
  ·exact⟨[zb,za],⟨by simp[na,nb],by simp[Ne.symm ne],by simp,by simp⟩,rfl⟩
  ·exact⟨[za],⟨by simp[na],by simp,by simp,by simp⟩,rfl⟩
  ·exact⟨[zb],⟨by simp[nb],by simp,by simp,by simp⟩,rfl⟩
 obtain⟨okw,dpw⟩:=qhC ws hws.1;have pl:clK pg 19 "plan_of" [.val (bkI (rs.map mkR) ps),.val (.lst (sf.map stD)),.val (.lst (ws.map D.str)),.val (.int d),.val (.int (n:Int))]=.ok (.tmp (plF (rs.map mkR) ps ws n d sf).1):=qjj (pg:=pg) 10 false false o (1:) (1:) hd.2.2 ws hws.1 hws.2.1 hws.2.2.1 hws.2.2.2 n (1:);have lk:=qe8 (rs.map mkR) ps ws n d sf;obtain⟨ρ',lw⟩:=qcw ⟨rok,po,by omega,by omega,w1,lf5⟩ hws.1 hws.2.1 hws.2.2.2 (.scr (ns.map D.int)) (.val (.bl g)) (.val (.lst ([za,zb].map D.str))) (.val (.int (m:Int))) (.val (.int base)) (.val (.bl fr)) (.val (.lst (sf.map stD))) (.val (.int long)) (.val (bkI (rs.map mkR) ps)) (.val (YF (qv (rs.map mkR) ps st))) (.val (.int (n:Int))) (.own [.lst (sf.map stD),.lst (ws.map D.str)]) (plF (rs.map mkR) ps ws n d sf).1 d n 0 d sf true true .no (1:) ⟨o.w,o.p18,o.ch.w,o.nm,o.fit,hd.2.2,by omega⟩ (1:) rfl;rw[qek,qek,show((0:Nat):Int)=0 from rfl] at lw;have eqh:eqD (.lst [.lst (sf.map stD),.lst (ws.map D.str)]) (.lst [.lst (sf.map stD),.lst (ws.map D.str)])=some true:=Ze (by simp only[okD,Qx,okf,okw];rfl) (by simp only[dpD,Qe];omega);have enl:((n:Int) == (n:Int))=true:=by simp
 have smm:qD (m:Int)=true:=yg (1:) (1:);have smn:qD (n:Int)=true:=yg (1:) (1:);have z7:(rgF 0 m).length<=sizeLine:=by rw[qex];exact qy (1:)
 have z4:rs.length<=sizeLine:=qy (1:);have one:0+1<=sizeLine:=by decide+kernel
 have four:0+1+1+1+1<=sizeLine:=by decide+kernel
 have zw:ws.length<=sizeLine:=qy (1:);have a0:∀x y:D,atI [x,y] 0=some x:=λ_ _=>rfl;have a1:∀x y:D,atI [x,y] 1=some y:=λ_ _=>rfl;generalize (plF (rs.map mkR) ps ws n d sf).1=P at *;generalize YF (qv (rs.map mkR) ps st)=FV at *;generalize bkI (rs.map mkR) ps=B at *;rw[show(20:Nat)=19+1 from rfl,qnB];generalize (rs.map mkR).map ruI=RI at *;generalize [za,zb].map D.str=N at *;simp? only[↓lg,↓X0,↓X,↓Z,↓Y,qme,c0,c1,c2,c3,qp,hg,hf,ez,HM (),smm,smn,y7,Int.sub_zero,Int.toNat_natCast,z7,Qt,List.getD_cons_succ,List.getD_cons_zero,er,p9,c9,two,ab,e1,e2,est,HL (),mul4,HP (),ep,z0',z4,zsf,zw,List.length_map,er1,b1,f0,four,aw,one,a0,a1,pl,lk,enl,eqh,lw]
end K56
namespace DE
open PySem PySem.Spec PyProof.Rows L2
def yV(G G' H:Hp):Prop:=∀a o,G' a=some o->(∃o',G a=some o')\/H a=none
def But(p:Addr)(H H':Hp):Prop:=∀a o,a≠p->H a=some o->H' a=some o
noncomputable def qdd(κ:KC)(K:Frag)(ok:Str->Bool)(go:List Ar->Option (List (Str×D))):Sp:=λvs H Q _=>∃(G:Hp) (c:Str) (C p dx:Addr) (us:List V) (args:List Ar) (fs:List (Str×D)),vs=.ref p::us/\ok c=true/\κ c=some C/\
 H p=some (.ins C dx [])/\G p=none/\qt G H/\JR κ K G H args us/\go args=some fs/\
 ∀G' H' xs,qt G G'->qt G' H'->G' p=none->But p H H'->yV G G' H->H' p=some (.ins C dx ((fs.map (·.1)).zip xs))->xs.length=fs.length->qo κ G' (fs.map (·.2)) xs->Q .non H'
section
variable{κ:KC}{K:Frag}{G H G' H':Hp}
theorem QU{cl:Str->List Ar->R Rv}{f:Str}{args:List Ar}{vs:List V}{r:Rv}{Q:VK}{E:XK}(sub:qt G H)(ha:JR κ K G H args vs)(e:cl f args=.ok r)
  (h:∀v G' H',qt H H'->qt G G'->qt G' H'->yV G G' H->ReR κ G' H' H r v->Q v H'):spF κ K cl f vs H Q E:=⟨G,args,sub,ha,by rw[e];exact h⟩
theorem ArR.low{a:Ar}{v:V}(h:ArR κ K G H a v)(gs:qt G G')(hs:∀b o,H b=some o->(∀C dx fs,o≠.ins C dx fs)->H' b=some o):(∀l,a≠.scr l)->ArR κ K G' H' a v:=λhn=>by
 cases a with
 |val d=>exact Rep.same gs h
 |bor l=>obtain⟨b,xs,e,h1,h2⟩:=h;exact⟨b,xs,e,hs _ _ h1 (by intros;intro z;cases z),h2.same gs⟩
 |scr l=>exact absurd rfl (hn l)
theorem ZK{nw:Str->List Ar->R Rv}{f c:Str}{C:Addr}{ok:Str->Bool}{go:List Ar->Option (List (Str×D))}(hC:κ c=some C)(hok:ok c=true)
  (hgo:∀args r,nw f args=.ok r->(∀a∈args,∀l,a≠.scr l)/\∃fs,go args=some fs/\r=.val (.ins c (fs.map (·.1)) (fs.map (·.2)))) :
  ∀vs H Q,spF κ K nw f vs H Q E0->∀x dx,H x=none->H dx=none->dx≠x->qdd κ K ok go (.ref x::vs) (upd (upd H dx (.own x)) x (.ins C dx [])) (λv H2=>v=.non/\Q (.ref x) H2) E0:=by
 rintro vs H Q ⟨G,args,sub,ha,hw⟩ x dx hx hdx ne
 cases e:nw f args with
 |no=>rw[e] at hw;exact hw.elim
 |exc c l=>rw[e] at hw;exact hw.elim
 |ok r=>
  rw[e] at hw;obtain⟨hs,fs,hg,rfl⟩:=hgo args r e;have gx:G x=none:=qt.none sub hx;have gd:G dx=none:=qt.none sub hdx
  have up:qt H (upd (upd H dx (.own x)) x (.ins C dx [])):=λb o hb=>by
   have nb:b≠x:=λz=>by rw[z,hx] at hb;cases hb
   have nd:b≠dx:=λz=>by rw[z,hdx] at hb;cases hb
   rw[qd nb,qd nd];exact hb
  have ha':∀{args:List Ar} {vs:List V},(∀a∈args,∀l,a≠.scr l)->JR κ K G H args vs->JR κ K G (upd (upd H dx (.own x)) x (.ins C dx [])) args vs:=by
   intro args
   induction args with
   |nil=>intro vs _ h;simp only[JR] at h ⊢;exact h
   |cons a l ih=>intro vs hn h;simp only[JR] at h ⊢;obtain⟨v,r,e,h1,h2⟩:=h;exact⟨v,r,e,h1.low (λ_ _ z=>z) (λb o hb _=>up b o hb) (hn a (List.mem_cons_self ..)),ih (λb hb=>hn b (List.mem_cons_of_mem _ hb)) h2⟩
  refine⟨G,c,C,x,dx,vs,args,fs,rfl,hok,hC,qg,gx,λb o hb=>up b o (sub b o hb),ha' hs ha,hg,λG' H' xs gs sub' gx' but fr hp hl rp=>⟨rfl,?_⟩⟩;refine hw (.ref x) (upd G' x (.ins C dx ((fs.map (·.1)).zip xs))) H' (λb o hb=>?_) (λb o hb=>?_) (λb o hb=>?_) (λb o hb=>?_) ?_
  ·exact but b o (λz=>by rw[z,hx] at hb;cases hb) (up b o hb)
  ·exact qt.upd gx' b o (gs b o hb)
  ·by_cases z:b=x
   ·subst z;rw[qg] at hb;cases hb;exact hp
   ·rw[qd z] at hb;exact sub' b o hb
  ·by_cases z:b=x
   ·subst z;exact .inr hx
   ·rw[qd z] at hb;rcases fr b o hb with q | q
    ·exact .inl q
    ·refine .inr ?_
     cases w:H b with
     |none=>rfl
     | some o'=>rw[up b o' w] at q;cases q
  ·simp only[ReR,Rep];exact⟨x,dx,C,xs,hC,rfl,qg,by rw[hl,List.length_map],rp.same (qt.upd gx')⟩
end
end DE
namespace DG
open PySem PySem.Spec PyProof.Rows L2 DE
theorem zy{G G' H:Hp}{p:Addr}{o:L2.HO}(fr:yV G G' H)(g:G p=none)(h:H p=some o):G' p=none:=by
 cases e:G' p with
 |none=>rfl
 | some o'=>
  rcases fr p o' e with ⟨o'',z⟩ | z
  ·rw[g] at z;cases z
  ·rw[h] at z;cases z
theorem yV.trans{G G1 G2 H H1:Hp}(a:yV G G1 H)(s:qt H H1)(b:yV G1 G2 H1):yV G G2 H:=λx o h=>by
 rcases b x o h with ⟨o',z⟩ | z
 ·exact a x o' z
 ·exact .inr (qt.none s z)
theorem yV.transB{G G1 G2 H H1:Hp}{p:Addr}{o:L2.HO}(a:yV G G1 H)(s:But p H H1)(hp:H1 p=some o)(b:yV G1 G2 H1):yV G G2 H:=λx o h=>by
 rcases b x o h with ⟨o',z⟩ | z
 ·exact a x o' z
 ·refine .inr ?_;have nx:x≠p:=λq=>by rw[q,hp] at z;cases z
  cases w:H x with
  |none=>rfl
  | some o'=>rw[s x o' nx w] at z;cases z
def aA(b:Bool)(l:List D):Ar:=match b with
 |true=>.bor l
 |false=>.val (.lst l)
theorem qaT{a:Ar}{l:List D}(e:arL a=some l):∃b,a=aA b l:=by
 unfold arL at e
 split at e
 ·cases e;exact⟨false,rfl⟩
 ·cases e;exact⟨true,rfl⟩
 ·cases e
theorem qcx{a:Ar}{n:Int}(e:arI a=some n):a=.val (.int n):=by
 unfold arI at e
 split at e
 ·cases e;rfl
 ·cases e
theorem qbC{κ:KC}{K:Frag}{G H:Hp}{b:Bool}{l:List D}{v:V}(sub:qt G H)(h:ArR κ K G H (aA b l) v):∃p xs,v=.ref p/\H p=some (.lst xs)/\qo κ G l xs:=by
 cases b with
 |false=>simp only[aA,ArR,Rep] at h;obtain⟨a,xs,e,h1,h2⟩:=h;exact⟨a,xs,e,sub _ _ h1,h2⟩
 |true=>exact h
theorem qmh{κ:KC}{K:Frag}{G H G' H':Hp}{b:Bool}{l:List D}{v:V}(h:ArR κ K G H (aA b l) v)(gs:qt G G')(hs:qt H H'):ArR κ K G' H' (aA b l) v:=h.low gs (λb o e _=>hs b o e) (λl'=>by cases b<;>(intro z;cases z))
theorem qaU{args:List Ar}{fs:List (Str×D)}(h:qb4 args=some fs):∃b l m,args=[aA b l,.val (.int m)]/\qG l=true/\btw m 0 1000000000=true/\fs=([("lands",.tup l),("most",.int m)]:List (Str×D)):=by
 unfold qb4 at h
 split at h
 ·split at h
  ·rename_i e1 e2
   split at h
   ·rename_i hc;cases h;rw[Bool.and_eq_true] at hc;obtain⟨b,rfl⟩:=qaT e1;obtain rfl:=qcx e2;exact⟨b,_,_,rfl,hc.1,hc.2,rfl⟩
   ·cases h
  ·cases h
 ·cases h
theorem jA{x:Str}{args:List Ar}{fs:List (Str×D)}(h:yb x args=some fs):∃b l m s,args=[aA b l,.val (.int m),.val (.int s)]/\qG l=true/\btw m 0 1000000000=true/\btw s 1 1000000000=true/\fs=([("lands",.tup l),("most",.int m),(x,.int s)]:List (Str×D)):=by
 unfold yb at h
 split at h
 ·split at h
  ·rename_i e1 e2 e3
   split at h
   ·rename_i hc;cases h;rw[Bool.and_eq_true,Bool.and_eq_true] at hc;obtain⟨b,rfl⟩:=qaT e1;obtain rfl:=qcx e2;obtain rfl:=qcx e3;exact⟨b,_,_,_,rfl,hc.1.1,hc.1.2,hc.2,rfl⟩
   ·cases h
  ·cases h
 ·cases h
theorem ZL{args:List Ar}{fs:List (Str×D)}(h:qc0 args=some fs):∃b l m,args=[aA b l,.val (.int m)]/\qG l=true/\btw m 0 1000000000=true/\fs=([("lands",.tup l),("most",.int m),("leave",.int 1)]:List (Str×D)):=by
 unfold qc0 at h
 split at h
 ·split at h
  ·rename_i e1 e2
   split at h
   ·rename_i hc;cases h;rw[Bool.and_eq_true] at hc;obtain⟨b,rfl⟩:=qaT e1;obtain rfl:=qcx e2;exact⟨b,_,_,rfl,hc.1,hc.2,rfl⟩
   ·cases h
  ·cases h
 ·cases h
theorem Y8{args:List Ar}{fs:List (Str×D)}(h:Qz args=some fs):∃b c l ps,args=[aA b l,aA c ps]/\(decide (l.length<=8)&&l.all qaw)=true/\(decide (ps.length<=12)&&ps.all (yB l.length))=true/\fs=([("kept_rules",.lst l),("kept_papers",.lst ps)]:List (Str×D)):=by
 unfold Qz at h
 split at h
 ·split at h
  ·rename_i e1 e2
   split at h
   ·rename_i hc;cases h;rw[Bool.and_eq_true] at hc;obtain⟨b,rfl⟩:=qaT e1;obtain⟨c,rfl⟩:=qaT e2;exact⟨b,c,_,_,rfl,hc.1,hc.2,rfl⟩
   ·cases h
  ·cases h
 ·cases h
theorem qaV{b:Bool}{l:List D}{m:Int}(ol:qG l=true)(om:btw m 0 1000000000=true):qb4 [aA b l,.val (.int m)]=some ([("lands",.tup l),("most",.int m)]:List (Str×D)):=by cases b<;>(show(if (qG l&&btw m 0 1000000000)=true then _ else none)=_;rw[if_pos (by rw[ol,om];rfl)])
theorem qe9{x:Str}{b:Bool}{l:List D}{m s:Int}(ol:qG l=true)(om:btw m 0 1000000000=true)(os:btw s 1 1000000000=true):yb x [aA b l,.val (.int m),.val (.int s)]=some ([("lands",.tup l),("most",.int m),(x,.int s)]:List (Str×D)):=by cases b<;>(show(if (qG l&&btw m 0 1000000000&&btw s 1 1000000000)=true then _ else none)=_;rw[if_pos (by rw[ol,om,os];rfl)])
structure Tx(κ:KC)(K:Frag)(mg:PR):Prop where
 tup:mg "tuple" = none
 lst:mg "list" = none
 len:mg "len" = none
 gG:∃t,mg "GREATEST" = some (.int 1000000000 t)
 cls:∀c C,κ c=some C->Cls K C
 nA:∀c x C,pcs.fld c x=true->κ c=some C->zz K C x
structure Ck(pg:Pg)(j:Nat):Prop where
 lands:∀b l,qG l=true->clK pg j "are_lands" [aA b l]=.ok (.val (.bl true))
 rules:∀b l,(decide (l.length<=8)&&l.all qaw)=true->clK pg j "are_rules" [aA b l]=.ok (.val (.bl true))
 papers:∀b (ps:List D) (n:Int),(decide (ps.length<=12)&&ps.all (yB n))=true->clK pg j "check_papers" [aA b ps,.val (.int n)]=.ok (.val .non)
 btw:∀n a b,btw n a b=true->clK pg j "is_between" [.val (.int n),.val (.int a),.val (.int b)]=.ok (.val (.bl true))
theorem qcy{c:Str}(h:rk c=true):pcs.fld c "lands" = true/\pcs.fld c "most" = true:=by
 constructor
 ·show((rk c&&(true||_||_||_))||_)=true;rw[h];rfl
 ·show((rk c&&(false||true||_||_))||_)=true;rw[h];rfl
def okW(c:Str):Bool:=c == "Within"
def okS(c:Str):Bool:=c == "Since" || c == "InRow"
def okI(c:Str):Bool:=c == "InRow"
def okB(c:Str):Bool:=c == "Book"
theorem qmi{c:Str}(h:okW c=true):rk c=true:=by unfold okW at h;unfold rk;rw[h];rfl
theorem qmj{c:Str}(h:okS c=true):rk c=true:=by unfold okS at h;unfold rk;rw[Bool.or_assoc,h,Bool.or_true]
theorem qjl{c:Str}(h:okI c=true):okS c=true:=by unfold okI at h;unfold okS;rw[h,Bool.or_true]
theorem qjm{c:Str}(h:okW c=true):pcs.fld c "span" = true:=by
 have e:c = "Within":=by simpa [okW] using h
 subst e;decide
theorem qgG{c:Str}(h:okS c=true):pcs.fld c "leave" = true:=by
 have e:c = "Since"\/c = "InRow":=by simpa [okS] using h
 rcases e with e | e<;>subst e<;>decide
theorem qfa{c:Str}(h:okB c=true):pcs.fld c "kept_rules" = true/\pcs.fld c "kept_papers" = true:=by
 have e:c = "Book":=by simpa [okB] using h
 subst e;decide
end DG
namespace K56
open PySem PySem.Spec PyProof.Rows L2 DE DG
section
variable{P:Program}{wd:World}{κ:KC}{K:Frag}{mg:PR}{base:Heap}{j:Nat}{f:Addr}{fd:FuncData}
theorem qjn:FnScope ["self","lands","most"] ["self","lands","most"] (qi (mem 28 0)):=⟨rfl,rfl,rfl,by decide+kernel,rfl,by decide+kernel,by decide+kernel⟩
theorem qcz(tx:Tx κ K mg)(F:Fun K "__init__" "Rule.__init__" (mem 28 0) f fd)(at_:qdl P wd κ K mg base pg j)(ck:Ck pg j):FnOk P wd K mg base CX0 (j+1) f fd ["self","lands","most"] (qdd κ K rk qb4):=by
 obtain⟨fA,dA,FA,mA,kA,bA⟩:=at_.1 "are_lands" (top 27) (by kernel_rfl);obtain⟨fB,dB,FB,mB,kB,bB⟩:=at_.1 "is_between" (top 6) (by kernel_rfl);obtain⟨t1,g1⟩:=tx.gG;refine F.ok qjn (λvs H Q E h=>?_) (λcdv A outer s H vs Q E hr h=>?_)
 ·obtain⟨G,c,C,p,dx,us,args,fs,rfl,_,_,_,_,_,ha,hg,_⟩:=h;obtain⟨b,l,m,rfl,_⟩:=qaU hg
  have:=ha.len
  simp at this;simp[<-this]
 ·obtain⟨G,c,C,p,dx,us,args,fs,rfl,hrk,hC,hp,gp,sub,ha,hg,k1⟩:=h;obtain⟨b,l,m,rfl,ol,om,rfl⟩:=qaU hg;simp only[JR] at ha;obtain⟨v1,us1,rfl,r1,v2,us2,rfl,r2,rfl⟩:=ha;simp only[ArR,Rep] at r2;subst r2;obtain⟨a,xs,rfl,hxa,rl⟩:=qbC sub r1
  refine⟨_,qV (qcB (Qn (ZV (j7 FA hr (by rfl) mA kA bA .nil j9 (qh (pv 1) qB)))) (z8 yW) Jz)
   (qV (qcB (Qn (ZV (j7 FB hr (by rfl) mB kB bB .nil j9 (qh (pv 2) (qh Qm (qh (Yh (v:=.int 1000000000) (by rfl) g1 ⟨_,rfl⟩) qB)))))) (z8 yW) Jz)
   (qV (Qq (pv 0) (jf QZ (by rfl) tx.tup PyProof.Rows.boot_tuple (qh (pv 1) qB)) rfl)
   (z8 (Qq (pv 0) (pv 2) rfl)))),?_⟩
  refine⟨_,rfl,QU (E:=E0) (G:=G) (args:=[aA b l]) sub ⟨_,_,rfl,r1,rfl⟩ (ck.lands b l ol) λv G1 H1 hs1 gs1 sub1 fr1 rr=>?_⟩;simp only[ReR,Rep] at rr;subst rr;refine⟨_,rfl,?_⟩;refine⟨_,rfl,QU (E:=E0) (G:=G1) (args:=[.val (.int m),.val (.int 0),.val (.int 1000000000)]) sub1 ⟨_,_,rfl,by simp only[ArR,Rep],_,_,rfl,by simp only[ArR,Rep],_,_,rfl,by simp only[ArR,Rep],rfl⟩ (ck.btw m 0 1000000000 om) λv G2 H2 hs2 gs2 sub2 fr2 rr=>?_⟩;simp only[ReR,Rep] at rr;subst rr;refine⟨_,rfl,?_⟩;have hp2:H2 p=some (.ins C dx []):=hs2 _ _ (hs1 _ _ hp);have ga2:H2 a=some (.lst xs):=hs2 _ _ (hs1 _ _ hxa);have gp1:G1 p=none:=zy fr1 gp hp;have gp2:G2 p=none:=zy fr2 gp1 (hs1 _ _ hp);refine⟨_,rfl,a,xs,rfl,.inl ⟨SqL.of ga2,λt ht=>?_⟩⟩;have ntp:t≠p:=λz=>by rw[z,hp2] at ht;cases ht
  have gt:G2 t=none:=qt.none sub2 ht;refine⟨_,rfl,p,C,dx,_,rfl,by rw[qd ntp.symm];exact hp2,tx.cls c C hC,tx.nA c _ C (qcy hrk).1 hC,by decide,?_⟩;refine⟨_,rfl,_,rfl,p,C,dx,_,rfl,qg,tx.cls c C hC,tx.nA c _ C (qcy hrk).2 hC,(by show 1 < 1000;decide),?_⟩;refine k1 (upd G2 t (.tup xs)) _ [.ref t,.int m] ?_ ?_ ?_ ?_ ?_ ?_ rfl ?_
  ·exactλb o e=>qt.upd gt b o (gs2 b o (gs1 b o e))
  ·intro b o e
   by_cases z:b=t
   ·subst z;rw[qg] at e;cases e;rw[qd ntp,qd ntp,qg]
   ·rw[qd z] at e;have nb:b≠p:=λq=>by rw[q,gp2] at e;cases e
    rw[qd nb,qd nb,qd z];exact sub2 b o e
  ·rw[qd ntp.symm];exact gp2
  ·intro b o nb e;have e2:=hs2 b o (hs1 b o e);have nt:b≠t:=λq=>by rw[q,ht] at e2;cases e2
   rw[qd nb,qd nb,qd nt];exact e2
  ·intro b o e
   by_cases z:b=t
   ·subst z;exact .inr (qt.none hs1 (qt.none hs2 ht))
   ·rw[qd z] at e;exact(yV.trans fr1 hs1 fr2) b o e
  ·rw[qg];rfl
  ·simp only[List.map_cons,List.map_nil,qo,Rep];exact⟨_,_,rfl,⟨t,xs,rfl,qg,(rl.same gs1 |>.same gs2).same (qt.upd gt)⟩,_,_,rfl,rfl,rfl⟩
theorem qfb:FnScope ["self","lands","most","span"] ["self","lands","most","span"] (qi (mem 29 0)):=⟨rfl,rfl,rfl,by decide+kernel,rfl,by decide+kernel,by decide+kernel⟩
theorem qde{fR cR:Addr}{dR:FuncData}(tx:Tx κ K mg)(F:Fun K "__init__" "Within.__init__" (mem 29 0) f fd)(FR:Fun K "__init__" "Rule.__init__" (mem 28 0) fR dR)(bR:zn K dR ["self","lands","most"] [])(mR:mg "Rule" = some (.ref cR))(cf:ClsFn K cR "__init__" fR)
  (at0:qdl P wd κ K mg base pg j) (at1:qdl P wd κ K mg base pg (j+1)) (ck0:Ck pg j) (ck1:Ck pg (j+1)):FnOk P wd K mg base CX0 (j+2) f fd ["self","lands","most","span"] (qdd κ K okW (yb "span")):=by
 obtain⟨fB,dB,FB,mB,kB,bB⟩:=at1.1 "is_between" (top 6) (by kernel_rfl);obtain⟨t1,g1⟩:=tx.gG;refine F.ok qfb (λvs H Q E h=>?_) (λcdv A outer s H vs Q E hr h=>?_)
 ·obtain⟨G,c,C,p,dx,us,args,fs,rfl,_,_,_,_,_,ha,hg,_⟩:=h;obtain⟨b,l,m,z,rfl,_⟩:=jA hg
  have:=ha.len
  simp at this;simp[<-this]
 ·obtain⟨G,c,C,p,dx,us,args,fs,rfl,hrk,hC,hp,gp,sub,ha,hg,k1⟩:=h;obtain⟨b,l,m,z,rfl,ol,om,oz,rfl⟩:=jA hg;simp only[JR] at ha;obtain⟨v1,us1,rfl,r1,v2,us2,rfl,r2,v3,us3,rfl,r3,rfl⟩:=ha;simp only[ArR,Rep] at r2 r3;subst r2 r3
  refine⟨_,qV (yJ (Q3 cf (qcz tx FR at0 ck0) hr (by rfl) mR bR .nil j9 (qh (pv 0) (qh (pv 1) (qh (pv 2) qB)))))
   (qV (qcB (Qn (ZV (j7 FB hr (by rfl) mB kB bB .nil j9 (qh (pv 3) (qh Qm (qh (Yh (v:=.int 1000000000) (by rfl) g1 ⟨_,rfl⟩) qB)))))) (z8 yW) Jz)
   (z8 (Qq (pv 0) (pv 3) rfl))),?_⟩
  refine⟨_,rfl,_,rfl,_,rfl,G,c,C,p,dx,[v1,.int m],[aA b l,.val (.int m)],_,rfl,qmi hrk,hC,hp,gp,sub,⟨_,_,rfl,r1,_,_,rfl,by simp only[ArR,Rep],rfl⟩,qaV ol om,λG1 H1 xs gs1 sub1 gp1 but1 fr1 hp1 hl1 rp1=>?_⟩;simp only[List.map_cons,List.map_nil,qo] at rp1;obtain⟨x1,w1,rfl,q1,x2,w2,rfl,q2,rfl⟩:=rp1;refine⟨_,rfl,QU (E:=E0) (G:=G1) (args:=[.val (.int z),.val (.int 1),.val (.int 1000000000)]) sub1 ⟨_,_,rfl,by simp only[ArR,Rep],_,_,rfl,by simp only[ArR,Rep],_,_,rfl,by simp only[ArR,Rep],rfl⟩ (ck1.btw z 1 1000000000 oz) λv G2 H2 hs2 gs2 sub2 fr2 rr=>?_⟩;simp only[ReR,Rep] at rr;subst rr;refine⟨_,rfl,?_⟩;have hp2:=hs2 _ _ hp1;have gp2:G2 p=none:=zy fr2 gp1 hp1;refine⟨_,rfl,_,rfl,p,C,dx,_,rfl,hp2,tx.cls c C hC,tx.nA c _ C (qjm hrk) hC,(by show 2 < 1000;decide),?_⟩;refine k1 G2 _ [x1,x2,.int z] (λb o e=>gs2 b o (gs1 b o e)) (λb o e=>?_) gp2 (λb o nb e=>?_) (λb o e=>?_) ?_ rfl ?_
  ·rw[qd (λq=>by rw[q,gp2] at e;cases e)];exact sub2 b o e
  ·rw[qd nb];exact hs2 b o (but1 b o nb e)
  ·exact(yV.transB fr1 but1 hp1 fr2) b o e
  ·rw[qg];rfl
  ·simp only[List.map_cons,List.map_nil,qo];exact⟨_,_,rfl,q1.same gs2,_,_,rfl,q2.same gs2,_,_,rfl,by simp only[Rep],rfl⟩
theorem qgH:FnScope ["self","lands","most","leave"] ["self","lands","most","leave"] (qi (mem 30 0)):=⟨rfl,rfl,rfl,by decide+kernel,rfl,by decide+kernel,by decide+kernel⟩
theorem qaW{fR cR:Addr}{dR:FuncData}(tx:Tx κ K mg)(F:Fun K "__init__" "Since.__init__" (mem 30 0) f fd)(FR:Fun K "__init__" "Rule.__init__" (mem 28 0) fR dR)(bR:zn K dR ["self","lands","most"] [])(mR:mg "Rule" = some (.ref cR))(cf:ClsFn K cR "__init__" fR)
  (at0:qdl P wd κ K mg base pg j) (at1:qdl P wd κ K mg base pg (j+1)) (ck0:Ck pg j) (ck1:Ck pg (j+1)):FnOk P wd K mg base CX0 (j+2) f fd ["self","lands","most","leave"] (qdd κ K okS (yb "leave")):=by
 obtain⟨fB,dB,FB,mB,kB,bB⟩:=at1.1 "is_between" (top 6) (by kernel_rfl);obtain⟨t1,g1⟩:=tx.gG;refine F.ok qgH (λvs H Q E h=>?_) (λcdv A outer s H vs Q E hr h=>?_)
 ·obtain⟨G,c,C,p,dx,us,args,fs,rfl,_,_,_,_,_,ha,hg,_⟩:=h;obtain⟨b,l,m,z,rfl,_⟩:=jA hg
  have:=ha.len
  simp at this;simp[<-this]
 ·obtain⟨G,c,C,p,dx,us,args,fs,rfl,hrk,hC,hp,gp,sub,ha,hg,k1⟩:=h;obtain⟨b,l,m,z,rfl,ol,om,oz,rfl⟩:=jA hg;simp only[JR] at ha;obtain⟨v1,us1,rfl,r1,v2,us2,rfl,r2,v3,us3,rfl,r3,rfl⟩:=ha;simp only[ArR,Rep] at r2 r3;subst r2 r3
  refine⟨_,qV (yJ (Q3 cf (qcz tx FR at0 ck0) hr (by rfl) mR bR .nil j9 (qh (pv 0) (qh (pv 1) (qh (pv 2) qB)))))
   (qV (qcB (Qn (ZV (j7 FB hr (by rfl) mB kB bB .nil j9 (qh (pv 3) (qh Qm (qh (Yh (v:=.int 1000000000) (by rfl) g1 ⟨_,rfl⟩) qB)))))) (z8 yW) Jz)
   (z8 (Qq (pv 0) (pv 3) rfl))),?_⟩
  refine⟨_,rfl,_,rfl,_,rfl,G,c,C,p,dx,[v1,.int m],[aA b l,.val (.int m)],_,rfl,qmj hrk,hC,hp,gp,sub,⟨_,_,rfl,r1,_,_,rfl,by simp only[ArR,Rep],rfl⟩,qaV ol om,λG1 H1 xs gs1 sub1 gp1 but1 fr1 hp1 hl1 rp1=>?_⟩;simp only[List.map_cons,List.map_nil,qo] at rp1;obtain⟨x1,w1,rfl,q1,x2,w2,rfl,q2,rfl⟩:=rp1;refine⟨_,rfl,QU (E:=E0) (G:=G1) (args:=[.val (.int z),.val (.int 1),.val (.int 1000000000)]) sub1 ⟨_,_,rfl,by simp only[ArR,Rep],_,_,rfl,by simp only[ArR,Rep],_,_,rfl,by simp only[ArR,Rep],rfl⟩ (ck1.btw z 1 1000000000 oz) λv G2 H2 hs2 gs2 sub2 fr2 rr=>?_⟩;simp only[ReR,Rep] at rr;subst rr;refine⟨_,rfl,?_⟩;have hp2:=hs2 _ _ hp1;have gp2:G2 p=none:=zy fr2 gp1 hp1;refine⟨_,rfl,_,rfl,p,C,dx,_,rfl,hp2,tx.cls c C hC,tx.nA c _ C (qgG hrk) hC,(by show 2 < 1000;decide),?_⟩;refine k1 G2 _ [x1,x2,.int z] (λb o e=>gs2 b o (gs1 b o e)) (λb o e=>?_) gp2 (λb o nb e=>?_) (λb o e=>?_) ?_ rfl ?_
  ·rw[qd (λq=>by rw[q,gp2] at e;cases e)];exact sub2 b o e
  ·rw[qd nb];exact hs2 b o (but1 b o nb e)
  ·exact(yV.transB fr1 but1 hp1 fr2) b o e
  ·rw[qg];rfl
  ·simp only[List.map_cons,List.map_nil,qo];exact⟨_,_,rfl,q1.same gs2,_,_,rfl,q2.same gs2,_,_,rfl,by simp only[Rep],rfl⟩
theorem qgI:FnScope ["self","lands","most"] ["self","lands","most"] (qi (mem 31 0)):=⟨rfl,rfl,rfl,by decide+kernel,rfl,by decide+kernel,by decide+kernel⟩
theorem qfc{fR cR fS cS:Addr}{dR dS:FuncData}(tx:Tx κ K mg)(F:Fun K "__init__" "InRow.__init__" (mem 31 0) f fd)(FS:Fun K "__init__" "Since.__init__" (mem 30 0) fS dS)(bS:zn K dS ["self","lands","most","leave"] [])(mS:mg "Since" = some (.ref cS))(cfS:ClsFn K cS "__init__" fS)
  (FR:Fun K "__init__" "Rule.__init__" (mem 28 0) fR dR) (bR:zn K dR ["self","lands","most"] []) (mR:mg "Rule" = some (.ref cR)) (cf:ClsFn K cR "__init__" fR)
  (at0:qdl P wd κ K mg base pg j) (at1:qdl P wd κ K mg base pg (j+1)) (ck0:Ck pg j) (ck1:Ck pg (j+1)):FnOk P wd K mg base CX0 (j+3) f fd ["self","lands","most"] (qdd κ K okI qc0):=by
 refine F.ok qgI (λvs H Q E h=>?_) (λcdv A outer s H vs Q E hr h=>?_)
 ·obtain⟨G,c,C,p,dx,us,args,fs,rfl,_,_,_,_,_,ha,hg,_⟩:=h;obtain⟨b,l,m,rfl,_⟩:=ZL hg
  have:=ha.len
  simp at this;simp[<-this]
 ·obtain⟨G,c,C,p,dx,us,args,fs,rfl,hrk,hC,hp,gp,sub,ha,hg,k1⟩:=h;obtain⟨b,l,m,rfl,ol,om,rfl⟩:=ZL hg;simp only[JR] at ha;obtain⟨v1,us1,rfl,r1,v2,us2,rfl,r2,rfl⟩:=ha;simp only[ArR,Rep] at r2;subst r2;refine⟨_,z8 (yJ (Q3 cfS (qaW tx FS FR bR mR cf at0 at1 ck0 ck1) hr (by rfl) mS bS .nil j9 (qh (pv 0) (qh (pv 1) (qh (pv 2) (qh Qm qB)))))),?_⟩
  exact⟨_,rfl,_,rfl,_,rfl,G,c,C,p,dx,[v1,.int m,.int 1],[aA b l,.val (.int m),.val (.int 1)],_,rfl,qjl hrk,hC,hp,gp,sub,⟨_,_,rfl,r1,_,_,rfl,by simp only[ArR,Rep],_,_,rfl,by simp only[ArR,Rep],rfl⟩,
   qe9 ol om (2:),λG1 H1 xs gs1 sub1 gp1 but1 fr1 hp1 hl1 rp1=>k1 G1 H1 xs gs1 sub1 gp1 but1 fr1 hp1 hl1 rp1⟩
theorem qjo:FnScope ["self","rules","papers"] ["self","rules","papers"] (qi (mem 61 0)):=⟨rfl,rfl,rfl,by decide+kernel,rfl,by decide+kernel,by decide+kernel⟩
theorem qgJ(tx:Tx κ K mg)(F:Fun K "__init__" "Book.__init__" (mem 61 0) f fd)(at_:qdl P wd κ K mg base pg j)(ck:Ck pg j):FnOk P wd K mg base CX0 (j+1) f fd ["self","rules","papers"] (qdd κ K okB Qz):=by
 obtain⟨fA,dA,FA,mA,kA,bA⟩:=at_.1 "are_rules" (top 58) (by kernel_rfl);obtain⟨fB,dB,FB,mB,kB,bB⟩:=at_.1 "check_papers" (top 60) (by kernel_rfl);refine F.ok qjo (λvs H Q E h=>?_) (λcdv A outer s H vs Q E hr h=>?_)
 ·obtain⟨G,c,C,p,dx,us,args,fs,rfl,_,_,_,_,_,ha,hg,_⟩:=h;obtain⟨b0,c0,l,ps,rfl,_⟩:=Y8 hg
  have:=ha.len
  simp at this;simp[<-this]
 ·obtain⟨G,c,C,p,dx,us,args,fs,rfl,hrk,hC,hp,gp,sub,ha,hg,k1⟩:=h;obtain⟨b0,c0,l,ps,rfl,ol,op,rfl⟩:=Y8 hg;simp only[JR] at ha;obtain⟨v1,us1,rfl,r1,v2,us2,rfl,r2,rfl⟩:=ha;obtain⟨a,xs,rfl,hxa,rl⟩:=qbC sub r1;obtain⟨b,ys,rfl,hb,rp⟩:=qbC sub r2
  refine⟨_,qV (qcB (Qn (ZV (j7 FA hr (by rfl) mA kA bA .nil j9 (qh (pv 1) qB)))) (z8 yW) Jz)
   (qV (yJ (j7 FB hr (by rfl) mB kB bB .nil j9 (qh (pv 2) (qh (zo JO (by rfl) tx.len PySem.boot_len (qh (pv 1) qB)) qB))))
   (qV (Qq (pv 0) (jf j8 (by rfl) tx.lst PyProof.Rows.boot_list (qh (pv 1) qB)) rfl)
   (z8 (Qq (pv 0) (jf j8 (by rfl) tx.lst PyProof.Rows.boot_list (qh (pv 2) qB)) rfl)))),?_⟩
  refine⟨_,rfl,QU (E:=E0) (G:=G) (args:=[aA b0 l]) sub ⟨_,_,rfl,r1,rfl⟩ (ck.rules b0 l ol) λv G1 H1 hs1 gs1 sub1 fr1 rr=>?_⟩;simp only[ReR,Rep] at rr;subst rr;refine⟨_,rfl,?_⟩;have ga1:H1 a=some (.lst xs):=hs1 _ _ hxa;refine⟨_,rfl,_,rfl,a,xs,rfl,.inl (SqL.of ga1),?_⟩;refine QU (E:=E0) (G:=G1) (args:=[aA c0 ps,.val (.int l.length)]) sub1 ⟨_,_,rfl,qmh r2 gs1 hs1,_,_,rfl,by simp only[ArR,Rep];rw[rl.len],rfl⟩ (ck.papers c0 ps l.length op) λv G2 H2 hs2 gs2 sub2 fr2 rr=>?_;have hp2:H2 p=some (.ins C dx []):=hs2 _ _ (hs1 _ _ hp);have gp1:G1 p=none:=zy fr1 gp hp;have gp2:G2 p=none:=zy fr2 gp1 (hs1 _ _ hp);have ga2:H2 a=some (.lst xs):=hs2 _ _ ga1;have hb2:H2 b=some (.lst ys):=hs2 _ _ (hs1 _ _ hb);refine⟨_,rfl,a,xs,rfl,.inl (SqL.of ga2),λt ht=>?_⟩;have ntp:t≠p:=λz=>by rw[z,hp2] at ht;cases ht
  have gt:G2 t=none:=qt.none sub2 ht;refine⟨_,rfl,p,C,dx,_,rfl,by rw[qd ntp.symm];exact hp2,tx.cls c C hC,tx.nA c _ C (qfa hrk).1 hC,by decide,?_⟩;have nbt:b≠t:=λz=>by rw[z,ht] at hb2;cases hb2
  have nbp:b≠p:=λz=>by rw[z,hp2] at hb2;cases hb2
  refine⟨_,rfl,b,ys,rfl,.inl (SqL.of (by rw[qd nbp,qd nbt];exact hb2)),λu hu=>?_⟩;have nup:u≠p:=λz=>by rw[z,qg] at hu;cases hu
  have nut:u≠t:=λz=>by rw[z,qd ntp,qg] at hu;cases hu
  have hu2:H2 u=none:=by rw[qd nup,qd nut] at hu;exact hu
  have gu:G2 u=none:=qt.none sub2 hu2;refine⟨_,rfl,p,C,dx,_,rfl,by rw[qd nup.symm,qg],tx.cls c C hC,tx.nA c _ C (qfa hrk).2 hC,(by show 1 < 1000;decide),?_⟩;have gut:upd G2 t (.lst xs) u=none:=by rw[qd nut];exact gu
  refine k1 (upd (upd G2 t (.lst xs)) u (.lst ys)) _ [.ref t,.ref u] ?_ ?_ ?_ ?_ ?_ ?_ rfl ?_
  ·exactλb o e=>qt.upd gut b o (qt.upd gt b o (gs2 b o (gs1 b o e)))
  ·intro q o e
   by_cases z:q=u
   ·subst z;rw[qg] at e;cases e;rw[qd nup,qg]
   ·rw[qd z] at e
    by_cases z2:q=t
    ·subst z2;rw[qg] at e;cases e;rw[qd ntp,qd z,qd ntp,qg]
    ·rw[qd z2] at e;have nq:q≠p:=λw=>by rw[w,gp2] at e;cases e
     rw[qd nq,qd z,qd nq,qd z2];exact sub2 q o e
  ·rw[qd nup.symm,qd ntp.symm];exact gp2
  ·intro q o nq e;have e2:=hs2 q o (hs1 q o e);have n1:q≠t:=λw=>by rw[w,ht] at e2;cases e2
   have n2:q≠u:=λw=>by rw[w,hu2] at e2;cases e2
   rw[qd nq,qd n2,qd nq,qd n1];exact e2
  ·intro q o e
   by_cases z:q=u
   ·subst z;exact .inr (qt.none hs1 (qt.none hs2 hu2))
   ·rw[qd z] at e
    by_cases z2:q=t
    ·subst z2;exact .inr (qt.none hs1 (qt.none hs2 ht))
    ·rw[qd z2] at e;exact(yV.trans fr1 hs1 fr2) q o e
  ·rw[qg];rfl
  ·simp only[List.map_cons,List.map_nil,qo,Rep];exact⟨_,_,rfl,⟨t,xs,rfl,by rw[qd nut.symm];exact qg,((rl.same gs1 |>.same gs2).same (qt.upd gt)).same (qt.upd gut)⟩,_,_,rfl,⟨u,ys,rfl,qg,((rp.same gs1 |>.same gs2).same (qt.upd gt)).same (qt.upd gut)⟩,rfl⟩
end
end K56
namespace HD
open PySem PySem.W
noncomputable def Y9(tb:String->Option Builtin)(p:Program)(w:World)(n₀:Nat)(ann:Option Value):Nat->SharedT->Thread->Option SharedT
 |0,_,_=>none
 | n+1,s,t=>match through t with
  |true=>some s
  |false=>match stepOk n₀ ann t with
   |false=>none
   |true=>match stepT (denote tb) p w s t with
    | some (s',t')=>Y9 tb p w n₀ ann n s' t'
    |none=>none
theorem qaX{tb:String->Option Builtin}{p:Program}{w:World}{n₀:Nat}{ann:Option Value}:∀{n:Nat} {s s':SharedT} {t:Thread},Y9 tb p w n₀ ann n s t=some s'->topRun tb p w n₀ ann n s.abs t=some s'.abs
 |0,_,_,_,h=>by cases h
 | n+1,s,s',t,h=>by
  unfold Y9 at h;unfold topRun
  cases ht:through t with
  |true=>rw[ht] at h;cases h;rfl
  |false=>
   rw[ht] at h
   cases hk:stepOk n₀ ann t with
   |false=>rw[hk] at h;cases h
   |true=>
    rw[hk] at h
    cases hs:stepT (denote tb) p w s t with
    |none=>rw[hs] at h;cases h
    |some r=>obtain⟨s₂,t₂⟩:=r;rw[hs] at h;dsimp only;rw[stepT_spec hs];exact qaX h
def ofL:List Obj->Nat->BT->BT
 |[],_,t=>t
 | o::r,n,t=>ofL r (n+1) (t.ins n o)
noncomputable def qjp(P:Params)(os:OsState):SharedT:=⟨ofL (boot_heap P).objs.toList 0 .nil,(boot_heap P).objs.toList.length,(boot_heap P).life,Array.mk [],boot_drawn,boot_toks,os⟩
theorem qfd(P:Params)(os:OsState):(qjp P os).abs=⟨boot_heap P,Array.mk [],boot_drawn,boot_toks,os⟩:=by kernel_rfl
noncomputable def qjq{α:Type}(p q:Program)(loose:List Str)(Xt:Shared->Bool)(Yf:Shared->α)(g0:Bool)(Hv:Heap)(s:Shared):=
 (staticsOk (importedModules p.main.body) Hv s.heap&&namesBound p s.heap&&gensDone s&&laidKept Hv s.heap,openSeen q loose (importedModules p.main.body) Xt g0 s,Yf s)
theorem qjr{p q:Program}{loose:List Str}{Xt:Shared->Bool}{α:Type}{Yf:Shared->α}{Ya:World->α}{N:Nat}{g0:Bool}{m₀:Nat}{ann:Option Value}
  (open_:∀w:World,(fencedOpening treeTable p w N).map (λs=>(s.heap,s.gens,s.drawn,s.toks))=some (boot_heap w.params,Array.mk [],boot_drawn,boot_toks))
  (size:∀w:World,((boot_heap w.params).isNs mainGlobals&&(Array.mk []:Array GenState).size == 0,(boot_heap w.params).objs.size,(boot_heap w.params).nsMap mainGlobals "__annotations__")=(true,m₀,ann))
  (h:∀w os,(Y9 treeTable p w m₀ ann N (qjp w.params os) (topStub p)).map (λs=>qjq p q loose Xt Yf g0 (boot_heap w.params) s.abs)=some (true,openGood q loose,Ya w)):LeftO p q loose Xt Yf Ya N g0:=λw=>by
 obtain⟨⟨h0,gs,d,k,os⟩,e,e'⟩:=Option.map_eq_some_iff.mp (open_ w);obtain⟨rfl,rfl,rfl,rfl⟩:h0=boot_heap w.params/\gs=Array.mk []/\d=boot_drawn/\k=boot_toks:=by simpa using e'
 obtain⟨z1,z2,z3⟩:_/\_/\_:=by simpa only[Prod.mk.injEq] using size w
 obtain⟨s₁,r,l⟩:=Option.map_eq_some_iff.mp (h w os);have r':=qaX r;rw[qfd] at r';obtain⟨l1,l2,l3⟩:_/\_/\_:=by simpa only[qjq,Prod.mk.injEq] using l
 have t:topFrom treeTable p w N ⟨boot_heap w.params,Array.mk [],boot_drawn,boot_toks,os⟩=some s₁.abs:=by unfold topFrom;dsimp only;rw[z1,z2,z3,r'];show(match staticsOk (importedModules p.main.body) (boot_heap w.params) s₁.abs.heap&&namesBound p s₁.abs.heap&&gensDone s₁.abs&&laidKept (boot_heap w.params) s₁.abs.heap with |true=>_ |false=>_)=_;rw[l1]
 unfold openEnds;rw[e];show(topFrom treeTable p w N _).map _=_;rw[t];exact congrArg some (Prod.ext l2 l3)
end HD
namespace HD
open PySem PySem.W
def dE(P:Params)(k:Str)(t:Tok)(v:Value):DictEntry:=⟨PyData.keyHash P k,.str k t,v⟩
noncomputable def oFn(d:Option Addr)(st:Stmt)(name qual:Str)(dV kV doc pm:Value)(an:Option Addr)(cd ct:Value):Obj:=⟨.type "function",d,.func (fnOf name qual (L2.qW st) (L2.qI st) (L2.qi st) dV kV doc pm an cd ct),#[]⟩
noncomputable def oC(n:Str)(t1:Tok)(q:Str)(t2 t3:Tok)(l ar:Int)(a b:Addr)(x y:Value)(c:Addr)(u:Int)(v:Tok):Obj:=⟨.type "code",none,.fields #[.str n t1,.str q t2,.str "/claim/cut.py" t3,.int l 0,.int ar 0,.int 0 0,.int 0 0,.int 3 0,.ref a,.bool true,.int 181 0,.ref b,.none,x,y,.ref c,.int u 0,.int l 0,.str "/claim/cut.py" v],#[]⟩
noncomputable def oG(st:Stmt)(n m:Str)(t:Tok)(a:Addr):Obj:=oFn none st n n .none .none .none (.str m t) none (.ref a) .none
noncomputable def oB(n:Str)(t:Tok)(l ar:Int)(a:Addr)(v:Nat):Obj:=oC n t n (t+1) (t+2) l ar a (a+1) (.ref (a+2)) (.ref (a+3)) (a+4) v (v+1)
theorem qfe(w:World):((boot_heap w.params).isNs mainGlobals&&(Array.mk []:Array GenState).size == 0,(boot_heap w.params).objs.size,(boot_heap w.params).nsMap mainGlobals "__annotations__")=(true,11,some (.ref 6)):=by kernel_rfl
end HD
namespace K56
open PySem PySem.W HD DG
abbrev HP:Program:=PySem.Challenge.rw_daysgate_k56_whole_plan_shown.row.toRowW.prog
noncomputable def Hq:Program:=view HP [0,2,3,4,5,6,7,8,9,10,12,13,14,15,16,17,19,20,21,22,24,25,26,27,28,29,30,31,33,34,35,37,38,39,40,41,42,43,44,45,46,48,49,51,52,53,54,56,57,58,59,60,61,63,64,65,66,67,68,69,70,71,72,73,74,75,76]
noncomputable def Hx(s:Shared):Bool:=xlAt Hq [] s&&recOk (RowW.records PySem.Challenge.rw_daysgate_k56_whole_plan_shown.row.toRowW) s
noncomputable def Has:List Addr:=[2,3,27,28,34,35,41,42,48,49,55,56,62,63,74,163,164,170,171,177,178,184,185,191,192,198,199,212,213,219,220,222,223,224,225,240,241,247,248,250,251,266,267,273,274,276,277,292,293,299,300,302,303,311,312,318,319,323,324,330,331,337,338,344,345,351,352,358,359,365,366,370,371,377,378,384,385,391,392,398,399,405,406,412,413,419,420,426,427,433,434,440,441,454,455,461,462,468,469,473,474,476,477,478,479,487,488,494,495,499,500,506,507,513,514,520,521,527,528,532,533,537,538,544,545,551,552,558,559,563,564,568,569]
noncomputable def HK(P:Params):Frag:=(nat_lit 2,⟨.none,none,.dict #[] 0,#[]⟩)::(nat_lit 3,⟨(.type "dict"),none,.dict #[dE P "__name__" 165 (.str "law_daysgate_k56_whole_plan_shown" 864),dE P "__doc__" 166 .none,dE P "__package__" 167 .none,dE P "__loader__" 168 (.builtin "__main__.__loader__#opaque"),dE P "__spec__" 169 .none,dE P "__annotations__" 170 (.ref 6),dE P "__builtins__" 171 (.ref 4),dE P "__file__" 173 (.str "/claim/cut.py" 172),dE P "__cached__" 174 .none,dE P "_wall" 193 (.ref 21),dE P "GREATEST" 197 (.int (1000000000) 196),dE P "LETTERS" 199 (.str "abcdefghijklmnopqrstuvwxyz" 198),dE P "LONGEST_NAME" 201 (.int (8) 200),dE P "is_whole" 208 (.ref 28),dE P "is_between" 217 (.ref 35),dE P "are_days" 225 (.ref 42),dE P "is_made_of" 234 (.ref 49),dE P "is_name" 241 (.ref 56),dE P "are_names" 251 (.ref 63),dE P "DayError" 271 (.ref 73),dE P "NoRule" 287 (.ref 86),dE P "NoPaper" 312 (.ref 105),dE P "NoStay" 337 (.ref 124),dE P "NotLet" 366 (.ref 143),dE P "NoWish" 382 (.ref 155),dE P "spread" 394 (.ref 164),dE P "both" 407 (.ref 171),dE P "outside" 419 (.ref 178),dE P "less" 427 (.ref 185),dE P "MOST_LANDS" 431 (.int (6) 430),dE P "GREATEST_WEIGHT" 433 (.int (9) 432),dE P "is_land" 440 (.ref 192),dE P "are_lands" 449 (.ref 199),dE P "Rule" 490 (.ref 223),dE P "Within" 524 (.ref 251),dE P "Since" 558 (.ref 277),dE P "InRow" 590 (.ref 303),dE P "MOST_STAYS" 594 (.int (60) 593),dE P "is_stay" 601 (.ref 312),dE P "stays_of" 611 (.ref 319),dE P "pieces_among" 619 (.ref 324),dE P "sum_of" 633 (.ref 331),dE P "first_since" 646 (.ref 338),dE P "first_of_window" 655 (.ref 345),dE P "count_among" 664 (.ref 352),dE P "turns_of" 676 (.ref 359),dE P "first_above" 689 (.ref 366),dE P "first_broken" 695 (.ref 371),dE P "fault_among" 708 (.ref 378),dE P "fault_of" 716 (.ref 385),dE P "let_stays" 728 (.ref 392),dE P "check_day" 736 (.ref 399),dE P "MOST_WISHES" 740 (.int (6) 739),dE P "fault_on" 752 (.ref 406),dE P "planned_day" 765 (.ref 413),dE P "plan_of" 780 (.ref 420),dE P "MOST_RULES" 784 (.int (8) 783),dE P "MOST_PAPERS" 786 (.int (12) 785),dE P "are_rules" 794 (.ref 427),dE P "is_paper" 802 (.ref 434),dE P "check_papers" 812 (.ref 441),dE P "Book" 863 (.ref 477),dE P "_law_at" 873 (.ref 488),dE P "_law_word" 884 (.ref 495),dE P "_law_names" 890 (.ref 500),dE P "_law_spec" 903 (.ref 507),dE P "_law_rule" 910 (.ref 514),dE P "_law_stays" 925 (.ref 521),dE P "_law_papers" 939 (.ref 528),dE P "_law_pieces" 945 (.ref 533),dE P "_law_sum" 951 (.ref 538),dE P "_law_first" 966 (.ref 545),dE P "_law_count" 976 (.ref 552),dE P "_law_broken" 989 (.ref 559),dE P "_law_day" 995 (.ref 564),dE P "law" 1001 (.ref 569)] 76,#[]⟩)::(nat_lit 27,oB "is_whole" 202 8 1 22 206)::(nat_lit 28,oG (top 5) "is_whole" "daysgate.checks" 194 27)::(nat_lit 34,oB "is_between" 209 10 3 29 215)::(nat_lit 35,oG (top 6) "is_between" "daysgate.checks" 194 34)::(nat_lit 41,oB "are_days" 218 12 2 36 223)::(nat_lit 42,oG (top 7) "are_days" "daysgate.checks" 194 41)::(nat_lit 48,oB "is_made_of" 226 14 2 43 232)::(nat_lit 49,oG (top 8) "is_made_of" "daysgate.checks" 194 48)::(nat_lit 55,oB "is_name" 235 19 1 50 239)::(nat_lit 56,oG (top 9) "is_name" "daysgate.checks" 194 55)::(nat_lit 62,oB "are_names" 242 23 2 57 249)::(nat_lit 63,oG (top 10) "are_names" "daysgate.checks" 194 62)::(nat_lit 74,⟨(.type "getset_descriptor"),none,.fields #[(.str "__weakref__" 267),(.ref 73),(.builtin "ExceptionGroup.__weakref__"),.none],#[]⟩)::(nat_lit 163,oB "spread" 385 57 1 158 392)::(nat_lit 164,oG (top 19) "spread" "daysgate.days" 383 163)::(nat_lit 170,oB "both" 395 65 2 165 405)::(nat_lit 171,oG (top 20) "both" "daysgate.days" 383 170)::(nat_lit 177,oB "outside" 408 79 3 172 417)::(nat_lit 178,oG (top 21) "outside" "daysgate.days" 383 177)::(nat_lit 184,oB "less" 420 89 2 179 425)::(nat_lit 185,oG (top 22) "less" "daysgate.days" 383 184)::(nat_lit 191,oB "is_land" 434 96 1 186 438)::(nat_lit 192,oG (top 26) "is_land" "daysgate.rules" 428 191)::(nat_lit 198,oB "are_lands" 441 100 1 193 447)::(nat_lit 199,oG (top 27) "are_lands" "daysgate.rules" 428 198)::(nat_lit 212,oC "__init__" 462 "Rule.__init__" 463 464 111 3 207 208 (.ref 209) (.ref 210) 211 468 469)::(nat_lit 213,oFn none (mem 28 0) "__init__" "Rule.__init__" .none .none .none (.str "daysgate.rules" 428) none (.ref 212) .none)::(nat_lit 219,oC "weight" 471 "Rule.weight" 472 473 119 2 214 215 (.ref 216) (.ref 217) 218 478 479)::(nat_lit 220,oFn none (mem 28 1) "weight" "Rule.weight" .none .none .none (.str "daysgate.rules" 428) none (.ref 219) .none)::(nat_lit 222,⟨(.type "dict"),none,.dict #[dE P "__module__" 457 (.str "daysgate.rules" 428),dE P "__firstlineno__" 461 (.int (109) 460),dE P "__init__" 470 (.ref 213),dE P "weight" 480 (.ref 220),dE P "__static_attributes__" 483 (.ref 221),dE P "__dict__" 485 (.ref 224),dE P "__weakref__" 487 (.ref 225),dE P "__doc__" 488 .none] 4,#[]⟩)::(nat_lit 223,⟨(.type "type"),none,.cls ⟨"Rule",[(.type "object")],[(.ref 223),(.type "object")],222,"Rule",true,[],[(.ref 251),(.ref 277)],false,none,false⟩,#[none,none,some (.str "Rule" 450),some (.str "Rule" 458),some (.builtin "object.__new__"),some (.bool true)]⟩)::(nat_lit 224,⟨(.type "getset_descriptor"),none,.fields #[(.str "__dict__" 484),(.ref 223),(.builtin "function.__dict__"),(.builtin "function.__dict__#set")],#[]⟩)::(nat_lit 225,⟨(.type "getset_descriptor"),none,.fields #[(.str "__weakref__" 486),(.ref 223),(.builtin "ExceptionGroup.__weakref__"),.none],#[]⟩)::(nat_lit 240,oC "__init__" 503 "Within.__init__" 504 505 126 4 235 236 (.ref 237) (.ref 238) 239 510 511)::(nat_lit 241,oFn none (mem 29 0) "__init__" "Within.__init__" .none .none .none (.str "daysgate.rules" 428) none (.ref 240) .none)::(nat_lit 247,oC "line" 513 "Within.line" 514 515 132 1 242 243 (.ref 244) (.ref 245) 246 517 518)::(nat_lit 248,oFn none (mem 29 1) "line" "Within.line" .none .none .none (.str "daysgate.rules" 428) none (.ref 247) .none)::(nat_lit 250,⟨(.type "dict"),none,.dict #[dE P "__module__" 498 (.str "daysgate.rules" 428),dE P "__firstlineno__" 502 (.int (124) 501),dE P "__init__" 512 (.ref 241),dE P "line" 519 (.ref 248),dE P "__static_attributes__" 521 (.ref 249),dE P "__doc__" 522 .none] 2,#[]⟩)::(nat_lit 251,⟨(.type "type"),none,.cls ⟨"Within",[(.ref 223)],[(.ref 251),(.ref 223),(.type "object")],250,"Within",true,[],[],false,none,false⟩,#[some (.ref 228),none,some (.str "Within" 491),some (.str "Within" 499),some (.builtin "object.__new__"),some (.bool true)]⟩)::(nat_lit 266,oC "__init__" 537 "Since.__init__" 538 539 136 4 261 262 (.ref 263) (.ref 264) 265 544 545)::(nat_lit 267,oFn none (mem 30 0) "__init__" "Since.__init__" .none .none .none (.str "daysgate.rules" 428) none (.ref 266) .none)::(nat_lit 273,oC "line" 547 "Since.line" 548 549 142 1 268 269 (.ref 270) (.ref 271) 272 551 552)::(nat_lit 274,oFn none (mem 30 1) "line" "Since.line" .none .none .none (.str "daysgate.rules" 428) none (.ref 273) .none)::(nat_lit 276,⟨(.type "dict"),none,.dict #[dE P "__module__" 532 (.str "daysgate.rules" 428),dE P "__firstlineno__" 536 (.int (134) 535),dE P "__init__" 546 (.ref 267),dE P "line" 553 (.ref 274),dE P "__static_attributes__" 555 (.ref 275),dE P "__doc__" 556 .none] 2,#[]⟩)::(nat_lit 277,⟨(.type "type"),none,.cls ⟨"Since",[(.ref 223)],[(.ref 277),(.ref 223),(.type "object")],276,"Since",true,[],[(.ref 303)],false,none,false⟩,#[some (.ref 254),none,some (.str "Since" 525),some (.str "Since" 533),some (.builtin "object.__new__"),some (.bool true)]⟩)::(nat_lit 292,oC "__init__" 571 "InRow.__init__" 572 573 146 3 287 288 (.ref 289) (.ref 290) 291 577 578)::(nat_lit 293,oFn none (mem 31 0) "__init__" "InRow.__init__" .none .none .none (.str "daysgate.rules" 428) none (.ref 292) .none)::(nat_lit 299,oC "line" 580 "InRow.line" 581 582 149 1 294 295 (.ref 296) (.ref 297) 298 584 585)::(nat_lit 300,oFn none (mem 31 1) "line" "InRow.line" .none .none .none (.str "daysgate.rules" 428) none (.ref 299) .none)::(nat_lit 302,⟨(.type "dict"),none,.dict #[dE P "__module__" 566 (.str "daysgate.rules" 428),dE P "__firstlineno__" 570 (.int (144) 569),dE P "__init__" 579 (.ref 293),dE P "line" 586 (.ref 300),dE P "__static_attributes__" 587 (.ref 301),dE P "__doc__" 588 .none] 2,#[]⟩)::(nat_lit 303,⟨(.type "type"),none,.cls ⟨"InRow",[(.ref 277)],[(.ref 303),(.ref 277),(.ref 223),(.type "object")],302,"InRow",true,[],[],false,none,false⟩,#[some (.ref 280),none,some (.str "InRow" 559),some (.str "InRow" 567),some (.builtin "object.__new__"),some (.bool true)]⟩)::(nat_lit 311,oB "is_stay" 595 153 1 306 599)::(nat_lit 312,oG (top 34) "is_stay" "daysgate.stays" 591 311)::(nat_lit 318,oB "stays_of" 602 157 1 313 609)::(nat_lit 319,oG (top 35) "stays_of" "daysgate.stays" 591 318)::(nat_lit 323,oC "pieces_among" 614 "pieces_among" 615 616 169 3 320 321 .none .none 322 617 618)::(nat_lit 324,oG (top 37) "pieces_among" "daysgate.sums" 612 323)::(nat_lit 330,oB "sum_of" 620 178 3 325 631)::(nat_lit 331,oG (top 38) "sum_of" "daysgate.sums" 612 330)::(nat_lit 337,oB "first_since" 634 185 3 332 644)::(nat_lit 338,oG (top 39) "first_since" "daysgate.sums" 612 337)::(nat_lit 344,oB "first_of_window" 647 193 3 339 653)::(nat_lit 345,oG (top 40) "first_of_window" "daysgate.sums" 612 344)::(nat_lit 351,oB "count_among" 656 197 3 346 662)::(nat_lit 352,oG (top 41) "count_among" "daysgate.sums" 612 351)::(nat_lit 358,oB "turns_of" 665 199 2 353 674)::(nat_lit 359,oG (top 42) "turns_of" "daysgate.sums" 612 358)::(nat_lit 365,oB "first_above" 677 206 4 360 687)::(nat_lit 366,oG (top 43) "first_above" "daysgate.sums" 612 365)::(nat_lit 370,oC "first_broken" 690 "first_broken" 691 692 213 2 367 368 .none .none 369 693 694)::(nat_lit 371,oG (top 44) "first_broken" "daysgate.sums" 612 370)::(nat_lit 377,oB "fault_among" 696 223 2 372 706)::(nat_lit 378,oG (top 45) "fault_among" "daysgate.sums" 612 377)::(nat_lit 384,oB "fault_of" 709 231 2 379 714)::(nat_lit 385,oG (top 46) "fault_of" "daysgate.sums" 612 384)::(nat_lit 391,oB "let_stays" 719 234 2 386 726)::(nat_lit 392,oG (top 48) "let_stays" "daysgate.limits" 717 391)::(nat_lit 398,oB "check_day" 729 240 2 393 734)::(nat_lit 399,oG (top 49) "check_day" "daysgate.limits" 717 398)::(nat_lit 405,oB "fault_on" 741 245 3 400 750)::(nat_lit 406,oG (top 52) "fault_on" "daysgate.plans" 737 405)::(nat_lit 412,oB "planned_day" 753 251 4 407 763)::(nat_lit 413,oG (top 53) "planned_day" "daysgate.plans" 737 412)::(nat_lit 419,oB "plan_of" 766 259 5 414 778)::(nat_lit 420,oG (top 54) "plan_of" "daysgate.plans" 737 419)::(nat_lit 426,oB "are_rules" 787 274 1 421 792)::(nat_lit 427,oG (top 58) "are_rules" "daysgate.books" 781 426)::(nat_lit 433,oB "is_paper" 795 281 2 428 800)::(nat_lit 434,oG (top 59) "is_paper" "daysgate.books" 781 433)::(nat_lit 440,oB "check_papers" 803 285 2 435 810)::(nat_lit 441,oG (top 60) "check_papers" "daysgate.books" 781 440)::(nat_lit 454,oC "__init__" 825 "Book.__init__" 826 827 295 3 449 450 (.ref 451) (.ref 452) 453 831 832)::(nat_lit 455,oFn none (mem 61 0) "__init__" "Book.__init__" .none .none .none (.str "daysgate.books" 781) none (.ref 454) .none)::(nat_lit 461,oC "rules" 834 "Book.rules" 835 836 302 1 456 457 (.ref 458) (.ref 459) 460 838 839)::(nat_lit 462,oFn none (mem 61 1) "rules" "Book.rules" .none .none .none (.str "daysgate.books" 781) none (.ref 461) .none)::(nat_lit 468,oC "papers" 841 "Book.papers" 842 843 305 1 463 464 (.ref 465) (.ref 466) 467 845 846)::(nat_lit 469,oFn none (mem 61 2) "papers" "Book.papers" .none .none .none (.str "daysgate.books" 781) none (.ref 468) .none)::(nat_lit 473,oC "lifted" 848 "Book.lifted" 849 850 308 2 470 471 .none .none 472 851 852)::(nat_lit 474,oFn none (mem 61 3) "lifted" "Book.lifted" .none .none .none (.str "daysgate.books" 781) none (.ref 473) .none)::(nat_lit 476,⟨(.type "dict"),none,.dict #[dE P "__module__" 820 (.str "daysgate.books" 781),dE P "__firstlineno__" 824 (.int (293) 823),dE P "__init__" 833 (.ref 455),dE P "rules" 840 (.ref 462),dE P "papers" 847 (.ref 469),dE P "lifted" 853 (.ref 474),dE P "__static_attributes__" 856 (.ref 475),dE P "__dict__" 858 (.ref 478),dE P "__weakref__" 860 (.ref 479),dE P "__doc__" 861 .none] 4,#[]⟩)::(nat_lit 477,⟨(.type "type"),none,.cls ⟨"Book",[(.type "object")],[(.ref 477),(.type "object")],476,"Book",true,[],[],false,none,false⟩,#[none,none,some (.str "Book" 813),some (.str "Book" 821),some (.builtin "object.__new__"),some (.bool true)]⟩)::(nat_lit 478,⟨(.type "getset_descriptor"),none,.fields #[(.str "__dict__" 857),(.ref 477),(.builtin "function.__dict__"),(.builtin "function.__dict__#set")],#[]⟩)::(nat_lit 479,⟨(.type "getset_descriptor"),none,.fields #[(.str "__weakref__" 859),(.ref 477),(.builtin "ExceptionGroup.__weakref__"),.none],#[]⟩)::(nat_lit 487,oB "_law_at" 866 311 2 482 871)::(nat_lit 488,oG (top 63) "_law_at" "law_daysgate_k56_whole_plan_shown" 864 487)::(nat_lit 494,oB "_law_word" 874 315 1 489 882)::(nat_lit 495,oG (top 64) "_law_word" "law_daysgate_k56_whole_plan_shown" 864 494)::(nat_lit 499,oC "_law_names" 885 "_law_names" 886 887 324 2 496 497 .none .none 498 888 889)::(nat_lit 500,oG (top 65) "_law_names" "law_daysgate_k56_whole_plan_shown" 864 499)::(nat_lit 506,oB "_law_spec" 891 328 3 501 901)::(nat_lit 507,oG (top 66) "_law_spec" "law_daysgate_k56_whole_plan_shown" 864 506)::(nat_lit 513,oB "_law_rule" 904 339 1 508 908)::(nat_lit 514,oG (top 67) "_law_rule" "law_daysgate_k56_whole_plan_shown" 864 513)::(nat_lit 520,oB "_law_stays" 911 345 4 515 923)::(nat_lit 521,oG (top 68) "_law_stays" "law_daysgate_k56_whole_plan_shown" 864 520)::(nat_lit 527,oB "_law_papers" 926 357 4 522 937)::(nat_lit 528,oG (top 69) "_law_papers" "law_daysgate_k56_whole_plan_shown" 864 527)::(nat_lit 532,oC "_law_pieces" 940 "_law_pieces" 941 942 365 4 529 530 .none .none 531 943 944)::(nat_lit 533,oG (top 70) "_law_pieces" "law_daysgate_k56_whole_plan_shown" 864 532)::(nat_lit 537,oC "_law_sum" 946 "_law_sum" 947 948 379 3 534 535 .none .none 536 949 950)::(nat_lit 538,oG (top 71) "_law_sum" "law_daysgate_k56_whole_plan_shown" 864 537)::(nat_lit 544,oB "_law_first" 952 381 3 539 964)::(nat_lit 545,oG (top 72) "_law_first" "law_daysgate_k56_whole_plan_shown" 864 544)::(nat_lit 551,oB "_law_count" 967 395 3 546 974)::(nat_lit 552,oG (top 73) "_law_count" "law_daysgate_k56_whole_plan_shown" 864 551)::(nat_lit 558,oB "_law_broken" 977 400 4 553 987)::(nat_lit 559,oG (top 74) "_law_broken" "law_daysgate_k56_whole_plan_shown" 864 558)::(nat_lit 563,oC "_law_day" 990 "_law_day" 991 992 407 6 560 561 .none .none 562 993 994)::(nat_lit 564,oG (top 75) "_law_day" "law_daysgate_k56_whole_plan_shown" 864 563)::(nat_lit 568,oC "law" 996 "law" 997 998 427 1 565 566 .none .none 567 999 1000)::(nat_lit 569,oG (top 76) "law" "law_daysgate_k56_whole_plan_shown" 864 568)::[]
theorem HKe(P:Params):Has=(HK P).map (·.1):=by kernel_rfl
noncomputable def qmk(p q:Program)(rc:Shared->Bool)(w:World)(H0:Heap)(s0:SharedT):=(Y9 treeTable p w 11 (some (.ref 6)) 9558 s0 (topStub p)).map (λs=>qjq p q [] (λs=>xlAt q [] s&&rc s) (λs=>Has.map s.heap.get?) true H0 s.abs)
noncomputable def Hlk(w:World)(H0:Heap)(s0:SharedT):=qmk HP Hq (recOk (RowW.records PySem.Challenge.rw_daysgate_k56_whole_plan_shown.row.toRowW)) w H0 s0
def qml(q:Program):=openGood q []
def Hgd:=qml Hq
theorem qff:qmk=qmk:=rfl
theorem qfg:qml=qml:=rfl
end K56
lay_quick K56.qmk K56.qml
name_quick hlkQ for K56.qmk by K56.qff
name_quick hgdQ for K56.qml by K56.qfg
namespace K56
open PySem PySem.W HD DG
theorem qmm(w:World)(os:OsState):Hlk w (boot_heap w.params) (qjp w.params os)=some (true,Hgd,(HK w.params).map λp=>some p.2):=by
 unfold Hlk Hgd;rw[PySem.W.Fast.hlkQ_eq,PySem.W.Fast.hgdQ_eq]
 kernel_rfl
theorem qnC:LeftO HP Hq [] Hx (λs=>Has.map s.heap.get?) (λw=>(HK w.params).map λp=>some p.2) 9558 true:=
 qjr (boot_open (by kernel_rfl) (2:) (λ_=>by kernel_rfl)) qfe qmm
end K56
namespace DG
open PySem PySem.Spec PyProof.Rows L2 DE
theorem qjs(b:Bool)(l:List D):aA b l=aL b l:=by cases b<;>rfl
theorem qbD{pg:Pg}[CH pg][RU pg][BO pg](j:Nat):Ck pg (j+5) where
 lands:=λb l h=>by rw[qjs];exact qbk (j+1) b l h
 rules:=λb l h=>by rw[qjs];exact qbl (j+4) b l h
 papers:=λb ps n h=>by rw[qjs];exact Qg j b ps n h
 btw:=λn a b h=>qlQ (j+3) n a b h
noncomputable def kap(cW cS cI cB:Addr):KC:=λc=>if c = "Within" then some cW else if c = "Since" then some cS else if c = "InRow" then some cI else if c = "Book" then some cB else none
theorem qmn{cW cS cI cB C:Addr}{c:Str}(h:kap cW cS cI cB c=some C):(c = "Within"/\C=cW)\/(c = "Since"/\C=cS)\/(c = "InRow"/\C=cI)\/(c = "Book"/\C=cB):=by
 unfold kap at h
 split at h
 ·cases h;exact .inl ⟨‹_›,rfl⟩
 split at h
 ·cases h;exact .inr (.inl ⟨‹_›,rfl⟩)
 split at h
 ·cases h;exact .inr (.inr (.inl ⟨‹_›,rfl⟩))
 split at h
 ·cases h;exact .inr (.inr (.inr ⟨‹_›,rfl⟩))
 cases h
theorem qdf{c:Str}(h:rk c=true):c = "Within"\/c = "Since"\/c = "InRow":=by
 unfold rk at h
 simpa [or_assoc] using h
theorem qmo{c x:Str}(h:pcs.fld c x=true):(rk c=true/\(x = "lands"\/x = "most"))\/(c = "Within"/\x = "span")\/((c = "Since"\/c = "InRow")/\x = "leave")\/(c = "Book"/\(x = "kept_rules"\/x = "kept_papers")):=by
 have h:((rk c&&(x == "lands" || x == "most" || (x == "span" && c == "Within")||(x == "leave" && c != "Within")))||(c == "Book" && (x == "kept_rules" || x == "kept_papers")))=true:=h;simp only[Bool.or_eq_true,Bool.and_eq_true,beq_iff_eq,bne_iff_ne] at h;rcases h with ⟨h1,((h2 | h2) | h2) | h2⟩ | h2
 ·exact .inl ⟨h1,.inl h2⟩
 ·exact .inl ⟨h1,.inr h2⟩
 ·exact .inr (.inl ⟨h2.2,h2.1⟩)
 ·refine .inr (.inr (.inl ⟨?_,h2.1⟩));rcases qdf h1 with q | q
  ·exact absurd q h2.2
  ·exact q
 ·exact .inr (.inr (.inr h2))
theorem qnD{c x f:Str}(h:pcs.mt c x=some f):(rk c=true/\x = "weight"/\f = "Rule.weight")\/(c = "Book"/\x = "rules"/\f = "Book.rules")\/(c = "Book"/\x = "lifted"/\f = "Book.lifted")\/(c = "Book"/\x = "papers"/\f = "Book.papers"):=by
 have h:(if (rk c&&x == "weight")=true then some ("Rule.weight" : Str) else if (c == "Book" && x == "rules")=true then some ("Book.rules" : Str) else if (c == "Book" && x == "lifted")=true then some ("Book.lifted" : Str) else if (c == "Book" && x == "papers")=true then some ("Book.papers" : Str) else none)=some f:=h
 split at h
 ·rename_i q;simp only[Bool.and_eq_true,beq_iff_eq] at q;cases h;exact .inl ⟨q.1,q.2,rfl⟩
 split at h
 ·rename_i q;simp only[Bool.and_eq_true,beq_iff_eq] at q;cases h;exact .inr (.inl ⟨q.1,q.2,rfl⟩)
 split at h
 ·rename_i q;simp only[Bool.and_eq_true,beq_iff_eq] at q;cases h;exact .inr (.inr (.inl ⟨q.1,q.2,rfl⟩))
 split at h
 ·rename_i q;simp only[Bool.and_eq_true,beq_iff_eq] at q;cases h;exact .inr (.inr (.inr ⟨q.1,q.2,rfl⟩))
 cases h
theorem qmp{c t:Str}{b:Bool}(h:pcs.sub c t=some b):rk c=true/\((t = "Within"/\b=(c == "Within"))\/(t = "Since"/\b=(c != "Within"))):=by
 have h:(if (rk c&&t == "Within")=true then some (c == "Within") else if (rk c&&t == "Since")=true then some (c != "Within") else none)=some b:=h
 split at h
 ·rename_i q;simp only[Bool.and_eq_true,beq_iff_eq] at q;cases h;exact⟨q.1,.inl ⟨q.2,rfl⟩⟩
 split at h
 ·rename_i q;simp only[Bool.and_eq_true,beq_iff_eq] at q;cases h;exact⟨q.1,.inr ⟨q.2,rfl⟩⟩
 cases h
theorem ZM{c:Str}{o:Option (List (Str×D))}{r:Rv}(h:qc1 c o=.ok r):∃fs,o=some fs/\r=.val (.ins c (fs.map (·.1)) (fs.map (·.2))):=by
 cases o with
 |none=>cases h
 |some fs=>cases h;exact⟨fs,rfl,rfl⟩
theorem qaY(b:Bool)(l l':List D):aA b l≠.scr l':=by cases b<;>(intro z;cases z)
theorem qoM{j:Nat}{args:List Ar}{r:Rv}(h:pnw (j+12) "Within" args=.ok r):(∀a∈args,∀l,a≠.scr l)/\∃fs,yb "span" args=some fs/\r=.val (.ins "Within" (fs.map (·.1)) (fs.map (·.2))):=by
 have h:(if j+12 < 12 then R.no else qc1 "Within" (yb "span" args))=.ok r:=h;rw[if_neg (1:)] at h;obtain⟨fs,e,er⟩:=ZM h;obtain⟨b,l,m,s,rfl,_⟩:=jA e;refine⟨λa ha=>?_,fs,e,er⟩;simp only[List.mem_cons,List.not_mem_nil,or_false] at ha;rcases ha with rfl | rfl | rfl
 ·exactλl'=>qaY b l l'
 ·exactλl' z=>by cases z
 ·exactλl' z=>by cases z
theorem qoN{j:Nat}{args:List Ar}{r:Rv}(h:pnw (j+12) "Since" args=.ok r):(∀a∈args,∀l,a≠.scr l)/\∃fs,yb "leave" args=some fs/\r=.val (.ins "Since" (fs.map (·.1)) (fs.map (·.2))):=by
 have h:(if j+12 < 12 then R.no else qc1 "Since" (yb "leave" args))=.ok r:=h;rw[if_neg (1:)] at h;obtain⟨fs,e,er⟩:=ZM h;obtain⟨b,l,m,s,rfl,_⟩:=jA e;refine⟨λa ha=>?_,fs,e,er⟩;simp only[List.mem_cons,List.not_mem_nil,or_false] at ha;rcases ha with rfl | rfl | rfl
 ·exactλl'=>qaY b l l'
 ·exactλl' z=>by cases z
 ·exactλl' z=>by cases z
theorem qoO{j:Nat}{args:List Ar}{r:Rv}(h:pnw (j+12) "InRow" args=.ok r):(∀a∈args,∀l,a≠.scr l)/\∃fs,qc0 args=some fs/\r=.val (.ins "InRow" (fs.map (·.1)) (fs.map (·.2))):=by
 have h:(if j+12 < 12 then R.no else qc1 "InRow" (qc0 args))=.ok r:=h;rw[if_neg (1:)] at h;obtain⟨fs,e,er⟩:=ZM h;obtain⟨b,l,m,rfl,_⟩:=ZL e;refine⟨λa ha=>?_,fs,e,er⟩;simp only[List.mem_cons,List.not_mem_nil,or_false] at ha;rcases ha with rfl | rfl
 ·exactλl'=>qaY b l l'
 ·exactλl' z=>by cases z
theorem qoP{j:Nat}{args:List Ar}{r:Rv}(h:pnw (j+12) "Book" args=.ok r):(∀a∈args,∀l,a≠.scr l)/\∃fs,Qz args=some fs/\r=.val (.ins "Book" (fs.map (·.1)) (fs.map (·.2))):=by
 have h:(if j+12 < 12 then R.no else qc1 "Book" (Qz args))=.ok r:=h;rw[if_neg (1:)] at h;obtain⟨fs,e,er⟩:=ZM h;obtain⟨b,c,l,ps,rfl,_⟩:=Y8 e;refine⟨λa ha=>?_,fs,e,er⟩;simp only[List.mem_cons,List.not_mem_nil,or_false] at ha;rcases ha with rfl | rfl
 ·exactλl'=>qaY b l l'
 ·exactλl'=>qaY c ps l'
structure Kl(K:Frag)(C:Addr):Prop where
 cls:Cls K C
 tc:PySem.W.findIn K (.ref C) "__class__" = some (some (.builtin "object.__class__"))
 mo:PySem.W.mroIn K C (.type "object")=some true
structure Kr(K:Frag)(fw C cW cS:Addr)(x:Str)(b:Bool):Prop where
 kl:Kl K C
 la:zz K C "lands"
 mo:zz K C "most"
 fx:zz K C x
 wt:Meth K C "weight" fw
 iw:PySem.W.kitOne K (.ref C) (.ref cW)=some b
 is:PySem.W.kitOne K (.ref C) (.ref cS)=some (!b)
structure Kb(K:Frag)(fr fl fp C:Addr):Prop where
 kl:Kl K C
 a1:zz K C "kept_rules"
 a2:zz K C "kept_papers"
 m1:Meth K C "rules" fr
 m2:Meth K C "lifted" fl
 m3:Meth K C "papers" fp
section
variable{K:Frag}{mg:PR}{cW cS cI cB fw fr fl fp:Addr}(W:Kr K fw cW cW cS "span" true)(S:Kr K fw cS cW cS "leave" false)(I:Kr K fw cI cW cS "leave" false)(B:Kb K fr fl fp cB)
include W S I B
theorem qhD(c:Str)(C:Addr)(h:kap cW cS cI cB c=some C):Cls K C:=by
 rcases qmn h with ⟨_,rfl⟩ | ⟨_,rfl⟩ | ⟨_,rfl⟩ | ⟨_,rfl⟩
 ·exact W.kl.cls
 ·exact S.kl.cls
 ·exact I.kl.cls
 ·exact B.kl.cls
theorem qfh(c x:Str)(C:Addr)(hf:pcs.fld c x=true)(h:kap cW cS cI cB c=some C):zz K C x:=by
 rcases qmo hf with ⟨hr,rfl | rfl⟩ | ⟨rfl,rfl⟩ | ⟨rfl | rfl,rfl⟩ | ⟨rfl,rfl | rfl⟩
 ·rcases qdf hr with rfl | rfl | rfl
  ·cases h;exact W.la
  ·cases h;exact S.la
  ·cases h;exact I.la
 ·rcases qdf hr with rfl | rfl | rfl
  ·cases h;exact W.mo
  ·cases h;exact S.mo
  ·cases h;exact I.mo
 ·cases h;exact W.fx
 ·cases h;exact S.fx
 ·cases h;exact I.fx
 ·cases h;exact B.a1
 ·cases h;exact B.a2
theorem qdg{C:Addr}(k:Kl K C)(n:PySem.W.specialIn K (.builtin "object.__class__") "__get__" = some (some (.builtin "getset_descriptor.__get__")))(tk:PySem.W.takesIn K (.builtin "object.__class__")=some true) :
  ∀(H:Hp) (p dx:Addr) (fs:List (Str×V)),H p=some (L2.HO.ins C dx fs)->TyOf K H (.ref p) (.ref C):=λH p dx fs hp=>.ins hp k.cls k.tc n tk k.mo
theorem qjt(n:PySem.W.specialIn K (.builtin "object.__class__") "__get__" = some (some (.builtin "getset_descriptor.__get__")))(tk:PySem.W.takesIn K (.builtin "object.__class__")=some true)(mW:mg "Within" = some (.ref cW))(mS:mg "Since" = some (.ref cS))
  (c t:Str) (b:Bool) (h:pcs.sub c t=some b):∃C T,kap cW cS cI cB c=some C/\(∀H p dx fs,H p=some (L2.HO.ins C dx fs)->TyOf K H (.ref p) (.ref C))/\mg t=some (.ref T)/\PySem.W.kitOne K (.ref C) (.ref T)=some b:=by
 obtain⟨hr,⟨rfl,rfl⟩ | ⟨rfl,rfl⟩⟩:=qmp h
 ·rcases qdf hr with rfl | rfl | rfl
  ·exact⟨cW,cW,rfl,qdg W S I B W.kl n tk,mW,W.iw⟩
  ·exact⟨cS,cW,rfl,qdg W S I B S.kl n tk,mW,S.iw⟩
  ·exact⟨cI,cW,rfl,qdg W S I B I.kl n tk,mW,I.iw⟩
 ·rcases qdf hr with rfl | rfl | rfl
  ·exact⟨cW,cS,rfl,qdg W S I B W.kl n tk,mS,W.is⟩
  ·exact⟨cS,cS,rfl,qdg W S I B S.kl n tk,mS,S.is⟩
  ·exact⟨cI,cS,rfl,qdg W S I B I.kl n tk,mS,I.is⟩
end
noncomputable def QV(K:Frag)(f:Addr)(n q:Str)(st:Stmt):Prop:=∃oc od kV dc pm an cd ct sl,K.lookup f=some ⟨oc,od,.func (PySem.W.fnOf n q (qW st) (qI st) (qi st) .none kV dc pm an cd ct),sl⟩/\PySem.W.codeIn K cd q=true/\PySem.W.keepIn K (.ref f)=true
noncomputable abbrev FG(K:Frag)(f:Addr)(n:Str)(st:Stmt):Prop:=PySem.W.nsIn K mainGlobals n=some (some (.ref f))/\QV K f n n st
section
variable{K:Frag}{f:Addr}{n q:Str}{st:Stmt}{mg:PR}{h:Heap}
theorem QV.fn(i:QV K f n q st):∃fd,Fun K n q st f fd:=by obtain⟨oc,od,kV,dc,pm,an,cd,ct,sl,l,c,k⟩:=i;exact⟨_,qgN l c k⟩
theorem QV.kp(i:QV K f n q st):PySem.W.keepIn K (.ref f)=true:=by obtain⟨oc,od,kV,dc,pm,an,cd,ct,sl,l,c,k⟩:=i;exact k
noncomputable def Bd(n q:Str)(st:Stmt)(ps:List Str):Prop:=∀(kV doc pm:Value) (an:Option Addr) (cdv ct:Value) (us:List Value),us.length=ps.length->bindArgs (PySem.W.fnOf n q (qW st) (qI st) (qi st) .none kV doc pm an cdv ct) ⟨us,[]⟩=pure (ps.zip us)
theorem qmq(X:K.In h)(G:h.Ns mainGlobals mg)(a:PySem.W.nsIn K mainGlobals n=some (some (.ref f)))(i:QV K f n n st){ps:List Str}(hp:Qv st=ps)(hb:Bd n n st ps):FnF K mg n st:=by obtain⟨fd,F⟩:=i.fn;exact⟨f,fd,F,PySem.W.mg_of X G a,hp▸F.binds hb⟩
theorem Jx(i:QV K f n q st){ps:List Str}(hb:Bd n q st ps):∃fd,Fun K n q st f fd/\zn K fd ps []:=by obtain⟨fd,F⟩:=i.fn;exact⟨fd,F,F.binds hb⟩
theorem qmr(i:QV K f n n st)(hb:Bd n n st ["_law_script"]):∃fd,Fun K n n st f fd/\∀(s:Shared) (v:Value),BindsTo s fd ⟨[v],[]⟩ [("_law_script",v)]:=by obtain⟨oc,od,kV,dc,pm,an,cd,ct,sl,l,c,k⟩:=i;exact⟨_,qgN l c k,λs v=>.of_eq (hb _ _ _ _ _ _ [v] rfl)⟩
end
section
variable{n q:Str}{st:Stmt}{a b c d e:Str}
theorem bd1(h:∀(kV doc pm:Value) (an:Option Addr) (cdv ct x:Value),bindArgs (PySem.W.fnOf n q (qW st) (qI st) (qi st) .none kV doc pm an cdv ct) ⟨[x],[]⟩=pure [(a,x)]):Bd n q st [a]:=λ_ _ _ _ _ _ us hl=>match us,hl with |[_],_=>h ..
theorem bd2(h:∀(kV doc pm:Value) (an:Option Addr) (cdv ct x y:Value),bindArgs (PySem.W.fnOf n q (qW st) (qI st) (qi st) .none kV doc pm an cdv ct) ⟨[x,y],[]⟩=pure [(a,x),(b,y)]):Bd n q st [a,b]:=λ_ _ _ _ _ _ us hl=>match us,hl with |[_,_],_=>h ..
theorem bd3(h:∀(kV doc pm:Value) (an:Option Addr) (cdv ct x y z:Value),bindArgs (PySem.W.fnOf n q (qW st) (qI st) (qi st) .none kV doc pm an cdv ct) ⟨[x,y,z],[]⟩=pure [(a,x),(b,y),(c,z)]):Bd n q st [a,b,c]:=λ_ _ _ _ _ _ us hl=>match us,hl with |[_,_,_],_=>h ..
theorem bd4(h:∀(kV doc pm:Value) (an:Option Addr) (cdv ct x y z u:Value),bindArgs (PySem.W.fnOf n q (qW st) (qI st) (qi st) .none kV doc pm an cdv ct) ⟨[x,y,z,u],[]⟩=pure [(a,x),(b,y),(c,z),(d,u)]):Bd n q st [a,b,c,d]:=λ_ _ _ _ _ _ us hl=>match us,hl with |[_,_,_,_],_=>h ..
theorem bd5(h:∀(kV doc pm:Value) (an:Option Addr) (cdv ct x y z u v:Value),bindArgs (PySem.W.fnOf n q (qW st) (qI st) (qi st) .none kV doc pm an cdv ct) ⟨[x,y,z,u,v],[]⟩=pure [(a,x),(b,y),(c,z),(d,u),(e,v)]):Bd n q st [a,b,c,d,e]:=λ_ _ _ _ _ _ us hl=>match us,hl with |[_,_,_,_,_],_=>h ..
theorem bd6{f:Str}(h:∀(kV doc pm:Value) (an:Option Addr) (cdv ct x y z u v t:Value),bindArgs (PySem.W.fnOf n q (qW st) (qI st) (qi st) .none kV doc pm an cdv ct) ⟨[x,y,z,u,v,t],[]⟩=pure [(a,x),(b,y),(c,z),(d,u),(e,v),(f,t)]):Bd n q st [a,b,c,d,e,f]:=λ_ _ _ _ _ _ us hl=>match us,hl with |[_,_,_,_,_,_],_=>h ..
end
end DG
namespace DG
open PySem PySem.Spec PyProof.Rows L2 DE
inductive BDs:List (Str×Stmt)->Prop
 | nil:BDs []
 | cons {n st l ps}:Qv st=ps->Bd n n st ps->BDs l->BDs ((n,st)::l)
inductive FGs(K:Frag):List (Str×Stmt)->Prop
 | nil:FGs K []
 | cons {f n st l}:FG K f n st->FGs K l->FGs K ((n,st)::l)
inductive ZNs(K:Frag):List Str->Prop
 | nil:ZNs K []
 | cons {n l}:PySem.W.nsIn K mainGlobals n=some none->ZNs K l->ZNs K (n::l)
section
variable{K:Frag}{mg:PR}{h:Heap}
theorem FGs.all(X:K.In h)(G:h.Ns mainGlobals mg){l:List (Str×Stmt)}(a:FGs K l)(p:BDs l):AllF K mg l:=by
 induction a with
 |nil=>exact .nil
 |cons i _ ih=>
  cases p with
  |cons e b p=>exact .cons (qmq X G i.1 i.2 e b) (ih p)
theorem ZNs.all(X:K.In h)(G:h.Ns mainGlobals mg){l:List Str}(a:ZNs K l):∀f∈l,mg f=none:=by
 induction a with
 |nil=>exact nofun
 |cons i _ ih=>
  intro f hf;rcases List.mem_cons.mp hf with rfl | hf
  ·exact PySem.W.mg_none_of X G i
  ·exact ih f hf
end
end DG
namespace K56
open PySem PySem.W L2 DE DG
theorem qms{l:OpenLaw}{w:World}{K:Frag}{h:Heap}{mg:PR}{fa cR cW cS cI cB f45 fiR fiW fiS fiI fiB fmw fmr fmp fml:Addr}{t0 t1 t2 t3 t4 t5 t6 t7 t8:Tok}(X:K.In h)(G:h.Ns mainGlobals mg)(hfa:mg "law" = some (.ref fa))
  (aL:FG K f45 "law" (top 76))
  (a:FGs K pg.defs)
  (z:ZNs K qd3)
  (v0:nsIn K mainGlobals "GREATEST" = some (some (.int 1000000000 t0)))
  (v1:nsIn K mainGlobals "LETTERS" = some (some (.str "abcdefghijklmnopqrstuvwxyz" t1)))
  (v2:nsIn K mainGlobals "LONGEST_NAME" = some (some (.int 8 t2)))
  (v3:nsIn K mainGlobals "MOST_LANDS" = some (some (.int 6 t3)))
  (v4:nsIn K mainGlobals "GREATEST_WEIGHT" = some (some (.int 9 t4)))
  (v5:nsIn K mainGlobals "MOST_STAYS" = some (some (.int 60 t5)))
  (v6:nsIn K mainGlobals "MOST_WISHES" = some (some (.int 6 t6)))
  (v7:nsIn K mainGlobals "MOST_RULES" = some (some (.int 8 t7)))
  (v8:nsIn K mainGlobals "MOST_PAPERS" = some (some (.int 12 t8)))
  (ncR:nsIn K mainGlobals "Rule" = some (some (.ref cR)))
  (ncW:nsIn K mainGlobals "Within" = some (some (.ref cW)))
  (ncS:nsIn K mainGlobals "Since" = some (some (.ref cS)))
  (ncI:nsIn K mainGlobals "InRow" = some (some (.ref cI)))
  (ncB:nsIn K mainGlobals "Book" = some (some (.ref cB)))
  (inR:findIn K (.ref cR) "__init__" = some (some (.ref fiR)))
  (inW:findIn K (.ref cW) "__init__" = some (some (.ref fiW)))
  (inS:findIn K (.ref cS) "__init__" = some (some (.ref fiS)))
  (inI:findIn K (.ref cI) "__init__" = some (some (.ref fiI)))
  (inB:findIn K (.ref cB) "__init__" = some (some (.ref fiB)))
  (tmr:findIn K (.ref cB) "rules" = some (some (.ref fmr)))
  (tml:findIn K (.ref cB) "lifted" = some (some (.ref fml)))
  (tmp:findIn K (.ref cB) "papers" = some (some (.ref fmp)))
  (twW:findIn K (.ref cW) "weight" = some (some (.ref fmw)))
  (twS:findIn K (.ref cS) "weight" = some (some (.ref fmw)))
  (twI:findIn K (.ref cI) "weight" = some (some (.ref fmw)))
  (hiR:QV K fiR "__init__" "Rule.__init__" (mem 28 0))
  (niR:isFn K (.ref fiR)=true)
  (hiW:QV K fiW "__init__" "Within.__init__" (mem 29 0))
  (niW:isFn K (.ref fiW)=true)
  (hiS:QV K fiS "__init__" "Since.__init__" (mem 30 0))
  (niS:isFn K (.ref fiS)=true)
  (hiI:QV K fiI "__init__" "InRow.__init__" (mem 31 0))
  (niI:isFn K (.ref fiI)=true)
  (hiB:QV K fiB "__init__" "Book.__init__" (mem 61 0))
  (niB:isFn K (.ref fiB)=true)
  (hmw:QV K fmw "weight" "Rule.weight" (mem 28 1))
  (nmw:isFn K (.ref fmw)=true)
  (hmr:QV K fmr "rules" "Book.rules" (mem 61 1))
  (nmr:isFn K (.ref fmr)=true)
  (hmp:QV K fmp "papers" "Book.papers" (mem 61 2))
  (nmp:isFn K (.ref fmp)=true)
  (hml:QV K fml "lifted" "Book.lifted" (mem 61 3))
  (nml:isFn K (.ref fml)=true)
  (mkW:makesIn K cW=true)
  (kcW:keepIn K (.ref cW)=true)
  (LW:Kl K cW)
  (na_landsW:findIn K (.ref cW) "lands" = some none)
  (na_mostW:findIn K (.ref cW) "most" = some none)
  (na_spanW:findIn K (.ref cW) "span" = some none)
  (kwW:kitOne K (.ref cW) (.ref cW)=some true)
  (ksW:kitOne K (.ref cW) (.ref cS)=some false)
  (mkS:makesIn K cS=true)
  (kcS:keepIn K (.ref cS)=true)
  (LS:Kl K cS)
  (na_landsS:findIn K (.ref cS) "lands" = some none)
  (na_mostS:findIn K (.ref cS) "most" = some none)
  (na_leaveS:findIn K (.ref cS) "leave" = some none)
  (kwS:kitOne K (.ref cS) (.ref cW)=some false)
  (ksS:kitOne K (.ref cS) (.ref cS)=some true)
  (mkI:makesIn K cI=true)
  (kcI:keepIn K (.ref cI)=true)
  (LI:Kl K cI)
  (na_landsI:findIn K (.ref cI) "lands" = some none)
  (na_mostI:findIn K (.ref cI) "most" = some none)
  (na_leaveI:findIn K (.ref cI) "leave" = some none)
  (kwI:kitOne K (.ref cI) (.ref cW)=some false)
  (ksI:kitOne K (.ref cI) (.ref cS)=some true)
  (mkB:makesIn K cB=true)
  (kcB:keepIn K (.ref cB)=true)
  (LB:Kl K cB)
  (na_kept_rulesB:findIn K (.ref cB) "kept_rules" = some none)
  (na_kept_papersB:findIn K (.ref cB) "kept_papers" = some none)
  (rdR:readsIn K cR (.type "type")=true)
  (gsR:specialIn K (.ref cR) "__getattribute__" = some (some (.builtin "type.__getattribute__")))
  (fcR:findCls K (.ref cR) (.type "type") "__init__" = some (.val (.ref fiR)))
  (rdS:readsIn K cS (.type "type")=true)
  (gsS:specialIn K (.ref cS) "__getattribute__" = some (some (.builtin "type.__getattribute__")))
  (fcS:findCls K (.ref cS) (.type "type") "__init__" = some (.val (.ref fiS)))
  (og:specialIn K (.builtin "object.__class__") "__get__" = some (some (.builtin "getset_descriptor.__get__")))
  (ot:takesIn K (.builtin "object.__class__")=some true)
  :
  ∃fd:FuncData,(∀(s:Shared) (v:Value),BindsTo s fd ⟨[v],[]⟩ [("_law_script",v)])/\∀base:Heap,K.In base->base.Ns mainGlobals mg->FnOk l.prog w K mg base CX0 20 fa fd ["_law_script"] (spF (kap cW cS cI cB) K (clK pg 20) "law"):=by
 have e:=hfa.symm.trans (mg_of X G aL.1);cases e;obtain⟨dL,FL,bL⟩:=qmr aL.2 ((bd1 λ_ _ _ _ _ _ _ =>rfl));have z:=z.all X G;obtain⟨diR,FiR,biR⟩:=Jx hiR (ps:=["self","lands","most"]) ((bd3 λ_ _ _ _ _ _ _ _ _ =>rfl));obtain⟨diW,FiW,biW⟩:=Jx hiW (ps:=["self","lands","most","span"]) ((bd4 λ_ _ _ _ _ _ _ _ _ _ =>rfl));obtain⟨diS,FiS,biS⟩:=Jx hiS (ps:=["self","lands","most","leave"]) ((bd4 λ_ _ _ _ _ _ _ _ _ _ =>rfl));obtain⟨diI,FiI,biI⟩:=Jx hiI (ps:=["self","lands","most"]) ((bd3 λ_ _ _ _ _ _ _ _ _ =>rfl));obtain⟨diB,FiB,biB⟩:=Jx hiB (ps:=["self","rules","papers"]) ((bd3 λ_ _ _ _ _ _ _ _ _ =>rfl));obtain⟨dmw,Fmw,bmw⟩:=Jx hmw (ps:=["self","land"]) ((bd2 λ_ _ _ _ _ _ _ _ =>rfl));obtain⟨dmr,Fmr,bmr⟩:=Jx hmr (ps:=["self"]) ((bd1 λ_ _ _ _ _ _ _ =>rfl));obtain⟨dmp,Fmp,bmp⟩:=Jx hmp (ps:=["self"]) ((bd1 λ_ _ _ _ _ _ _ =>rfl));obtain⟨dml,Fml,bml⟩:=Jx hml (ps:=["self","number"]) ((bd2 λ_ _ _ _ _ _ _ _ =>rfl));have mcR:=mg_of X G ncR;have mcW:=mg_of X G ncW;have mcS:=mg_of X G ncS;have mcI:=mg_of X G ncI;have mcB:=mg_of X G ncB;have rW:Kr K fmw cW cW cS "span" true:=⟨LW,na_landsW,na_mostW,na_spanW,⟨twW,nmw,hmw.kp⟩,kwW,ksW⟩;have rS:Kr K fmw cS cW cS "leave" false:=⟨LS,na_landsS,na_mostS,na_leaveS,⟨twS,nmw,hmw.kp⟩,kwS,ksS⟩;have rI:Kr K fmw cI cW cS "leave" false:=⟨LI,na_landsI,na_mostI,na_leaveI,⟨twI,nmw,hmw.kp⟩,kwI,ksI⟩;have rB:Kb K fmr fml fmp cB:=⟨LB,na_kept_rulesB,na_kept_papersB,⟨tmr,nmr,hmr.kp⟩,⟨tml,nml,hml.kp⟩,⟨tmp,nmp,hmp.kp⟩⟩;have tx:Tx (kap cW cS cI cB) K mg:=⟨z "tuple" (by decide+kernel),z "list" (by decide+kernel),z "len" (by decide+kernel),⟨_,mg_of X G v0⟩,qhD rW rS rI rB,qfh rW rS rI rB⟩;have cfR:ClsFn K cR "__init__" fiR:=⟨rdR,gsR,fcR,hiR.kp⟩;have cfS:ClsFn K cS "__init__" fiS:=⟨rdS,gsS,fcS,hiS.kp⟩;refine⟨dL,bL,λbase _ _=>qk9 (k:=19) (st:=top 76) ?ok FL (by kernel_rfl) (by kernel_rfl)⟩
 case ok=>
 refine⟨a.all X G ?q,z,?g,qhD rW rS rI rB,qfh rW rS rI rB,?m,?k,qjt rW rS rI rB og ot mcW mcS⟩
 case q=>repeat first | exact .nil |refine .cons (by kernel_rfl) (bd2 λ_ _ _ _ _ _ _ _ =>rfl) ?_ |refine .cons (by kernel_rfl) (bd3 λ_ _ _ _ _ _ _ _ _ =>rfl) ?_ |refine .cons (by kernel_rfl) (bd1 λ_ _ _ _ _ _ _ =>rfl) ?_ |refine .cons (by kernel_rfl) (bd4 λ_ _ _ _ _ _ _ _ _ _ =>rfl) ?_ |refine .cons (by kernel_rfl) (bd5 λ_ _ _ _ _ _ _ _ _ _ _ =>rfl) ?_ |refine .cons (by kernel_rfl) (bd6 λ_ _ _ _ _ _ _ _ _ _ _ _ =>rfl) ?_
 case g=>
  intro x d hd;unfold pg at hd;dsimp only at hd
  by_cases h0:x = "GREATEST"
  ·rw[if_pos h0] at hd;cases hd;exact⟨.int 1000000000,_,h0▸mg_of X G v0,⟨_,rfl⟩,λ_=>by simp only[Rep]⟩
  rw[if_neg h0] at hd
  by_cases h1:x = "LETTERS"
  ·rw[if_pos h1] at hd;cases hd;exact⟨.str "abcdefghijklmnopqrstuvwxyz",_,h1▸mg_of X G v1,⟨_,rfl⟩,λ_=>by simp only[Rep]⟩
  rw[if_neg h1] at hd
  by_cases h2:x = "LONGEST_NAME"
  ·rw[if_pos h2] at hd;cases hd;exact⟨.int 8,_,h2▸mg_of X G v2,⟨_,rfl⟩,λ_=>by simp only[Rep]⟩
  rw[if_neg h2] at hd
  by_cases h3:x = "MOST_LANDS"
  ·rw[if_pos h3] at hd;cases hd;exact⟨.int 6,_,h3▸mg_of X G v3,⟨_,rfl⟩,λ_=>by simp only[Rep]⟩
  rw[if_neg h3] at hd
  by_cases h4:x = "GREATEST_WEIGHT"
  ·rw[if_pos h4] at hd;cases hd;exact⟨.int 9,_,h4▸mg_of X G v4,⟨_,rfl⟩,λ_=>by simp only[Rep]⟩
  rw[if_neg h4] at hd
  by_cases h5:x = "MOST_STAYS"
  ·rw[if_pos h5] at hd;cases hd;exact⟨.int 60,_,h5▸mg_of X G v5,⟨_,rfl⟩,λ_=>by simp only[Rep]⟩
  rw[if_neg h5] at hd
  by_cases h6:x = "MOST_WISHES"
  ·rw[if_pos h6] at hd;cases hd;exact⟨.int 6,_,h6▸mg_of X G v6,⟨_,rfl⟩,λ_=>by simp only[Rep]⟩
  rw[if_neg h6] at hd
  by_cases h7:x = "MOST_RULES"
  ·rw[if_pos h7] at hd;cases hd;exact⟨.int 8,_,h7▸mg_of X G v7,⟨_,rfl⟩,λ_=>by simp only[Rep]⟩
  rw[if_neg h7] at hd
  by_cases h8:x = "MOST_PAPERS"
  ·rw[if_pos h8] at hd;cases hd;exact⟨.int 12,_,h8▸mg_of X G v8,⟨_,rfl⟩,λ_=>by simp only[Rep]⟩
  rw[if_neg h8] at hd;cases hd
 case m=>
  intro c x f hm;rcases qnD hm with ⟨hr,rfl,rfl⟩ | ⟨rfl,rfl,rfl⟩ | ⟨rfl,rfl,rfl⟩ | ⟨rfl,rfl,rfl⟩
  ·rcases qdf hr with rfl | rfl | rfl
   ·exact⟨cW,fmw,_,mem 28 1,"weight",rfl,rW.wt,by kernel_rfl,by kernel_rfl,Fmw,bmw⟩
   ·exact⟨cS,fmw,_,mem 28 1,"weight",rfl,rS.wt,by kernel_rfl,by kernel_rfl,Fmw,bmw⟩
   ·exact⟨cI,fmw,_,mem 28 1,"weight",rfl,rI.wt,by kernel_rfl,by kernel_rfl,Fmw,bmw⟩
  ·exact⟨cB,fmr,_,mem 61 1,"rules",rfl,rB.m1,by kernel_rfl,by kernel_rfl,Fmr,bmr⟩
  ·exact⟨cB,fml,_,mem 61 3,"lifted",rfl,rB.m2,by kernel_rfl,by kernel_rfl,Fml,bml⟩
  ·exact⟨cB,fmp,_,mem 61 2,"papers",rfl,rB.m3,by kernel_rfl,by kernel_rfl,Fmp,bmp⟩
 case k=>
  intro P wd base k ih f hf
  by_cases hk:k < 12
  ·exact .inl λargs=>if_pos hk
  obtain⟨j,rfl⟩:∃j,k=j+12:=⟨k - 12,by omega⟩;right
  have hf:f = "Within"\/f = "Since"\/f = "InRow"\/f = "Book":=by
   have hf:((["Within","Since","InRow","Book"]:List Str).contains f)=true:=hf
   simpa using hf
  rcases hf with rfl | rfl | rfl | rfl
  ·exact⟨cW,fiW,_,_,_,⟨mkW,inW,niW,kcW⟩,qde (j:=j+9) tx FiW FiR biR mcR cfR (ih (j+9) (1:)) (ih (j+10) (1:)) (qbD (j+4)) (qbD (j+5)),mcW,biW,by omega,ZK (c:="Within") rfl rfl λargs r=>qoM (j:=j)⟩
  ·exact⟨cS,fiS,_,_,_,⟨mkS,inS,niS,kcS⟩,qaW (j:=j+9) tx FiS FiR biR mcR cfR (ih (j+9) (1:)) (ih (j+10) (1:)) (qbD (j+4)) (qbD (j+5)),mcS,biS,by omega,ZK (c:="Since") rfl rfl λargs r=>qoN (j:=j)⟩
  ·exact⟨cI,fiI,_,_,_,⟨mkI,inI,niI,kcI⟩,qfc (j:=j+8) tx FiI FiS biS mcS cfS FiR biR mcR cfR (ih (j+8) (1:)) (ih (j+9) (1:)) (qbD (j+3)) (qbD (j+4)),mcI,biI,by omega,ZK (c:="InRow") rfl rfl λargs r=>qoO (j:=j)⟩
  ·exact⟨cB,fiB,_,_,_,⟨mkB,inB,niB,kcB⟩,qgJ (j:=j+10) tx FiB (ih (j+10) (1:)) (qbD (j+5)),mcB,biB,by omega,ZK (c:="Book") rfl rfl λargs r=>qoP (j:=j)⟩
theorem qoQ{l:PySem.W.OpenLaw}{q:Program}{loose:List Str}{XP:(Str->Option Value)->Heap->Prop}{YP:World->Heap->Prop}{d:DefRec}{K:Params->Frag}{κ:KC}(hn:l.most=some 63)(hdf:d.params.defaults=[])
  (hY:∀(w:World) (h:Heap),YP w h->(K w.params).In h)
  (F:∀(w:World) (mg:PR) (fa:Addr) (h:Heap),(K w.params).In h->h.Ns mainGlobals mg->mg d.name=some (.ref fa)->
   ∃fd:FuncData,(∀(s:Shared) (u:Value),BindsTo s fd ⟨[u],[]⟩ [("_law_script",u)])/\∀base:Heap,(K w.params).In base->base.Ns mainGlobals mg->FnOk l.prog w (K w.params) mg base CX0 20 fa fd ["_law_script"] (spF κ (K w.params) (clK pg 20) "law")) :
  PySem.W.WalkO q loose XP YP l.row.toRowW d [] (λf vs=>PySem.call f vs):=
 L2.qh3 (n:=63) (k:=20) (x:="_law_script") (CX:=λ_=>CX0) (sp:=λw=>spF κ (K w.params) (clK pg 20) "law") hn (2:) hdf ⟨rfl,by decide,by decide⟩ hY F (λ_ _ a ns hl _ hS=>qla hS (qgF ns hl)) λ_ _ _ _ _ z=>z
end K56
open PySem PySem.W PyProof.Rows
set_option maxRecDepth 100000 in
set_option maxHeartbeats 0 in
theorem PySem.Challenge.cw_daysgate_k56_whole_plan_shown_holds : PySem.Challenge.rw_daysgate_k56_whole_plan_shown.Holds := by
 w_on;refine holds_law saidX λsaid=>?_
 refine holds_open (q:=K56.Hq) (loose:=[]) (Xt:=K56.Hx) (XP:=XL K56.Hq []) (Yf:=λs=>K56.Has.map s.heap.get?) (Ya:=λw=>(K56.HK w.params).map λp=>some p.2) (YP:=InK K56.HK) (N:=9558) K56.qnC (InK.of K56.HKe) InK.keeps (λs e=>xl_of s (Bool.and_eq_true_iff.mp e).1) XL.keeps (by rfl) (by rfl) (by rfl) (λs e=>recFacts_of (Bool.and_eq_true_iff.mp e).2) (by rfl) (by first | assumption | decide+kernel) (by decide+kernel) ⟨rfl,rfl,rfl,rfl,rfl,by decide+kernel⟩ ?hw ?hc
 (case hw=>w_witness2)
 k_fill
 refine K56.qoQ (l:=PySem.Challenge.rw_daysgate_k56_whole_plan_shown) (κ:=(DG.kap (nat_lit 251) (nat_lit 277) (nat_lit 303) (nat_lit 477))) rfl rfl (λw h Y=>Y) ?F
 case F=>
  intro w mg fa h KX G hmg
  refine' K56.qms KX G hmg ?_ ?_ ?_ ?_ ?_ ?_ ?_ ?_ ?_ ?_ ?_ ?_ ?_ ?_ ?_ ?_ ?_ ?_ ?_ ?_ ?_ ?_ ?_ ?_ ?_ ?_ ?_ ?_ ?_ ?_ ?_ ?_ ?_ ?_ ?_ ?_ ?_ ?_ ?_ ?_ ?_ ?_ ?_ ?_ ?_ ?_ ?_ ?_ ?_ ?_ ?_ ?_ ?_ ?_ ?_ ?_ ?_ ?_ ?_ ?_ ?_ ?_ ?_ ?_ ?_ ?_ ?_ ?_ ?_ ?_ ?_ ?_ ?_ ?_ ?_ ?_ ?_ ?_ ?_ ?_ ?_ ?_ ?_
  all_goals try first | k_is | exact⟨by k_is,by unfold DG.QV;exact⟨_,_,_,_,_,_,_,_,_,by k_is,by k_is,by k_is⟩⟩ | (unfold DG.QV;exact⟨_,_,_,_,_,_,_,_,_,by k_is,by k_is,by k_is⟩) | (refine⟨⟨?_,?_,?_,?_⟩,?_,?_⟩<;>k_is) | kit_is | (repeat first | exact .nil | refine .cons ⟨by k_is,by unfold DG.QV;exact⟨_,_,_,_,_,_,_,_,_,by k_is,by k_is,by k_is⟩⟩ ?_ | refine .cons (by k_is) ?_)
#print axioms PySem.Challenge.cw_daysgate_k56_whole_plan_shown_holds
