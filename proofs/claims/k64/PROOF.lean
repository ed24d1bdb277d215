import PyProof.Rows.All
import Wide.All
import OpenK.AllK
import Wide.FinOn
import Lean
import PyProof.EqAt
import PyProof.EqKinds
import PyProof.TupleCall
import PyProof.Rows.Range3
import KE.KRevIter
import PyProof.ExcInit
import PyProof.InstStoreFacts
import PyProof.FString2
import PyProof.CallStr
import PyProof.Rows.StrNews2
import KE.KIntText
import PyProof.StrLawsTight
import PyProof.StrLawsReplace
import PyProof.Rows.CountFlat
import PySem.Challenge.RW_daysgate_k64_diary_refused
set_option Elab.async false
set_option linter.all false
set_option maxRecDepth 100000
set_option compiler.extract_closed false
set_option bootstrap.genMatcherCode false
set_option genSizeOf false
set_option genInjectivity false
set_option backward.eqns.nonrecursive false
noncomputable section
abbrev PP:=List (PySem.Addr×PySem.Obj)
abbrev PQ:=PySem.Value->PySem.Shared->Prop
abbrev PR:=PySem.Str->Option PySem.Value
open PySem.W (Frag)
set_option hygiene false
local macro_rules
| `(%[$n:num|0])=>`(.cons (.var $n) .nil)
| `(%[$a|0])=>`(.cons $a .nil)
| `(%[$n:num,$b,*|0])=>`(.cons (.var $n) %[$b,*|0])
| `(%[$a,$b,*|0])=>`(.cons $a %[$b,*|0])
| `(%[$n:num|1])=>`(qA (pg:=pg) (st:=top $n) (by kernel_rfl) (λk cl=>by kernel_rfl))
set_option hygiene true
theorem saidX:PySem.Challenge.rw_daysgate_k64_diary_refused.wellSaid=true:=by kernel_rfl
local macro_rules | `((1:))=>`(by omega) | `((2:))=>`(by decide)
local macro_rules | `(tactic| simp? only[$ls,*]) => do
  let f (s : String) (k : Lean.Name) := (s.splitOn " ").toArray.map λn => Lean.mkIdent (k ++ n.toName)
  let b <- (f "Rv.list? Rv.plain? Rv.data Rv.int? Rv.str? Rv.bl? Rv.tup? int2 seqD Rv.non? idxD sliceD truthD obV rprD lenD listD intD strD tupD maxD minD B1.go B2.go Ty.of Ty.go toAr toSl flR slN runD th_ok of_some slR_s slR_v slR_o slR_b slR_c slR_j slX_s slX_o ownI_s ownI_o kk_f kk_x2 kk_cs at_1 at_2 xR_var xR_con xR_bin xR_neg xR_not xR_one xR_and xR_or xR_cmp xR_idx xR_sli xR_lst xR_tup xR_call xR_b1 xR_isc xR_fld xR_met xR_isi xR_comp n_ok n_Es yRet yBl yTmp yB1 yB2 yNeg yNot yAnd yOr yC1 yC2 yI1 yI2 yS1 yS2 yS3 yLst yTup yCall yF1 yIsc yDat yFld yFlo yMt3 yMt2 yMt1 yMtO yIsi yComp xT_not xT_one xT_and xT_or xT_cmp xT_val yBo yTn yTa yTo yD1 yD2 yTv xF_yes xF_test xEs_nil xEs_cons yE1 yE2 xAs_nil xAs_cons yA1 yA2 xO_none xO_some yO xI_seq xI_rng xI_enum ySeq yRng yEnum yVal yValt yX yXt yAx yAxt yCons xE_s xE_v xL_l xL_z xS_expr oGo_some xS_app yApp yApp2 xS_ret yRt xS_set ySet xS_setT yST yNx xS_ite yIte xS_for yFor xS_rai yRai xS_try yTry_exc th_exc xSs_nil xSs_cons yNext yNextr xFo_nil xFo_cons yFo1 yFo2 yFo2r xP_cons yP1 yP2 yP3 vc_bin vc_neg vc_and vc_or vc_idx vc_lst vc_tup vc_call vc_b1 vc_fld vc_met vc_comp eE_g eX_g eA_g eE_var eE_con eL_var eX_var eX_con eA_con bAdd bAdds bAddtt bSub bMult bDiv bMod bPow cEq cNe cLt cLe cGt cNi mIn rgoV rgoT setIs_nil setIs_cons g_mapc g_mapn g_lenc g_lenn g_rep0 g_reps g_appc g_appn g_set0 g_sets g_nott g_notf g_omap g_fe g_and g_dt g_df lend_v lend_o" `DE ++ f "Int.reduceLT Int.reduceLE Nat.reduceAdd Nat.reduceSub" .anonymous).mapM λn => `(Lean.Parser.Tactic.simpLemma| $n:ident)
  let d <- (f "n_var sA_p sA_R sA_L rA_l rA_s rA_t rA_y" `DE ++ f "reduceIte" .anonymous).mapM λn => `(Lean.Parser.Tactic.simpLemma| ↓ $n:ident)
  let c : Array (Lean.TSyntax [`Lean.Parser.Tactic.simpStar, `Lean.Parser.Tactic.simpErase, `Lean.Parser.Tactic.simpLemma]) := (b ++ d).map (⟨·.raw⟩) ++ ls.getElems
  `(tactic| simp only[$c,*])
namespace L2
open PySem PySem.Spec PyProof.Rows
abbrev Key:=Sum Int Str
def qd8:Key->Value->Bool
 |.inl k,v=>Value.isInt k v
 |.inr x,v=>Value.isStrOf x v
def qiC(w:World):Key->Int
 |.inl k=>hashInt k
 |.inr x=>hashStr w x
theorem qw:∀{k:Key} {v:Value},qd8 k v=true->(∃i t,k=Sum.inl i/\v=Value.int i t)\/(∃x t,k=Sum.inr x/\v=Value.str x t)
 |.inl i,v,h=>by obtain⟨t,e⟩:=Value.isInt_shape (k:=i) (v:=v) h;exact .inl ⟨i,t,rfl,e⟩
 |.inr x,v,h=>by obtain⟨t,e⟩:=Value.isStrOf_shape (x:=x) (v:=v) h;exact .inr ⟨x,t,rfl,e⟩
theorem qd9(a b:Int):decide ((Sum.inl a:Key)=Sum.inl b)=(a == b):=by
 by_cases e:a=b
 ·subst e;simp
 ·have h:¬ (Sum.inl a:Key)=Sum.inl b:=λq=>e (Sum.inl.inj q);rw[decide_eq_false h];exact(beq_eq_false_iff_ne.mpr e).symm
theorem qea(a b:Str):decide ((Sum.inr a:Key)=Sum.inr b)=decide (a=b):=by
 by_cases e:a=b
 ·subst e;simp
 ·have h:¬ (Sum.inr a:Key)=Sum.inr b:=λq=>e (Sum.inr.inj q);rw[decide_eq_false h,decide_eq_false e]
theorem qeb(a:Int)(b:Str):decide ((Sum.inl a:Key)=Sum.inr b)=false:=decide_eq_false (λq=>nomatch q)
theorem qec(a:Str)(b:Int):decide ((Sum.inr a:Key)=Sum.inl b)=false:=decide_eq_false (λq=>nomatch q)
noncomputable def Yv(prog:Program)(w:World):PySem.KeyKind prog w Key where
 is:=qd8
 hash:=qiC w
 inj:=λv a b ha hb=>by
  rcases qw ha with ⟨i,t,rfl,rfl⟩ | ⟨x,t,rfl,rfl⟩
  ·rcases qw hb with ⟨j,u,rfl,e⟩ | ⟨y,u,rfl,e⟩
   ·injection e with e1 _;rw[e1]
   ·exact nomatch e
  ·rcases qw hb with ⟨j,u,rfl,e⟩ | ⟨y,u,rfl,e⟩
   ·exact nomatch e
   ·injection e with e1 _;rw[e1]
 byValue:=λk v h=>by rcases qw h with ⟨i,t,rfl,rfl⟩ | ⟨x,t,rfl,rfl⟩<;>rfl
 pyHash:=λhv h=>by
  rcases qw hv with ⟨i,t,rfl,rfl⟩ | ⟨x,t,rfl,rfl⟩
  ·exact wpAny_pyHash_int h
  ·exact wpAny_pyHash_str h
 eqBool:=λhu hv h=>by
  rcases qw hu with ⟨i,t,rfl,rfl⟩ | ⟨x,t,rfl,rfl⟩
  ·rcases qw hv with ⟨j,u,rfl,rfl⟩ | ⟨y,u,rfl,rfl⟩
   ·rw[qd9] at h;exact wpAny_eqBool_int h
   ·rw[qeb] at h;exact SeqAt.EqAt.int_str i t y u _ _ _ _ h
  ·rcases qw hv with ⟨j,u,rfl,rfl⟩ | ⟨y,u,rfl,rfl⟩
   ·rw[qec] at h;exact SeqAt.EqAt.str_int x t j u _ _ _ _ h
   ·rw[qea] at h;exact wpAny_eqBool_str h
 «strs»:=λk x t v h=>by
  rcases qw h with ⟨i,u,rfl,e⟩ | ⟨y,u,rfl,e⟩
  ·exact nomatch e
  ·injection e with e1 _;subst e1;cases v<;>rfl
end L2
namespace L2
open PySem PySem.Spec PyProof.Rows
inductive V where
 | non | bl (b:Bool) | int (i:Int) | str (x:Str) | byt (b:Array UInt8) | flt (b:UInt64) | ref (a:Addr) | ty (n:String)
 deriving DecidableEq
noncomputable def qC:V->Value->Prop
 |.non,u=>u=Value.none
 |.bl b,u=>u=Value.bool b
 |.int i,u=>∃t,u=Value.int i t
 |.str x,u=>∃t,u=Value.str x t
 |.byt b,u=>∃t,u=Value.bytes b t
 |.flt b,u=>∃t,u=Value.float b t
 |.ref a,u=>u=Value.ref a
 |.ty n,u=>u=Value.type n
abbrev qy:List V->List Value->Prop:=Paired qC
theorem qy.length{xs:List V}{us:List Value}(r:qy xs us):xs.length=us.length:=Paired.length r
theorem qy.get:∀{xs:List V} {us:List Value} {i:Nat} {x:V},qy xs us->xs[i]?=some x->∃u,us[i]?=some u/\qC x u
 |_,_,_,_,.nil,e=>by simp at e
 |_,_,0,_,.cons r _,e=>by simp at e;subst e;exact⟨_,rfl,r⟩
 | _,_,i+1,x,.cons _ t,e=>by obtain⟨u,h1,h2⟩:=qy.get (i:=i) (x:=x) t (by simpa using e);exact⟨u,by simpa using h1,h2⟩
theorem qy.append{xs ys:List V}{us ws:List Value}(h:qy xs us)(s:qy ys ws):qy (xs++ys) (us++ws):=by
 induction h with
 |nil=>exact s
 |cons r t ih=>exact .cons r ih
theorem qy.take:∀{xs:List V} {us:List Value} (n:Nat),qy xs us->qy (xs.take n) (us.take n)
 |_,_,0,_=>.nil
 | _,_,_+1,.nil=>.nil
 | _,_,n+1,.cons r t=>.cons r (qy.take n t)
theorem qy.drop:∀{xs:List V} {us:List Value} (n:Nat),qy xs us->qy (xs.drop n) (us.drop n)
 |_,_,0,r=>r
 | _,_,_+1,.nil=>.nil
 | _,_,n+1,.cons _ t=>qy.drop n t
def YV:Option V->Option Value->Prop
 |some v,some u=>qC v u
 |none,none=>True
 |_,_=>False
noncomputable def KV{κ:Type}:List (κ×V)->List (κ×Value)->Prop:=Paired λ(p:κ×V) (q:κ×Value)=>p.1=q.1/\qC p.2 q.2
def kV:Key->V
 |.inl i=>.int i
 |.inr x=>.str x
inductive HO where
 | lst (xs:List V)
 | tup (xs:List V)
 | dK (kvs:List (Key×V)) | dT (kvs:List (List Key×V))
 | set (S:Int->Bool) (n:Nat)
 | ins (C dx:Addr) (fs:List (Str×V))
 | own (x:Addr)
 | xd (fs:List (Str×V))
 | met (f x:Addr)
 | rng (lo hi:Int)
 | frz (o:Obj) (u:HO)
 | tbl (ps:Array Value)
 | ext (φ:Heap->Prop)
abbrev Hp:=Addr->Option HO
def upd(H:Hp)(a:Addr)(o:HO):Hp:=λb=>if b=a then some o else H b
theorem qc{H:Hp}{a:Addr}{o:HO}:upd H a o a=some o:=by unfold upd;rw[if_pos rfl]
theorem qb{H:Hp}{a b:Addr}{o:HO}(h:b≠a):upd H a o b=H b:=by unfold upd;rw[if_neg h]
theorem qb5{H:Hp}{a:Addr}{o u:HO}:upd (upd H a o) a u=upd H a u:=by funext b;unfold upd;split<;>rfl
theorem qG{H:Hp}{a b:Addr}{o:HO}(h:H a=some o)(h':H b=none):a≠b:=by intro e;subst e;rw[h] at h';cases h'
section
variable(P:Program)(w:World)
noncomputable def qH(H:Hp)(h:Heap)(a:Addr):HO->Prop
 |.lst xs=>xs.length<=sizeLine/\∃(its:List Value) (n:Nat),qy xs its/\h.get? a=some { cls:=.type "list",data:=.seq its.toArray n }
 |.tup xs=>xs.length<=sizeLine/\∃its:List Value,qy xs its/\IsTup h a its.toArray
 |.dK kvs=>kvs.length<=sizeLine/\(a == sysModules)=false/\∃vs,KV kvs vs/\h.DictOf (Yv P w) a vs
 |.dT kvs=>kvs.length<=sizeLine/\(a == sysModules)=false/\∃xs:List (List Key×Addr×Value),
   Paired (λ(p:List Key×V) (q:List Key×Addr×Value)=>p.1=q.1/\H q.2.1=some (.tup (p.1.map kV))/\qC p.2 q.2.2) kvs xs/\
   ∃o es ep,h.get? a=some o/\o.ExactDict/\o.data=.dict es ep/\es.toList=xs.map (entryOfKey (tupleKind (Yv P w)))/\(xs.map (·.1)).Nodup
 |.set S n=>h.SetOf (intKind P w) a S n
 |.ins C dx fs=>H dx=some (.own a)/\fs.length<=1000/\dx≠a/\h.get? a=some (PySem.W.instObj C dx)/\
   ∃mA,h.Ns1 dx mA/\(∀f,YV (fs.lookup f) (mA f))/\PySem.Within mA (fs.map (·.1))
 |.own _=>∃o,h.get? a=some o
 |.xd fs=>∃mA,h.Ns1 a mA/\∀f,YV (fs.lookup f) (mA f)
 |.rng lo hi=>∃t u v,h.get? a=some { cls:=.type "range",data:=.fields #[.int lo t,.int hi u,.int 1 v] }
 |.frz o u=>h.get? a=some o/\qH H h a u
 |.tbl ps=>h.get? a=some { cls:=.none,data:=.fields ps }
 |.met f x=>h.get? a=some (PySem.W.methodObj (.ref f) (.ref x))
 |.ext φ=>φ h/\(∃o,h.get? a=some o)/\∀h1 h2:Heap,φ h1->(∀o,h1.get? a=some o->h2.get? a=some o)->φ h2
def HOk(H:Hp)(h:Heap):Prop:=∀a o,H a=some o->qH P w H h a o
end
section
variable{P:Program}{w:World}{H H':Hp}{h h':Heap}{a:Addr}{o:HO}
theorem qH.lt(x:qH P w H h a o):a < h.objs.size:=by
 cases o with
 |lst xs=>obtain⟨_,_,_,_,e⟩:=x;exact Heap.lt_size e
 |tup xs=>obtain⟨_,_,_,p⟩:=x;exact p.lt
 |dK kvs=>obtain⟨_,_,_,_,o,_,_,e,_⟩:=x;exact Heap.lt_size e
 |dT kvs=>obtain⟨_,_,_,_,o,_,_,e,_⟩:=x;exact Heap.lt_size e
 |set S n=>obtain⟨o,_,_,_,e,_⟩:=x;exact Heap.lt_size e
 |ins C dx fs=>obtain⟨_,_,_,e,_⟩:=x;exact Heap.lt_size e
 |own y=>obtain⟨_,e⟩:=x;exact Heap.lt_size e
 |xd fs=>obtain⟨_,⟨_,_,_,e,_⟩,_⟩:=x;exact Heap.lt_size e
 |rng lo hi=>obtain⟨_,_,_,e⟩:=x;exact Heap.lt_size e
 |frz ob u=>obtain⟨e,_⟩:=x;exact Heap.lt_size e
 |tbl ps=>exact Heap.lt_size (show h.get? a=some _ from x)
 |met f y=>exact Heap.lt_size (show h.get? a=some _ from x)
 |ext φ=>obtain⟨_,⟨_,e⟩,_⟩:=x;exact Heap.lt_size e
theorem Paired.mapP{α β:Type}{F G:α->β->Prop}{l₁:List α}{l₂:List β}(h:Paired F l₁ l₂)(f:∀a b,F a b->G a b):Paired G l₁ l₂:=by
 induction h with
 |nil=>exact .nil
 |cons r t ih=>exact .cons (f _ _ r) ih
theorem qH.stay(x:qH P w H h a o)(k:∀b u,(b=a\/H b=some (.own a))->h.get? b=some u->h'.get? b=some u)
  (ho:∀b,H b=some (.own a)->H' b=some (.own a)) (ht:∀b xs,H b=some (.tup xs)->H' b=some (.tup xs)):qH P w H' h' a o:=by
 induction o with
 |lst xs=>obtain⟨z,its,n,r,e⟩:=x;exact⟨z,its,n,r,k _ _ (.inl rfl) e⟩
 |tup xs=>obtain⟨z,its,r,ob,e,c⟩:=x;exact⟨z,its,r,ob,k _ _ (.inl rfl) e,c⟩
 |dK kvs=>obtain⟨z,y,vs,r,ob,es,ep,e,c⟩:=x;exact⟨z,y,vs,r,ob,es,ep,k _ _ (.inl rfl) e,c⟩
 |dT kvs=>obtain⟨z,y,xs,r,ob,es,ep,e,c⟩:=x;exact⟨z,y,xs,Paired.mapP r λp q z=>⟨z.1,ht _ _ z.2.1,z.2.2⟩,ob,es,ep,k _ _ (.inl rfl) e,c⟩
 |set S n=>obtain⟨ob,es,ep,t,e,c⟩:=x;exact⟨ob,es,ep,t,k _ _ (.inl rfl) e,c⟩
 |ins C dx fs=>obtain⟨d,z,ne,e,mA,⟨od,es,ep,e2,c⟩,r⟩:=x;exact⟨ho _ d,z,ne,k _ _ (.inl rfl) e,mA,⟨od,es,ep,k _ _ (.inr d) e2,c⟩,r⟩
 |own y=>obtain⟨ob,e⟩:=x;exact⟨ob,k _ _ (.inl rfl) e⟩
 |xd fs=>obtain⟨mA,⟨od,es,ep,e,c⟩,r⟩:=x;exact⟨mA,⟨od,es,ep,k _ _ (.inl rfl) e,c⟩,r⟩
 |rng lo hi=>obtain⟨t,u,v,e⟩:=x;exact⟨t,u,v,k _ _ (.inl rfl) e⟩
 |frz ob u ih=>obtain⟨e,q⟩:=x;exact⟨k _ _ (.inl rfl) e,ih q⟩
 |tbl ps=>have e:h.get? a=some { cls:=.none,data:=.fields ps }:=x;show h'.get? a=some { cls:=.none,data:=.fields ps };exact k a _ (.inl rfl) e
 |met f y=>have e:h.get? a=some (PySem.W.methodObj (.ref f) (.ref y)):=x;show h'.get? a=some (PySem.W.methodObj (.ref f) (.ref y));exact k a _ (.inl rfl) e
 |ext φ=>obtain⟨p,⟨o,e⟩,st⟩:=x;exact⟨st _ _ p λo q=>k _ _ (.inl rfl) q,⟨o,k _ _ (.inl rfl) e⟩,st⟩
theorem HOk.lt(x:HOk P w H h)(e:H a=some o):a < h.objs.size:=(x a o e).lt
theorem HOk.fresh(x:HOk P w H h)(e:h.objs.size<=a):H a=none:=by
 cases q:H a with
 |none=>rfl
 |some u=>exact absurd (Nat.lt_of_lt_of_le (x.lt q) e) (Nat.lt_irrefl _)
theorem HOk.kept(x:HOk P w H h)(k:∀b u,h.get? b=some u->h'.get? b=some u):HOk P w H h':=λa o e=>(x a o e).stay (λb u _ q=>k b u q) (λ_ q=>q) λ_ _ q=>q
theorem HOk.laid(x:HOk P w H h)(k:∀b u,h.get? b=some u->h'.get? b=some u)(hp:h.objs.size<=a)(new:qH P w (upd H a o) h' a o):HOk P w (upd H a o) h':=λb u e=>by
 have hn:=x.fresh hp
 by_cases hb:b=a
 ·subst hb;rw[qc] at e;cases e;exact new
 ·rw[qb hb] at e;exact(x b u e).stay (λc v _ q=>k c v q) (λc q=>by rw[qb (qG q hn)];exact q) λc xs q=>by rw[qb (qG q hn)];exact q
end
def Rd(H:Hp)(a:Addr)(u:HO):Prop:=H a=some u\/∃o,H a=some (.frz o u)
theorem Rd.ok{P:Program}{w:World}{H:Hp}{h:Heap}{a:Addr}{u:HO}(r:Rd H a u)(x:HOk P w H h):qH P w H h a u:=by
 rcases r with r | ⟨o,r⟩
 ·exact x a u r
 ·obtain⟨_,q⟩:=x a _ r;exact q
noncomputable def Mut:Option HO->Prop
 |some (.lst _)=>True
 |some (.dK _)=>True
 |some (.dT _)=>True
 |some (.set _ _)=>True
 |some (.ins _ _ _)=>True
 |some (.ext _)=>True
 |_=>False
section
variable{P:Program}{w:World}{H:Hp}{h h':Heap}{x e:Addr}{o':HO}
theorem HOk.write(ok:HOk P w H h)(mu:Mut (H x))(he:e=x\/H e=some (.own x))(k:∀b u,b≠e->h.get? b=some u->h'.get? b=some u)(heo:∃u,h'.get? e=some u)
  (new:qH P w (upd H x o') h' x o'):HOk P w (upd H x o') h':=λb u q=>by
 have nown:∀c y,H c=some (.own y)->c≠x:=λc y r z=>by subst z;rw[r] at mu;exact mu
 have ntup:∀c xs,H c=some (.tup xs)->c≠x:=λc xs r z=>by subst z;rw[r] at mu;exact mu
 by_cases hb:b=x
 ·subst hb;rw[qc] at q;cases q;exact new
 ·rw[qb hb] at q
  by_cases hbe:b=e
  ·have q':H b=some (.own x):=by
    rcases he with z | z
    ·exact absurd (hbe.trans z) hb
    ·rw[hbe];exact z
   rw[q] at q';cases q';obtain⟨v,hv⟩:=heo;exact⟨v,by rw[hbe];exact hv⟩
  ·refine(ok b u q).stay (λc v hc r=>k c v ?_ r) (λc r=>by rw[qb (nown c b r)];exact r) λc xs r=>by rw[qb (ntup c xs r)];exact r
   rcases hc with rfl | hc
   ·exact hbe
   ·rintro rfl;rcases he with z | z
    ·exact nown c b hc z
    ·rw[hc] at z;cases z;exact hb rfl
end
structure Un(fs ex:List Addr)(H H':Hp)(h h':Heap):Prop where
 keep:∀b o,h.get? b=some o->H b=none->b∉fs->b∉ex->h'.get? b=some o
 slot:∀b o,h.get? b=some o->H b=none->b∈fs->b∉ex->∃sl,h'.get? b=some { o with slots:=sl }
 free:∀b o,h.get? b=some o->H b=none->b∉ex->H' b=none
 there:∀b o,h.get? b=some o->b∉ex->∃o',h'.get? b=some o'
 tups:∀b xs,H b=some (.tup xs)->H' b=some (.tup xs)
 frzs:∀b o u,H b=some (.frz o u)->H' b=some (.frz o u)
 tbls:∀b ps,H b=some (.tbl ps)->∃more,H' b=some (.tbl (ps++more))
section
variable{fs fs' ex ex':List Addr}{H H1 H2:Hp}{h h1 h2 h':Heap}{a x e:Addr}{o:HO}
theorem Un.any(u:Un fs ex H H1 h h1){b:Addr}{ob:Obj}(q:h.get? b=some ob)(n:H b=none)(hx:b∉ex):∃sl,h1.get? b=some { ob with slots:=sl }:=by
 by_cases hb:b∈fs
 ·exact u.slot b ob q n hb hx
 ·exact⟨ob.slots,u.keep b ob q n hb hx⟩
theorem Un.kept(k:∀b u,h.get? b=some u->h'.get? b=some u):Un fs ex H H h h':=
 ⟨λb ob q _ _ _=>k b ob q,λb ob q _ _ _=>⟨ob.slots,k b ob q⟩,λ_ _ _ n _=>n,λb ob q _=>⟨ob,k b ob q⟩,λ_ _ q=>q,λ_ _ _ q=>q,λ_ ps q=>⟨#[],by rw[q];simp⟩⟩
theorem Un.refl:Un fs ex H H h h:=Un.kept λ_ _ q=>q
theorem Un.laid(k:∀b u,h.get? b=some u->h'.get? b=some u)(hp:h.objs.size<=a)(hn:H a=none):Un fs ex H (upd H a o) h h' where
 keep:=λb u q _ _ _=>k b u q
 slot:=λb u q _ _ _=>⟨u.slots,k b u q⟩
 free:=λb u q n _=>by rw[qb (Nat.ne_of_lt (Nat.lt_of_lt_of_le (Heap.lt_size q) hp))];exact n
 there:=λb u q _=>⟨u,k b u q⟩
 tups:=λb xs q=>by rw[qb (qG q hn)];exact q
 frzs:=λb u xs q=>by rw[qb (qG q hn)];exact q
 tbls:=λb ps q=>⟨#[],by rw[qb (qG q hn),q];simp⟩
theorem Un.write(mu:Mut (H x))(he:e=x\/H e=some (.own x))(k:∀b u,b≠e->h.get? b=some u->h'.get? b=some u)(heo:∃u,h'.get? e=some u):Un fs ex H (upd H x o) h h':=by
 have hx:∀b,H b=none->b≠x:=λb n z=>by subst z;rw[n] at mu;exact mu
 have hb:∀b,H b=none->b≠e:=λb n z=>by
  subst z;rcases he with r | r
  ·exact hx b n r
  ·rw[n] at r;cases r
 have hm:∀b u,H b=some u->¬ Mut (some u)->b≠x:=λb u q nm z=>by subst z;rw[q] at mu;exact nm mu
 refine⟨λb u q n _ _=>k b u (hb b n) q,λb u q n _ _=>⟨u.slots,k b u (hb b n) q⟩,λb u q n _=>by rw[qb (hx b n)];exact n,λb u q _=>?_,
  λb xs q=>by rw[qb (hm b _ q λz=>z)];exact q,λb u xs q=>by rw[qb (hm b _ q λz=>z)];exact q,λb ps q=>⟨#[],by rw[qb (hm b _ q λz=>z),q];simp⟩⟩
 by_cases hbe:b=e
 ·subst hbe;exact heo
 ·exact⟨u,k b u hbe q⟩
end
def trk(h:Heap)(H:Hp):List Addr:=(List.range h.objs.size).filter λa=>(H a).isSome
def qal(h:Heap)(H:Hp):Heap:=PySem.W.hideAll h (trk h H)
theorem QT(h:Heap)(H:Hp):(qal h H).objs.size=h.objs.size:=PySem.W.hideAll_size _ _
theorem qam{h:Heap}{H:Hp}{b:Addr}{o:Obj}(e:h.get? b=some o)(n:H b=none):(qal h H).get? b=some o:=
 PySem.W.hideAll_get _ e λhm=>by have q:(H b).isSome=true:=(List.mem_filter.mp hm).2;rw[n] at q;simp at q
theorem qb6{h:Heap}{H:Hp}{b:Addr}{o:Obj}(e:(qal h H).get? b=some o):h.get? b=some o/\H b=none:=by
 have e':h.get? b=some o:=PySem.W.of_hideAll (trk h H) e;refine⟨e',?_⟩
 cases q:H b with
 |none=>rfl
 |some x=>have hm:b∈trk h H:=List.mem_filter.mpr ⟨List.mem_range.mpr (Heap.lt_size e'),by simp[q]⟩;have z:(qal h H).get? b=none:=PySem.W.hideAll_none (trk h H) hm;rw[z] at e;cases e
end L2
namespace L2
open PySem PySem.Spec PyProof.Rows
structure Mod(K:Frag)(mg:PR)(base:Heap):Prop where
 kin:K.In base
 glob:base.Ns mainGlobals mg
 blt:∃mb,base.Ns builtinsNs mb/\∀x:Str,x≠"__name__"->mb x=bootBuiltins x
 nolimit:base.NoLimit
structure Cx where
 prog:Program
 w:World
 K:Frag
 mg:PR
 base:Heap
 A:Around
 N:List Str
 s₀:Shared
 Hv:Hp
 env:Env
 outer:List Env
 stack:List Env
 ex:List Addr
 fn:Str->Bool
 calm:Bool
 pn:PP
 xe:PQ
def frs(l:List Env):List Addr:=l.filterMap (·.frame)
abbrev Cx.fs(X:Cx):List Addr:=frs X.outer
noncomputable def Vis(sc:Scope)(x:Str):Prop:=sc.names.lookup x=some .local\/sc.names.lookup x=some .cell\/sc.names.lookup x=some .free
def Loc(sc:Scope)(x:Str):Prop:=sc.names.lookup x=some .local\/sc.names.lookup x=some .cell
noncomputable def qiD(env:Env)(h:Heap)(m:PR)(x:Str)(u:Value):Prop:=
 (env.kindOf x=some .local/\m x=some u)\/((env.kindOf x=some .cell\/env.kindOf x=some .free)/\∃c,env.cells.lookup x=some c/\h.IsCell c (some u))
structure Cx.Ok(X:Cx):Prop where
 mod:Mod X.K X.mg X.base
 kind:X.env.scope.kind=.function
 glob:X.env.globals=mainGlobals
 blt:X.env.builtins=builtinsNs
 above:X.s₀.heap.objs.size<=X.env.locals
 inj:∀x y c,X.env.cells.lookup x=some c->X.env.cells.lookup y=some c->x=y
 has:∀x,(X.env.kindOf x=some .cell\/X.env.kindOf x=some .free)->∃c,X.env.cells.lookup x=some c
 cab:∀x c,X.fn x=true->X.env.cells.lookup x=some c->X.s₀.heap.objs.size<=c
 hd:X.calm=true->X.A.handled=none
 frames:X.A.frames=some X.stack
 stk:X.stack=X.outer\/(X.stack=X.env::X.outer/\X.env.frame=some X.env.locals)
 exf:∀b∈X.ex,b≠X.env.locals/\∀x c,X.env.cells.lookup x=some c->c≠b
 bs:∀b o,X.base.get? b=some o->X.s₀.heap.get? b=some o/\X.Hv b=none
 bsz:X.base.objs.size<=X.s₀.heap.objs.size
 noex:∀b o,X.base.get? b=some o->b∉X.ex
 exfs:∀b∈X.ex,b∉X.fs
 funs:X.s₀.heap.FunFrames X.base X.outer
 frf:∀b∈X.fs,X.Hv b=none
structure Inv(X:Cx)(pins:PP)(σ:List (Option V))(H:Hp)(s:Shared):Prop where
 ok:X.Ok
 os:s.os=X.s₀.os
 bare:AllBare s.gens
 base:Un X.fs X.ex X.Hv H X.s₀.heap s.heap
 loc:∃m,s.heap.Ns X.env.locals m/\∀(i:Nat) (x:Str) (v:V),X.N[i]?=some x->σ[i]?=some (some v)->Vis X.env.scope x->∃u,qC v u/\qiD X.env s.heap m x u
 cell:∀x c,X.env.cells.lookup x=some c->∃v,s.heap.IsCell c v
 free:H X.env.locals=none
 freeC:∀x c,X.env.cells.lookup x=some c->H c=none
 pin:∀p∈X.pn++pins,s.heap.get? p.1=some p.2/\H p.1=none/\p.1≠X.env.locals/\p.1∉X.fs/\∀v,p.2.data≠.cell v
 hok:HOk X.prog X.w H s.heap
 len:σ.length=X.N.length
section
variable{X:Cx}{pins:PP}{σ:List (Option V)}{H H':Hp}{s:Shared}{h':Heap}
theorem Cx.Ok.nofr(ok:X.Ok){b:Addr}{o:Obj}(e:X.base.get? b=some o):b∉X.fs:=λhb=>by
 have:=(ok.funs.mem hb).1
 rw[e] at this;cases this
theorem Inv.bs(I:Inv X pins σ H s):∀b o,X.base.get? b=some o->s.heap.get? b=some o/\H b=none:=λb o e=>⟨I.base.keep b o (I.ok.bs b o e).1 (I.ok.bs b o e).2 (I.ok.nofr e) (I.ok.noex b o e),I.base.free b o (I.ok.bs b o e).1 (I.ok.bs b o e).2 (I.ok.noex b o e)⟩
theorem Inv.bk(I:Inv X pins σ H s):∀b o,X.base.get? b=some o->s.heap.get? b=some o:=λb o e=>(I.bs b o e).1
theorem Inv.mod(I:Inv X pins σ H s):Mod X.K X.mg X.base:=I.ok.mod
theorem Inv.kIn(I:Inv X pins σ H s):X.K.In s.heap:=I.ok.mod.kin.keeps I.bk
theorem Inv.lt(I:Inv X pins σ H s):X.env.locals < s.heap.objs.size:=let ⟨_,hn,_⟩:=I.loc;hn.lt
theorem Inv.sz(I:Inv X pins σ H s):X.s₀.heap.objs.size<=s.heap.objs.size:=Nat.le_trans I.ok.above (Nat.le_of_lt I.lt)
theorem Inv.nofs(I:Inv X pins σ H s){a:Addr}(h:s.heap.objs.size<=a):a∉X.fs:=λhb=>by obtain⟨_,o,ho,_⟩:=I.ok.funs.mem hb;exact absurd (Nat.lt_of_lt_of_le (Heap.lt_size ho) (Nat.le_trans I.sz h)) (Nat.lt_irrefl _)
theorem Inv.cne(I:Inv X pins σ H s):∀x c,X.env.cells.lookup x=some c->c≠X.env.locals:=λx c e z=>by obtain⟨v,o,ho,hd⟩:=I.cell x c e;obtain⟨m,⟨o',es,ep,ho',hd',_⟩,_⟩:=I.loc;rw[z,ho'] at ho;cases ho;rw[hd'] at hd;cases hd
theorem Inv.funs(I:Inv X pins σ H s):s.heap.FunFrames X.base X.outer:=by
 have all:∀(l:List Env),(∀b∈frs l,b∈X.fs)->X.s₀.heap.FunFrames X.base l->s.heap.FunFrames X.base l:=by
  intro l
  induction l with
  |nil=>intro _ _;trivial
  |cons env r ih=>intro hs hl;obtain⟨hk,⟨L,o,hf,hn,ho,hd⟩,hr⟩:=hl;have hL:L∈X.fs:=hs L (by unfold frs;rw[List.filterMap_cons,hf];exact List.mem_cons_self);obtain⟨sl,e⟩:=I.base.slot L o ho (I.ok.frf L hL) hL λz=>I.ok.exfs L z hL;exact⟨hk,⟨L,_,hf,hn,e,hd⟩,ih (λb hb=>hs b (by unfold frs;rw[List.filterMap_cons,hf];exact List.mem_cons_of_mem _ hb)) hr⟩
 exact all X.outer (λ_ hb=>hb) I.ok.funs
theorem Inv.stack(I:Inv X pins σ H s):s.heap.FunFrames X.base X.stack:=by
 rcases I.ok.stk with e | ⟨e,hf⟩
 ·rw[e];exact I.funs
 ·rw[e];obtain⟨m,hn,_⟩:=I.loc;refine .cons (by rw[I.ok.kind];decide) hf hn ?_ I.funs;exact Heap.get?_none_of_le (Nat.le_trans I.ok.bsz I.ok.above)
theorem Inv.stkSub(I:Inv X pins σ H s):∀b∈frs X.stack,b∈X.env.locals::X.fs:=λb hb=>by
 rcases I.ok.stk with e | ⟨e,hf⟩
 ·rw[e] at hb;exact List.mem_cons_of_mem _ hb
 ·rw[e] at hb;unfold frs at hb;rw[List.filterMap_cons,hf] at hb;exact hb
theorem Inv.stkFree(I:Inv X pins σ H s):∀b∈frs X.stack,H b=none:=λb hb=>by
 rcases List.mem_cons.mp (I.stkSub b hb) with e | hb
 ·rw[e];exact I.free
 ·obtain⟨_,o,ho,_⟩:=I.ok.funs.mem hb;exact I.base.free b o ho (I.ok.frf b hb) λz=>I.ok.exfs b z hb
theorem Inv.step{g':Array GenState}{t':Nat}{d':Drawn}{ch:List Addr}(I:Inv X pins σ H s)
  (hch:∀b∈ch,(b∈X.ex\/X.s₀.heap.objs.size<=b)/\b≠X.env.locals/\(∀x c,X.env.cells.lookup x=some c->c≠b)/\∀p∈X.pn++pins,p.1≠b)
  (keep:∀b o,b≠X.env.locals->b∉X.fs->b∉ch->s.heap.get? b=some o->H b=none->h'.get? b=some o)
  (slot:∀b o,b≠X.env.locals->b∈X.fs->b∉ch->s.heap.get? b=some o->H b=none->∃sl,h'.get? b=some { o with slots:=sl }) (free:∀b o,b∉ch->s.heap.get? b=some o->H b=none->H' b=none)
  (there:∀b o,b∉ch->s.heap.get? b=some o->∃o',h'.get? b=some o')
  (tups:∀b xs,H b=some (.tup xs)->H' b=some (.tup xs)) (frzs:∀b o u,H b=some (.frz o u)->H' b=some (.frz o u)) (tbls:∀b ps,H b=some (.tbl ps)->∃more,H' b=some (.tbl (ps++more)))
  (ns:∀m,s.heap.Ns X.env.locals m->h'.Ns X.env.locals m) (hok:HOk X.prog X.w H' h') (hg:AllBare g') :
  Inv X pins σ H' { s with heap:=h',gens:=g',drawn:=d',toks:=t' }:=by
 have neL:∀b o,X.s₀.heap.get? b=some o->b≠X.env.locals:=λb o e=>Nat.ne_of_lt (Nat.lt_of_lt_of_le (Heap.lt_size e) I.ok.above)
 have neC:∀b o,X.s₀.heap.get? b=some o->b∉X.ex->b∉ch:=λb o e hx hb=>by
  rcases (hch b hb).1 with z | z
  ·exact hx z
  ·exact absurd (Nat.lt_of_lt_of_le (Heap.lt_size e) z) (Nat.lt_irrefl _)
 have cellK:∀x c,X.env.cells.lookup x=some c->∀v,s.heap.IsCell c v->h'.IsCell c v:=λx c e v ⟨o,ho,hd⟩=>by
  have nch:c∉ch:=λz=>(hch c z).2.2.1 x c e rfl
  by_cases hc:c∈X.fs
  ·obtain⟨sl,q⟩:=slot c o (I.cne x c e) hc nch ho (I.freeC x c e);exact⟨_,q,hd⟩
  ·exact⟨o,keep c o (I.cne x c e) hc nch ho (I.freeC x c e),hd⟩
 refine⟨I.ok,I.os,hg,⟨λb o e n hb hx=>?_,λb o e n hb hx=>?_,λb o e n hx=>?_,λb o e hx=>?_,λb xs e=>tups b xs (I.base.tups b xs e),λb o xs e=>frzs b o xs (I.base.frzs b o xs e),λb ps e=>?_⟩,?_,λx c e=>?_,?_,λx c e=>?_,λp hp=>?_,hok,I.len⟩
 ·exact keep b o (neL b o e) hb (neC b o e hx) (I.base.keep b o e n hb hx) (I.base.free b o e n hx)
 ·obtain⟨sl,e1⟩:=I.base.slot b o e n hb hx;obtain⟨sl',e2⟩:=slot b _ (neL b o e) hb (neC b o e hx) e1 (I.base.free b o e n hx);exact⟨sl',e2⟩
 ·obtain⟨o',e1⟩:=I.base.there b o e hx;exact free b o' (neC b o e hx) e1 (I.base.free b o e n hx)
 ·obtain⟨o',e1⟩:=I.base.there b o e hx;exact there b o' (neC b o e hx) e1
 ·obtain⟨m1,e1⟩:=I.base.tbls b ps e;obtain⟨m2,e2⟩:=tbls b _ e1;exact⟨m1++m2,by rw[e2,Array.append_assoc]⟩
 ·obtain⟨m,hn,hl⟩:=I.loc;refine⟨m,ns m hn,λi x v e1 e2 e3=>?_⟩;obtain⟨u,r,l⟩:=hl i x v e1 e2 e3;refine⟨u,r,?_⟩;rcases l with l | ⟨k,c,e,z⟩
  ·exact .inl l
  ·exact .inr ⟨k,c,e,cellK x c e _ z⟩
 ·obtain⟨v,z⟩:=I.cell x c e;exact⟨v,cellK x c e v z⟩
 ·obtain⟨m,⟨o,_,_,ho,_⟩,_⟩:=I.loc;exact free _ o (λz=>(hch _ z).2.1 rfl) ho I.free
 ·obtain⟨v,o,ho,hd⟩:=I.cell x c e;exact free c o (λz=>(hch c z).2.2.1 x c e rfl) ho (I.freeC x c e)
 ·obtain⟨e,n,ne,nf,d⟩:=I.pin p hp;have nch:p.1∉ch:=λz=>(hch p.1 z).2.2.2 p hp rfl;exact⟨keep p.1 p.2 ne nf nch e n,free p.1 p.2 nch e n,ne,nf,d⟩
theorem Inv.un{t':Nat}(I:Inv X pins σ H s)(u:Un X.fs [] H H' s.heap h')(hok:HOk X.prog X.w H' h'):Inv X pins σ H' { s with heap:=h',toks:=t' }:=by
 obtain⟨m,⟨o,es,ep,ho,r⟩,_⟩:=id I.loc;obtain⟨sl,hL⟩:=u.any ho I.free (by simp)
 exact I.step (g':=s.gens) (d':=s.drawn) (ch:=[]) (λ_ z=>nomatch z) (λb o _ hb _ e n=>u.keep b o e n hb (by simp)) (λb o _ hb _ e n=>u.slot b o e n hb (by simp)) (λb o _ e n=>u.free b o e n (by simp)) (λb o _ e=>u.there b o e (by simp)) u.tups u.frzs u.tbls (λm' hm=>by obtain⟨o',es',ep',ho',r'⟩:=hm;rw[ho] at ho';cases ho';exact⟨_,es',ep',hL,r'⟩) hok I.bare
theorem Inv.call{g':Array GenState}{t':Nat}{d':Drawn}{ch:List Addr}(I:Inv X pins σ H s)(u:Un (frs X.stack) ch H H' s.heap h')(hok:HOk X.prog X.w H' h')(hg:AllBare g')
  (hch:∀b∈ch,(b∈X.ex\/X.s₀.heap.objs.size<=b)/\b≠X.env.locals/\(∀x c,X.env.cells.lookup x=some c->c≠b)/\∀p∈X.pn++pins,p.1≠b) :
  Inv X pins σ H' { s with heap:=h',gens:=g',drawn:=d',toks:=t' }:=by
 obtain⟨m,⟨o,es,ep,ho,r⟩,_⟩:=id I.loc;obtain⟨sl,hL⟩:=u.any ho I.free λz=>(hch _ z).2.1 rfl
 exact I.step (ch:=ch) hch (λb o hL hb hc e n=>u.keep b o e n (λz=>(List.mem_cons.mp (I.stkSub b z)).elim hL hb) hc) (λb o _ _ hc e n=>u.any e n hc) (λb o hc e n=>u.free b o e n hc) (λb o hc e=>u.there b o e hc) u.tups u.frzs u.tbls (λm' hm=>by obtain⟨o',es',ep',ho',r'⟩:=hm;rw[ho] at ho';cases ho';exact⟨_,es',ep',hL,r'⟩) hok hg
theorem Inv.turned{t':Nat}{it:Addr}(I:Inv X pins σ H s)(k:∀b o,b≠it->s.heap.get? b=some o->h'.get? b=some o)(hn:H it=none)(hL:it≠X.env.locals)
  (h1:it∈X.ex\/X.s₀.heap.objs.size<=it) (h2:∀x c,X.env.cells.lookup x=some c->c≠it) (h3:∀p∈X.pn++pins,p.1≠it):Inv X pins σ H { s with heap:=h',toks:=t' }:=by
 have nit:∀b u,H b=some u->b≠it:=λb u e z=>by rw[z,hn] at e;cases e
 refine I.step (g':=s.gens) (d':=s.drawn) (ch:=[it]) (λb hb=>?_) (λb o _ _ hc e _=>k b o (λz=>hc (by simp[z])) e) (λb o _ _ hc e _=>⟨o.slots,k b o (λz=>hc (by simp[z])) e⟩) (λ_ _ _ _ n=>n)
  (λb o hc e=>⟨o,k b o (λz=>hc (by simp[z])) e⟩) (λ_ _ e=>e) (λ_ _ _ e=>e) (λb ps e=>⟨#[],by rw[e];simp⟩) (λm hm=>?_) (λb u e=>?_) I.bare
 ·have e:b=it:=by simpa using hb
  subst e;exact⟨h1,hL,h2,h3⟩
 ·obtain⟨o,es,ep,ho,r⟩:=hm;exact⟨o,es,ep,k _ o (Ne.symm hL) ho,r⟩
 ·refine(I.hok b u e).stay (λc v hc q=>k c v ?_ q) (λ_ q=>q) λ_ _ q=>q;rcases hc with z | z
  ·rw[z];exact nit b u e
  ·exact nit c _ z
theorem Inv.tok(I:Inv X pins σ H s)(t:Nat):Inv X pins σ H { s with toks:=t }:=I.un (h':=s.heap) (t':=t) Un.refl I.hok
theorem Inv.kept{t':Nat}(I:Inv X pins σ H s)(k:∀b u,s.heap.get? b=some u->h'.get? b=some u):Inv X pins σ H { s with heap:=h',toks:=t' }:=I.un (Un.kept k) (I.hok.kept k)
theorem Inv.laid{a:Addr}{o:HO}{t':Nat}(I:Inv X pins σ H s)(k:∀b u,s.heap.get? b=some u->h'.get? b=some u)(hp:s.heap.objs.size<=a)(new:qH X.prog X.w (upd H a o) h' a o) :
  Inv X pins σ (upd H a o) { s with heap:=h',toks:=t' }:=I.un (Un.laid k hp (I.hok.fresh hp)) (I.hok.laid k hp new)
theorem Inv.write{x e:Addr}{o:HO}{t':Nat}(I:Inv X pins σ H s)(mu:Mut (H x))(he:e=x\/H e=some (.own x))(k:∀b u,b≠e->s.heap.get? b=some u->h'.get? b=some u)(heo:∃u,h'.get? e=some u)
  (new:qH X.prog X.w (upd H x o) h' x o):Inv X pins σ (upd H x o) { s with heap:=h',toks:=t' }:=I.un (Un.write mu he k heo) (I.hok.write mu he k heo new)
theorem Inv.pins_of{pins':PP}(I:Inv X pins σ H s)(h:∀p∈pins',s.heap.get? p.1=some p.2/\H p.1=none/\p.1≠X.env.locals/\p.1∉X.fs/\∀v,p.2.data≠.cell v):Inv X pins' σ H s:=
 ⟨I.ok,I.os,I.bare,I.base,I.loc,I.cell,I.free,I.freeC,λp hp=>(List.mem_append.mp hp).elim (λz=>I.pin p (List.mem_append_left _ z)) (h p),I.hok,I.len⟩
theorem y7{N:List Str}(hN:N.Nodup){i j:Nat}{x:Str}(a:N[i]?=some x)(b:N[j]?=some x):i=j:=by obtain⟨h1,e1⟩:=List.getElem?_eq_some_iff.mp a;obtain⟨h2,e2⟩:=List.getElem?_eq_some_iff.mp b;exact(List.getElem_inj hN).mp (e1.trans e2.symm)
theorem ja{M:Model}{A:Around}{E:PQ}{i:Nat}{x:Str}{v:V}{u:Value}{Q:Unit->Shared->Prop}(I:Inv X pins σ H s)(hN:X.N.Nodup)(hi:X.N[i]?=some x)(hx:Loc X.env.scope x)(r:qC v u)
  (h:∀s',Inv X pins (σ.set i (some v)) H s'->(∃a,Heap.SameBut a s.heap s'.heap/\(a=X.env.locals\/X.env.cells.lookup x=some a))->Q () s') (hf:X.fn x=true\/X.env.scope.names.lookup x=some .local:=by first | exact .inl rfl | exact .inr rfl | assumption):wpAny M A (storeName X.env x u) Q E s:=by
 obtain⟨m,hn,hl⟩:=id I.loc;have hcls:(X.env.scope.kind == .class||(X.env.scope.kind == .module&&X.env.locals != X.env.globals))=false:=by rw[I.ok.kind];rfl
 have hiσ:i < σ.length:=by rw[I.len];exact(List.getElem?_eq_some_iff.mp hi).1
 have cne:=I.cne
 have tracked:∀{a:Addr} {h':Heap},(∃o,s.heap.get? a=some o/\H a=none)->Heap.SameBut a s.heap h'->HOk X.prog X.w H h':=λ{a h'} ha hs b ob e=>by
  obtain⟨_,_,hfree⟩:=ha;refine(I.hok b ob e).stay (λc w' hc q=>(hs.2 c ?_).trans q) (λ_ q=>q) λ_ _ q=>q;rintro rfl;rcases hc with rfl | hc
  ·rw[hfree] at e;cases e
  ·rw[hfree] at hc;cases hc
 rcases hx with hk | hk
 ·refine wpAny_storeName_local hk hn (λh' hn' hs=>?_) hcls;obtain⟨oL,_,_,hoL,_⟩:=id hn;refine h _ ⟨I.ok,I.os,I.bare,⟨λb o e n hb hx=>?_,λb o e n hb hx=>?_,I.base.free,λb o e hx=>?_,I.base.tups,I.base.frzs,I.base.tbls⟩,⟨_,hn',λj y v' e1 e2 e3=>?_⟩,λy c e=>?_,I.free,I.freeC,λp hp=>?_,tracked ⟨oL,hoL,I.free⟩ hs,by simpa using I.len⟩ ⟨_,hs,.inl rfl⟩
  ·exact(hs.2 b (Nat.ne_of_lt (Nat.lt_of_lt_of_le (Heap.lt_size e) I.ok.above))).trans (I.base.keep b o e n hb hx)
  ·obtain⟨sl,e1⟩:=I.base.slot b o e n hb hx;exact⟨sl,(hs.2 b (Nat.ne_of_lt (Nat.lt_of_lt_of_le (Heap.lt_size e) I.ok.above))).trans e1⟩
  ·obtain⟨o',e1⟩:=I.base.there b o e hx;exact⟨o',(hs.2 b (Nat.ne_of_lt (Nat.lt_of_lt_of_le (Heap.lt_size e) I.ok.above))).trans e1⟩
  ·by_cases hj:j=i
   ·subst hj;rw[hi] at e1;cases e1;rw[List.getElem?_set_self hiσ] at e2;cases e2;exact⟨u,r,.inl ⟨hk,by simp⟩⟩
   ·rw[List.getElem?_set_ne (Ne.symm hj)] at e2;obtain⟨u',r',q⟩:=hl j y v' e1 e2 e3;refine⟨u',r',?_⟩;rcases q with ⟨k,e⟩ | ⟨k,c,e,z⟩
    ·refine .inl ⟨k,?_⟩
     have:y≠x:=λe=>hj (y7 hN e1 (e▸hi))
     simp[this,e]
    ·exact .inr ⟨k,c,e,z.sameBut hs (cne y c e)⟩
  ·obtain⟨w',z⟩:=I.cell y c e;exact⟨w',z.sameBut hs (cne y c e)⟩
  ·obtain⟨e,n,ne,nf,d⟩:=I.pin p hp;exact⟨(hs.2 p.1 ne).trans e,n,ne,nf,d⟩
 ·have hfn:X.fn x=true:=by
   rcases hf with z | z
   ·exact z
   ·rw[z] at hk;cases hk
  obtain⟨c,hc⟩:=I.ok.has x (.inl hk);obtain⟨w',z⟩:=I.cell x c hc;refine wpAny_storeName_cell I.ok.kind hk hc z (λh' hc' hs=>?_);obtain⟨oc,hoc,hocd⟩:=id z;refine h { s with heap:=h' } ⟨I.ok,I.os,I.bare,⟨λb o e n hb hx=>?_,λb o e n hb hx=>?_,I.base.free,λb o e hx=>?_,I.base.tups,I.base.frzs,I.base.tbls⟩,⟨m,hn.sameBut hs (Ne.symm (cne x c hc)),λj y v' e1 e2 e3=>?_⟩,λy c' e=>?_,I.free,I.freeC,λp hp=>?_,tracked ⟨oc,hoc,I.freeC x c hc⟩ hs,by simpa using I.len⟩ ⟨c,hs,.inr hc⟩
  ·exact(hs.2 b (Nat.ne_of_lt (Nat.lt_of_lt_of_le (Heap.lt_size e) (I.ok.cab x c hfn hc)))).trans (I.base.keep b o e n hb hx)
  ·obtain⟨sl,e1⟩:=I.base.slot b o e n hb hx;exact⟨sl,(hs.2 b (Nat.ne_of_lt (Nat.lt_of_lt_of_le (Heap.lt_size e) (I.ok.cab x c hfn hc)))).trans e1⟩
  ·obtain⟨o',e1⟩:=I.base.there b o e hx;exact⟨o',(hs.2 b (Nat.ne_of_lt (Nat.lt_of_lt_of_le (Heap.lt_size e) (I.ok.cab x c hfn hc)))).trans e1⟩
  ·by_cases hj:j=i
   ·subst hj;rw[hi] at e1;cases e1;rw[List.getElem?_set_self hiσ] at e2;cases e2;exact⟨u,r,.inr ⟨.inl hk,c,hc,hc'⟩⟩
   ·rw[List.getElem?_set_ne (Ne.symm hj)] at e2;obtain⟨u',r',q⟩:=hl j y v' e1 e2 e3;refine⟨u',r',?_⟩;rcases q with q | ⟨k,c',e,z'⟩
    ·exact .inl q
    ·refine .inr ⟨k,c',e,z'.sameBut hs ?_⟩;rintro rfl;exact hj (y7 hN e1 (I.ok.inj _ _ _ e hc▸hi))
  ·by_cases hcc:c'=c
   ·subst hcc;exact⟨_,hc'⟩
   ·obtain⟨w2,z2⟩:=I.cell y c' e;exact⟨w2,z2.sameBut hs hcc⟩
  ·obtain⟨e,n,ne,nf,d⟩:=I.pin p hp;refine⟨(hs.2 p.1 ?_).trans e,n,ne,nf,d⟩;intro q;rw[q,hoc] at e;have q':oc=p.2:=Option.some.inj e;exact d w' (by rw[<-q'];exact hocd)
theorem YW{M:Model}{A:Around}{E:PQ}{i:Nat}{x:Str}{v:V}{u:Value}{Q:Unit->Shared->Prop}(I:Inv X pins σ H s)(hN:X.N.Nodup)(hi:X.N[i]?=some x)(hx:Loc X.env.scope x)(r:qC v u)
  (h:∀s',Inv X pins (σ.set i (some v)) H s'->Q () s') (hf:X.fn x=true\/X.env.scope.names.lookup x=some .local:=by first | exact .inl rfl | exact .inr rfl | assumption):wpAny M A (storeName X.env x u) Q E s:=
 ja I hN hi hx r (λs' I' _=>h s' I') hf
theorem Inv.call'{s':Shared}{ch:List Addr}(I:Inv X pins σ H s)(ho:s'.os=s.os)(u:Un (frs X.stack) ch H H' s.heap s'.heap)(hok:HOk X.prog X.w H' s'.heap)(hg:AllBare s'.gens)
  (hch:∀b∈ch,(b∈X.ex\/X.s₀.heap.objs.size<=b)/\b≠X.env.locals/\(∀x c,X.env.cells.lookup x=some c->c≠b)/\∀p∈X.pn++pins,p.1≠b):Inv X pins σ H' s':=by
 obtain⟨h',g',d',t',o'⟩:=s';have e:o'=s.os:=ho;subst e;exact I.call (g':=g') (t':=t') (d':=d') u hok hg hch
end
abbrev XK:=Value->Option Addr->Hp->Prop
abbrev St:=List (Option V)
abbrev VK:=V->Hp->Prop
abbrev TE:=St->Hp->VK->Prop
abbrev TT:=St->Hp->(Bool->Hp->Prop)->Prop
abbrev TA:=St->Hp->(List V->Hp->Prop)->Prop
structure Ends where
 nx:St->Hp->Prop
 rt:VK
 bk:St->Hp->Prop:=λ_ _=>False
 ct:St->Hp->Prop:=λ_ _=>False
abbrev TS:=Ends->St->Hp->Prop
noncomputable def EP(X:Cx)(pins:PP)(σ:St)(Q:VK)(u:Value)(s':Shared):Prop:=∃v H',Inv X pins σ H' s'/\qC v u/\Q v H'
noncomputable def TP(X:Cx)(pins:PP)(σ:St)(Q:Bool->Hp->Prop)(b:Bool)(s':Shared):Prop:=∃H',Inv X pins σ H' s'/\Q b H'
noncomputable def AP(X:Cx)(pins:PP)(σ:St)(Q:List V->Hp->Prop)(us:List Value)(s':Shared):Prop:=∃vs H',Inv X pins σ H' s'/\qy vs us/\Q vs H'
noncomputable def SP(X:Cx)(pins:PP)(D:Ends)(f:Flow)(s':Shared):Prop:=
 match f with
 |.next=>∃σ' H',Inv X pins σ' H' s'/\D.nx σ' H'
 |.brk=>∃σ' H',Inv X pins σ' H' s'/\D.bk σ' H'
 |.cont=>∃σ' H',Inv X pins σ' H' s'/\D.ct σ' H'
 |.ret u=>∃v σ' H',Inv X pins σ' H' s'/\qC v u/\D.rt v H'
noncomputable def PE(X:Cx)(e:Expr)(t:TE):Prop:=
 ∀(pins:PP) (s:Shared) (σ:St) (H:Hp) (Q:VK),Inv X pins σ H s->t σ H Q->wpAny (model X.prog X.w) X.A (eval e X.env) (EP X pins σ Q) X.xe s
noncomputable def PT(X:Cx)(e:Expr)(t:TT):Prop:=
 ∀(pins:PP) (s:Shared) (σ:St) (H:Hp) (Q:Bool->Hp->Prop),Inv X pins σ H s->t σ H Q->wpAny (model X.prog X.w) X.A (isTrue e X.env (eval e X.env)) (TP X pins σ Q) X.xe s
noncomputable def PW(X:Cx)(e:Expr)(t:TT):Prop:=
 ∀(whole:Sem Value) (pins:PP) (s:Shared) (σ:St) (H:Hp) (Q:Bool->Hp->Prop),Inv X pins σ H s->t σ H Q->wpAny (model X.prog X.w) X.A (isTrue e X.env whole) (TP X pins σ Q) X.xe s
theorem PW.pt{X:Cx}{e:Expr}{t:TT}(h:PW X e t):PT X e t:=h _
noncomputable def PA(X:Cx)(es:List Expr)(t:TA):Prop:=
 ∀(pos:Pos) (pins:PP) (s:Shared) (σ:St) (H:Hp) (Q:List V->Hp->Prop),Inv X pins σ H s->t σ H Q->wpAny (model X.prog X.w) X.A (spliced (backTo pos (starEach es X.env))) (AP X pins σ Q) X.xe s
noncomputable def PS(X:Cx)(st:Stmt)(t:TS):Prop:=
 ∀(pins:PP) (s:Shared) (σ:St) (H:Hp) (D:Ends),Inv X pins σ H s->t D σ H->wpAny (model X.prog X.w) X.A (exec st X.env) (SP X pins D) X.xe s
noncomputable def PSs(X:Cx)(st:List Stmt)(t:TS):Prop:=
 ∀(pins:PP) (s:Shared) (σ:St) (H:Hp) (D:Ends),Inv X pins σ H s->t D σ H->wpAny (model X.prog X.w) X.A (execs st X.env) (SP X pins D) X.xe s
theorem thn{α:Type}{t:Sem α}{Q Q':α->Shared->Prop}{M:Model}{A:Around}{E:PQ}{s:Shared}(h:wpAny M A t Q E s)(hQ:∀a s,Q a s->Q' a s):wpAny M A t Q' E s:=wpAny_mono h hQ λ_ _ x=>x
end L2
namespace L2
open PySem PySem.Spec PyProof.Rows
section
variable{X:Cx}
theorem bin{a b:Expr}{ta tb:TE}(ha:PE X a ta)(hb:PE X b tb){pins:PP}{s:Shared}{σ:St}{H:Hp}{R:V->V->Hp->Prop}(I:Inv X pins σ H s)(h:ta σ H λx H1=>tb σ H1 λy H2=>R x y H2)
  {α:Type} {Q:α->Shared->Prop} {f:Value->Value->Sem α}
  (hf:∀v u s2 x y H2,Inv X pins σ H2 s2->qC x v->qC y u->R x y H2->wpAny (model X.prog X.w) X.A (f v u) Q X.xe s2) :
  wpAny (model X.prog X.w) X.A (eval a X.env) (λv s₁=>wpAny (model X.prog X.w) X.A (eval b X.env) (λu s₂=>wpAny (model X.prog X.w) X.A (f v u) Q X.xe s₂) X.xe s₁) X.xe s:=by
 refine thn (ha pins s σ H _ I h) λv s1 hq1=>?_;obtain⟨x,H1,I1,r1,q1⟩:=hq1;refine thn (hb pins s1 σ H1 _ I1 q1) λu s2 hq1=>?_;obtain⟨y,H2,I2,r2,q2⟩:=hq1;exact hf v u s2 x y H2 I2 r1 r2 q2
def qaf(i:Nat):TE:=λσ H Q=>∃v,σ[i]?=some (some v)/\Q v H
def tC(v:V):TE:=λ_ H Q=>Q v H
theorem zo{i:Nat}{x:Str}{pos:Pos}(hN:X.N[i]?=some x)(hv:Vis X.env.scope x)(hd:(x == ("__debug__" : Str))=false:=by decide)(hcd:(x == ("__classdict__" : Str))=false:=by decide):PE X (.Name x pos) (qaf i):=by
 intro pins s σ H Q I h;obtain⟨v,e,h⟩:=h;obtain⟨m,hn,hl⟩:=I.loc;obtain⟨u,r,l⟩:=hl i x v hN e hv;have fin:EP X pins σ Q u s:=⟨v,H,I,r,h⟩;rcases l with ⟨hk,hm⟩ | ⟨hk,c,hc,hcell⟩
 ·exact wpAny_Name (wpAny_loadName_local I.ok.kind hk hn hm fin) hd
 ·rcases hk with hk | hk
  ·exact wpAny_Name (wpAny_loadName_cell I.ok.kind hk hc hcell fin) hd
  ·exact wpAny_Name (wpAny_loadName_free I.ok.kind hk hc hcell fin hcd) hd
theorem qed{i j pos}:PE X (.Constant (.int i) j pos) (tC (.int i)):=λ_ _ _ H _ I h=>wpAny_Constant_int ⟨.int i,H,I.tok _,⟨_,rfl⟩,h⟩
theorem qee{b j pos}:PE X (.Constant (.bool b) j pos) (tC (.bl b)):=λ_ _ _ H _ I h=>Constant_bool ⟨.bl b,H,I,rfl,h⟩
theorem qef{j pos}:PE X (.Constant .none j pos) (tC .non):=λ_ _ _ H _ I h=>Constant_none ⟨.non,H,I,rfl,h⟩
theorem qbm{x j pos}:PE X (.Constant (.str x) j pos) (tC (.str x)):=λ_ _ _ H _ I h=>Calls.Constant_str ⟨.str x,H,I.tok _,⟨_,rfl⟩,h⟩
def Gl(X:Cx)(x:Str):Prop:=X.env.kindOf x=some .globalImplicit
theorem qI{E:PQ}{pins:PP}{s:Shared}{σ:St}{H:Hp}{x:Str}{u:Value}{pos:Pos}{Q:PQ}(I:Inv X pins σ H s)(hg:Gl X x)(hm:X.mg x=some u)(h:Q u s)
  (hd:(x == ("__debug__" : Str))=false:=by decide):wpAny (model X.prog X.w) X.A (eval (.Name x pos) X.env) Q E s:=
 Calls.Name_function_global I.ok.kind hg (Calls.loadGlobal_global (by rw[I.ok.glob];exact I.mod.glob.keeps I.bk) hm h) hd
theorem JG{E:PQ}{pins:PP}{s:Shared}{σ:St}{H:Hp}{x:Str}{u:Value}{pos:Pos}{Q:PQ}(I:Inv X pins σ H s)(hg:Gl X x)(hm:X.mg x=none)(hv:bootBuiltins x=some u)(h:Q u s)
  (hn:x≠"__name__":=by decide) (hd:(x == ("__debug__" : Str))=false:=by decide):wpAny (model X.prog X.w) X.A (eval (.Name x pos) X.env) Q E s:=by
 obtain⟨mb,h1,h2⟩:=I.mod.blt;exact Calls.Name_function_global I.ok.kind hg (Calls.loadGlobal_builtin (by rw[I.ok.glob];exact I.mod.glob.keeps I.bk) hm (by rw[I.ok.blt];exact h1.keeps I.bk) ((h2 x hn).trans hv) h) hd
theorem Yw{x:Str}{v:V}{u:Value}{pos:Pos}(hg:Gl X x)(hm:X.mg x=some u)(r:qC v u)(hd:(x == ("__debug__" : Str))=false:=by decide):PE X (.Name x pos) (tC v):=
 λ_ _ _ H _ I h=>qI I hg hm ⟨v,H,I,r,h⟩ hd
theorem ju{x:Str}{v:V}{u:Value}{pos:Pos}(hg:Gl X x)(hm:X.mg x=none)(hv:bootBuiltins x=some u)(r:qC v u)(hn:x≠"__name__":=by decide)(hd:(x == ("__debug__" : Str))=false:=by decide):PE X (.Name x pos) (tC v):=
 λ_ _ _ H _ I h=>JG I hg hm hv ⟨v,H,I,r,h⟩ hn hd
variable{a b:Expr}{ta tb:TE}{pos:Pos}
def tB(t:TE):TT:=λσ H Q=>t σ H λx H1=>∃c,x=.bl c/\Q c H1
theorem qeg{e:Expr}{t:TE}(h:PE X e t)(he:∀whole,isTrue e X.env whole=(do let v<-whole;standAt e.pos;holding [v] (truthy v)):=by intro _;rfl):PT X e (tB t):=by intro pins s σ H Q I hw;refine isTrue_plain (thn (h pins s σ H _ I hw) λv s1 hz10=>?_) (he _);obtain⟨x,H1,I1,r1,q1⟩:=hz10;obtain⟨d,rfl,q⟩:=q1;cases r1;exact wpAny_truthy_bool ⟨H1,I1,q⟩
variable{tA tB':TT}{rest:List Expr}
def qiE(t:TT):TT:=λσ H Q=>t σ H λc H1=>Q (!c) H1
theorem qb7(ha:PT X a tA):PW X (.BoolOp .And [a] pos) tA:=by
 intro wh pins s σ H Q I h;refine isTrue_and (thn (ha pins s σ H Q I h) λc s1 e=>?_)
 cases c with
 |true=>exact isTrue_and_nil e
 |false=>exact e
theorem qeh(ha:PT X a tA):PW X (.BoolOp .Or [a] pos) tA:=by
 intro wh pins s σ H Q I h;refine isTrue_or (thn (ha pins s σ H Q I h) λc s1 e=>?_)
 cases c with
 |false=>exact isTrue_or_nil e
 |true=>exact e
theorem qbn(ha:PT X a tA):PT X (.UnaryOp .Not a pos) (qiE tA):=by intro pins s σ H Q I h;exact isTrue_not (ha pins s σ H (λc H1=>Q (!c) H1) I h)
noncomputable def qgS(ta tb:TE):TE:=λσ H Q=>ta σ H λx H1=>∃c,x=.bl c/\if c=true then tb σ H1 Q else Q (.bl false) H1
noncomputable def qiF(ta tb:TE):TE:=λσ H Q=>ta σ H λx H1=>∃c,x=.bl c/\if c=true then Q (.bl true) H1 else tb σ H1 Q
def qgT(ta:TE):TE:=λσ H Q=>ta σ H λx H1=>∃c,x=.bl c/\Q (.bl (!c)) H1
theorem qei{op}{t:TE}(h:PE X a t):PE X (.BoolOp op [a] pos) t:=λpins s σ H Q I hw=>BoolOp_one (h pins s σ H Q I hw)
theorem qbo(ha:PE X a ta)(hb:PE X (.BoolOp .And (b::rest) pos) tb):PE X (.BoolOp .And (a::b::rest) pos) (qgS ta tb):=by
 intro pins s σ H Q I h;refine BoolOp_and (thn (ha pins s σ H _ I h) λv s1 hq1=>?_);obtain⟨x,H1,I1,r1,q1⟩:=hq1;obtain⟨c,rfl,q1⟩:=q1;cases r1;refine wpAny_truthy_bool ?_
 cases c with
 |true=>exact hb pins s1 σ H1 Q I1 q1
 |false=>exact⟨.bl false,H1,I1,rfl,q1⟩
theorem qgU(ha:PE X a ta)(hb:PE X (.BoolOp .Or (b::rest) pos) tb):PE X (.BoolOp .Or (a::b::rest) pos) (qiF ta tb):=by
 intro pins s σ H Q I h;refine BoolOp_or (thn (ha pins s σ H _ I h) λv s1 hq1=>?_);obtain⟨x,H1,I1,r1,q1⟩:=hq1;obtain⟨c,rfl,q1⟩:=q1;cases r1;refine wpAny_truthy_bool ?_
 cases c with
 |false=>exact hb pins s1 σ H1 Q I1 q1
 |true=>exact⟨.bl true,H1,I1,rfl,q1⟩
theorem qej(ha:PE X a ta):PE X (.UnaryOp .Not a pos) (qgT ta):=by intro pins s σ H Q I h;refine UnaryOp_ (thn (ha pins s σ H _ I h) λv s1 hq1=>?_);obtain⟨x,H1,I1,r1,q1⟩:=hq1;obtain⟨c,rfl,q1⟩:=q1;cases r1;exact not_of (wpAny_truthy_bool ⟨.bl (!c),H1,I1,rfl,q1⟩)
end
end L2
namespace L2
open PySem PySem.Spec PyProof.Rows
noncomputable def SqL(K:Frag)(H:Hp)(a:Addr)(xs:List V):Prop:=
 Rd H a (.lst xs)\/
  ∃(o:Obj) (its:Array Value) (n:Nat),K.lookup a=some o/\o.cls=.type "list"/\o.dict=none/\o.data=.seq its n/\its.size<=sizeLine/\qy xs its.toList
noncomputable def SqT(K:Frag)(H:Hp)(a:Addr)(xs:List V):Prop:=
 Rd H a (.tup xs)\/
  ∃(o:Obj) (its:Array Value) (n:Nat),K.lookup a=some o/\o.cls=.type "tuple"/\o.data=.seq its n/\its.size<=sizeLine/\qy xs its.toList
noncomputable def qiG:Value->Option V
 |.none=>some .non
 |.bool b=>some (.bl b)
 |.int i _=>some (.int i)
 |.str x _=>some (.str x)
 |.bytes b _=>some (.byt b)
 |.float b _=>some (.flt b)
 |.ref a=>some (.ref a)
 |.type n=>some (.ty n)
 |_=>none
theorem qC.abs{x:V}{u:Value}(r:qC x u):qiG u=some x:=by
 cases x with
 |non=>cases r;rfl
 |bl _=>cases r;rfl
 |int _=>obtain⟨t,rfl⟩:=r;rfl
 |str _=>obtain⟨t,rfl⟩:=r;rfl
 |byt _=>obtain⟨t,rfl⟩:=r;rfl
 |flt _=>obtain⟨t,rfl⟩:=r;rfl
 |ref _=>cases r;rfl
 |ty _=>cases r;rfl
theorem qC.inj{x y:V}{u:Value}(r:qC x u)(q:qC y u):x=y:=Option.some.inj (r.abs.symm.trans q.abs)
theorem qy.inj{xs ys:List V}{us:List Value}(h:qy xs us)(k:qy ys us):xs=ys:=by
 induction h generalizing ys with
 |nil=>cases k;rfl
 |cons r t ih=>cases k with
  | cons r' t'=>rw[r.inj r',ih t']
section
variable{X:Cx}{pins:PP}{σ:St}{H:Hp}{s:Shared}{a:Addr}{xs ys:List V}
theorem SqL.of{K:Frag}(h:H a=some (.lst xs)):SqL K H a xs:=.inl (.inl h)
theorem SqT.of{K:Frag}(h:H a=some (.tup xs)):SqT K H a xs:=.inl (.inl h)
theorem Inv.list(I:Inv X pins σ H s)(h:SqL X.K H a xs):∃its:List Value,qy xs its/\PlainL s.heap a its.toArray/\xs.length<=sizeLine:=by
 rcases h with h | ⟨o,its,n,hk,hc,hd,hs,hz,r⟩
 ·obtain⟨z,its,n,r,e⟩:=h.ok I.hok;exact⟨its,r,⟨_,n,e,rfl,rfl,rfl⟩,z⟩
 ·refine⟨its.toList,r,⟨o,n,I.kIn a o hk,hc,hd,by simpa using hs⟩,?_⟩;have e:=r.length;simp only[Array.length_toList] at e
  lia
theorem Inv.tuple(I:Inv X pins σ H s)(h:SqT X.K H a xs):∃its:List Value,qy xs its/\IsTup s.heap a its.toArray/\xs.length<=sizeLine:=by
 rcases h with h | ⟨o,its,n,hk,hc,hs,hz,r⟩
 ·obtain⟨z,its,r,p⟩:=h.ok I.hok;exact⟨its,r,p,z⟩
 ·refine⟨its.toList,r,⟨o,I.kIn a o hk,hc,n,by simpa using hs⟩,?_⟩;have e:=r.length;simp only[Array.length_toList] at e
  lia
theorem Inv.list_inj(I:Inv X pins σ H s)(h:SqL X.K H a xs)(h':SqL X.K H a ys):xs=ys:=by
 obtain⟨its,r,⟨o,n,e,_,_,d⟩,_⟩:=I.list h;obtain⟨its',r',⟨o',n',e',_,_,d'⟩,_⟩:=I.list h';rw[e] at e';cases e';rw[d] at d';injection d' with d1 _
 have:its=its':=by simpa using congrArg Array.toList d1
 subst this;exact r.inj r'
theorem Inv.tuple_inj(I:Inv X pins σ H s)(h:SqT X.K H a xs)(h':SqT X.K H a ys):xs=ys:=by
 obtain⟨its,r,⟨o,e,_,n,d⟩,_⟩:=I.tuple h;obtain⟨its',r',⟨o',e',_,n',d'⟩,_⟩:=I.tuple h';rw[e] at e';cases e';rw[d] at d';injection d' with d1 _
 have:its=its':=by simpa using congrArg Array.toList d1
 subst this;exact r.inj r'
end
abbrev Cx.wish(X:Cx)(E:PQ):Cx:={ X with xe:=E }
abbrev Cx.nox(X:Cx):Cx:=X.wish λ_ _=>False
theorem Cx.Ok.wish{X:Cx}(ok:X.Ok)(E:PQ):(X.wish E).Ok:=
 ⟨ok.mod,ok.kind,ok.glob,ok.blt,ok.above,ok.inj,ok.has,ok.cab,ok.hd,ok.frames,ok.stk,ok.exf,ok.bs,ok.bsz,ok.noex,ok.exfs,ok.funs,ok.frf⟩
theorem Cx.Ok.unwish{X:Cx}{E:PQ}(ok:(X.wish E).Ok):X.Ok:=
 ⟨ok.mod,ok.kind,ok.glob,ok.blt,ok.above,ok.inj,ok.has,ok.cab,ok.hd,ok.frames,ok.stk,ok.exf,ok.bs,ok.bsz,ok.noex,ok.exfs,ok.funs,ok.frf⟩
section
variable{X:Cx}{pins:PP}{σ:St}{H:Hp}{s:Shared}{E:PQ}
theorem Inv.wish(I:Inv X pins σ H s)(E:PQ):Inv (X.wish E) pins σ H s:=⟨I.ok.wish E,I.os,I.bare,I.base,I.loc,I.cell,I.free,I.freeC,I.pin,I.hok,I.len⟩
theorem Inv.unwish(I:Inv (X.wish E) pins σ H s):Inv X pins σ H s:=⟨I.ok.unwish,I.os,I.bare,I.base,I.loc,I.cell,I.free,I.freeC,I.pin,I.hok,I.len⟩
theorem SP.unwish{D:Ends}{f:Flow}{s':Shared}(h:SP (X.wish E) pins D f s'):SP X pins D f s':=by
 cases f with
 |next=>obtain⟨σ',H',I,q⟩:=h;exact⟨σ',H',I.unwish,q⟩
 |brk=>obtain⟨σ',H',I,q⟩:=h;exact⟨σ',H',I.unwish,q⟩
 |cont=>obtain⟨σ',H',I,q⟩:=h;exact⟨σ',H',I.unwish,q⟩
 |ret u=>obtain⟨v,σ',H',I,r,q⟩:=h;exact⟨v,σ',H',I.unwish,r,q⟩
theorem PSs.nox{st:List Stmt}{t:TS}(h:PSs X.nox st t):PSs X st t:=λpins s σ H D I hw=>wpAny_mono (h pins s σ H D (I.wish _) hw) (λ_ _ q=>q.unwish) λ_ _ z=>False.elim z
end
section
variable{X:Cx}{st:Stmt}{rest:List Stmt}{t u:TS}{e:Expr}{te:TE}{pos:Pos}
def qek:TS:=λD σ H=>D.nx σ H
def qiH(t u:TS):TS:=λD σ H=>t { D with nx:=u D } σ H
theorem j9:PSs X [] qek:=λ_ _ σ H _ I h=>wpAny_execs_nil ⟨σ,H,I,h⟩
theorem qo(h1:PS X st t)(h2:PSs X rest u):PSs X (st::rest) (qiH t u):=by
 intro pins s σ H D I h;refine wpAny_execs_cons (thn (h1 pins s σ H { D with nx:=u D } I h) λf s1 q=>?_)
 cases f with
 |next=>obtain⟨σ',H',I',q⟩:=q;exact h2 pins s1 σ' H' D I' q
 |ret v=>exact q
 |brk=>exact q
 |cont=>exact q
theorem q9(h1:PS X st t):PSs X [st] t:=by
 intro pins s σ H D I h;refine wpAny_execs_cons (thn (h1 pins s σ H D I h) λf s1 q=>?_)
 cases f with
 |next=>exact wpAny_execs_nil q
 |ret v=>exact q
 |brk=>exact q
 |cont=>exact q
theorem qb8:PS X (.Pass pos) qek:=λ_ _ σ H _ I h=>wpAny_Pass ⟨σ,H,I,h⟩
theorem Inv.quiet{pins:PP}{σ:St}{H:Hp}{s:Shared}(I:Inv X pins σ H s):interactive X.env=false:=by simp[interactive,I.ok.kind]
def qgV(te:TE):TS:=λD σ H=>te σ H λ_ H1=>D.nx σ H1
theorem jv(he:PE X e te)(hs:swapsWith e none pos.line X.env=pure false:=by rfl):PS X (.Expr e pos) (qgV te):=by intro pins s σ H D I h;refine wpAny_Expr_any (thn (he pins s σ H _ I h) λv s1 hz11=>?_) I.quiet hs;obtain⟨x,H1,I1,r1,q1⟩:=hz11;exact⟨σ,H1,I1,q1⟩
def qiI(te:TE):TS:=λD σ H=>te σ H D.rt
theorem jD(he:PE X e te):PS X (.Return (some e) pos) (qiI te):=by intro pins s σ H D I h;refine wpAny_Return_some (thn (he pins s σ H _ I h) λv s1 hz12=>?_);obtain⟨x,H1,I1,r1,q1⟩:=hz12;exact⟨x,σ,H1,I1,r1,q1⟩
def qgW:TS:=λD _ H=>D.rt .non H
theorem qb9:PS X (.Return none pos) qgW:=λ_ _ σ H _ I h=>wpAny_Return_none ⟨.non,σ,H,I,rfl,h⟩
def qiJ(c:TT)(t u:TS):TS:=λD σ H=>c σ H λb H1=>if b=true then t D σ H1 else u D σ H1
theorem qan{c:Expr}{a b:List Stmt}{tc:TT}(hc:PT X c tc)(ha:PSs X a t)(hb:PSs X b u):PS X (.If c a b pos) (qiJ tc t u):=by
 intro pins s σ H D I h;refine wpAny_If (thn (hc pins s σ H _ I h) λd s1 hq1=>?_);obtain⟨H1,I1,q1⟩:=hq1
 cases d with
 |true=>exact ha pins s1 σ H1 D I1 q1
 |false=>exact hb pins s1 σ H1 D I1 q1
def qel:TS:=λ_ _ _=>False
theorem qao:PS X st qel:=λ_ _ _ _ _ _ h=>h.elim
end
abbrev TG:=V->St->Hp->(St->Hp->Prop)->Prop
abbrev TGs:=List V->St->Hp->(St->Hp->Prop)->Prop
noncomputable def PG(X:Cx)(target:Expr)(t:TG):Prop:=
 ∀(pins:PP) (s:Shared) (σ:St) (H:Hp) (v:V) (u:Value) (Q:St->Hp->Prop),Inv X pins σ H s->qC v u->t v σ H Q->
  wpAny (model X.prog X.w) X.A (assign target X.env u) (λ_ s'=>∃σ' H',Inv X pins σ' H' s'/\Q σ' H') X.xe s
noncomputable def PGs(X:Cx)(ts:List Expr)(t:TGs):Prop:=
 ∀(pins:PP) (s:Shared) (σ:St) (H:Hp) (vs:List V) (us:List Value) (Q:St->Hp->Prop),Inv X pins σ H s->qy vs us->t vs σ H Q->
  wpAny (model X.prog X.w) X.A (assignInOrder ((assignEach ts X.env).map (·.2)) us) (λ_ s'=>∃σ' H',Inv X pins σ' H' s'/\Q σ' H') X.xe s
section
variable{X:Cx}{pos:Pos}
def QU(i:Nat):TG:=λv σ H Q=>Q (σ.set i (some v)) H
theorem Yx{i:Nat}{x:Str}(hN:X.N.Nodup)(hi:X.N[i]?=some x)(hx:Loc X.env.scope x)(hf:X.fn x=true\/X.env.scope.names.lookup x=some .local:=by first | exact .inl rfl | exact .inr rfl | assumption):PG X (.Name x pos) (QU i):=by intro pins s σ H v u Q I r h;exact wpAny_assign_Name (YW I hN hi hx r (λs' I'=>⟨_,H,I',h⟩) hf)
def qiK:TGs:=λvs σ H Q=>vs=[]/\Q σ H
def qgX(t:TG)(u:TGs):TGs:=λvs σ H Q=>∃v r,vs=v::r/\t v σ H λσ' H'=>u r σ' H' Q
theorem QV:PGs X [] qiK:=by intro pins s σ H vs us Q I r h;obtain⟨e,h⟩:=h;subst e;cases r;exact assignInOrder_nil ⟨σ,H,I,h⟩
theorem Ja{e:Expr}{es:List Expr}{t:TG}{u:TGs}(h1:PG X e t)(h2:PGs X es u)
  (hs:(assignEach (e::es) X.env).map (·.2)=assign e X.env::(assignEach es X.env).map (·.2):=by rfl):PGs X (e::es) (qgX t u):=by
 intro pins s σ H vs us Q I r h;obtain⟨v,vr,e1,h⟩:=h;subst e1
 cases r with
 |cons r rr=>rw[hs];refine assignInOrder_cons (thn (h1 pins s σ H _ _ _ I r h) λ_ s1 hq1=>?_);obtain⟨σ1,H1,I1,q1⟩:=hq1;exact h2 pins s1 σ1 H1 _ _ Q I1 rr q1
noncomputable def qiL(K:Frag)(n:Nat)(t:TGs):TG:=λv σ H Q=>∃a xs,v=.ref a/\SqT K H a xs/\xs.length=n/\t xs σ H Q
theorem qbp{es:List Expr}{k:Nat}{t:TGs}{n:Nat}(hc:X.calm=true)(h:PGs X es t)
  (hn:(assignEach es X.env).length=n:=by rfl) (hst:(assignEach es X.env).findIdx? (·.1)=none:=by rfl):PG X (.Tuple es k pos) (qiL X.K n t):=by
 intro pins s σ H v u Q I r hw;obtain⟨a,xs,e1,hq,hl,hw⟩:=hw;subst e1;cases r;obtain⟨its,rv,ht,hz⟩:=I.tuple hq;refine assign_Tuple_tuple (I.ok.hd hc) ht (by simp[hn,<-hl,rv.length]) hst λh' hx=>?_;have I1:Inv X pins σ H { s with heap:=h' }:=I.kept (t':=s.toks) λb o e=>hx b o (Nat.ne_of_lt (Heap.lt_size e)) e;exact h pins _ σ H xs _ Q I1 (by simpa using rv) hw
def qgF(te:TE)(g:TG):TS:=λD σ H=>te σ H λx H1=>g x σ H1 D.nx
theorem qem{tg e:Expr}{te:TE}{g:TG}(he:PE X e te)(hg:PG X tg g)(hs:swapsWithSole [tg] e pos.line X.env=pure false:=by rfl)(hw:swappedStores [tg] e X.env=pure none:=by rfl)
  (h1:(assignEach [tg] X.env).map (·.2)=[assign tg X.env]:=by rfl):PS X (.Assign [tg] e pos) (qgF te g):=by
 intro pins s σ H D I h;refine wpAny_Assign_stores (thn (he pins s σ H _ I h) λv s1 hz13=>?_) hs hw;obtain⟨x,H1,I1,r1,q1⟩:=hz13;rw[h1];exact thn (hg pins s1 σ H1 x v _ I1 r1 q1) λ_ s2 q=>q
theorem jb{i:Nat}{x:Str}{e:Expr}{te:TE}{pos':Pos}(hN:X.N.Nodup)(hi:X.N[i]?=some x)(hx:Loc X.env.scope x)(he:PE X e te)(hs:swapsWith e (some (.Name x pos')) pos.line X.env=pure false:=by rfl)(hf:X.fn x=true\/X.env.scope.names.lookup x=some .local:=by first | exact .inl rfl | exact .inr rfl | assumption) :
  PS X (.Assign [.Name x pos'] e pos) (qgF te (QU i)):=by
 intro pins s σ H D I h;refine wpAny_Assign_Name (thn (he pins s σ H _ I h) λv s1 hz14=>?_) hs;obtain⟨y,H1,I1,r1,q1⟩:=hz14;exact YW I1 hN hi hx r1 (λs2 I2=>⟨_,H1,I2,q1⟩) hf
end
structure It where
 go:Nat->Hp->Prop
 yld:Nat->Hp->V->Hp->Prop
 stop:Nat->Hp->Prop
noncomputable def Qw(X:Cx)(pins:PP)(H:Hp)(b:Addr):Prop:=
 H b=none/\b≠X.env.locals/\b∉X.fs/\(b∈X.ex\/X.s₀.heap.objs.size<=b)/\(∀x c,X.env.cells.lookup x=some c->c≠b)/\∀p∈X.pn++pins,p.1≠b
theorem Inv.fpOk{X:Cx}{pins:PP}{σ:St}{H H':Hp}{s:Shared}{b:Addr}(I:Inv X pins σ H s)(hb:s.heap.objs.size<=b)(hn:H' b=none):Qw X pins H' b:=by
 refine⟨hn,Nat.ne_of_gt (Nat.lt_of_lt_of_le I.lt hb),I.nofs hb,.inr (Nat.le_trans I.sz hb),λx c e z=>?_,λp hp z=>?_⟩
 ·obtain⟨v,q⟩:=I.cell x c e;exact absurd (Nat.lt_of_lt_of_le q.lt (by rw[z];exact hb)) (Nat.lt_irrefl _)
 ·exact absurd (Nat.lt_of_lt_of_le (Heap.lt_size (I.pin p hp).1) (by rw[z];exact hb)) (Nat.lt_irrefl _)
structure Turn(P:Program)(w:World)(K:Frag)(tg:Expr)(J:It)(fp:List Addr)(it:Addr)(tn:Nat->Heap->Prop):Prop where
 mem:it∈fp
 obj:∀i h,tn i h->∀b∈fp,∃o,h.get? b=some o/\∀v,o.data≠.cell v
 keep:∀i h h',tn i h->(∀b∈fp,∀o,h.get? b=some o->h'.get? b=some o)->tn i h'
 item:∀(X:Cx),X.prog=P->X.w=w->X.K=K->X.calm=true->∀(i:Nat) (pins:PP) (s:Shared) (σ:St) (H:Hp) (E:PQ),Inv X pins σ H s->(∀b∈fp,Qw X pins H b)->tn i s.heap->J.go i H->
  wpAny (model P w) X.A (pyNext (.ref it)) (λr s1=>∃u,r=some u/\
   wpAny (model P w) X.A (letOwnedTupleGo tg (.ref it) u) (λ_ s2=>∃x H',Inv X pins σ H' s2/\qC x u/\J.yld i H x H'/\tn (i+1) s2.heap/\∀b∈fp,H' b=none) E s1) E s
 done:∀(X:Cx),X.prog=P->X.w=w->X.K=K->X.calm=true->∀(i:Nat) (pins:PP) (s:Shared) (σ:St) (H:Hp) (E:PQ),Inv X pins σ H s->(∀b∈fp,Qw X pins H b)->tn i s.heap->J.stop i H->
  wpAny (model P w) X.A (pyNext (.ref it)) (λr s1=>r=none/\Inv X pins σ H s1) E s
 self:∀(A:Around) (i:Nat) (s:Shared) (Q:PQ) (E:PQ),tn i s.heap->Q (.ref it) s->wpAny (model P w) A (pyIter (.ref it)) Q E s
abbrev TI:=St->Hp->(It->Hp->Prop)->Prop
noncomputable def PIE(X:Cx)(pins:PP)(σ:St)(tg:Expr)(R:It->Hp->Prop)(itv:Value)(s2:Shared):Prop:=
 ∃(it:Addr) (fp:List Addr) (tn:Nat->Heap->Prop) (J:It) (H':Hp),itv=.ref it/\Inv X pins σ H' s2/\Turn X.prog X.w X.K tg J fp it tn/\tn 0 s2.heap/\(∀b∈fp,Qw X pins H' b)/\R J H'
noncomputable def PI(X:Cx)(tg iter:Expr)(wi:TI):Prop:=
 ∀(pins:PP) (s:Shared) (σ:St) (H:Hp) (R:It->Hp->Prop),Inv X pins σ H s->wi σ H R->
  wpAny (model X.prog X.w) X.A (eval iter X.env) (λv s1=>wpAny (model X.prog X.w) X.A (pyIter v) (PIE X pins σ tg R) X.xe s1) X.xe s
theorem qap{M:Model}{A:Around}{E:PQ}{s:Shared}{tg:Expr}{it:Addr}{u:Value}{o:Obj}{n:String}{vs:Array Value}{Q:Unit->Shared->Prop}(ho:s.heap.get? it=some o)(hc:o.cls=.type n)(hd:o.data=.fields vs)
  (hn:["enumerate","zip","dict_itemiterator","dict_reverseitemiterator","odict_iterator","itertools.zip_longest","itertools.pairwise"].contains n=false) (hQ:Q () s):wpAny M A (letOwnedTupleGo tg (.ref it) u) Q E s:=by
 unfold letOwnedTupleGo
 cases tg<;>first
  | exact wpAny_pure hQ
  | (cases u<;>first
    | exact wpAny_pure hQ
    | (refine wpAny_bind (wpAny_load ho ?_)
       rw[hc,hd];show wpAny M A (if (["enumerate","zip","dict_itemiterator","dict_reverseitemiterator","odict_iterator","itertools.zip_longest","itertools.pairwise"].contains n&&vs[0]? == some (rawInt _))=true then _ else _) Q E s;rw[if_neg (by intro h;rw[hn,Bool.false_and] at h;cases h)];exact wpAny_pure hQ))
noncomputable def Itl(K:Frag)(a:Addr):It:=
 ⟨λi H=>∃xs x,SqL K H a xs/\xs[i]?=some x,λi H x H'=>H'=H/\∀xs,SqL K H a xs->xs[i]?=some x,λi H=>∃xs,SqL K H a xs/\xs.length<=i⟩
noncomputable def Itt(K:Frag)(a:Addr):It:=
 ⟨λi H=>∃xs x,SqT K H a xs/\xs[i]?=some x,λi H x H'=>H'=H/\∀xs,SqT K H a xs->xs[i]?=some x,λi H=>∃xs,SqT K H a xs/\xs.length<=i⟩
def Itr(lo:Int)(n:Nat):It:=⟨λi _=>i < n,λi H x H'=>H'=H/\x=.int (lo+i),λi _=>n<=i⟩
theorem QW{P:Program}{w:World}{K:Frag}{tg:Expr}(a it:Addr):Turn P w K tg (Itl K a) [it] it (λi h=>h.IsListIter it a i) where
 mem:=by simp
 obj:=λi h st b hb=>by
  have e:b=it:=by simpa using hb
  subst e;obtain⟨o,e,c,d⟩:=st;exact⟨o,e,λv z=>by rw[d] at z;cases z⟩
 keep:=λi h h' st k=>st.at λo e=>k it (by simp) o e
 item:=by intro X hP hw hK hc i pins s σ H E I hf st hg;subst hP hw hK;obtain⟨xs,x,hq,hx⟩:=hg;obtain⟨its,rv,p,hz⟩:=I.list hq;obtain⟨u,hu,ru⟩:=rv.get hx;obtain⟨f0,f1,f2,f3,f4,f5⟩:=hf it (by simp);refine wpAny_pyNext_list_item st p.isList (x:=u) (by simpa using hu) λh' st' sb=>?_;have I1:Inv X pins σ H { s with heap:=h' }:=I.turned (t':=s.toks) (λb o hb e=>(sb.2 b hb).trans e) f0 f1 f3 f4 f5;obtain⟨o,e,c,d⟩:=id st';exact⟨u,rfl,qap (s:={ s with heap:=h' }) e c d (2:) ⟨x,H,I1,ru,⟨rfl,λys hy=>by rw[I.list_inj hy hq];exact hx⟩,st',λb hb=>(hf b hb).1⟩⟩
 done:=by intro X hP hw hK hc i pins s σ H E I hf st hg;subst hP hw hK;obtain⟨xs,hq,hx⟩:=hg;obtain⟨its,rv,p,hz⟩:=I.list hq;obtain⟨f0,f1,f2,f3,f4,f5⟩:=hf it (by simp);have hl:=rv.length;exact wpAny_pyNext_list_end (I.ok.hd hc) st p.isList (by simp;lia) λh' eb=>⟨rfl,I.turned (t':=s.toks) (λb o hb e=>eb b o hb e) f0 f1 f3 f4 f5⟩
 self:=λ_ _ _ _ _ st h=>wpAny_pyIter_listiter st h
theorem Qx{P:Program}{w:World}{K:Frag}{tg:Expr}(a it:Addr):Turn P w K tg (Itt K a) [it] it (λi h=>h.IsTupleIter it a i) where
 mem:=by simp
 obj:=λi h st b hb=>by
  have e:b=it:=by simpa using hb
  subst e;obtain⟨o,e,c,d⟩:=st;exact⟨o,e,λv z=>by rw[d] at z;cases z⟩
 keep:=λi h h' st k=>st.at λo e=>k it (by simp) o e
 item:=by intro X hP hw hK hc i pins s σ H E I hf st hg;subst hP hw hK;obtain⟨xs,x,hq,hx⟩:=hg;obtain⟨its,rv,p,hz⟩:=I.tuple hq;obtain⟨u,hu,ru⟩:=rv.get hx;obtain⟨f0,f1,f2,f3,f4,f5⟩:=hf it (by simp);refine wpAny_pyNext_tuple_item st (show s.heap.IsTuple a its.toArray from p) (x:=u) (by simpa using hu) λh' st' sb=>?_;have I1:Inv X pins σ H { s with heap:=h' }:=I.turned (t':=s.toks) (λb o hb e=>(sb.2 b hb).trans e) f0 f1 f3 f4 f5;obtain⟨o,e,c,d⟩:=id st';exact⟨u,rfl,qap (s:={ s with heap:=h' }) e c d (2:) ⟨x,H,I1,ru,⟨rfl,λys hy=>by rw[I.tuple_inj hy hq];exact hx⟩,st',λb hb=>(hf b hb).1⟩⟩
 done:=by intro X hP hw hK hc i pins s σ H E I hf st hg;subst hP hw hK;obtain⟨xs,hq,hx⟩:=hg;obtain⟨its,rv,p,hz⟩:=I.tuple hq;obtain⟨f0,f1,f2,f3,f4,f5⟩:=hf it (by simp);have hl:=rv.length;exact wpAny_pyNext_tuple_end (I.ok.hd hc) st (show s.heap.IsTuple a its.toArray from p) (by simp;lia) λh' eb=>⟨rfl,I.turned (t':=s.toks) (λb o hb e=>eb b o hb e) f0 f1 f3 f4 f5⟩
 self:=λ_ _ _ _ _ st h=>wpAny_pyIter_tupleiter st h
theorem Qy{P:Program}{w:World}{K:Frag}{tg:Expr}(it:Addr)(lo:Int)(n:Nat):Turn P w K tg (Itr lo n) [it] it (λi h=>IsRangeIter h it (lo+(i:Nat) * 1) ((n:Int) - (i:Nat)) 1) where
 mem:=by simp
 obj:=λi h st b hb=>by
  have e:b=it:=by simpa using hb
  subst e
  exact⟨_,st,λv z=>by have z':Data.fields _=Data.cell v:=z;cases z'⟩
 keep:=λi h h' st k=>k it (by simp) _ st
 item:=by intro X hP hw hK hc i pins s σ H E I hf st hg;subst hP hw hK;obtain⟨f0,f1,f2,f3,f4,f5⟩:=hf it (by simp);have W:=Walks.range (prog:=X.prog) (w:=X.w) (I.ok.hd hc) it lo 1 n;refine W.item i s _ _ hg st λv h' tk hv st' kk=>?_;obtain⟨t,rfl⟩:=hv;have I1:Inv X pins σ H { s with heap:=h',toks:=tk }:=I.turned (λb o hb e=>kk b o (by simpa using hb) e) f0 f1 f3 f4 f5;refine⟨_,rfl,qap (s:={ s with heap:=h',toks:=tk }) (n:="range_iterator") st' rfl rfl (2:) ⟨.int (lo+i),H,I1,⟨t,?_⟩,⟨rfl,rfl⟩,st',λb hb=>(hf b hb).1⟩⟩;rw[Int.mul_one]
 done:=by intro X hP hw hK hc i pins s σ H E I hf st hg;subst hP hw hK;obtain⟨f0,f1,f2,f3,f4,f5⟩:=hf it (by simp);exact wpAny_pyNext_range_end (I.ok.hd hc) st (by have:n<=i:=hg;lia) λh' eb=>⟨rfl,I.turned (t':=s.toks) (λb o hb e=>eb b o hb e) f0 f1 f3 f4 f5⟩
 self:=λ_ _ _ _ _ st h=>wpAny_pyIter_rangeiter st h
end L2
namespace L2
open PySem PySem.Spec PyProof.Rows
section
variable{X:Cx}{tg:Expr}
theorem qaq{pins:PP}{σ:St}{H:Hp}{s:Shared}{R:It->Hp->Prop}{E:PQ}{lo hi:Int}{t u v:Tok}{tk:Nat}(I:Inv X pins σ H s)(h1:-(2 ^ 62)<=lo)(h2:lo < 2 ^ 62)(h3:-(2 ^ 62)<=hi)(h4:hi < 2 ^ 62)
  (q:R (Itr lo (hi - lo).toNat) H):wpAny (model X.prog X.w) X.A (pyIter (.ref s.heap.objs.size)) (PIE X pins σ tg R) E { s with heap:=s.heap.push { cls:=.type "range",data:=.fields #[.int lo t,.int hi u,.int 1 v] },toks:=tk }:=by
 refine wpAny_pyIter_range (IsRange.new ..) (small_one h1 h2 h3 h4) ?_;have I1:Inv X pins σ H { s with heap:=s.heap.push { cls:=.type "range",data:=.fields #[.int lo t,.int hi u,.int 1 v] },toks:=tk }:=I.kept λb o e=>Heap.get?_push_of_some _ e
 refine⟨(s.heap.push { cls:=.type "range",data:=.fields #[.int lo t,.int hi u,.int 1 v] }).objs.size,[(s.heap.push { cls:=.type "range",data:=.fields #[.int lo t,.int hi u,.int 1 v] }).objs.size],_,_,H,rfl,
  I1.kept (t':=tk) λb o e=>Heap.get?_push_of_some _ e,Qy _ lo (hi - lo).toNat,?_,λb hb=>?_,q⟩
 ·have e1:lo+((0:Nat):Int) * 1=lo:=by simp
  have e2:(((hi - lo).toNat:Nat):Int) - ((0:Nat):Int)=Builtin.Range.rangeSize lo hi 1:=by rw[rangeSize_one];split<;>lia
  show IsRangeIter _ _ (lo+((0:Nat):Int) * 1) ((((hi - lo).toNat:Nat):Int) - ((0:Nat):Int)) 1;rw[e1,e2];exact Heap.get?_push_size _ rfl
 ·have e:b=(s.heap.push { cls:=.type "range",data:=.fields #[.int lo t,.int hi u,.int 1 v] }).objs.size:=by simpa using hb
  subst e;exact I1.fpOk (Nat.le_refl _) (I1.hok.fresh (Nat.le_refl _))
noncomputable def qgY(ta:TA):TI:=λσ H R=>ta σ H λvs H1=>∃j:Int,vs=[.int j]/\-(2 ^ 62)<=j/\j < 2 ^ 62/\R (Itr 0 j.toNat) H1
theorem QX{a:Expr}{ta:TA}{p pos:Pos}(hg:Gl X "range")(hm:X.mg "range" = none)(ha:PA X [a] ta)(hs:starEach [a] X.env=[(false,eval a X.env)]:=by rfl):PI X tg (.Call (.Name "range" p) [a] [] pos) (qgY ta):=by
 intro pins s σ H R I h;refine Call_ (JG I hg hm boot_range (PyProof.Rows.callWith_type1 (thn (ha pos pins s σ H _ I h) λus s1 hz17=>?_) hs rfl));obtain⟨vs,H1,I1,r1,q1⟩:=hz17;obtain⟨j,e,q1,q2,q⟩:=q1;subst e
 cases r1 with
 |cons r rr=>cases rr;obtain⟨t,rfl⟩:=r;exact call_range_1 (qaq I1 (by lia) (by lia) q1 q2 (by simpa using q))
noncomputable def qiM(wi:TI)(g:TG)(tb:TS):TS:=λD σ H=>wi σ H λJ H1=>∃W:Nat->Nat->St->Hp->Prop,(∃m,W 0 m σ H1)/\∀i m σ H,W i m σ H->
 (J.stop i H/\D.nx σ H)\/(J.go i H/\∃N:St->Hp->Prop,(∀σ' H',N σ' H'->∃m',m' < m/\W (i+1) m' σ' H')/\∀x H',J.yld i H x H'->g x σ H' λσ2 H2=>tb { D with nx:=N,ct:=N,bk:=D.nx } σ2 H2)
def JH(fp:List Addr)(h:Heap):List (Addr×Obj):=fp.filterMap λb=>(h.get? b).map λo=>(b,o)
theorem zK{fp:List Addr}{h:Heap}{b:Addr}{o:Obj}(hb:b∈fp)(e:h.get? b=some o):(b,o)∈JH fp h:=List.mem_filterMap.mpr ⟨b,hb,by rw[e];rfl⟩
theorem QY{fp:List Addr}{h:Heap}{p:Addr×Obj}(hp:p∈JH fp h):p.1∈fp/\h.get? p.1=some p.2:=by
 obtain⟨b,hb,e⟩:=List.mem_filterMap.mp hp
 cases q:h.get? b with
 |none=>rw[q] at e;cases e
 |some o=>rw[q] at e;have e':(b,o)=p:=Option.some.inj e;subst e';exact⟨hb,q⟩
theorem Inv.pinned{pins:PP}{σ:St}{H:Hp}{s:Shared}{fp:List Addr}(I:Inv X pins σ H s)(hf:∀b∈fp,Qw X pins H b)(ho:∀b∈fp,∃o,s.heap.get? b=some o/\∀v,o.data≠.cell v):Inv X (pins++JH fp s.heap) σ H s:=
 I.pins_of λp hp=>(List.mem_append.mp hp).elim (λz=>I.pin p (List.mem_append_right _ z)) λz=>by obtain⟨hb,e⟩:=QY z;obtain⟨f0,f1,f2,_⟩:=hf p.1 hb;obtain⟨o,e',d⟩:=ho p.1 hb;rw[e] at e';cases e';exact⟨e,f0,f1,f2,d⟩
theorem Inv.unpinned{pins pl:PP}{σ:St}{H:Hp}{s:Shared}(I:Inv X (pins++pl) σ H s):Inv X pins σ H s:=I.pins_of λp hp=>I.pin p (List.mem_append_right _ (List.mem_append_left _ hp))
theorem qbq{iter:Expr}{body:List Stmt}{wi:TI}{g:TG}{tb:TS}{pos:Pos}(hp:PassesOwn (model X.prog X.w) X.A X.env X.xe)(hc:X.calm=true)(hi:PI X tg iter wi)(hg:PG X tg g)(hb:PSs X body tb)
  (hs:∀x,foldedSetIterable iter X.env x=pure x:=by intro _;rfl):PS X (.For tg iter body [] pos) (qiM wi g tb):=by
 intro pins s σ H D I h;refine wpAny_For (thn (hi pins s σ H _ I h) λv s1 h1=>thn h1 λitv s2 h2=>?_) hs;obtain⟨it,fp,tn,J,H2,e,I2,T,st2,f2,W,⟨m0,w0⟩,turn⟩:=h2;subst e;have stat:∀{H':Hp},(∀b∈fp,H' b=none)->∀b∈fp,Qw X pins H' b:=λhn b hb=>⟨hn b hb,(f2 b hb).2⟩;refine codeAny_forLoop_any (λn s'=>∃i σ' H',Inv X pins σ' H' s'/\tn i s'.heap/\(∀b∈fp,H' b=none)/\W i n σ' H') ?_ m0 ⟨0,σ,H2,I2,st2,λb hb=>(f2 b hb).1,w0⟩;rintro n s3 ⟨i,σ3,H3,I3,st3,fr3,w3⟩;rcases turn i n σ3 H3 w3 with ⟨stop,qn⟩ | ⟨go,N,hN,step⟩
 ·refine wpAny_passesOwn hp (thn (T.done X rfl rfl rfl hc i pins s3 σ3 H3 X.xe I3 (stat fr3) st3 stop) λr s4 hq1=>?_);obtain⟨hr,I4⟩:=hq1;subst hr;exact wpAny_execs_nil ⟨σ3,H3,I4,qn⟩
 ·refine wpAny_passesOwn hp (thn (T.item X rfl rfl rfl hc i pins s3 σ3 H3 X.xe I3 (stat fr3) st3 go) λr s4 hq1=>?_);obtain⟨u,hr,h4⟩:=hq1;subst hr;refine wpAny_passesOwn hp (thn h4 λ_ s5 hq1=>?_);obtain⟨x,H5,I5,r5,y5,st5,fr5⟩:=hq1;have I5':=I5.pinned (stat fr5) (T.obj _ _ st5);refine wpAny_passesOwn hp (thn (hg _ s5 σ3 H5 x u _ I5' r5 (step x H5 y5)) λ_ s6 hq1=>?_);obtain⟨σ6,H6,I6,q6⟩:=hq1;refine wpAny_passesOwn hp (thn (hb _ s6 σ6 H6 _ I6 q6) λf s7 q7=>?_)
  have again:∀{σ7:St} {H7:Hp},Inv X (pins++JH fp s5.heap) σ7 H7 s7->N σ7 H7->∃m,m < n/\∃i σ' H',Inv X pins σ' H' s7/\tn i s7.heap/\(∀b∈fp,H' b=none)/\W i m σ' H':=λ{σ7 H7} I7 n7=>by obtain⟨m',hm,w7⟩:=hN σ7 H7 n7;refine⟨m',hm,i+1,σ7,H7,I7.unpinned,T.keep _ _ _ st5 λb hb o e=>(I7.pin (b,o) (List.mem_append_right _ (List.mem_append_right _ (zK hb e)))).1,λb hb=>?_,w7⟩;obtain⟨o,e,d⟩:=T.obj _ _ st5 b hb;exact(I7.pin (b,o) (List.mem_append_right _ (List.mem_append_right _ (zK hb e)))).2.1
  cases f with
  |next=>obtain⟨σ7,H7,I7,n7⟩:=q7;exact again I7 n7
  |cont=>obtain⟨σ7,H7,I7,n7⟩:=q7;exact again I7 n7
  |brk=>obtain⟨σ7,H7,I7,q7⟩:=q7;exact⟨σ7,H7,I7.unpinned,q7⟩
  |ret v=>obtain⟨x7,σ7,H7,I7,r7,q7⟩:=q7;exact⟨x7,σ7,H7,I7.unpinned,r7,q7⟩
end
end L2
namespace L2
open PySem PySem.Spec PyProof.Rows
abbrev R2:=V->V->Hp->VK->Prop
noncomputable def OpR(X:Cx)(f:Value->Value->Sem Value)(r:R2):Prop:=
 ∀(pins:PP) (s:Shared) (σ:St) (H:Hp) (x y:V) (v u:Value) (Q:VK),Inv X pins σ H s->qC x v->qC y u->r x y H Q->
  wpAny (model X.prog X.w) X.A (f v u) (EP X pins σ Q) X.xe s
noncomputable def UnR(X:Cx)(f:Value->Sem Value)(r:V->Hp->VK->Prop):Prop:=
 ∀(pins:PP) (s:Shared) (σ:St) (H:Hp) (x:V) (v:Value) (Q:VK),Inv X pins σ H s->qC x v->r x H Q->
  wpAny (model X.prog X.w) X.A (f v) (EP X pins σ Q) X.xe s
noncomputable def zW(X:Cx)(f:Value)(r:List V->Hp->VK->Prop):Prop:=
 ∀(pins:PP) (s:Shared) (σ:St) (H:Hp) (xs:List V) (us:List Value) (Q:VK),Inv X pins σ H s->qy xs us->r xs H Q->
  wpAny (model X.prog X.w) X.A (call f us) (EP X pins σ Q) X.xe s
noncomputable def qiN(X:Cx)(r:V->Hp->(Bool->Hp->Prop)->Prop):Prop:=
 ∀(pins:PP) (s:Shared) (σ:St) (H:Hp) (x:V) (v:Value) (Q:Bool->Hp->Prop),Inv X pins σ H s->qC x v->r x H Q->
  wpAny (model X.prog X.w) X.A (truthy v) (TP X pins σ Q) X.xe s
def tOp(r:R2)(ta tb:TE):TE:=λσ H Q=>ta σ H λx H1=>tb σ H1 λy H2=>r x y H2 Q
def tUn(r:V->Hp->VK->Prop)(ta:TE):TE:=λσ H Q=>ta σ H λx H1=>r x H1 Q
noncomputable def rI(C:Int->Int->Prop)(g:Int->Int->V):R2:=λx y H Q=>∃i j,x=.int i/\y=.int j/\C i j/\Q (g i j) H
def rI0(g:Int->Int->V):R2:=λx y H Q=>∃i j,x=.int i/\y=.int j/\Q (g i j) H
def rU(g:Int->V):V->Hp->VK->Prop:=λx H Q=>∃i,x=.int i/\Q (g i) H
section
variable{X:Cx}{a b c:Expr}{ta tb tc:TE}{pos:Pos}
theorem qgZ(ha:PE X a ta)(hb:PE X b tb){pins:PP}{s:Shared}{σ:St}{H:Hp}{R:V->V->Hp->Prop}(I:Inv X pins σ H s)
  (h:ta σ H λx H1=>tb σ H1 λy H2=>R x y H2) {Q:PQ} {f:Value->Value->Sem Value}
  (hf:∀v u s2 x y H2,Inv X pins σ H2 s2->qC x v->qC y u->R x y H2->wpAny (model X.prog X.w) X.A (f v u) Q X.xe s2) :
  wpAny (model X.prog X.w) X.A (eval a X.env) (λv s₁=>wpAny (model X.prog X.w) X.A (eval b X.env) (λu s₂=>wpAny (model X.prog X.w) X.A (f v u) Q X.xe s₂) X.xe s₁) X.xe s:=by
 refine thn (ha pins s σ H _ I h) λv s1 hq1=>?_;obtain⟨x,H1,I1,r1,q1⟩:=hq1;refine thn (hb pins s1 σ H1 _ I1 q1) λu s2 hq1=>?_;obtain⟨y,H2,I2,r2,q2⟩:=hq1;exact hf v u s2 x y H2 I2 r1 r2 q2
theorem qg0{op:Operator}{r:R2}(ho:OpR X (binaryOp op) r)(ha:PE X a ta)(hb:PE X b tb):PE X (.BinOp a op b pos) (tOp r ta tb):=by intro pins s σ H Q I h;exact wpAny_BinOp (qgZ ha hb I h λv u s2 x y H2 I2 rx ry q=>ho pins s2 σ H2 x y v u Q I2 rx ry q)
theorem qg1{op:UnaryOp}{r:V->Hp->VK->Prop}(ho:UnR X (unaryOp op) r)(ha:PE X a ta):PE X (.UnaryOp op a pos) (tUn r ta):=by intro pins s σ H Q I h;refine UnaryOp_ (thn (ha pins s σ H _ I h) λv s1 hz18=>?_);obtain⟨x,H1,I1,r1,q1⟩:=hz18;exact ho pins s1 σ H1 x v Q I1 r1 q1
theorem opI{f:Value->Value->Sem Value}{C:Int->Int->Prop}{g:Int->Int->Int}
  (rule:∀(i j:Int) (t u:Tok) (s:Shared) (Q:PQ) (E:PQ),C i j->Q (.int (g i j) s.toks) { s with toks:=s.toks+1 }->wpAny (model X.prog X.w) X.A (f (.int i t) (.int j u)) Q E s) :
  OpR X f (rI C λi j=>.int (g i j)):=by
 intro pins s σ H x y v u Q I rx ry h;obtain⟨i,j,rfl,rfl,hc,q⟩:=h;obtain⟨t,rfl⟩:=rx;obtain⟨t',rfl⟩:=ry;exact rule i j t t' s _ _ hc ⟨.int (g i j),H,I.tok _,⟨_,rfl⟩,q⟩
theorem qib{f:Value->Value->Sem Value}{g:Int->Int->Int}
  (rule:∀(i j:Int) (t u:Tok) (s:Shared) (Q:PQ) (E:PQ),Q (.int (g i j) s.toks) { s with toks:=s.toks+1 }->wpAny (model X.prog X.w) X.A (f (.int i t) (.int j u)) Q E s) :
  OpR X f (rI0 λi j=>.int (g i j)):=by
 intro pins s σ H x y v u Q I rx ry h;obtain⟨i,j,rfl,rfl,q⟩:=h;obtain⟨t,rfl⟩:=rx;obtain⟨t',rfl⟩:=ry;exact rule i j t t' s _ _ ⟨.int (g i j),H,I.tok _,⟨_,rfl⟩,q⟩
theorem qgG{f:Value->Value->Sem Value}{g:Int->Int->Bool}
  (rule:∀(i j:Int) (t u:Tok) (s:Shared) (Q:PQ) (E:PQ),Q (.bool (g i j)) s->wpAny (model X.prog X.w) X.A (f (.int i t) (.int j u)) Q E s) :
  OpR X f (rI0 λi j=>.bl (g i j)):=by
 intro pins s σ H x y v u Q I rx ry h;obtain⟨i,j,rfl,rfl,q⟩:=h;obtain⟨t,rfl⟩:=rx;obtain⟨t',rfl⟩:=ry;exact rule i j t t' s _ _ ⟨.bl (g i j),H,I,rfl,q⟩
def qg2(i j:Int):Prop:=j≠0/\j.natAbs < 1073741824
def qiO(i j:Int):Prop:=0<=j/\j<=1000000/\i.natAbs < 2 ^ 64
def qgH(i j:Int):Prop:=(-(2 ^ 64) < i/\i < 2 ^ 64)\/(-(2 ^ 64) < j/\j < 2 ^ 64)
theorem qgH.ok{i j:Int}(h:qgH i j):IntMulOk i j:=by
 rcases h with ⟨h1,h2⟩ | ⟨h1,h2⟩
 ·exact .of_left (intBits_le_64 h1 h2)
 ·exact .of_right (intBits_le_64 h1 h2)
theorem qen:OpR X (binaryOp .Add) (rI0 λi j=>.int (i+j)):=qib λ_ _ _ _ _ _ _ q=>add_int q
theorem qeo:OpR X (binaryOp .Sub) (rI0 λi j=>.int (i - j)):=qib λ_ _ _ _ _ _ _ q=>sub_int q
theorem qep:OpR X (binaryOp .Mult) (rI qgH λi j=>.int (i * j)):=opI λ_ _ _ _ _ _ _ hc q=>mul_int q hc.ok
theorem qar:OpR X (binaryOp .FloorDiv) (rI qg2 λi j=>.int (i.fdiv j)):=opI λ_ _ _ _ _ _ _ hc q=>floordiv_int hc.1 q (.inl (PyProof.noPylong_small hc.2))
theorem qca:OpR X (binaryOp .Mod) (rI (λ_ j=>j≠0) λi j=>.int (i.fmod j)):=opI λ_ _ _ _ _ _ _ hc q=>mod_int' hc q
theorem qeq:OpR X (binaryOp .Pow) (rI qiO λi j=>.int (i ^ j.toNat)):=opI λ_ _ _ _ _ _ _ hc q=>pow_int_small hc.1 hc.2.1 hc.2.2 q
theorem unI{f:Value->Sem Value}{g:Int->Int}
  (rule:∀(i:Int) (t:Tok) (s:Shared) (Q:PQ) (E:PQ),Q (.int (g i) s.toks) { s with toks:=s.toks+1 }->wpAny (model X.prog X.w) X.A (f (.int i t)) Q E s) :
  UnR X f (rU λi=>.int (g i)):=by
 intro pins s σ H x v Q I rx h;obtain⟨i,rfl,q⟩:=h;obtain⟨t,rfl⟩:=rx;exact rule i t s _ _ ⟨.int (g i),H,I.tok _,⟨_,rfl⟩,q⟩
theorem qer:UnR X (unaryOp .USub) (rU λi=>.int (-i)):=unI λ_ _ _ _ _ q=>neg_int q
end
section
variable{X:Cx}{a b c:Expr}{ta tb tc:TE}{pos:Pos}
theorem YX{pins:PP}{σ:St}{H:Hp}{s:Shared}{Q:VK}{k k':Bool}(I:Inv X pins σ H s)(q:Q (.bl k) H)(e:k=k'):EP X pins σ Q (.bool k') s:=by subst e;exact⟨.bl k,H,I,rfl,q⟩
theorem qg3:OpR X (compareOp .Lt) (rI0 λi j=>.bl (decide (i < j))):=qgG λ_ _ _ _ _ _ _ q=>lt_int q
theorem qg4:OpR X (compareOp .LtE) (rI0 λi j=>.bl (decide (i<=j))):=qgG λ_ _ _ _ _ _ _ q=>le_int q
theorem qg5:OpR X (compareOp .Gt) (rI0 λi j=>.bl (decide (j < i))):=qgG λ_ _ _ _ _ _ _ q=>gt_int q
theorem qg6:OpR X (compareOp .GtE) (rI0 λi j=>.bl (decide (j<=i))):=qgG λ_ _ _ _ _ _ _ q=>ge_int q
theorem QZ:OpR X (compareOp .In) (λx y H Q=>∃i j,x=.str i/\y=.str j/\Q (.bl (!(Builtin.Str.occurrences j i 0 j.length 1).isEmpty)) H):=by intro pins s σ H x y v u Q I rx ry h;obtain⟨i,j,rfl,rfl,q⟩:=h;obtain⟨t,rfl⟩:=rx;obtain⟨t',rfl⟩:=ry;exact in_str (YX I q rfl)
theorem qes:OpR X (compareOp .Is) (λx y H Q=>y=.non/\Q (.bl (decide (x=.non))) H):=by
 intro pins s σ H x y v u Q I rx ry h;obtain⟨rfl,q⟩:=h;cases ry;refine is_none_gen (YX I q ?_)
 cases x<;>first
  | (cases rx;rfl)
  | (obtain⟨t,rfl⟩:=rx;rfl)
theorem qcb:OpR X (compareOp .IsNot) (λx y H Q=>y=.non/\Q (.bl (!decide (x=.non))) H):=by
 intro pins s σ H x y v u Q I rx ry h;obtain⟨rfl,q⟩:=h;cases ry;refine isnot_none_gen (YX I q ?_)
 cases x<;>first
  | (cases rx;rfl)
  | (obtain⟨t,rfl⟩:=rx;rfl)
theorem JI:OpR X (compareOp .NotIn) (λx y H Q=>∃i j,x=.str i/\y=.str j/\Q (.bl (!(!(Builtin.Str.occurrences j i 0 j.length 1).isEmpty))) H):=by intro pins s σ H x y v u Q I rx ry h;obtain⟨i,j,rfl,rfl,q⟩:=h;obtain⟨t,rfl⟩:=rx;obtain⟨t',rfl⟩:=ry;exact notIn_str (YX I q rfl)
theorem Q0{op:CmpOp}{r:R2}(ho:OpR X (compareOp op) r)(ha:PE X a ta)(hb:PE X b tb)(hm:behindInMarks op b=false):PE X (.Compare a [op] [b] pos) (tOp r ta tb):=by intro pins s σ H Q I h;exact wpAny_Compare1 (qgZ ha hb I h λv u s2 x y H2 I2 rx ry q=>ho pins s2 σ H2 x y v u Q I2 rx ry q) hm
def qg7(t:TE):TT:=λσ H Q=>t σ H λx H'=>∃k,x=.bl k/\Q k H'
theorem Q3{op:CmpOp}{r:R2}(ho:OpR X (compareOp op) r)(ha:PE X a ta)(hb:PE X b tb)(hm:behindInMarks op b=false):PT X (.Compare a [op] [b] pos) (qg7 (tOp r ta tb)):=by intro pins s σ H Q I h;refine wpAny_isTrue_Compare1 (thn (ha pins s σ H _ I h) λv s1 hz19=>?_) hm;obtain⟨x,H1,I1,r1,q1⟩:=hz19;refine thn (hb pins s1 σ H1 _ I1 q1) λu s2 hz20=>?_;obtain⟨y,H2,I2,r2,q2⟩:=hz20;refine thn (ho pins s2 σ H2 x y v u _ I2 r1 r2 q2) λc s3 hz21=>?_;obtain⟨z,H3,I3,r3,k,e,q3⟩:=hz21;subst e;cases r3;exact wpAny_truthy_bool ⟨H3,I3,q3⟩
noncomputable def qgI(K:Frag)(x:V)(H:Hp)(k:Bool):Prop:=
 match x with
 |.non=>k=false
 |.bl b=>k=b
 |.int i=>k=(i != 0)
 |.str y=>y.length<=sizeLine/\k=((y.length:Int) != 0)
 |.byt y=>y.size<=sizeLine/\k=((y.size:Int) != 0)
 |.ref p=>(∃xs,SqL K H p xs/\k = !xs.isEmpty)\/(∃xs,SqT K H p xs/\k = !xs.isEmpty)\/∃kvs,H p=some (.dK kvs)/\k = !kvs.isEmpty
 |_=>False
theorem Qz{κ:Type}{kvs:List (κ×V)}{vs:List (κ×Value)}(r:KV kvs vs):(!vs.isEmpty) = !kvs.isEmpty:=by cases r<;>rfl
theorem yQ{xs:List V}{its:List Value}(r:qy xs its):(!its.toArray.isEmpty) = !xs.isEmpty:=by cases r<;>simp
theorem yR:(sizeLine:Nat) < 2 ^ 63:=by rw[sizeLine_eq];decide
theorem qet:qiN X (λx H Q=>∃k,qgI X.K x H k/\Q k H):=by
 intro pins s σ H x v Q I rx h;obtain⟨k,e,q⟩:=h;have hl:=yR;have hs:sizeLine=16777216:=sizeLine_eq
 cases x with
 |non=>cases rx;have e':k=false:=e;subst e';exact truthy_none ⟨H,I,q⟩
 |bl b=>cases rx;have e':k=b:=e;subst e';exact wpAny_truthy_bool ⟨H,I,q⟩
 |int i=>obtain⟨t,rfl⟩:=rx;have e':k=(i != 0):=e;subst e';exact PySem.P.truthy_int ⟨H,I,q⟩
 |str y=>obtain⟨t,rfl⟩:=rx;obtain⟨hy,e'⟩:y.length<=sizeLine/\k=((y.length:Int) != 0):=e;subst e';exact PySem.P.truthy_str (by lia) ⟨H,I.tok _,q⟩
 |byt y=>obtain⟨t,rfl⟩:=rx;obtain⟨hy,e'⟩:y.size<=sizeLine/\k=((y.size:Int) != 0):=e;subst e';exact PySem.W.truthy_bytes (by lia) ⟨H,I.tok _,q⟩
 |ref p=>
  cases rx;have e':(∃xs,SqL X.K H p xs/\k = !xs.isEmpty)\/(∃xs,SqT X.K H p xs/\k = !xs.isEmpty)\/∃kvs,H p=some (.dK kvs)/\k = !kvs.isEmpty:=e;rcases e' with ⟨xs,hx,e'⟩ | ⟨xs,hx,e'⟩ | ⟨kvs,hx,e'⟩
  ·subst e';obtain⟨its,r,pl,hz⟩:=I.list hx;have hlen:=r.length;exact wpAny_truthy_list pl.isList (by simp only[List.size_toArray];lia) ⟨H,I.tok _,by rw[yQ r];exact q⟩
  ·subst e';obtain⟨its,r,pl,hz⟩:=I.tuple hx;have hlen:=r.length;exact truthy_tuple pl (by simp only[List.size_toArray];lia) ⟨H,I.tok _,by rw[yQ r];exact q⟩
  ·subst e';obtain⟨hz,hS,vs,r,m⟩:kvs.length<=sizeLine/\(p == sysModules)=false/\∃vs,KV kvs vs/\s.heap.DictOf (Yv X.prog X.w) p vs:=I.hok p _ hx;have hlen:kvs.length=vs.length:=Paired.length r;exact wpAny_truthy_dict hS m (by lia) ⟨H,I.tok _,by rw[Qz r];exact q⟩
 |_=>exact(show False from e).elim
theorem qas(ha:PE X a ta)(he:∀whole,isTrue a X.env whole=(do let v<-whole;standAt a.pos;holding [v] (truthy v))) :
  PT X a (λσ H Q=>ta σ H λx H'=>∃k,qgI X.K x H' k/\Q k H'):=by
 intro pins s σ H Q I h;refine isTrue_plain (thn (ha pins s σ H _ I h) λv s1 hz29=>?_) (he _);obtain⟨x,H1,I1,r1,q1⟩:=hz29;exact qet pins s1 σ H1 x v Q I1 r1 q1
theorem QA:OpR X (binaryOp .Add) (λx y H Q=>∃i j,x=.str i/\y=.str j/\i.length+j.length<=sizeLine/\Q (.str (i++j)) H):=by intro pins s σ H x y v u Q I rx ry h;obtain⟨i,j,rfl,rfl,hz,q⟩:=h;obtain⟨t,rfl⟩:=rx;obtain⟨t',rfl⟩:=ry;exact add_str (λt' tk=>⟨.str (i++j),H,I.tok _,⟨_,rfl⟩,q⟩) hz
theorem QB{x:V}{us:List Value}(r:qy [x] us):∃u,us=[u]/\qC x u:=by
 cases r with
 |cons r1 r2=>cases r2;exact⟨_,rfl,r1⟩
theorem Q4{x y:V}{us:List Value}(r:qy [x,y] us):∃u w',us=[u,w']/\qC x u/\qC y w':=by
 cases r with
 |cons r1 r2=>
  cases r2 with
  |cons r3 r4=>cases r4;exact⟨_,_,rfl,r1,r3⟩
theorem Q5(hc:X.calm=true):zW X (.builtin "min") (λxs H Q=>∃i j,xs=[.int i,.int j]/\Q (.int (if j < i then j else i)) H):=by
 intro pins s σ H xs us Q I r h;obtain⟨i,j,rfl,q⟩:=h;obtain⟨u,w',rfl,⟨t,rfl⟩,⟨t',rfl⟩⟩:=Q4 r;refine min_two_ints (I.ok.hd hc) λh' tk k=>⟨_,H,I.kept k,?_,q⟩
 by_cases hj:j < i
 ·rw[if_pos hj,if_pos hj];exact⟨_,rfl⟩
 ·rw[if_neg hj,if_neg hj];exact⟨_,rfl⟩
theorem JJ:zW X (.type "int") (λxs H Q=>(∃i,xs=[.int i]/\Q (.int i) H)\/∃k,xs=[.bl k]/\Q (.int (if k then 1 else 0)) H):=by
 intro pins s σ H xs us Q I r h;rcases h with ⟨i,rfl,q⟩ | ⟨k,rfl,q⟩
 ·obtain⟨u,rfl,t,rfl⟩:=QB r;exact call_int_int ⟨.int i,H,I,⟨_,rfl⟩,q⟩
 ·obtain⟨u,rfl,r1⟩:=QB r;cases r1;exact call_int_bool ⟨.int (if k then 1 else 0),H,I.tok _,⟨_,rfl⟩,q⟩
end
end L2
namespace L2
open PySem PySem.Spec PyProof.Rows
structure ObjM(h:Heap)(x dx C:Addr)(mA:PR):Prop where
 obj:h.get? x=some (PySem.W.instObj C dx)
 ns:h.Ns1 dx mA
 ne:dx≠x
theorem ya{h:Heap}{dx:Addr}{mA:PR}(n:h.Ns1 dx mA):∃od,h.get? dx=some od/\∀name,PySem.W.lookIn name od=some (mA name):=by
 obtain⟨o,es,ep,ho,hd,hk,_,hm⟩:=n;refine⟨o,ho,λname=>?_⟩;have e:=hm name;unfold nsFind findBy at e;rw[<-Array.find?_toList] at e;unfold PySem.W.lookIn;rw[hd];dsimp only;split
 ·rename_i y q;rw[q] at e;exact congrArg some e
 ·rename_i q;rw[q] at e
  have a:es.toList.any (·.refKey)=false:=by rw[List.any_eq_false];intro y hy;obtain⟨z,t,hkey⟩:=hk y (Array.mem_toList_iff.mp hy);simp[DictEntry.refKey,hkey]
  have a':¬ es.toList.any (·.refKey)=true:=by rw[a];exact Bool.false_ne_true
  rw[if_neg a'];exact congrArg some e
theorem ObjM.look{h:Heap}{x dx C:Addr}{mA:PR}(I:ObjM h x dx C mA):∃od,PySem.W.InstAt h x (PySem.W.instObj C dx) C (some od)/\∀name,PySem.W.lookIn name od=some (mA name):=
 let ⟨od,ho,hl⟩:=ya I.ns
 ⟨od,⟨I.obj,rfl,rfl,ho⟩,hl⟩
section
variable{prog:Program}{w:World}{A:Around}{E:PQ}{s:Shared}{K:Frag}{x dx C f:Addr}{mA:PR}{name:Str}{v:Value}
theorem qcc{expr:Bool}{Q:PQ}(X:K.In s.heap)(I:ObjM s.heap x dx C mA)(hg:PySem.W.plainGet K C name=true)(hh:PySem.W.hasDictIn K C=true)
  (ha:PySem.W.findIn K (.ref C) name=some none) (hv:mA name=some v) (hv':PySem.W.handedIn v=true) (h:Q v { s with toks:=s.toks+1 }) :
  wpAny (model prog w) A (getAttr (.ref x) name expr) Q E s:=by
 obtain⟨od,J,hl⟩:=I.look;exact PySem.W.get_value X J (PySem.W.plainGet_of hg).1 (PySem.W.findObj_own hh ha rfl (by rw[hl,hv])) hv' h
theorem qat{pl:Sem Bool}{Q:Value×List Value->Shared->Prop}(X:K.In s.heap)(I:ObjM s.heap x dx C mA)(hg:PySem.W.plainGet K C name=true)
  (hf:PySem.W.findIn K (.ref C) name=some (some (.ref f))) (ht:PySem.W.isFn K (.ref f)=true) (hv:mA name=none) (h:Q (.ref f,[.ref x]) s) :
  wpAny (model prog w) A (getMethod (.ref x) name pl) Q E s:=by
 obtain⟨od,J,hl⟩:=I.look;exact PySem.W.method_fn X J (PySem.W.plainGet_of hg).1 (PySem.W.plainGet_of hg).2 hf (beq_iff_eq.mp ht) (by show(PySem.W.lookIn name od).map (·.isSome)=some false;rw[hl,hv];rfl) h
theorem qcd{ns:List Str}{Q:Unit->Shared->Prop}(X:K.In s.heap)(I:ObjM s.heap x dx C mA)
  (hs:PySem.W.findIn K (.ref C) "__setattr__" = some (some (.builtin "object.__setattr__"))) (hp:PySem.W.plainOver K C=true) (ht:PySem.W.takerIn K C name=some none) (hh:PySem.W.hasDictIn K C=true)
  (hw:PySem.Within mA ns) (hsz:ns.length<=sizeLine)
  (h:∀h',ObjM h' x dx C (λy=>if y=name then some v else mA y)->Heap.SameBut dx s.heap h'->Q () { s with heap:=h',toks:=s.toks+2 }) :
  wpAny (model prog w) A (setAttr (.ref x) name v) Q E s:=by
 obtain⟨od,J,hl⟩:=I.look;refine PySem.W.set_plain X J hs (PySem.W.osa_open (s:={ s with toks:=s.toks+1 }) (r:=none) X J hp ht λb=>?_);obtain⟨cd,hc,hd'⟩:=PySem.W.any_some hh;have hx:s.heap.get? x=some ⟨.ref C,some dx,.plain,#[]⟩:=I.obj;refine wpAny_bind (wpAny_pure (wpAny_bind (wpAny_bind (wpAny_loadPart hx (wpAny_bind (PySem.W.Looks.here (s:={ s with toks:=s.toks+1 }) (PySem.W.looks_clsIn X hc) ?_))))));rw[hd'];refine wpAny_pure (a:=some dx) (wpAny_bind (wpAny_pure (wpAny_bind ?_)));refine wpAny_nsSet1 (s:={ s with toks:=s.toks+1 }) I.ns λh' hn2 hs2=>?_;obtain⟨oD,esD,epD,hoD,hdD,hcD⟩:=hn2.count (PySem.Within.cons name v hw);refine wpAny_bind (wpAny_lookBehind hoD (by rw[hdD];exact pastItsLine_dict (Nat.le_trans hcD (by rw[List.length_cons];lia))) ?_);exact wpAny_pure (h _ ⟨(hs2.2 _ (Ne.symm I.ne)).trans I.obj,hn2,I.ne⟩ hs2)
theorem qau{R:Result->Shared->Prop}{vs:List Value}{kw:List (Str×Value)}(X:K.In s.heap)(hm:PySem.W.makesIn K C=true)
  (hi:PySem.W.findIn K (.ref C) "__init__" = some (some (.ref f))) (hf:PySem.W.typeIn K (.ref f)=some (.type "function"))
  (h:codeAny (model prog w) (A.under (.builtin "type.__call__" ⟨.ref C::vs,kw⟩)) (.call (.ref f) ⟨.ref (s.heap.objs.size+1)::vs,kw⟩) (PySem.W.InitBack (s.heap.objs.size+1) R)
   { s with heap:=(s.heap.push PySem.W.emptyDict).push (PySem.W.instObj C s.heap.objs.size) }) :
  codeAny (model prog w) A (.call (.ref C) ⟨vs,kw⟩) R s:=by
 obtain⟨hh,g,d,t,os⟩:=s;exact PySem.W.make_core (PySem.W.makes_of X hm) (PySem.W.looks_findIn X hi) (λself=>PySem.W.bind_fn X self hf) (.inl rfl) h
end
noncomputable def jE(f:Str)(v:V):List (Str×V)->List (Str×V)
 |[]=>[(f,v)]
 | (g,x)::r=>if g=f then (g,v)::r else (g,x)::jE f v r
theorem zX(f g:Str)(v:V):∀fs:List (Str×V),(jE f v fs).lookup g=if g=f then some v else fs.lookup g
 |[]=>by
  show List.lookup g [(f,v)]=_
  by_cases h:g=f
  ·have hb:(g == f)=true:=beq_iff_eq.mpr h;simp only[List.lookup,hb,if_pos h]
  ·have hb:(g == f)=false:=beq_eq_false_iff_ne.mpr h;simp only[List.lookup,hb,if_neg h]
 | (k,x)::r=>by
  have ih:=zX f g v r;rw[show jE f v ((k,x)::r)=(if k=f then (k,v)::r else (k,x)::jE f v r) from rfl]
  by_cases hk:k=f
  ·rw[if_pos hk]
   by_cases h:g=k
   ·have hb:(g == k)=true:=beq_iff_eq.mpr h;simp only[List.lookup,hb,if_pos (h.trans hk)]
   ·have hb:(g == k)=false:=beq_eq_false_iff_ne.mpr h;simp only[List.lookup,hb,if_neg (λe:g=f=>h (e.trans hk.symm))]
  ·rw[if_neg hk]
   by_cases h:g=k
   ·have hb:(g == k)=true:=beq_iff_eq.mpr h;simp only[List.lookup,hb,if_neg (λe:g=f=>hk (h.symm.trans e))]
   ·have hb:(g == k)=false:=beq_eq_false_iff_ne.mpr h;simp only[List.lookup,hb];exact ih
theorem zq(f:Str)(v:V):∀fs:List (Str×V),f∈(jE f v fs).map (·.1)/\∀g,g∈fs.map (·.1)->g∈(jE f v fs).map (·.1)
 |[]=>⟨by simp[jE],λg h=>by simp at h⟩
 | (k,x)::r=>by
  obtain⟨i1,i2⟩:=zq f v r;rw[show jE f v ((k,x)::r)=(if k=f then (k,v)::r else (k,x)::jE f v r) from rfl]
  by_cases hk:k=f
  ·rw[if_pos hk];subst hk;exact⟨by simp,λg h=>by simpa using h⟩
  ·rw[if_neg hk];refine⟨?_,λg h=>?_⟩
   ·rw[List.map_cons];exact List.mem_cons_of_mem _ i1
   ·rw[List.map_cons] at h ⊢;rcases List.mem_cons.mp h with e | e
    ·exact List.mem_cons.mpr (.inl e)
    ·exact List.mem_cons_of_mem _ (i2 g e)
theorem yb(f:Str)(v:V):∀fs:List (Str×V),(jE f v fs).length<=fs.length+1
 |[]=>by simp[jE]
 | (k,x)::r=>by
  have ih:=yb f v r;rw[show jE f v ((k,x)::r)=(if k=f then (k,v)::r else (k,x)::jE f v r) from rfl]
  by_cases hk:k=f
  ·rw[if_pos hk,List.length_cons,List.length_cons];lia
  ·rw[if_neg hk,List.length_cons,List.length_cons];lia
theorem YV.some_of{v:V}{o:Option Value}(r:YV (some v) o):∃u,o=some u/\qC v u:=by
 cases o with
 |none=>exact(show False from r).elim
 |some u=>exact⟨u,rfl,r⟩
theorem YV.none_of{o:Option Value}(r:YV none o):o=none:=by
 cases o with
 |none=>rfl
 |some u=>exact(show False from r).elim
theorem Q6{v:V}{u:Value}(r:qC v u):PySem.W.handedIn u=true:=by
 cases v with
 |non=>cases (show u=Value.none from r);rfl
 |bl b=>cases (show u=Value.bool b from r);rfl
 |int i=>obtain⟨t,e⟩:=(show∃t,u=Value.int i t from r);cases e;rfl
 |str x=>obtain⟨t,e⟩:=(show∃t,u=Value.str x t from r);cases e;rfl
 |byt b=>obtain⟨t,e⟩:=(show∃t,u=Value.bytes b t from r);cases e;rfl
 |flt b=>obtain⟨t,e⟩:=(show∃t,u=Value.float b t from r);cases e;rfl
 |ref a=>cases (show u=Value.ref a from r);rfl
 |ty n=>cases (show u=Value.type n from r);rfl
section
variable{P:Program}{w:World}{H H':Hp}{h h':Heap}{a C dx:Addr}{fs fs':List (Str×V)}
theorem Jb(hok:HOk P w H h)(e:H a=some (.ins C dx fs)):∃mA,ObjM h a dx C mA/\(∀f,YV (fs.lookup f) (mA f))/\PySem.Within mA (fs.map (·.1))/\fs.length<=1000/\H dx=some (.own a):=by obtain⟨d,z,ne,ob,mA,n,r,q⟩:=(show qH P w H h a (.ins C dx fs) from hok a _ e);exact⟨mA,⟨ob,n,ne⟩,r,q,z,d⟩
end
structure Cls(K:Frag)(C:Addr):Prop where
 pg:PySem.W.plainGet K C Str.empty=true
 hd:PySem.W.hasDictIn K C=true
 po:PySem.W.plainOver K C=true
 sa:PySem.W.findIn K (.ref C) "__setattr__" = some (some (.builtin "object.__setattr__"))
theorem Cls.get{K:Frag}{C:Addr}(c:Cls K C)(f:Str):PySem.W.plainGet K C f=true:=c.pg
def zu(K:Frag)(C:Addr)(f:Str):Prop:=PySem.W.findIn K (.ref C) f=some none
theorem zu.taker{K:Frag}{C:Addr}{f:Str}(n:zu K C f):PySem.W.takerIn K C f=some none:=by unfold PySem.W.takerIn;rw[show PySem.W.findIn K (.ref C) f=some none from n];rfl
structure Meth(K:Frag)(C:Addr)(m:Str)(f:Addr):Prop where
 at_:PySem.W.findIn K (.ref C) m=some (some (.ref f))
 fn:PySem.W.isFn K (.ref f)=true
 kp:PySem.W.keepIn K (.ref f)=true
section
variable{X:Cx}{pins:PP}{σ:St}{H:Hp}{s:Shared}{a C dx:Addr}{fs:List (Str×V)}{f:Str}{v:V}{A:Around}{E:PQ}
theorem QC{b:Bool}{Q:PQ}(I:Inv X pins σ H s)(e:H a=some (.ins C dx fs))(c:Cls X.K C)(n:zu X.K C f)(l:fs.lookup f=some v)
  (h:∀u s',Inv X pins σ H s'->qC v u->Q u s'):wpAny (model X.prog X.w) A (getAttr (.ref a) f b) Q E s:=by
 obtain⟨mA,O,r,_,_,_⟩:=Jb I.hok e;obtain⟨u,hu,ru⟩:=YV.some_of (v:=v) (o:=mA f) (by rw[<-l];exact r f);exact qcc I.kIn O (c.get f) c.hd n hu (Q6 ru) (h u _ (I.tok _) ru)
theorem yS{m:Str}{g:Addr}{pl:Sem Bool}{Q:Value×List Value->Shared->Prop}(I:Inv X pins σ H s)(e:H a=some (.ins C dx fs))(c:Cls X.K C)(k:Meth X.K C m g)(l:fs.lookup m=none)
  (h:Q (.ref g,[.ref a]) s):wpAny (model X.prog X.w) A (getMethod (.ref a) m pl) Q E s:=by
 obtain⟨mA,O,r,_,_,_⟩:=Jb I.hok e;have hn:mA m=none:=YV.none_of (by rw[<-l];exact r m);exact qat I.kIn O (c.get m) k.at_ k.fn hn h
theorem QD{y:V}{u:Value}{Q:Unit->Shared->Prop}(I:Inv X pins σ H s)(e:H a=some (.ins C dx fs))(c:Cls X.K C)(n:zu X.K C f)(hl:fs.length < 1000)(ry:qC y u)
  (h:∀s',Inv X pins σ (upd H a (.ins C dx (jE f y fs))) s'->Q () s'):wpAny (model X.prog X.w) A (setAttr (.ref a) f u) Q E s:=by
 obtain⟨mA,O,r,wi,_,ho⟩:=Jb I.hok e;have hz:(fs.map (·.1)).length<=sizeLine:=by rw[List.length_map,sizeLine_eq];lia
 refine qcd I.kIn O c.sa c.po n.taker c.hd wi hz λh' O' sb=>h _ ?_;have hd:∃o,h'.get? dx=some o:=let ⟨o,_,_,e',_⟩:=O'.ns;⟨o,e'⟩;refine I.write (x:=a) (e:=dx) (by rw[e];exact True.intro) (.inr ho) (λb q hb z=>(sb.2 b hb).trans z) hd ?_;refine⟨by rw[qb O.ne];exact ho,?_,O.ne,O'.obj,_,O'.ns,λg=>?_,λg hg=>?_⟩
 ·have:=yb f y fs;lia
 ·show YV ((jE f y fs).lookup g) (if g=f then some u else mA g);rw[zX]
  by_cases q:g=f
  ·rw[if_pos q,if_pos q];exact ry
  ·rw[if_neg q,if_neg q];exact r g
 ·by_cases q:g=f
  ·rw[q];exact(zq f y fs).1
  ·refine(zq f y fs).2 g (wi g λz=>hg ?_);show(if g=f then some u else mA g)=none;rw[if_neg q];exact z
theorem Inv.made(I:Inv X pins σ H s):Inv X pins σ (upd (upd H s.heap.objs.size (.own (s.heap.objs.size+1))) (s.heap.objs.size+1) (.ins C s.heap.objs.size []))
  { s with heap:=(s.heap.push PySem.W.emptyDict).push (PySem.W.instObj C s.heap.objs.size) }:=by
 have e1:(s.heap.push PySem.W.emptyDict).get? s.heap.objs.size=some PySem.W.emptyDict:=Heap.get?_push_size s.heap rfl
 have e2:((s.heap.push PySem.W.emptyDict).push (PySem.W.instObj C s.heap.objs.size)).get? (s.heap.objs.size+1)=some (PySem.W.instObj C s.heap.objs.size):=by
  have:=Heap.get?_push_size (s.heap.push PySem.W.emptyDict) (o:=PySem.W.instObj C s.heap.objs.size) rfl
  rwa[Heap.size_push] at this
 have e3:(s.heap.push PySem.W.emptyDict).Ns s.heap.objs.size (λ_=>none):=⟨PySem.W.emptyDict,#[],_,e1,rfl,(λe he=>absurd he (by simp)),λ_=>rfl⟩;have I1:=I.laid (a:=s.heap.objs.size) (o:=.own (s.heap.objs.size+1)) (h':=s.heap.push PySem.W.emptyDict) (t':=s.toks) (λb u q=>Heap.get?_push_of_some _ q) (Nat.le_refl _) ⟨_,e1⟩;refine I1.laid (a:=s.heap.objs.size+1) (o:=.ins C s.heap.objs.size []) (t':=s.toks) (λb u q=>Heap.get?_push_of_some _ q) (Nat.le_of_eq (Heap.size_push _ _)) ?_;have ne:s.heap.objs.size≠s.heap.objs.size+1:=Nat.ne_of_lt (Nat.lt_succ_self _);refine⟨by rw[qb ne,qc],Nat.zero_le _,ne,e2,λ_=>none,(Heap.Ns1.of_empty e3).at λo q=>Heap.get?_push_of_some _ q,λ_=>True.intro,λy hy=>absurd rfl hy⟩
theorem Q7{prog:Program}{w:World}{env:Env}{e:Expr}{f:Str}{pos:Pos}{s:Shared}{Q:PQ}(hb:attributeBase e f env (eval e env)=eval e env)
  (h:wpAny (model prog w) A (eval e env) (λo s₁=>wpAny (model prog w) A (getAttr o f true) Q E s₁) E s):wpAny (model prog w) A (eval (.Attribute e f pos) env) Q E s:=
 Attribute_any_ h (by rw[arm_eval_Attribute,hb])
end
noncomputable def qiP(K:Frag)(ta:TE)(f:Str):TE:=λσ H Q=>ta σ H λx H1=>∃a C dx fs v,x=.ref a/\H1 a=some (.ins C dx fs)/\Cls K C/\zu K C f/\fs.lookup f=some v/\Q v H1
noncomputable def qiQ(K:Frag)(ta tv:TE)(f:Str):TS:=λD σ H=>tv σ H λy H1=>ta σ H1 λx H2=>∃a C dx fs,x=.ref a/\H2 a=some (.ins C dx fs)/\Cls K C/\zu K C f/\fs.length < 1000/\
 D.nx σ (upd H2 a (.ins C dx (jE f y fs)))
section
variable{X:Cx}{o e value:Expr}{f:Str}{pos pos' tpos:Pos}{ta tv:TE}
theorem JK(he:PE X e ta)(hb:attributeBase e f X.env (eval e X.env)=eval e X.env):PE X (.Attribute e f pos) (qiP X.K ta f):=by intro pins s σ H Q I h;refine Q7 hb (thn (he pins s σ H _ I h) λu s1 hq1=>?_);obtain⟨x,H1,I1,rx,a,C,dx,fs,v,ex,ea,c,n,l,q⟩:=hq1;subst ex;obtain rfl:u=Value.ref a:=rx;exact QC I1 ea c n l λu' s2 I2 ru=>⟨v,H1,I2,ru,q⟩
theorem yc(ha:PE X o ta)(hv:PE X value tv)(hs:swapsWith value (some (.Attribute o f pos')) pos.line X.env=pure false):PS X (.Assign [.Attribute o f pos'] value pos) (qiQ X.K ta tv f):=by intro pins s σ H D I h;refine plainObj_wpAny_Assign_Attribute (thn (hv pins s σ H _ I h) λu s1 hz30=>?_) hs;obtain⟨y,H1,I1,ry,q⟩:=hz30;refine thn (ha pins s1 σ H1 _ I1 q) λov s2 hz31=>?_;obtain⟨x,H2,I2,rx,a,C,dx,fs,ex,ea,c,n,l,q2⟩:=hz31;subst ex;obtain rfl:ov=Value.ref a:=rx;exact QD I2 ea c n l ry λs3 I3=>⟨σ,_,I3,q2⟩
end
section
variable{X:Cx}{pins:PP}{σ:St}{H:Hp}{s:Shared}{A:Around}{E:PQ}{Q:PQ}{c:Value}{b:Bool}
inductive TyOf(K:Frag)(H:Hp):V->Value->Prop where
 | non:TyOf K H .non (.type "NoneType")
 | bl (x:Bool):TyOf K H (.bl x) (.type "bool")
 | int (i:Int):TyOf K H (.int i) (.type "int")
 | str (x:Str):TyOf K H (.str x) (.type "str")
 | flt (x:UInt64):TyOf K H (.flt x) (.type "float")
 | lst {a:Addr} {xs:List V} (e:H a=some (.lst xs)):TyOf K H (.ref a) (.type "list")
 | frz {a:Addr} {o:Obj} {xs:List V} (e:H a=some (.frz o (.lst xs))):TyOf K H (.ref a) (.type "list")
 | tup {a:Addr} {xs:List V} (e:H a=some (.tup xs)):TyOf K H (.ref a) (.type "tuple")
 | dK {a:Addr} {kvs:List (Key×V)} (e:H a=some (.dK kvs)):TyOf K H (.ref a) (.type "dict")
 | dT {a:Addr} {kvs:List (List Key×V)} (e:H a=some (.dT kvs)):TyOf K H (.ref a) (.type "dict")
 | ins {a C dx:Addr} {fs:List (Str×V)} (e:H a=some (.ins C dx fs)) (cl:Cls K C) (ha:PySem.W.findIn K (.ref C) "__class__" = some (some (.builtin "object.__class__")))
   (hn:PySem.W.specialIn K (.builtin "object.__class__") "__get__" = some (some (.builtin "getset_descriptor.__get__"))) (htk:PySem.W.takesIn K (.builtin "object.__class__")=some true)
   (hm:PySem.W.mroIn K C (.type "object")=some true):TyOf K H (.ref a) (.ref C)
theorem JL{x:V}{u t:Value}(I:Inv X pins σ H s)(rx:qC x u)(ty:TyOf X.K H x t)(e:PySem.W.kitOne X.K t c=some b)(h:∀tk,Q (.bool b) { s with toks:=tk }) :
  wpAny (model X.prog X.w) A (call (.builtin "isinstance") [u,c]) Q E s:=by
 cases ty with
 |non=>cases (show u=Value.none from rx);exact PySem.W.kia_one PySem.W.kitx_none I.kIn True.intro e (λz=>nomatch z) h
 |bl y=>cases (show u=Value.bool y from rx);exact PySem.W.kia_one PySem.W.kitx_bool I.kIn True.intro e (λz=>nomatch z) h
 |int i=>obtain⟨t,q⟩:=(show∃t,u=Value.int i t from rx);cases q;exact PySem.W.kia_one PySem.W.kitx_int I.kIn True.intro e (λz=>nomatch z) h
 |str y=>obtain⟨t,q⟩:=(show∃t,u=Value.str y t from rx);cases q;exact PySem.W.kia_one PySem.W.kitx_str I.kIn True.intro e (λz=>nomatch z) h
 |flt y=>obtain⟨t,q⟩:=(show∃t,u=Value.float y t from rx);cases q;exact PySem.W.kia_one PySem.W.kitx_float I.kIn True.intro e (λz=>nomatch z) h
 |@lst a xs ea=>
  cases (show u=Value.ref a from rx)
  obtain⟨_,_,n,_,h1⟩:=(show qH X.prog X.w H s.heap a (.lst xs) from I.hok a _ ea);exact PySem.W.kia_one PySem.W.kitx_list I.kIn ⟨_,h1,rfl⟩ e (λz=>nomatch z) h
 |@frz a ob xs ea=>
  cases (show u=Value.ref a from rx)
  obtain⟨_,_,_,n,_,h1⟩:=(show qH X.prog X.w H s.heap a (.frz ob (.lst xs)) from I.hok a _ ea);exact PySem.W.kia_one PySem.W.kitx_list I.kIn ⟨_,h1,rfl⟩ e (λz=>nomatch z) h
 |@tup a xs ea=>
  cases (show u=Value.ref a from rx)
  obtain⟨_,_,_,p⟩:=(show qH X.prog X.w H s.heap a (.tup xs) from I.hok a _ ea);obtain⟨o,h1,h2,_⟩:=p;exact PySem.W.kia_one PySem.W.kitx_tuple I.kIn ⟨o,h1,h2⟩ e (λz=>nomatch z) h
 |@dK a kvs ea=>
  cases (show u=Value.ref a from rx)
  obtain⟨_,_,vs,_,p⟩:=(show qH X.prog X.w H s.heap a (.dK kvs) from I.hok a _ ea);obtain⟨o,es,ep,h1,h2,_⟩:=p;exact PySem.W.kia_one PySem.W.kitx_dict I.kIn ⟨o,h1,h2.1⟩ e (λz=>nomatch z) h
 |@dT a kvs ea=>
  cases (show u=Value.ref a from rx)
  obtain⟨_,_,xs,_,o,es,ep,h1,h2,_⟩:=(show qH X.prog X.w H s.heap a (.dT kvs) from I.hok a _ ea);exact PySem.W.kia_one PySem.W.kitx_dict I.kIn ⟨o,h1,h2.1⟩ e (λz=>nomatch z) h
 |@ins a C dx fs ea cl ha hn htk hm=>
  cases (show u=Value.ref a from rx)
  obtain⟨mA,O,_⟩:=Jb I.hok ea;obtain⟨od,J,_⟩:=O.look;exact PySem.W.kia_one (PySem.W.kitx_own (cl.get _) cl.hd ha hn htk hm) I.kIn J e (λz=>nomatch z) h
end
end L2
namespace L2
open PySem PySem.Spec PyProof.Rows
structure Room(k:Nat)(A:Around):Prop where
 hd:A.handled=none
 dp:A.depth+3 * k+5 < recursionLimit
 un:A.units+16 * k+200 < cLine
theorem Room.deeper{k:Nat}{A:Around}(r:Room (k+1) A)(env:Env):Room k (A.deeper env):=
 ⟨r.hd,by have:=r.dp;show A.depth+1+3 * k+5 < _;lia,by have:=r.un;show A.units+3+16 * k+200 < _;lia⟩
theorem yT{A:Around}{C:Addr}{us:List Value}{kw:List (Str×Value)}:(A.under (.builtin "type.__call__" ⟨.ref C::us,kw⟩)).depth=A.depth+1:=by first | rfl | simp[Around.under,Code.weight,Code.isCreation,Code.isGuard,Code.isCaller,Code.frames,Code.isFrame,guardIds]
theorem yU{A:Around}{C:Addr}{us:List Value}{kw:List (Str×Value)}:(A.under (.builtin "type.__call__" ⟨.ref C::us,kw⟩)).units=A.units+1:=by first | rfl | simp[Around.under,Code.cUnits,Code.frames,Code.isFrame]
theorem Room.make{k:Nat}{A:Around}(r:Room (k+1) A)(C:Addr)(us:List Value)(kw:List (Str×Value)):Room k (A.under (.builtin "type.__call__" ⟨.ref C::us,kw⟩)):=
 ⟨r.hd,by have:=r.dp;rw[yT];lia,by have:=r.un;rw[yU];lia⟩
theorem Room.depth{k:Nat}{A:Around}(r:Room k A):A.depth < recursionLimit:=by have:=r.dp;lia
def qce:TA:=λ_ H Q=>Q [] H
def Q8(ta:TE)(tr:TA):TA:=λσ H Q=>ta σ H λx H1=>tr σ H1 λxs H2=>Q (x::xs) H2
section
variable{X:Cx}{e:Expr}{es:List Expr}{te:TE}{t:TA}{pos:Pos}
theorem qz:PA X [] qce:=λ_ _ _ _ H Q I h=>Calls.spliced_nil ⟨[],H,I,.nil,h⟩
theorem qr(ha:PE X e te)(hr:PA X es t)(hs:starEach (e::es) X.env=(false,eval e X.env)::starEach es X.env:=by rfl):PA X (e::es) (Q8 te t):=by intro pos pins s σ H Q I h;rw[hs];show wpAny _ _ (spliced ((false,eval e X.env)::backTo pos (starEach es X.env))) _ _ s;refine Calls.spliced_cons (thn (ha pins s σ H _ I h) λu s1 hq1=>?_);obtain⟨x,H1,I1,r1,q1⟩:=hq1;refine thn (hr pos pins s1 σ H1 _ I1 q1) λus s2 hz34=>?_;obtain⟨xs,H2,I2,r2,q2⟩:=hz34;exact⟨x::xs,H2,I2,.cons r1 r2,q2⟩
noncomputable def qiR(t:TA):TE:=λσ H Q=>t σ H λxs H1=>xs.length<=sizeLine/\∀p,H1 p=none->Q (.ref p) (upd H1 p (.tup xs))
noncomputable def qiS(t:TA):TE:=λσ H Q=>t σ H λxs H1=>xs.length<=sizeLine/\∀p,H1 p=none->Q (.ref p) (upd H1 p (.lst xs))
theorem qbr{x1}(h:PA X es t):PE X (.Tuple es x1 pos) (qiR t):=by intro pins s σ H Q I hq;refine wpAny_Tuple_spliced (thn (h pos pins s σ H _ I hq) λus s1 ⟨xs,H1,I1,r,z,q⟩=>⟨by rw[<-r.length];exact z,?_⟩);have hf:H1 s1.heap.objs.size=none:=I1.hok.fresh (Nat.le_refl _);refine⟨.ref s1.heap.objs.size,upd H1 s1.heap.objs.size (.tup xs),I1.laid (t':=s1.toks) (λb u e=>Heap.get?_push_of_some _ e) (Nat.le_refl _) ?_,rfl,q _ hf⟩;exact⟨z,us,r,⟨_,Heap.get?_push_size _ rfl,rfl,_,rfl⟩⟩
theorem Q9(h:PA X es t):PE X (.List es pos) (qiS t):=by intro pins s σ H Q I hq;refine wpAny_List_spliced (thn (h pos pins s σ H _ I hq) λus s1 ⟨xs,H1,I1,r,z,q⟩=>⟨by rw[<-r.length];exact z,?_⟩);have hf:H1 s1.heap.objs.size=none:=I1.hok.fresh (Nat.le_refl _);refine⟨.ref s1.heap.objs.size,upd H1 s1.heap.objs.size (.lst xs),I1.laid (t':=s1.toks) (λb u e=>Heap.get?_push_of_some _ e) (Nat.le_refl _) ?_,rfl,q _ hf⟩;exact⟨z,us,0,r,Heap.get?_push_size _ rfl⟩
end
abbrev Sp:=List V->Hp->VK->XK->Prop
abbrev CXT:=List Env->Hp->Shared->XK->Value->Shared->Prop
structure Env0(P:Program)(w:World)(K:Frag)(mg:PR)(base:Heap)(A:Around)(outer:List Env)(s:Shared)(H:Hp):Prop where
 frames:A.frames=some outer
 mod:Mod K mg base
 bs:∀b o,base.get? b=some o->s.heap.get? b=some o/\H b=none
 bsz:base.objs.size<=s.heap.objs.size
 funs:s.heap.FunFrames base outer
 frf:∀b∈frs outer,H b=none
 hok:HOk P w H s.heap
 bare:AllBare s.gens
noncomputable def CE(outer:List Env)(P:Program)(w:World)(H:Hp)(s:Shared)(Q:VK)(u:Value)(s':Shared):Prop:=
 ∃v H',s'.os=s.os/\AllBare s'.gens/\Un (frs outer) [] H H' s.heap s'.heap/\HOk P w H' s'.heap/\qC v u/\Q v H'
noncomputable def CR(CX:CXT)(outer:List Env)(P:Program)(w:World)(H:Hp)(s:Shared)(Q:VK)(E:XK)(r:Result)(s':Shared):Prop:=
 match r with
 |.ok (.ret u)=>CE outer P w H s Q u s'
 |.ok _=>False
 |.error e=>CX outer H s E e s'
structure FnOk(P:Program)(w:World)(K:Frag)(mg:PR)(base:Heap)(CX:CXT)(k:Nat)(f:Addr)(fd:FuncData)(ps:List Str)(sp:Sp):Prop where
 len:∀vs H Q E,sp vs H Q E->vs.length=ps.length
 run:∀(A:Around) (outer:List Env) (s:Shared) (H:Hp) (args:Args) (us:List Value) (vs:List V) (Q:VK) (E:XK),Room k A->Env0 P w K mg base A outer s H->BindsTo s fd args (ps.zip us)->qy vs us->sp vs H Q E->
  codeAny (model P w) A (.call (.ref f) args) (CR CX outer P w H s Q E) s
theorem Env0.make{P:Program}{w:World}{K:Frag}{mg:PR}{base:Heap}{A:Around}{outer:List Env}{s:Shared}{H:Hp}(e:Env0 P w K mg base A outer s H)(C:Addr)(us:List Value)(kw:List (Str×Value)) :
  Env0 P w K mg base (A.under (.builtin "type.__call__" ⟨.ref C::us,kw⟩)) outer s H:=⟨by first | exact e.frames | (simpa [Around.under,Code.envs,Code.isFrame,pushEnvs] using e.frames),e.mod,e.bs,e.bsz,e.funs,e.frf,e.hok,e.bare⟩
section
variable{X:Cx}{pins:PP}{σ:St}{H:Hp}{s s':Shared}
theorem Inv.env0(I:Inv X pins σ H s):Env0 X.prog X.w X.K X.mg X.base X.A X.stack s H:=
 ⟨I.ok.frames,I.ok.mod,I.bs,Nat.le_trans I.ok.bsz I.sz,I.stack,I.stkFree,I.hok,I.bare⟩
theorem Inv.after{Q:VK}{u:Value}(I:Inv X pins σ H s)(h:CE X.stack X.prog X.w H s Q u s'):EP X pins σ Q u s':=by obtain⟨v,H',os,bare,un,hok,r,q⟩:=h;obtain⟨hh,g,d,t,os'⟩:=s';obtain rfl:os'=s.os:=os;exact⟨v,H',I.call (h':=hh) (g':=g) (d':=d) (t':=t) (ch:=[]) un hok bare (λb z=>absurd z (by simp)),r,q⟩
end
def qav(sp:Sp)(dvs:List V)(E:XK)(t:TA):TE:=λσ H Q=>t σ H λvs H1=>sp (vs++dvs) H1 Q E
noncomputable def qcf(C:Addr)(m:Str)(sp:Sp)(dvs:List V)(E:XK)(ta:TE)(t:TA):TE:=λσ H Q=>ta σ H λx H1=>∃a dx fs,x=.ref a/\H1 a=some (.ins C dx fs)/\fs.lookup m=none/\
 t σ H1 λvs H2=>sp (x::(vs++dvs)) H2 Q E
noncomputable def qcg(C:Addr)(sp:Sp)(dvs:List V)(E:XK)(t:TA):TE:=λσ H Q=>t σ H λvs H1=>∀x dx,H1 x=none->H1 dx=none->dx≠x->
 sp (.ref x::(vs++dvs)) (upd (upd H1 dx (.own x)) x (.ins C dx [])) (λv H2=>v=.non/\Q (.ref x) H2) E
noncomputable def qx(K:Frag)(fd:FuncData)(ps:List Str)(ds:List Value):Prop:=
 ∀(s:Shared) (us:List Value),K.In s.heap->(us++ds).length=ps.length->BindsTo s fd ⟨us,[]⟩ (ps.zip (us++ds))
theorem qx.all{K:Frag}{fd:FuncData}{ps:List Str}(h:∀us:List Value,us.length=ps.length->bindArgs fd ⟨us,[]⟩=pure (ps.zip us)):qx K fd ps []:=λs us _ hl=>by rw[List.append_nil] at hl ⊢;exact .of_eq (h us hl)
noncomputable def zg(CX:CXT)(X:Cx)(E:XK):Prop:=∀(pins:PP) (σ:St) (H:Hp) (s:Shared) (e:Value) (s':Shared),Inv X pins σ H s->CX X.stack H s E e s'->X.xe e s'
section
variable{X:Cx}{CX:CXT}{k:Nat}{f C:Addr}{fd:FuncData}{ps:List Str}{sp:Sp}{dvs:List V}{ds:List Value}{E:XK}{x m:Str}{p pos apos:Pos}{e o:Expr}{es:List Expr}{ta:TE}{t:TA}
theorem YY{pins:PP}{σ:St}{H:Hp}{s:Shared}{Q:VK}{us:List Value}{vs:List V}(F:FnOk X.prog X.w X.K X.mg X.base CX k f fd ps sp)(hr:Room k X.A)(hb:qx X.K fd ps ds)(hd:qy dvs ds)(hx:zg CX X E)
  (I:Inv X pins σ H s) (r:qy vs us) (h:sp (vs++dvs) H Q E):wpAny (model X.prog X.w) X.A (call (.ref f) us) (EP X pins σ Q) X.xe s:=by
 have r2:qy (vs++dvs) (us++ds):=r.append hd;have hl:(us++ds).length=ps.length:=by rw[<-r2.length];exact F.len _ _ _ _ h
 refine wpAny_call (codeAny_mono (F.run X.A X.stack s H ⟨us,[]⟩ (us++ds) (vs++dvs) Q E hr I.env0 (hb s us I.kIn hl) r2 h) λr s' hq=>?_)
 cases r with
 |error e=>exact hx pins σ H s e s' I hq
 |ok fl=>
  cases fl with
  |ret u=>exact I.after hq
  |next=>exact False.elim hq
  |brk=>exact False.elim hq
  |cont=>exact False.elim hq
theorem Yy(F:FnOk X.prog X.w X.K X.mg X.base CX k f fd ps sp)(hr:Room k X.A)(hg:Gl X x)(hm:X.mg x=some (.ref f))(hk:PySem.W.keepIn X.K (.ref f)=true)(hb:qx X.K fd ps ds)(hd:qy dvs ds)(hx:zg CX X E)
  (ha:PA X (e::es) t) (hdb:(x == ("__debug__" : Str))=false:=by decide) (he:starEach (e::es) X.env=(false,eval e X.env)::starEach es X.env:=by rfl) (hpl:(backTo pos (starEach es X.env)).any (·.1)=false:=by rfl) :
  PE X (.Call (.Name x p) (e::es) [] pos) (qav sp dvs E t):=by
 intro pins s σ H Q I h;refine wpAny_Call_Name_kw (qI I hg hm ?_ hdb);refine PySem.W.callWith_K (h₀:=X.base) I.ok.mod.kin hk (thn (ha pos pins s σ H _ I h) λus s1 hz35=>?_) he hpl;obtain⟨vs,H1,I1,r,q⟩:=hz35;refine⟨I1.kIn,?_⟩;exact YY F hr hb hd hx I1 r q
theorem qaw(F:FnOk X.prog X.w X.K X.mg X.base CX k f fd ps sp)(hr:Room k X.A)(hg:Gl X x)(hm:X.mg x=some (.ref f))(hk:PySem.W.keepIn X.K (.ref f)=true)(hb:qx X.K fd ps ds)(hd:qy dvs ds)(hx:zg CX X E)
  (hdb:(x == ("__debug__" : Str))=false:=by decide):PE X (.Call (.Name x p) [] [] pos) (qav sp dvs E qce):=by
 intro pins s σ H Q I h;refine wpAny_Call_Name_kw (qI I hg hm ?_ hdb);exact PySem.W.callWith_K0 I.kIn hk (YY (us:=[]) F hr hb hd hx I .nil h)
theorem Yz{pl:Sem Bool}(he:PE X o ta)(c:Cls X.K C)(hm:Meth X.K C m f)(F:FnOk X.prog X.w X.K X.mg X.base CX k f fd ps sp)(hr:Room k X.A)(hb:qx X.K fd ps ds)(hd:qy dvs ds)(hx:zg CX X E)(ha:PA X (e::es) t)
  (hst:starEach (e::es) X.env=(false,eval e X.env)::starEach es X.env:=by rfl) (hpl:(backTo pos (starEach es X.env)).any (·.1)=false:=by rfl)
  (ht:eval (.Call (.Attribute o m apos) (e::es) [] pos) X.env=(do
   let ov<-eval o X.env
   standAt apos.atName
   let (f,first)<-holding [ov] (getMethod ov m pl)
   callWith pos f first (backTo pos (starEach (e::es) X.env)) (backToKw pos (keywordEach [] X.env))):=by rfl) :
  PE X (.Call (.Attribute o m apos) (e::es) [] pos) (qcf C m sp dvs E ta t):=by
 intro pins s σ H Q I h;refine PySem.W.methodCall_KW (pl:=pl) (thn (he pins s σ H _ I h) λu s1 hz36=>?_) ht;obtain⟨x,H1,I1,rx,a,dx,fs,ex,ea,l,q⟩:=hz36;subst ex;obtain rfl:u=Value.ref a:=rx;refine yS I1 ea c hm l ?_;refine PySem.W.callWith_K (first:=[.ref a]) (h₀:=X.base) I.ok.mod.kin hm.kp (thn (ha pos pins s1 σ H1 _ I1 q) λus s2 hz37=>?_) hst hpl;obtain⟨vs,H2,I2,r,q2⟩:=hz37;refine⟨I2.kIn,?_⟩;exact YY (us:=.ref a::us) (vs:=.ref a::vs) F hr hb hd hx I2 (.cons rfl r) q2
theorem YZ{pl:Sem Bool}(he:PE X o ta)(c:Cls X.K C)(hm:Meth X.K C m f)(F:FnOk X.prog X.w X.K X.mg X.base CX k f fd ps sp)(hr:Room k X.A)(hb:qx X.K fd ps ds)(hd:qy dvs ds)(hx:zg CX X E)
  (ht:eval (.Call (.Attribute o m apos) [] [] pos) X.env=(do
   let ov<-eval o X.env
   standAt apos.atName
   let (f,first)<-holding [ov] (getMethod ov m pl)
   callWith pos f first (backTo pos (starEach [] X.env)) (backToKw pos (keywordEach [] X.env))):=by rfl) :
  PE X (.Call (.Attribute o m apos) [] [] pos) (qcf C m sp dvs E ta qce):=by
 intro pins s σ H Q I h;refine PySem.W.methodCall_KW (pl:=pl) (thn (he pins s σ H _ I h) λu s1 hz38=>?_) ht;obtain⟨x,H1,I1,rx,a,dx,fs,ex,ea,l,q⟩:=hz38;subst ex;obtain rfl:u=Value.ref a:=rx;refine yS I1 ea c hm l ?_;exact PySem.W.callWith_K0 (first:=[.ref a]) I1.kIn hm.kp (YY (us:=[.ref a]) (vs:=[.ref a]) F hr hb hd hx I1 %[rfl|0] q)
structure Mk(K:Frag)(C f:Addr):Prop where
 makes:PySem.W.makesIn K C=true
 init:PySem.W.findIn K (.ref C) "__init__" = some (some (.ref f))
 fn:PySem.W.isFn K (.ref f)=true
 kp:PySem.W.keepIn K (.ref C)=true
theorem Y0{pins:PP}{σ:St}{H:Hp}{s:Shared}{Q:VK}{us:List Value}{vs:List V}(M:Mk X.K C f)(F:FnOk X.prog X.w X.K X.mg X.base CX k f fd ps sp)(hr:Room (k+1) X.A)(hb:qx X.K fd ps ds)(hd:qy dvs ds)
  (hx:zg CX X E) (I:Inv X pins σ H s) (r:qy vs us)
  (h:∀x dx,H x=none->H dx=none->dx≠x->sp (.ref x::(vs++dvs)) (upd (upd H dx (.own x)) x (.ins C dx [])) (λv H2=>v=.non/\Q (.ref x) H2) E) :
  wpAny (model X.prog X.w) X.A (call (.ref C) us) (EP X pins σ Q) X.xe s:=by
 have hq:=h (s.heap.objs.size+1) s.heap.objs.size (I.hok.fresh (Nat.le_succ _)) (I.hok.fresh (Nat.le_refl _)) (Nat.ne_of_lt (Nat.lt_succ_self _));have I2:=Inv.made (C:=C) I;have r2:qy (V.ref (s.heap.objs.size+1)::(vs++dvs)) (Value.ref (s.heap.objs.size+1)::(us++ds)):=.cons rfl (r.append hd)
 have hl:(Value.ref (s.heap.objs.size+1)::us++ds).length=ps.length:=by have e:=r2.length;rw[F.len _ _ _ _ hq] at e;exact e.symm
 refine wpAny_call (qau (f:=f) I.kIn M.makes M.init (beq_iff_eq.mp M.fn) (codeAny_mono (F.run _ X.stack _ _ ⟨Value.ref (s.heap.objs.size+1)::us,[]⟩ (Value.ref (s.heap.objs.size+1)::(us++ds)) _ _ E (hr.make C us [])
  (I2.env0.make C us []) (hb _ (Value.ref (s.heap.objs.size+1)::us) I2.kIn hl) r2 hq) λr s' hq'=>?_))
 cases r with
 |error e=>exact hx pins σ _ _ e s' I2 hq'
 |ok fl=>
  cases fl with
  |ret u=>obtain⟨v,H',I3,rv,ev,q3⟩:=I2.after hq';subst ev;exact⟨rv,⟨V.ref (s.heap.objs.size+1),H',I3,rfl,q3⟩⟩
  |next=>exact False.elim hq'
  |brk=>exact False.elim hq'
  |cont=>exact False.elim hq'
theorem Za(M:Mk X.K C f)(F:FnOk X.prog X.w X.K X.mg X.base CX k f fd ps sp)(hr:Room (k+1) X.A)(hg:Gl X x)(hm:X.mg x=some (.ref C))(hb:qx X.K fd ps ds)(hd:qy dvs ds)(hx:zg CX X E)
  (ha:PA X (e::es) t) (hdb:(x == ("__debug__" : Str))=false:=by decide) (he:starEach (e::es) X.env=(false,eval e X.env)::starEach es X.env:=by rfl) (hpl:(backTo pos (starEach es X.env)).any (·.1)=false:=by rfl) :
  PE X (.Call (.Name x p) (e::es) [] pos) (qcg C sp dvs E t):=by
 intro pins s σ H Q I h;refine wpAny_Call_Name_kw (qI I hg hm ?_ hdb);refine PySem.W.callWith_K (h₀:=X.base) I.ok.mod.kin M.kp (thn (ha pos pins s σ H _ I h) λus s1 hz39=>?_) he hpl;obtain⟨vs,H1,I1,r,q⟩:=hz39;refine⟨I1.kIn,?_⟩;exact Y0 M F hr hb hd hx I1 r q
theorem qax(M:Mk X.K C f)(F:FnOk X.prog X.w X.K X.mg X.base CX k f fd ps sp)(hr:Room (k+1) X.A)(hg:Gl X x)(hm:X.mg x=some (.ref C))(hb:qx X.K fd ps ds)(hd:qy dvs ds)(hx:zg CX X E)
  (hdb:(x == ("__debug__" : Str))=false:=by decide):PE X (.Call (.Name x p) [] [] pos) (qcg C sp dvs E qce):=by
 intro pins s σ H Q I h;refine wpAny_Call_Name_kw (qI I hg hm ?_ hdb);exact PySem.W.callWith_K0 I.kIn M.kp (Y0 (us:=[]) M F hr hb hd hx I .nil h)
end
structure FnScope(N P:List Str)(sc:Scope):Prop where
 kind:sc.kind=.function
 co:sc.isCoroutine=false
 gen:sc.isGenerator=false
 nd:N.Nodup
 pre:N.take P.length=P
 par:∀x∈P,sc.names.lookup x=some .local\/sc.names.lookup x=some .cell
 nofree:∀y∈sc.names,y.2≠.free
theorem JM{kindOf:Str->Option NameKind}{x:Str}:∀{binds:List (Str×Value)} {m:PR},(∀v,(x,v)∉binds)->bindL kindOf binds m x=m x
 |[],_,_=>rfl
 | (n,v)::r,m,h=>by
  unfold bindL;rw[JM λw hw=>h w (List.mem_cons_of_mem _ hw)];split
  ·have:x≠n:=by rintro rfl;exact h v List.mem_cons_self
   simp[this]
  ·rfl
theorem JN{kindOf:Str->Option NameKind}{x:Str}:∀{binds:List (Str×Value)} {m:PR},(∀v,(x,v)∉binds)->bindC kindOf binds m x=m x
 |[],_,_=>rfl
 | (n,v)::r,m,h=>by
  unfold bindC;rw[JN λw hw=>h w (List.mem_cons_of_mem _ hw)];split
  ·rfl
  ·have:x≠n:=by rintro rfl;exact h v List.mem_cons_self
   simp[this]
theorem yd{kindOf:Str->Option NameKind}{x:Str}{v:Value}:∀{P:List Str} {vs:List Value} {i:Nat} {m:PR},P.Nodup->P[i]?=some x->vs[i]?=some v->kindOf x=some .local->
  bindL kindOf (P.zip vs) m x=some v
 |[],_,_,_,_,h,_,_=>by simp at h
 | _::_,[],_,_,_,_,h,_=>by simp at h
 | p::P,w::vs,0,m,nd,h1,h2,hk=>by simp at h1 h2;subst h1;subst h2;show bindL kindOf ((p,w)::P.zip vs) m p=_;unfold bindL;rw[JM λv hv=>(List.nodup_cons.mp nd).1 (List.of_mem_zip hv).1,if_pos hk];simp
 | p::P,w::vs,i+1,m,nd,h1,h2,hk=>by show bindL kindOf ((p,w)::P.zip vs) m x=_;unfold bindL;exact yd (i:=i) (List.nodup_cons.mp nd).2 (by simpa using h1) (by simpa using h2) hk
theorem ye{kindOf:Str->Option NameKind}{x:Str}{v:Value}:∀{P:List Str} {vs:List Value} {i:Nat} {m:PR},P.Nodup->P[i]?=some x->vs[i]?=some v->kindOf x≠some .local->
  bindC kindOf (P.zip vs) m x=some v
 |[],_,_,_,_,h,_,_=>by simp at h
 | _::_,[],_,_,_,_,h,_=>by simp at h
 | p::P,w::vs,0,m,nd,h1,h2,hk=>by simp at h1 h2;subst h1;subst h2;show bindC kindOf ((p,w)::P.zip vs) m p=_;unfold bindC;rw[JN λv hv=>(List.nodup_cons.mp nd).1 (List.of_mem_zip hv).1,if_neg hk];simp
 | p::P,w::vs,i+1,m,nd,h1,h2,hk=>by show bindC kindOf ((p,w)::P.zip vs) m x=_;unfold bindC;exact ye (i:=i) (List.nodup_cons.mp nd).2 (by simpa using h1) (by simpa using h2) hk
def qE(N:List Str)(vs:List V):St:=vs.map some++List.replicate (N.length - vs.length) none
noncomputable def yV(CX:CXT)(P:Program)(w:World)(K:Frag)(mg:PR)(base:Heap)(N:List Str)(qual:Str)(scope:Scope)(f:Addr)(cd:Value)(A:Around)(outer:List Env)(s:Shared)(H:Hp)(E:XK):Cx where
 prog:=P
 w:=w
 K:=K
 mg:=mg
 base:=base
 A:=A.deeper (envOfC qual scope s.heap.objs.size f cd)
 N:=N
 s₀:=s
 Hv:=H
 env:=envOfC qual scope s.heap.objs.size f cd
 outer:=outer
 stack:=envOfC qual scope s.heap.objs.size f cd::outer
 ex:=[]
 calm:=true
 fn:=λ_=>true
 pn:=[]
 xe:=λe s'=>wpAny (model P w) (A.deeper (envOfC qual scope s.heap.objs.size f cd)) (leaving (envOfC qual scope s.heap.objs.size f cd) e) (λ_ s''=>CX outer H s E e s'') (λe' s''=>CX outer H s E e' s'') s'
theorem jU{sc:Scope}{n:Nat}{x:Str}(h:sc.names.lookup x=some .cell):∃c,(cellsFrom n sc.names []).lookup x=some c:=by have q:=PySem.W.cellsFrom_some sc.names n [] (.inl h);exact Option.isSome_iff_exists.mp q
theorem Zb{CX:CXT}{P:Program}{w:World}{K:Frag}{mg:PR}{base:Heap}{N ps:List Str}{qual:Str}{scope:Scope}{f:Addr}{cd:Value}{A:Around}{outer:List Env}{s s1:Shared}{H:Hp}{E:XK}{us:List Value}{vs:List V}
  (S:FnScope N ps scope) (hd:A.handled=none) (e0:Env0 P w K mg base A outer s H) (hl:vs.length=ps.length) (r:qy vs us)
  (x:InCallC s s.heap.objs.size (bindL (envOfC qual scope s.heap.objs.size f cd).kindOf (ps.zip us) λ_=>none) (cellsFrom (s.heap.objs.size+1) scope.names []) (bindC (envOfC qual scope s.heap.objs.size f cd).kindOf (ps.zip us) λ_=>none) s1) :
  Inv (yV CX P w K mg base N qual scope f cd A outer s H E) [] (qE N vs) H s1:=by
 have hpl:ps.length<=N.length:=by have:=congrArg List.length S.pre;rw[List.length_take] at this;lia
 obtain⟨h1,tk,rfl,hk⟩:=x.done;have noA:∀b:Addr,b∉(yV CX P w K mg base N qual scope f cd A outer s H E).ex:=λb z=>absurd (show b∈([]:List Addr) from z) (by simp)
 refine⟨⟨e0.mod,S.kind,rfl,rfl,Nat.le_refl _,λy z c h1 h2=>?_,λy hy=>?_,λy c _ h=>?_,λ_=>hd,Around.frames_deeper e0.frames,.inr ⟨rfl,rfl⟩,λb z=>absurd z (noA b),e0.bs,e0.bsz,λb _ _=>noA b,λb z=>absurd z (noA b),e0.funs,e0.frf⟩,
  rfl,e0.bare,Un.kept hk,⟨_,x.toInCall.ns,λi y v h1 h2 h3=>?_⟩,λy c h=>⟨_,x.cell y c h⟩,e0.hok.fresh (Nat.le_refl _),λy c h=>?_,λp hp=>absurd (show p∈([]:PP) from hp) (by simp),e0.hok.kept hk,?_⟩
 ·exact name_of_addr x.apart (PySem.mem_of_lookup h1) (PySem.mem_of_lookup h2)
 ·have hy:scope.names.lookup y=some .cell\/scope.names.lookup y=some .free:=hy;rcases hy with hy | hy
  ·exact jU hy
  ·exact absurd rfl (S.nofree _ (PySem.mem_of_lookup hy))
 ·exact Nat.le_of_lt (x.above y c (PySem.mem_of_lookup h))
 ·have hi:i < vs.length:=by
   unfold qE at h2
   by_cases hi:i < vs.length
   ·exact hi
   ·rw[List.getElem?_append_right (by simpa using hi)] at h2;rw[List.getElem?_replicate] at h2
    split at h2<;>cases h2
  have ha:vs[i]?=some v:=by
   unfold qE at h2;rw[List.getElem?_append_left (by simpa using hi),List.getElem?_map] at h2
   cases e:vs[i]? with
   |none=>rw[e] at h2;cases h2
   |some a=>rw[e] at h2;cases h2;rfl
  obtain⟨u,hu,rv⟩:=r.get ha
  have hp:ps[i]?=some y:=by rw[<-S.pre,List.getElem?_take_of_lt (by lia)];exact h1
  have ndP:ps.Nodup:=by rw[<-S.pre];exact S.nd.sublist (List.take_sublist _ _)
  refine⟨u,rv,?_⟩;rcases S.par y (List.mem_of_getElem? hp) with k | k
  ·exact .inl ⟨k,yd ndP hp hu k⟩
  ·obtain⟨c,e⟩:=jU (n:=s.heap.objs.size+1) k;refine .inr ⟨.inl k,c,e,?_⟩;have q:=x.cell y c e;rw[ye ndP hp hu (by show scope.names.lookup y≠_;rw[k];decide)] at q;exact q
 ·exact e0.hok.fresh (Nat.le_of_lt (x.above y c (PySem.mem_of_lookup h)))
 ·unfold qE;show _=N.length;rw[List.length_append,List.length_map,List.length_replicate]
  lia
theorem qeu{CX:CXT}{P:Program}{w:World}{K:Frag}{mg:PR}{base:Heap}{k:Nat}{f:Addr}{name qual:Str}{params:Arguments}{body:List Stmt}{scope:Scope}{dV kV doc pm cdv ct oc:Value}{an od:Option Addr}
  {osl:Array (Option Value)} {N ps:List Str} {sp:Sp} (lk:K.lookup f=some ⟨oc,od,.func (PySem.W.fnOf name qual params body scope dV kV doc pm an cdv ct),osl⟩) (hcd:PySem.W.codeIn K cdv qual=true) (S:FnScope N ps scope)
  (len:∀vs H Q E,sp vs H Q E->vs.length=ps.length)
  (hbody:∀(A:Around) (outer:List Env) (s:Shared) (H:Hp) (vs:List V) (Q:VK) (E:XK),Room k (A.deeper (envOfC qual scope s.heap.objs.size f cdv))->sp vs H Q E->
   ∃t,PSs (yV CX P w K mg base N qual scope f cdv A outer s H E) body t/\t { nx:=λ_ H'=>Q .non H',rt:=Q } (qE N vs) H) :
  FnOk P w K mg base CX (k+1) f (PySem.W.fnOf name qual params body scope dV kV doc pm an cdv ct) ps sp:=by
 refine⟨len,λA outer s H args us vs Q E hr e0 hb r hsp=>?_⟩;have hl:=len _ _ _ _ hsp;have KX:K.In s.heap:=e0.mod.kin.keeps λb o e=>(e0.bs b o e).1;have lim:s.heap.NoLimit:=e0.mod.nolimit.keeps λb o e=>(e0.bs b o e).1
 have hkind:∀y∈ps.zip us,scope.names.lookup y.1=some .local\/(scope.names.lookup y.1=some .cell/\((cellsFrom (s.heap.objs.size+1) scope.names []).lookup y.1).isSome=true):=λ⟨n,v⟩ hy=>by
  rcases S.par n (List.of_mem_zip hy).1 with q | q
  ·exact .inl q
  ·exact .inr ⟨q,PySem.W.cellsFrom_some _ _ _ (.inl q)⟩
 refine codeAny_call_function hr.depth (KX _ _ lk) rfl S.co S.gen rfl (PySem.W.codeRec_of KX hcd) (hb _ _ _ _ ?_);refine wpAny_newFunctionEnv_cells S.kind hkind λenv he s1 x=>?_;subst he;refine⟨lim.keeps x.toInCall.keep,codeAny_func ?_⟩;obtain⟨t,ht,hq⟩:=hbody A outer s H vs Q E (hr.deeper _) hsp;have I:Inv (yV CX P w K mg base N qual scope f cdv A outer s H E) [] (qE N vs) H s1:=Zb S hr.hd e0 hl r x;refine wpAny_mono (ht [] s1 (qE N vs) H _ I hq) (λfl s' hs=>?_) λe s' hs=>hs
 have fin:∀{σ':St} {H':Hp} {v:V} {u:Value},Inv (yV CX P w K mg base N qual scope f cdv A outer s H E) [] σ' H' s'->qC v u->Q v H'->CE outer P w H s Q u s':=
  λ{σ' H' v u} J rv q=>⟨v,H',J.os,J.bare,J.base,J.hok,rv,q⟩
 cases fl with
 |ret u=>obtain⟨v,σ',H',J,rv,q⟩:=hs;exact fin J rv q
 |next=>obtain⟨σ',H',J,q⟩:=hs;exact fin (v:=V.non) (u:=Value.none) J rfl q
 |brk=>obtain⟨_,_,_,q⟩:=hs;exact False.elim q
 |cont=>obtain⟨_,_,_,q⟩:=hs;exact False.elim q
end L2
namespace L2
open PySem PySem.Spec PyProof.Rows
section
variable{X:Cx}{x:Str}{p pos:Pos}{e:Expr}{es:List Expr}{t:TA}{id T:String}{r:List V->Hp->VK->Prop}
def tCB(r:List V->Hp->VK->Prop)(t:TA):TE:=λσ H Q=>t σ H λvs H1=>r vs H1 Q
theorem zL(hc:zW X (.builtin id) r)(hg:Gl X x)(hm:X.mg x=none)(hv:bootBuiltins x=some (.builtin id))(ha:PA X (e::es) t)(hn:x≠"__name__":=by decide)(hdb:(x == ("__debug__" : Str))=false:=by decide)
  (he:starEach (e::es) X.env=(false,eval e X.env)::starEach es X.env:=by rfl) (hpl:(backTo pos (starEach es X.env)).any (·.1)=false:=by rfl):PE X (.Call (.Name x p) (e::es) [] pos) (tCB r t):=by
 intro pins s σ H Q I h;refine wpAny_Call_Name_kw (JG I hg hm hv ?_ hn hdb);refine PyProof.Rows.callWith_builtin1 (thn (ha pos pins s σ H _ I h) λus s1 hz44=>?_) he hpl;obtain⟨vs,H1,I1,r1,q1⟩:=hz44;exact hc pins s1 σ H1 vs us Q I1 r1 q1
theorem jc(hc:zW X (.type T) r)(hg:Gl X x)(hm:X.mg x=none)(hv:bootBuiltins x=some (.type T))(ha:PA X (e::es) t)(hn:x≠"__name__":=by decide)(hdb:(x == ("__debug__" : Str))=false:=by decide)
  (he:starEach (e::es) X.env=(false,eval e X.env)::starEach es X.env:=by rfl) (hpl:(backTo pos (starEach es X.env)).any (·.1)=false:=by rfl):PE X (.Call (.Name x p) (e::es) [] pos) (tCB r t):=by
 intro pins s σ H Q I h;refine wpAny_Call_Name_kw (JG I hg hm hv ?_ hn hdb);refine PyProof.Rows.callWith_type1 (thn (ha pos pins s σ H _ I h) λus s1 hz45=>?_) he hpl;obtain⟨vs,H1,I1,r1,q1⟩:=hz45;exact hc pins s1 σ H1 vs us Q I1 r1 q1
end
end L2
namespace HT
open PySem PyProof.Rows
section
variable{prog:Program}{w:World}{A:Around}{E:PQ}{s:Shared}
noncomputable def sIx(n d:Nat):Option Int->Nat
 |none=>d
 |some v=>if v < 0 then (v+(n:Int)).toNat else min v.toNat n
theorem Y1(n d:Nat):sIx n d none=d:=rfl
theorem Zc(n d k:Nat):sIx n d (some (k:Int))=min k n:=by show(if (k:Int) < 0 then ((k:Int)+(n:Int)).toNat else min (k:Int).toNat n)=min k n;rw[if_neg (by lia),Int.toNat_natCast]
end
end HT
namespace L2
open PySem PySem.Spec PyProof.Rows
abbrev TO:=St->Hp->(Option Int->Hp->Prop)->Prop
noncomputable def PO(X:Cx)(e:Option Expr)(t:TO):Prop:=
 ∀(pins:PP) (s:Shared) (σ:St) (H:Hp) (Q:Option Int->Hp->Prop),Inv X pins σ H s->t σ H Q->
  wpAny (model X.prog X.w) X.A (evalPart e X.env) (λu s'=>∃o H',Inv X pins σ H' s'/\IsPart u o/\Q o H') X.xe s
def qch:TO:=λ_ H Q=>Q none H
def qg8(t:TE):TO:=λσ H Q=>t σ H λx H1=>∃i,x=.int i/\Q (some i) H1
section
variable{X:Cx}{e:Expr}{te:TE}{lo hi:Option Expr}{tl th:TO}{pos p2:Pos}
theorem qci:PO X none qch:=by intro pins s σ H Q I h;rw[evalPart_none];exact wpAny_pure ⟨none,H,I,.none,h⟩
theorem qcj(h:PE X e te):PO X (some e) (qg8 te):=by intro pins s σ H Q I hw;rw[evalPart_some];refine thn (h pins s σ H _ I hw) λu s1 hq1=>?_;obtain⟨x,H1,I1,r1,q1⟩:=hq1;obtain⟨i,rfl,q⟩:=q1;obtain⟨t,rfl⟩:=r1;exact⟨some i,H1,I1,.int i t,q⟩
noncomputable def SlR(X:Cx)(r:V->Option Int->Option Int->Hp->VK->Prop):Prop:=
 ∀(pins:PP) (s:Shared) (σ:St) (H:Hp) (x:V) (v vl vu:Value) (lo hi:Option Int) (sl:Addr) (Q:VK),Inv X pins σ H s->qC x v->s.heap.IsSliceOf sl vl vu .none->IsPart vl lo->IsPart vu hi->r x lo hi H Q->
  ∃T id,typeLookup (.type T) "__getitem__" = pure (some (.builtin id))/\s.TypeIs v T/\wpAny (model X.prog X.w) X.A (getItem v (.ref sl)) (EP X pins σ Q) X.xe s
noncomputable def tSl(r:V->Option Int->Option Int->Hp->VK->Prop)(te:TE)(tl th:TO):TE:=λσ H Q=>te σ H λx H1=>tl σ H1 λl H2=>th σ H2 λu H3=>r x l u H3 Q
theorem qay{r:V->Option Int->Option Int->Hp->VK->Prop}(hr:SlR X r)(he:PE X e te)(hl:PO X lo tl)(hu:PO X hi th):PE X (.Subscript e (.Slice lo hi none p2) pos) (tSl r te tl th):=by intro pins s σ H Q I h;refine Subscript_ (thn (he pins s σ H _ I h) λv s1 hq1=>?_);obtain⟨x,H1,I1,r1,q1⟩:=hq1;refine wpAny_Slice (thn (hl pins s1 σ H1 _ I1 q1) λvl s2 hz46=>?_);obtain⟨l,H2,I2,pl,q2⟩:=hz46;refine thn (hu pins s2 σ H2 _ I2 q2) λvu s3 hq1=>?_;obtain⟨u,H3,I3,pu,q3⟩:=hq1;rw[evalPart_none];refine wpAny_pure ?_;have I4:Inv X pins σ H3 { s3 with heap:=s3.heap.push { cls:=.type "slice",data:=.fields #[vl,vu,.none] } }:=I3.kept (t':=s3.toks) λb ob q=>Heap.get?_push_of_some _ q;obtain⟨T,id,hT,ht,hg⟩:=hr pins { s3 with heap:=s3.heap.push { cls:=.type "slice",data:=.fields #[vl,vu,.none] } } σ H3 x v vl vu l u s3.heap.objs.size Q I4 r1 (Heap.IsSliceOf.new ..) pl pu q3;show wpAny (model X.prog X.w) X.A (subscriptTail e (.Slice lo hi none p2) v (.ref s3.heap.objs.size)) (EP X pins σ Q) X.xe { s3 with heap:=s3.heap.push { cls:=.type "slice",data:=.fields #[vl,vu,.none] } };exact tail_any (ops:=[.ref s3.heap.objs.size,v]) ht hT hg (by with_unfolding_all rfl)
noncomputable def qd1(xs:List V)(lo hi:Option Int):List V:=(xs.drop (HT.sIx xs.length 0 lo)).take (HT.sIx xs.length xs.length hi - HT.sIx xs.length 0 lo)
theorem YA(xs:List V)(lo hi:Option Int):(qd1 xs lo hi).length<=xs.length:=by
 unfold qd1;rw[List.length_take,List.length_drop]
 lia
end
end L2
namespace L2
open PySem PySem.Spec PyProof.Rows
noncomputable def ixN(n:Nat)(i:Int):Option Nat:=if 0<=i then (if i < n then some i.toNat else none) else if -(n:Int)<=i then some (i+n).toNat else none
def atI{α:Type}(xs:List α)(i:Int):Option α:=(ixN xs.length i).bind λj=>xs[j]?
theorem qck{n:Nat}{i:Int}{j:Nat}(h:ixN n i=some j):seqIndex? i n=some j/\j < n/\-(n:Int)<=i/\i < n:=by
 unfold ixN at h
 by_cases h0:0<=i
 ·rw[if_pos h0] at h
  by_cases h1:i < n
  ·rw[if_pos h1] at h;have e:i.toNat=j:=Option.some.inj h;exact⟨by rw[seqIndex_of h0 h1,e],by lia,by lia,h1⟩
  ·rw[if_neg h1] at h;cases h
 ·rw[if_neg h0] at h
  by_cases h1:-(n:Int)<=i
  ·rw[if_pos h1] at h;have e:(i+n).toNat=j:=Option.some.inj h;exact⟨by rw[seqIndex_neg (by lia) h1,e],by lia,h1,by lia⟩
  ·rw[if_neg h1] at h;cases h
theorem YB{α:Type}{xs:List α}{i:Int}{v:α}(h:atI xs i=some v):∃j,seqIndex? i xs.length=some j/\xs[j]?=some v/\j < xs.length/\-(xs.length:Int)<=i/\i < xs.length:=by
 unfold atI at h
 cases e:ixN xs.length i with
 |none=>rw[e] at h;cases h
 |some j=>rw[e] at h;obtain⟨h1,h2,h3,h4⟩:=qck e;exact⟨j,h1,h,h2,h3,h4⟩
theorem jw{α:Type}{xs:List α}{j:Nat}{v:α}(h:xs[j]?=some v):atI xs (j:Int)=some v:=by
 have hj:j < xs.length:=(List.getElem?_eq_some_iff.mp h).1
 have e:ixN xs.length (j:Int)=some j:=by unfold ixN;rw[if_pos (by lia),if_pos (by lia)];simp
 unfold atI;rw[e];exact h
def Zd(b:Expr):Prop:=∀o i,subscripted b false o i=operate [o,i] (getItem o i)
noncomputable def IxR(X:Cx)(r:R2):Prop:=
 ∀(value slice:Expr) (pins:PP) (s:Shared) (σ:St) (H:Hp) (x y:V) (v u:Value) (Q:VK),Inv X pins σ H s->qC x v->qC y u->r x y H Q->
  subscripted slice false v u=operate [v,u] (getItem v u)->wpAny (model X.prog X.w) X.A (subscriptTail value slice v u) (EP X pins σ Q) X.xe s
noncomputable def MtR(X:Cx)(id:String)(r:V->List V->Hp->VK->Prop):Prop:=
 ∀(pins:PP) (s:Shared) (σ:St) (H:Hp) (x:V) (xs:List V) (v:Value) (us:List Value) (Q:VK),Inv X pins σ H s->qC x v->qy xs us->r x xs H Q->
  wpAny (model X.prog X.w) X.A (call (.builtin id) (v::us)) (EP X pins σ Q) X.xe s
section
variable{X:Cx}{a b:Expr}{ta tb:TE}{pos:Pos}
theorem qg9{r:R2}(hr:IxR X r)(ha:PE X a ta)(hb:PE X b tb)(hs:Zd b):PE X (.Subscript a b pos) (tOp r ta tb):=by intro pins s σ H Q I h;exact Subscript_ (qgZ ha hb I h λv u s2 x y H2 I2 rx ry q=>hr a b pins s2 σ H2 x y v u Q I2 rx ry q (hs _ _))
noncomputable def qiT(K:Frag):R2:=λx y H Q=>∃p xs i v,x=.ref p/\y=.int i/\SqL K H p xs/\atI xs i=some v/\Q v H
noncomputable def qiU(K:Frag):R2:=λx y H Q=>∃p xs i v,x=.ref p/\y=.int i/\SqT K H p xs/\atI xs i=some v/\Q v H
noncomputable def qiV:R2:=λx y H Q=>∃z i c,x=.str z/\y=.int i/\z.length<=sizeLine/\atI z.cps.toList i=some c/\Q (.str ⟨#[c]⟩) H
theorem qcl:IxR X (qiT X.K):=by
 intro value slice pins s σ H x y v u Q I rx ry h hs;obtain⟨p,xs,i,z,rfl,rfl,hq,he,q⟩:=h;cases rx;obtain⟨t,rfl⟩:=ry;obtain⟨its,r,pl,hz⟩:=I.list hq;obtain⟨j,h1,h2,h3,h4,h5⟩:=YB he;obtain⟨w,ew,rw'⟩:=r.get h2;have hl:=r.length;have hn:=yR;have fin:EP X pins σ Q w s:=⟨z,H,I,rw',q⟩
 by_cases h0:0<=i
 ·have hj:i.toNat=j:=by
   rw[seqIndex_of h0 h5] at h1;exact Option.some.inj h1
  exact item_listR pl.isList h0 (by lia) (by rw[hj];simpa using ew) fin hs
 ·have hj:(i+(its.toArray.size:Int)).toNat=j:=by
   rw[seqIndex_neg (by lia) h4] at h1;rw[List.size_toArray,<-hl];exact Option.some.inj h1
  exact subscriptTail_builtinR (x:=w) pl.isList.typeIs slot_list_getitem.lookup
   (wpAny_getItem_list_neg (Q:=λr s'=>r=w/\EP X pins σ Q r s') pl.isList (by lia) (by rw[List.size_toArray]<;>lia) (by lia) (by rw[hj];simpa using ew) ⟨rfl,fin⟩) hs
theorem qev:IxR X (qiU X.K):=by
 intro value slice pins s σ H x y v u Q I rx ry h hs;obtain⟨p,xs,i,z,rfl,rfl,hq,he,q⟩:=h;cases rx;obtain⟨t,rfl⟩:=ry;obtain⟨its,r,pl,hz⟩:=I.tuple hq;obtain⟨j,h1,h2,h3,h4,h5⟩:=YB he;obtain⟨w,ew,rw'⟩:=r.get h2;have hl:=r.length;have hn:=yR;have fin:EP X pins σ Q w s:=⟨z,H,I,rw',q⟩
 exact subscriptTail_builtinR (x:=w) pl.typeIs slot_tuple_getitem.lookup
  (getItem_tuple (j:=j) (Q:=λr s'=>r=w/\EP X pins σ Q r s') pl (by lia) (by lia) (by rw[List.size_toArray,<-hl];exact h1) (by simpa using ew) ⟨rfl,fin⟩) hs
theorem qew:IxR X qiV:=by
 intro value slice pins s σ H x y v u Q I rx ry h hs;obtain⟨z,i,c,rfl,rfl,hz,he,q⟩:=h;obtain⟨t,rfl⟩:=rx;obtain⟨t',rfl⟩:=ry;obtain⟨j,h1,h2,h3,h4,h5⟩:=YB he;have hl:z.cps.toList.length=z.length:=by simp[Str.length]
 rw[hl] at h1 h4 h5;have hn:=yR
 exact tail_any (typeIs_str s z t) slot_str_getitem.lookup (getItem_str (c:=c) (by have e1:decide (i < -(2 ^ 63:Int))=false:=decide_eq_false (by lia);have e2:decide (i≥2 ^ 63)=false:=decide_eq_false (by lia);rw[e1,e2,Bool.or_false]) (by rw[h1];simpa using h2) ⟨.str ⟨#[c]⟩,H,I.tok _,⟨_,rfl⟩,q⟩) hs
theorem JO(lo hi:Option Int)(n:Nat):(sliceBounds lo hi none n).1=((HT.sIx n 0 lo:Nat):Int)/\(sliceBounds lo hi none n).2.1=((HT.sIx n n hi:Nat):Int)/\(sliceBounds lo hi none n).2.2=1:=by
 refine⟨?_,?_,rfl⟩
 ·cases lo with
  |none=>simp[sliceBounds,HT.sIx]
  |some i=>
   simp only[sliceBounds,HT.sIx,Option.getD_none,show(1:Int) > 0 by decide,if_true]
   by_cases h:i < 0
   ·simp only[h,if_true]<;>lia
   ·simp only[h,if_false]<;>lia
 ·cases hi with
  |none=>simp[sliceBounds,HT.sIx]
  |some i=>
   simp only[sliceBounds,HT.sIx,Option.getD_none,show(1:Int) > 0 by decide,if_true]
   by_cases h:i < 0
   ·simp only[h,if_true]<;>lia
   ·simp only[h,if_false]<;>lia
theorem Jc(its:List Value)(lo hi:Option Int):slicePick its.toArray lo hi none=((its.drop (HT.sIx its.length 0 lo)).take (HT.sIx its.length its.length hi - HT.sIx its.length 0 lo)).toArray:=by obtain⟨h1,h2,h3⟩:=JO lo hi its.toArray.size;unfold slicePick;rw[h1,h2,h3];simp only[sliceRange_one,pick_run,List.size_toArray]<;>rfl
noncomputable def qiW(K:Frag):V->Option Int->Option Int->Hp->VK->Prop:=λx lo hi H Q=>∃a xs,x=.ref a/\SqL K H a xs/\∀p,H p=none->Q (.ref p) (upd H p (.lst (qd1 xs lo hi)))
theorem qcm:SlR X (qiW X.K):=by intro pins s σ H x v vl vu lo hi sl Q I rx hs pl pu h;obtain⟨a,xs,rfl,hx,q⟩:=h;cases rx;obtain⟨its,r,ht,hz⟩:=I.list hx;have hlen:=r.length;refine⟨"list",_,slot_list_getitem.lookup,ht.isList.typeIs,?_⟩;refine wpAny_getItem_list_slice ht.isList hs pl pu .none (by simp) ?_ (by rw[List.size_toArray]<;>lia);rw[Jc,<-hlen];refine⟨.ref s.heap.objs.size,_,I.laid (t':=s.toks) (o:=.lst (qd1 xs lo hi)) (λb ob q=>Heap.get?_push_of_some _ q) (Nat.le_refl _) ?_,rfl,q _ (I.hok.fresh (Nat.le_refl _))⟩;exact⟨Nat.le_trans (YA xs lo hi) hz,_,0,(r.drop (HT.sIx xs.length 0 lo)).take (HT.sIx xs.length xs.length hi - HT.sIx xs.length 0 lo),Heap.get?_push_size _ rfl⟩
def yf:V->Bool
 |.non=>true
 |.bl _=>true
 |.int _=>true
 |.str _=>true
 |_=>false
noncomputable def eqV:V->V->Bool
 |.non,.non=>true
 |.bl a,.bl b=>a == b
 |.bl a,.int b=>(if a then 1 else 0) == b
 |.int a,.bl b=>a == (if b then 1 else 0)
 |.int a,.int b=>a == b
 |.str a,.str b=>a == b
 |_,_=>false
theorem qex{A:Around}{s:Shared}{y x:V}{u v:Value}(ry:qC y u)(rx:qC x v)(fy:yf y=true)(fx:yf x=true):SeqAt.EqAt A s u v (eqV y x):=by
 cases y with
 |non=>
  cases ry
  cases x with
  |non=>cases rx;exact SeqAt.EqAt.same _
  |bl b=>cases rx;exact SeqAt.EqAt.none_bool b
  |int b=>obtain⟨t,rfl⟩:=rx;exact SeqAt.EqAt.none_int b t
  |str b=>obtain⟨t,rfl⟩:=rx;exact SeqAt.EqAt.none_str b t
  |_=>exact absurd (show false=true from fx) Bool.false_ne_true
 |bl a=>
  cases ry
  cases x with
  |non=>cases rx;exact SeqAt.EqAt.bool_none a
  |bl b=>cases rx;exact SeqAt.EqAt.bool_bool a b
  |int b=>obtain⟨t,rfl⟩:=rx;exact SeqAt.EqAt.bool_int a b t
  |str b=>obtain⟨t,rfl⟩:=rx;exact SeqAt.EqAt.bool_str a b t
  |_=>exact absurd (show false=true from fx) Bool.false_ne_true
 |int a=>
  obtain⟨t',rfl⟩:=ry
  cases x with
  |non=>cases rx;exact SeqAt.EqAt.int_none a t'
  |bl b=>cases rx;exact SeqAt.EqAt.int_bool a t' b
  |int b=>obtain⟨t,rfl⟩:=rx;exact SeqAt.EqAt.int_int a t' b t
  |str b=>obtain⟨t,rfl⟩:=rx;exact SeqAt.EqAt.int_str a t' b t
  |_=>exact absurd (show false=true from fx) Bool.false_ne_true
 |str a=>
  obtain⟨t',rfl⟩:=ry
  cases x with
  |non=>cases rx;exact SeqAt.EqAt.str_none a t'
  |bl b=>cases rx;exact SeqAt.EqAt.str_bool a t' b
  |int b=>obtain⟨t,rfl⟩:=rx;exact SeqAt.EqAt.str_int a t' b t
  |str b=>obtain⟨t,rfl⟩:=rx;exact SeqAt.EqAt.str_str a t' b t
  |_=>exact absurd (show false=true from fx) Bool.false_ne_true
 |_=>exact absurd (show false=true from fy) Bool.false_ne_true
noncomputable def eqU(x:V)(u:Value):Bool:=match u with
 |.none=>eqV .non x
 |.bool b=>eqV (.bl b) x
 |.int i _=>eqV (.int i) x
 |.str z _=>eqV (.str z) x
 |_=>false
theorem qbs{x y:V}{u:Value}(r:qC y u)(f:yf y=true):eqU x u=eqV y x:=by
 cases y with
 |non=>cases r;rfl
 |bl b=>cases r;rfl
 |int i=>obtain⟨t,rfl⟩:=r;rfl
 |str z=>obtain⟨t,rfl⟩:=r;rfl
 |_=>exact absurd (show false=true from f) Bool.false_ne_true
theorem yg{x:V}:∀{xs:List V} {us:List Value},qy xs us->xs.all yf=true->us.any (eqU x)=xs.any λy=>eqV y x
 |_,_,.nil,_=>rfl
 | y::xs,u::us,.cons r t,f=>by rw[List.all_cons,Bool.and_eq_true] at f;rw[List.any_cons,List.any_cons,qbs r f.1,yg t f.2]
theorem jV{A:Around}{s:Shared}{x:V}{v:Value}(rx:qC x v)(fx:yf x=true){xs:List V}{us:List Value}(h:qy xs us)(f:xs.all yf=true):∀u∈us,SeqAt.EqAt A s u v (eqU x u):=by
 induction h with
 |nil=>intro u hu;cases hu
 |cons r t ih=>
  intro u' hu;rw[List.all_cons,Bool.and_eq_true] at f;rcases List.mem_cons.mp hu with rfl | hu
  ·rw[qbs r f.1];exact qex r rx f.1 fx
  ·exact ih f.2 u' hu
def inV(x:V)(xs:List V):Bool:=xs.any λy=>eqV y x
noncomputable def rIn(K:Frag)(neg:Bool):R2:=λx y H Q=>∃p xs,y=.ref p/\(SqL K H p xs\/SqT K H p xs)/\yf x=true/\xs.all yf=true/\Q (.bl (if neg then !inV x xs else inV x xs)) H
theorem Ze:OpR X (compareOp .In) (rIn X.K false):=by
 intro pins s σ H x y v u Q I rx ry h;obtain⟨p,xs,rfl,hq,fx,fs,q⟩:=h;cases ry;rcases hq with hq | hq
 ·obtain⟨its,r,pl,hz⟩:=I.list hq;refine SeqAt.in_listAt (eqU x) pl.isList (λw hw=>jV rx fx r fs w (by simpa using hw)) ⟨.bl _,H,I,rfl,?_⟩;rw[show its.toArray.any (eqU x)=its.any (eqU x) by simp,yg r fs];exact q
 ·obtain⟨its,r,pl,hz⟩:=I.tuple hq;refine SeqAt.in_tupleAt (eqU x) pl (λw hw=>jV rx fx r fs w (by simpa using hw)) ⟨.bl _,H,I,rfl,?_⟩;rw[show its.toArray.any (eqU x)=its.any (eqU x) by simp,yg r fs];exact q
theorem JP:OpR X (compareOp .NotIn) (rIn X.K true):=by
 intro pins s σ H x y v u Q I rx ry h;obtain⟨p,xs,rfl,hq,fx,fs,q⟩:=h;cases ry;rcases hq with hq | hq
 ·obtain⟨its,r,pl,hz⟩:=I.list hq;refine SeqAt.notIn_listAt (eqU x) pl.isList (λw hw=>jV rx fx r fs w (by simpa using hw)) ⟨.bl _,H,I,rfl,?_⟩;rw[show its.toArray.any (eqU x)=its.any (eqU x) by simp,yg r fs];exact q
 ·obtain⟨its,r,pl,hz⟩:=I.tuple hq;refine SeqAt.notIn_tupleAt (eqU x) pl (λw hw=>jV rx fx r fs w (by simpa using hw)) ⟨.bl _,H,I,rfl,?_⟩;rw[show its.toArray.any (eqU x)=its.any (eqU x) by simp,yg r fs];exact q
theorem jF:zW X (.builtin "len") (λxs H Q=>∃p ys,xs=[.ref p]/\(SqL X.K H p ys\/SqT X.K H p ys)/\Q (.int ys.length) H):=by
 intro pins s σ H xs us Q I r h;obtain⟨p,ys,rfl,hq,q⟩:=h;obtain⟨u,rfl,rx⟩:=QB r;cases rx;have hn:=yR;rcases hq with hq | hq
 ·obtain⟨its,r',pl,hz⟩:=I.list hq;have hlen:=r'.length;exact Calls.call_len_list pl.isList (by simp only[List.size_toArray]<;>lia) ⟨.int ys.length,H,I.tok _,⟨s.toks+1,by rw[List.size_toArray,hlen]⟩,q⟩
 ·obtain⟨its,r',pl,hz⟩:=I.tuple hq;have hlen:=r'.length;exact len_tuple pl (by simp only[List.size_toArray]<;>lia) ⟨.int ys.length,H,I.tok _,⟨s.toks+1,by rw[List.size_toArray,hlen]⟩,q⟩
theorem JQ:zW X (.builtin "len") (λxs H Q=>∃z,xs=[.str z]/\z.length<=sizeLine/\Q (.int z.length) H):=by intro pins s σ H xs us Q I r h;obtain⟨z,rfl,hz,q⟩:=h;obtain⟨u,rfl,t,rfl⟩:=QB r;have hn:=yR;exact len_str (by lia) ⟨.int z.length,H,I.tok _,⟨_,rfl⟩,q⟩
theorem zv:zW X (.type "list") (λxs H Q=>∃p ys,xs=[.ref p]/\(SqL X.K H p ys\/SqT X.K H p ys)/\∀l,H l=none->Q (.ref l) (upd H l (.lst ys))):=by
 intro pins s σ H xs us Q I r h;obtain⟨p,ys,rfl,hq,q⟩:=h;obtain⟨u,rfl,rx⟩:=QB r;cases rx
 have fin:∀(its:List Value),qy ys its->ys.length<=sizeLine->∀(h':Heap) (c':Nat),(∀b o',s.heap.get? b=some o'->h'.get? b=some o')->
   h'.get? s.heap.objs.size=some { cls:=.type "list",dict:=none,data:=.seq its.toArray c',slots:=#[] }->EP X pins σ Q (.ref s.heap.objs.size) { s with heap:=h' }:=λits r' hz h' c' kp e=>
  ⟨.ref s.heap.objs.size,_,I.laid (t':=s.toks) kp (Nat.le_refl _) (show qH X.prog X.w _ h' _ (.lst ys) from⟨hz,its,c',r',e⟩),rfl,q _ (I.hok.fresh (Nat.le_refl _))⟩
 rcases hq with hq | hq
 ·obtain⟨its,r',pl,hz⟩:=I.list hq;have hlen:=r'.length;obtain⟨o,ho,hc,n,hd⟩:=pl.isList;exact call_list_seq p (.inl rfl) ho hc hd (λh' c' kp e=>fin its r' hz h' c' kp e) (by simp only[List.size_toArray]<;>lia)
 ·obtain⟨its,r',pl,hz⟩:=I.tuple hq;have hlen:=r'.length;obtain⟨o,ho,hc,n,hd⟩:=pl;exact call_list_seq p (.inr rfl) ho hc hd (λh' c' kp e=>fin its r' hz h' c' kp e) (by simp only[List.size_toArray]<;>lia)
noncomputable def tyV(K:Frag)(T:String)(x:V)(H:Hp):Prop:=match x with
 |.str _=>T = "str"
 |.int _=>T = "int"
 |.ref p=>(T = "list"/\∃xs,SqL K H p xs)\/(T = "tuple"/\∃o,K.lookup p=some o/\o.cls=.type "tuple"/\o.dict=none)\/
   (T = "dict"/\((∃kvs,H p=some (.dK kvs))\/∃kvs,H p=some (.dT kvs)))\/(T = "set"/\∃S n,H p=some (.set S n))
 |_=>False
theorem qbt{pins:PP}{σ:St}{H:Hp}{s:Shared}{T:String}{x:V}{v:Value}(I:Inv X pins σ H s)(r:qC x v)(ty:tyV X.K T x H) :
  s.TypeIs v T/\∀a,v=.ref a->∃ob,s.heap.get? a=some ob/\ob.dict=none:=by
 cases x with
 |str z=>
  obtain⟨t,rfl⟩:=r
  cases (show T = "str" from ty)
  exact⟨typeIs_str s z t,λ_ e=>nomatch e⟩
 |int i=>
  obtain⟨t,rfl⟩:=r
  cases (show T = "int" from ty)
  exact⟨typeIs_int s i t,λ_ e=>nomatch e⟩
 |ref p=>
  cases r;rcases ty with ⟨rfl,xs,hq⟩ | ⟨rfl,o,hk,hc,hd⟩ | ⟨rfl,hk⟩ | ⟨rfl,S,n,hk⟩
  ·obtain⟨its,_,pl,_⟩:=I.list hq;refine⟨pl.isList.typeIs,λa e=>?_⟩;cases e;obtain⟨o,n,e,c,hd,_⟩:=pl;exact⟨o,e,hd⟩
  ·refine⟨⟨o,I.kIn p o hk,hc⟩,λa e=>?_⟩;cases e;exact⟨o,I.kIn _ o hk,hd⟩
  ·have z:∃o,s.heap.get? p=some o/\o.ExactDict:=by
    rcases hk with ⟨kvs,hk⟩ | ⟨kvs,hk⟩
    ·obtain⟨_,_,_,_,o,_,_,e,ex,_⟩:=I.hok p _ hk;exact⟨o,e,ex⟩
    ·obtain⟨_,_,_,_,o,_,_,e,ex,_⟩:=I.hok p _ hk;exact⟨o,e,ex⟩
   obtain⟨o,e,ex⟩:=z;refine⟨⟨o,e,ex.1⟩,λa e2=>?_⟩;cases e2;exact⟨o,e,ex.2.1⟩
  ·obtain⟨o,_,_,_,e,ex,_⟩:=I.hok p _ hk;refine⟨⟨o,e,ex.1⟩,λa e2=>?_⟩;cases e2;exact⟨o,e,ex.2.1⟩
 |_=>exact False.elim ty
noncomputable def qiX(K:Frag)(T:String)(r:V->List V->Hp->VK->Prop)(to:TE):TE:=λσ H Q=>to σ H λx H1=>tyV K T x H1/\r x [] H1 Q
noncomputable def tBM(K:Frag)(T:String)(r:V->List V->Hp->VK->Prop)(to:TE)(t:TA):TE:=λσ H Q=>to σ H λx H1=>tyV K T x H1/\t σ H1 λxs H2=>r x xs H2 Q
variable{o e:Expr}{es:List Expr}{to:TE}{t:TA}{name:Str}{apos cpos:Pos}{T id:String}{r:V->List V->Hp->VK->Prop}
theorem qey(pa:PlainAttrs T)(slot:Slot T name id)(hty:typeOf (.builtin id)=pure (.type "method_descriptor"))(hm:MtR X id r)(ho:PE X o to)
  (hbase:attributeBase o name X.env (eval o X.env)=eval o X.env:=by rfl) (hline:(apos.endLine == cpos.line)=true:=by rfl):PE X (.Call (.Attribute o name apos) [] [] cpos) (qiX X.K T r to):=by
 intro pins s σ H Q I h;refine wpAny_Call_method0_late hbase hline (thn (ho pins s σ H _ I h) λv s1 hq1=>?_);obtain⟨x,H1,I1,r1,ty,q1⟩:=hq1;obtain⟨h1,h2⟩:=qbt I1 r1 ty;exact⟨T,id,pa,slot,hty,h1,h2,Calls.callWith_builtin rfl (PySem.evalArgs_none (hm pins s1 σ H1 x [] v [] Q I1 r1 .nil q1))⟩
theorem qez(pa:PlainAttrs T)(slot:Slot T name id)(hty:typeOf (.builtin id)=pure (.type "method_descriptor"))(hm:MtR X id r)(ho:PE X o to)(ha:PA X (e::es) t)
  (hbase:attributeBase o name X.env (eval o X.env)=eval o X.env:=by rfl)
  (hfew:((backTo cpos (starEach (e::es) X.env)).all (λx=>!x.1)&&(backToKw cpos (keywordEach [] X.env)).all (λx=>x.1.isSome)
   && decide ((e::es).length+([]:List Keyword).length+(if ([]:List Keyword).isEmpty then 0 else 1) < 30))=true:=by rfl)
  (hline:(apos.endLine == cpos.line)=true:=by rfl) (hs:starEach (e::es) X.env=(false,eval e X.env)::starEach es X.env:=by rfl) (hplain:(backTo cpos (starEach es X.env)).any (·.1)=false:=by rfl) :
  PE X (.Call (.Attribute o name apos) (e::es) [] cpos) (tBM X.K T r to t):=by
 intro pins s σ H Q I h;refine wpAny_Call_method_late hbase hfew hline rfl (thn (ho pins s σ H _ I h) λv s1 hq1=>?_);obtain⟨x,H1,I1,r1,ty,q1⟩:=hq1;obtain⟨h1,h2⟩:=qbt I1 r1 ty;refine⟨T,id,pa,slot,hty,h1,h2,?_⟩;have hA:=ha cpos pins s1 σ H1 _ I1 q1;rw[hs] at hA ⊢;refine Calls.callWith_builtin (by show(false||(backTo cpos (starEach es X.env)).any (·.1))=false;rw[hplain]<;>rfl) (Calls.evalArgs_plain ?_);refine thn hA λus s2 hz47=>?_;obtain⟨vs,H2,I2,r2,q2⟩:=hz47;exact hm pins s2 σ H2 x vs v us Q I2 r1 r2 q2
end
end L2
namespace L2
open PySem PySem.Spec PyProof.Rows
noncomputable def MtM(X:Cx)(id:String)(r:V->List V->Hp->VK->Prop):Prop:=
 ∀(pins:PP) (s:Shared) (σ:St) (H:Hp) (x:V) (xs:List V) (v:Value) (us:List Value) (Q:VK),Inv X pins σ H s->qC x v->qy xs us->r x xs H Q->
  wpAny (model X.prog X.w) X.A (call (.builtin id) (v::us)) (EP X pins σ Q) X.xe s
theorem qy.one{x:V}{us:List Value}(h:qy [x] us):∃u,us=[u]/\qC x u:=by
 cases h with
 |cons r t=>cases t;exact⟨_,rfl,r⟩
theorem qy.zero{us:List Value}(h:qy [] us):us=[]:=by cases h;rfl
theorem qy.dropLast{xs:List V}{us:List Value}(h:qy xs us):qy xs.dropLast us.dropLast:=by
 induction h with
 |nil=>exact .nil
 |cons r t ih=>
  cases t with
  |nil=>exact .nil
  | cons q t'=>exact .cons r ih
theorem QE{α:Type}(l:List α):l.eraseIdx (l.length - 1)=l.dropLast:=by
 induction l with
 |nil=>rfl
 |cons a r ih=>
  cases r with
  |nil=>rfl
  |cons b r=>
   have e:(a::b::r).length - 1=((b::r).length - 1)+1:=by
    have h1:(a::b::r).length=r.length+2:=rfl;have h2:(b::r).length=r.length+1:=rfl
    lia
   rw[e,List.eraseIdx_cons_succ,ih]
   all_goals rfl
section
variable{X:Cx}{pins:PP}{σ:St}{H:Hp}{s:Shared}{l b:Addr}{xs ys zs:List V}
theorem Inv.lset{its its':List Value}{n:Nat}{f:Array Value->Array Value}{t':Nat}(I:Inv X pins σ H s)(hH:H l=some (.lst xs))
  (e:s.heap.get? l=some { cls:=.type "list",data:=.seq its.toArray n }) (hf:f its.toArray=its'.toArray) (hv:qy ys its') (hz:ys.length<=sizeLine) :
  Inv X pins σ (upd H l (.lst ys)) { s with heap:=s.heap.update l (Obj.mapSeq f),toks:=t' }:=by
 have q:=PySem.IsL.update e f;rw[hf] at q;refine I.write (x:=l) (e:=l) (by rw[hH];exact trivial) (.inl rfl) (λb' u hb hu=>(Heap.get?_update_other s.heap (Obj.mapSeq f) (Ne.symm hb)).trans hu) ⟨_,q⟩ ?_;exact⟨hz,its',_,hv,q⟩
theorem Inv.lnew{its:List Value}{t':Nat}(I:Inv X pins σ H s)(hv:qy ys its)(hz:ys.length<=sizeLine) :
  Inv X pins σ (upd H s.heap.objs.size (.lst ys)) { s with heap:=s.heap.push { cls:=.type "list",data:=.seq its.toArray },toks:=t' }:=
 I.laid (λ_ _ q=>Heap.get?_push_of_some _ q) (Nat.le_refl _) ⟨hz,its,0,hv,Heap.get?_push_size _ rfl⟩
theorem Inv.fresh(I:Inv X pins σ H s):H s.heap.objs.size=none:=I.hok.fresh (Nat.le_refl _)
theorem Inv.lstM(I:Inv X pins σ H s)(hH:H l=some (.lst xs)):xs.length<=sizeLine/\∃(its:List Value) (n:Nat),qy xs its/\xs.length=its.length/\s.heap.get? l=some { cls:=.type "list",data:=.seq its.toArray n }:=by obtain⟨z,its,n,r,e⟩:=I.hok l _ hH;exact⟨z,its,n,r,r.length,e⟩
end
section
variable{X:Cx}
noncomputable def qcn:V->List V->Hp->VK->Prop:=λx vs H Q=>∃l xs y,x=.ref l/\vs=[y]/\H l=some (.lst xs)/\xs.length < sizeLine/\Q .non (upd H l (.lst (xs++[y])))
theorem JR:MtM X "list.append" qcn:=by
 intro pins s σ H x vs v us Q I rx rv h;obtain⟨l,xs,y,rfl,rfl,hH,hz,q⟩:=h;cases rx;obtain⟨u,rfl,ru⟩:=rv.one;obtain⟨z,its,n,r,hl,e⟩:=I.lstM hH;refine call_meets F.slot_list_append ⟨_,e,rfl⟩ F.entry_list_append (F.args_list_append_2 _ _) (PySem.list_append l its.toArray n u (by rw[List.size_toArray];lia)) ⟨e,?_⟩;refine⟨.non,_,I.lset (its':=its++[u]) hH e (by simp) (r.append %[ru|0]) ?_,rfl,q⟩;rw[List.length_append,List.length_singleton]
 lia
noncomputable def qiY:V->List V->Hp->VK->Prop:=λx vs H Q=>∃l xs y,x=.ref l/\vs=[]/\H l=some (.lst xs)/\xs[xs.length - 1]?=some y/\Q y (upd H l (.lst xs.dropLast))
theorem qeA:MtM X "list.pop" qiY:=by
 intro pins s σ H x vs v us Q I rx rv h;obtain⟨l,xs,y,rfl,rfl,hH,hy,q⟩:=h;cases rx;have hus:=rv.zero;subst hus;obtain⟨z,its,n,r,hl,e⟩:=I.lstM hH;obtain⟨u,hu,ru⟩:=r.get hy
 have hy':its.toArray[its.toArray.size - 1]?=some u:=by show its.toArray[its.length - 1]?=some u;rw[<-Array.getElem?_toList,<-hl];exact hu
 refine call_meets F.slot_list_pop ⟨_,e,rfl⟩ F.entry_list_pop (F.args_list_pop_1 _) (MeetsSeq.list_pop_last l its.toArray n u hy' (by rw[List.size_toArray];lia)) ⟨e,?_⟩;refine⟨y,_,I.lset (its':=its.dropLast) hH e ?_ r.dropLast ?_,ru,q⟩
 ·show its.toArray.eraseIdxIfInBounds (its.toArray.size - 1)=its.dropLast.toArray;rw[List.size_toArray,List.eraseIdxIfInBounds_toArray,QE]
 ·rw[List.length_dropLast]
  lia
noncomputable def qiZ:R2:=λx y H Q=>∃l b xs zs,x=.ref l/\y=.ref b/\H l=some (.lst xs)/\H b=some (.lst zs)/\xs.length+zs.length<=sizeLine/\∀p,H p=none->Q (.ref p) (upd H p (.lst (xs++zs)))
theorem qeB:OpR X (binaryOp .Add) qiZ:=by
 intro pins s σ H x y v u Q I rx ry h;obtain⟨l,b,xs,zs,rfl,rfl,hH,hB,hz,q⟩:=h;cases rx;cases ry;obtain⟨z,its,n,r,hl,e⟩:=I.lstM hH;obtain⟨z2,its2,n2,r2,hl2,e2⟩:=I.lstM hB;refine PySem.P.add_list e e2 ?_ (by rw[List.size_toArray,List.size_toArray];lia);have ea:its.toArray++its2.toArray=(its++its2).toArray:=by simp
 rw[ea];exact⟨.ref _,_,I.lnew (t':=s.toks) (r.append r2) (by rw[List.length_append];lia),rfl,q _ I.fresh⟩
end
end L2
namespace Att
open PySem PySem.W PySem.Calls PyProof.Rows
theorem yh{P:Params}{h:Heap}:∀(ns:List Int) (vs:List Value),WellAll P h vs (ns.map WData.int)->IntsAre vs ns:=by
 intro ns
 induction ns with
 |nil=>intro vs w;rw[List.map_nil] at w;cases w;exact .nil
 |cons n ns ih=>
  intro vs w;rw[List.map_cons] at w
  cases w with
  |cons a b=>cases a;exact .cons _ _ (ih _ b)
theorem Zf{l:OpenLaw}{n:Nat}(hn:l.most=some n){P:Params}{h:Heap}{args:List WData}{vals:List Value}
  (hpre:l.row.toRowW.claim.pre args=true) (hwl:WellAll P h vals args) :
  ∃a vs ns,vals=[Value.ref a]/\args=[WData.list (ns.map WData.int)]/\h.get? a=some { cls:=.type "list",data:=.seq vs.toArray }/\IntsAre vs ns/\ns.length<=n:=by
 have hsh:WShape.hasAll [] args [.list .int]=true:=(pre_splitW hpre).1;have hc:l.pre.holds [] { args:=args }=true:=(pre_splitW hpre).2;obtain⟨d,r,rfl,h1,h2⟩:=hasAllW_cons hsh;obtain rfl:=hasAllW_nil h2;obtain⟨xs,rfl,h3⟩:=hasW_list h1;obtain⟨ns,rfl⟩:=items_int h3
 have hlen:ns.length<=n:=by
  unfold OpenLaw.pre at hc
  have h4:(WTm.not (.lt (.lit (.int (n:Int))) (.len (.arg 0)))).holds [] { args:=[.list (ns.map .int)] }=true:=by have h4:=(holds_andW hc).1;rw[hn] at h4;exact h4
  have h5:=condW_of h4 (w_not (w_lt w_lit (w_len_list (w_arg rfl))));rw[List.length_map] at h5;refine Nat.le_of_not_lt λq=>?_;have q':(n:Int) < ((ns.length:Nat):Int):=by lia
  first
   | (rw[decide_eq_true q'] at h5;exact absurd h5 (2:))
   | (simp at h5;lia)
 cases hwl with
 |cons w1 w2=>
  cases w2
  cases w1 with
  |list ho hall=>exact⟨_,_,ns,rfl,rfl,ho,yh ns _ hall,hlen⟩
theorem Zg(l:OpenLaw)(args:List WData):l.row.toRowW.claim.post args (.bool true) args=true:=
 postW_of (r:=l.row.toRowW) (X:=(true == true))
  (show WShape.has [] (.bool true) .bool=true by first | rfl | decide | simp[WShape.has,WShape.arms,WShape.armsAll])
  (show(WTm.eq .res (.lit (.bool true))).value [] { args:=args,res:=some (.bool true),after:=args }=some (.bool (true == true)) from w_eq_bool (w_res rfl) w_lit) rfl
theorem YC{l:OpenLaw}{n:Nat}{q:Program}{loose:List Str}{XP:(Str->Option Value)->Heap->Prop}{YP:World->Heap->Prop}{d:DefRec}
  (hn:l.most=some n) (hdf:d.params.defaults=[])
  (call:∀(w:World) (s₀ s₁:Shared) (mg mb:PR) (fa:Addr) (o:Obj) (pm cd doc:Value) (a:Addr) (vs:List Value) (ns:List Int),
   Ground q loose [] XP w s₀ mg mb s₁.heap->YP w s₁.heap->
   s₁.heap.get? fa=some o->o.data=.func (docDef d.name d.params d.body d.scope pm cd doc)->s₁.heap.CodeRec cd d.name->mg d.name=some (.ref fa)->
   s₁.heap.get? a=some { cls:=.type "list",data:=.seq vs.toArray }->IntsAre vs ns->ns.length<=n->s₁.gens=#[]->
   codeAny (model l.prog w) callerA (.call (.ref fa) ⟨[.ref a],[]⟩) (λr s'=>r=.ok (.ret (.bool true))/\OldK s₁.heap s'.heap/\s'.os=s₁.os/\AllBare s'.gens) s₁) :
  WalkO q loose XP YP l.row.toRowW d [] (λf vs=>PySem.call f vs):=by
 intro w s₀ s₁ mg mb G Y fa o pm cd doc dV kV ho hd hcd hD hmg hg args vals as hpre hlay hrd hwl hlo;obtain rfl:dV=.none:=Dflts.none hD hdf;obtain rfl:kV=.none:=Dflts.noKw hD;obtain⟨a,vs,ns,rfl,rfl,hobj,hints,hlen⟩:=Zf hn hpre hwl;refine enter_call (codeAny_mono (call w s₀ s₁ mg mb fa o pm cd doc a vs ns G Y ho (fd_plain hd) hcd hmg hobj hints hlen hg) λr s' hq=>?_);obtain⟨rfl,h2,h3,h4⟩:=hq;exact⟨.inl ⟨.bool true,.bool true,[],rfl,λ_=>rfl,.bool true,Zg l _,λ_=>⟨List.Pairwise.nil,λ_ hm=>(nomatch hm)⟩⟩,h2,h3,h4⟩
end Att
namespace L2
open PySem PySem.Spec PyProof.Rows
theorem Zh{vs:List Value}{ns:List Int}(h:IntsAre vs ns):qy (ns.map V.int) vs:=by
 induction h with
 |nil=>exact .nil
 |cons n t h ih=>exact .cons ⟨t,rfl⟩ ih
def qha(H:Hp):Prop:=∀b,H b=none\/∃o xs,H b=some (.frz o (.lst xs))
theorem qaz{P:Program}{w:World}{K:Frag}{mg mb:PR}{CX:CXT}{k:Nat}{fa a:Addr}{fd:FuncData}{x:Str}{sp:Sp}{s₁:Shared}{vs:List Value}{ns:List Int}
  (KX:K.In s₁.heap) (hns:s₁.heap.Ns mainGlobals mg) (hb:s₁.heap.Ns builtinsNs mb) (hbb:∀x:Str,x≠"__name__"->mb x=bootBuiltins x) (hlim:s₁.heap.NoLimit) (hg:s₁.gens=#[])
  (ha:s₁.heap.get? a=some { cls:=.type "list",data:=.seq vs.toArray }) (hi:IntsAre vs ns) (hl:ns.length<=sizeLine) (hr:Room k callerA)
  (F:∀base:Heap,K.In base->base.Ns mainGlobals mg->FnOk P w K mg base CX k fa fd [x] sp) (hbind:∀(s:Shared) (u:Value),BindsTo s fd ⟨[u],[]⟩ [(x,u)])
  (hsp:∀H:Hp,qha H->SqL K H a (ns.map V.int)->sp [.ref a] H (λv _=>v=.bl true) λ_ _ _=>False)
  (hCX:∀H e s',CX [] H s₁ (λ_ _ _=>False) e s'->False) :
  codeAny (model P w) callerA (.call (.ref fa) ⟨[.ref a],[]⟩) (λr s'=>r=.ok (.ret (.bool true))/\OldK s₁.heap s'.heap/\s'.os=s₁.os/\AllBare s'.gens) s₁:=by
 have rv:=Zh hi;have lenV:=hi.length
 have core:∀H:Hp,qha H->SqL K H a (ns.map V.int)->HOk P w H s₁.heap->(∀b,H b≠none->b=a)->(H a≠none->K.lookup a=none)->
   codeAny (model P w) callerA (.call (.ref fa) ⟨[.ref a],[]⟩) (λr s'=>r=.ok (.ret (.bool true))/\OldK s₁.heap s'.heap/\s'.os=s₁.os/\AllBare s'.gens) s₁:=by
  intro H hO hS hok hA hK;have base_of:∀{b:Addr} {o:Obj},s₁.heap.get? b=some o->H b=none->(qal s₁.heap H).get? b=some o:=λe n=>qam e n
  have noA:∀{b:Addr} {o:Obj} {es:Array DictEntry} {ep:Nat},s₁.heap.get? b=some o->o.data=.dict es ep->H b=none:=λ{b o es ep} e d=>by
   cases q:H b with
   |none=>rfl
   |some u=>have e':b=a:=hA b (by rw[q];simp);subst e';rw[ha] at e;cases e;have d':Data.seq vs.toArray _=Data.dict es ep:=d;cases d'
  have nsK:∀{b:Addr} {m:PR},s₁.heap.Ns b m->(qal s₁.heap H).Ns b m:=λ{b m} ⟨o,es,ep,e,d,r⟩=>⟨o,es,ep,base_of e (noA e d),d,r⟩
  have hKb:K.In (qal s₁.heap H):=λb o e=>base_of (KX b o e) (by
   cases q:H b with
   |none=>rfl
   |some u=>have e':b=a:=hA b (by rw[q];simp);subst e';rw[hK (by rw[q];simp)] at e;cases e)
  have hM:Mod K mg (qal s₁.heap H):=⟨hKb,nsK hns,⟨mb,nsK hb,hbb⟩,let ⟨mc,h1,h2⟩:=hlim;⟨mc,nsK h1,h2⟩⟩;have e0:Env0 P w K mg (qal s₁.heap H) callerA [] s₁ H:=⟨rfl,hM,λb o e=>qb6 e,Nat.le_of_eq (QT _ _),trivial,λb hb=>absurd (show b∈([]:List Addr) from hb) (by simp),hok,.of_eq hg⟩;refine codeAny_mono ((F _ hKb (nsK hns)).run callerA [] s₁ H ⟨[.ref a],[]⟩ [.ref a] [.ref a] _ _ hr e0 (hbind s₁ (.ref a)) %[rfl|0] (hsp H hO hS)) λr s' h=>?_
  cases r with
  |error e=>exact(hCX H e s' h).elim
  |ok fl=>
   cases fl with
   |next=>exact False.elim h
   |brk=>exact False.elim h
   |cont=>exact False.elim h
   |ret u=>
    obtain⟨v,H',os,bare,un,hok',r',q⟩:=h;have q':v=.bl true:=q;subst q';obtain rfl:u=Value.bool true:=r';refine⟨rfl,OldK.of_keep λb o e=>?_,os,bare⟩
    cases q:H b with
    |none=>exact un.keep b o e q (by intro z;exact absurd (show b∈([]:List Addr) from z) (by simp)) (by simp)
    |some u=>
     rcases hO b with z | ⟨ob,xs,z⟩
     ·rw[q] at z;cases z
     ·have z2:=un.frzs b ob _ z;obtain⟨e1,_⟩:=hok b _ z;obtain⟨e2,_⟩:=hok' b _ z2;rw[e] at e1;cases e1;exact e2
 cases hk:K.lookup a with
 |some o=>have e:=KX a o hk;rw[ha] at e;cases e;refine core (λ_=>none) (λ_=>.inl rfl) (.inr ⟨_,vs.toArray,_,hk,rfl,rfl,rfl,by rw[List.size_toArray,lenV];exact hl,by simpa using rv⟩) (λb u z=>by have z':(none:Option HO)=some u:=z;cases z') (λb z=>absurd rfl z) λz=>absurd rfl z
 |none=>
  refine core (λb=>if b=a then some (.frz { cls:=.type "list",data:=.seq vs.toArray } (.lst (ns.map V.int))) else none) (λb=>?_) (.inl (.inr ⟨{ cls:=.type "list",data:=.seq vs.toArray },if_pos rfl⟩)) (λb u z=>?_) (λb z=>?_) λ_=>hk
  ·by_cases hb:b=a
   ·exact .inr ⟨_,_,if_pos hb⟩
   ·exact .inl (if_neg hb)
  ·by_cases hb:b=a
   ·have z':=(if_pos hb).symm.trans z;cases z';subst hb;exact⟨ha,by rw[List.length_map];exact hl,vs,_,rv,ha⟩
   ·have z':=(if_neg hb).symm.trans z;cases z'
  ·by_cases hb:b=a
   ·exact hb
   ·exact absurd (if_neg hb) z
end L2
namespace L2
open PySem PySem.Spec PyProof.Rows
theorem qco{l:PySem.W.OpenLaw}{n k:Nat}{q:Program}{loose:List Str}{XP:(Str->Option Value)->Heap->Prop}{YP:World->Heap->Prop}{d:DefRec}{K:Params->Frag}{CX:World->CXT}{sp:World->Sp}{x:Str}
  (hn:l.most=some n) (hn2:n<=sizeLine) (hdf:d.params.defaults=[]) (hr:Room k callerA)
  (hY:∀(w:World) (h:Heap),YP w h->(K w.params).In h)
  (F:∀(w:World) (mg:PR) (fa:Addr) (h:Heap),(K w.params).In h->h.Ns mainGlobals mg->mg d.name=some (.ref fa)->
   ∃fd:FuncData,(∀(s:Shared) (u:Value),BindsTo s fd ⟨[u],[]⟩ [(x,u)])/\
    ∀base:Heap,(K w.params).In base->base.Ns mainGlobals mg->FnOk l.prog w (K w.params) mg base (CX w) k fa fd [x] (sp w))
  (hsp:∀(w:World) (H:Hp) (a:Addr) (ns:List Int),ns.length<=n->qha H->SqL (K w.params) H a (ns.map V.int)->sp w [.ref a] H (λv _=>v=.bl true) λ_ _ _=>False)
  (hCX:∀(w:World) (H:Hp) (s:Shared) (e:Value) (s':Shared),CX w [] H s (λ_ _ _=>False) e s'->False) :
  PySem.W.WalkO q loose XP YP l.row.toRowW d [] (λf vs=>PySem.call f vs):=by
 refine Att.YC hn hdf λw s₀ s₁ mg mb fa o pm cd doc a vs ns G Y ho hd hcd hmg hobj hints hlen hg=>?_;have KX:=hY w _ Y;obtain⟨fd,hb,hF⟩:=F w mg fa _ KX G.T.g hmg;exact qaz KX G.T.g G.T.b G.T.builtins G.T.nolimit hg hobj hints (Nat.le_trans hlen hn2) hr hF hb (λH hO hS=>hsp w H a ns hlen hO hS) λH e s'=>hCX w H s₁ e s'
end L2
namespace L2
open PySem PySem.Spec PyProof.Rows
noncomputable def qP(s:Stmt):Arguments:=match s with
 |.FunctionDef _ a _ _ _ _ _ _ _ _=>a
 |_=>{ posonlyargs:=[],args:=[],vararg:=none,kwonlyargs:=[],kw_defaults:=[],kwarg:=none,defaults:=[] }
def qk(s:Stmt):List Stmt:=match s with
 |.FunctionDef _ _ b _ _ _ _ _ _ _=>b
 |_=>[]
noncomputable def qe(s:Stmt):Scope:=match s with
 |.FunctionDef _ _ _ _ _ _ sc _ _ _=>sc
 |_=>{ kind:=.function,names:=[],isGenerator:=false,isCoroutine:=false }
abbrev CX0:CXT:=λ_ _ _ _ _ _=>False
abbrev E0:XK:=λ_ _ _=>False
theorem qeC{X:Cx}:zg CX0 X E0:=λ_ _ _ _ _ _ _ h=>h.elim
structure Fun(K:Frag)(x qual:Str)(st:Stmt)(f:Addr)(fd:FuncData):Prop where
 ex:∃(oc:Value) (od:Option Addr) (kV doc pm:Value) (an:Option Addr) (cdv ct:Value) (osl:Array (Option Value)),
  fd=PySem.W.fnOf x qual (qP st) (qk st) (qe st) .none kV doc pm an cdv ct/\K.lookup f=some ⟨oc,od,.func fd,osl⟩/\PySem.W.codeIn K cdv qual=true
 kp:PySem.W.keepIn K (.ref f)=true
section
variable{P:Program}{w:World}{K:Frag}{mg:PR}{base:Heap}
theorem Fun.ok{x qual:Str}{st:Stmt}{f:Addr}{fd:FuncData}{N ps:List Str}{k:Nat}{sp:Sp}(F:Fun K x qual st f fd)(S:FnScope N ps (qe st))(len:∀vs H Q E,sp vs H Q E->vs.length=ps.length)
  (hbody:∀(cdv:Value) (A:Around) (outer:List Env) (s:Shared) (H:Hp) (vs:List V) (Q:VK) (E:XK),Room k (A.deeper (envOfC qual (qe st) s.heap.objs.size f cdv))->sp vs H Q E->
   ∃t,PSs (yV CX0 P w K mg base N qual (qe st) f cdv A outer s H E).nox (qk st) t/\t { nx:=λ_ H'=>Q .non H',rt:=Q } (qE N vs) H):FnOk P w K mg base CX0 (k+1) f fd ps sp:=by
 obtain⟨oc,od,kV,doc,pm,an,cdv,ct,osl,rfl,lk,hcd⟩:=F.ex;refine qeu lk hcd S len λA outer s H vs Q E hr hsp=>?_;obtain⟨t,h,q⟩:=hbody cdv A outer s H vs Q E hr hsp;exact⟨t,h.nox,q⟩
theorem Fun.binds{x qual:Str}{st:Stmt}{f:Addr}{fd:FuncData}{ps:List Str}(F:Fun K x qual st f fd)
  (h:∀(kV doc pm:Value) (an:Option Addr) (cdv ct:Value) (us:List Value),us.length=ps.length->bindArgs (PySem.W.fnOf x qual (qP st) (qk st) (qe st) .none kV doc pm an cdv ct) ⟨us,[]⟩=pure (ps.zip us)):qx K fd ps []:=by
 obtain⟨oc,od,kV,doc,pm,an,cdv,ct,osl,rfl,lk,hcd⟩:=F.ex;exact .all (h kV doc pm an cdv ct)
theorem qbu{x qual:Str}{st:Stmt}{f:Addr}{oc:Value}{od an:Option Addr}{osl:Array (Option Value)}{kV doc pm cdv ct:Value}(l:K.lookup f=some ⟨oc,od,.func (PySem.W.fnOf x qual (qP st) (qk st) (qe st) .none kV doc pm an cdv ct),osl⟩)
  (c:PySem.W.codeIn K cdv qual=true) (k:PySem.W.keepIn K (.ref f)=true):Fun K x qual st f (PySem.W.fnOf x qual (qP st) (qk st) (qe st) .none kV doc pm an cdv ct):=⟨⟨oc,od,kV,doc,pm,an,cdv,ct,osl,rfl,l,c⟩,k⟩
end
theorem Zi{n:Nat}(h:n<=1000):n < sizeLine:=Nat.lt_of_le_of_lt h (2:)
section
variable{X:Cx}
theorem pv(i:Nat){x:Str}{pos:Pos}(hN:X.N[i]?=some x:=by rfl)(hv:Vis X.env.scope x:=by first | exact Or.inl rfl | exact Or.inr (Or.inl rfl) | exact Or.inr (Or.inr rfl))(hd:(x == ("__debug__" : Str))=false:=by decide)
  (hcd:(x == ("__classdict__" : Str))=false:=by decide):PE X (.Name x pos) (qaf i):=zo hN hv hd hcd
end
def qj(H H':Hp):Prop:=∀b o,H b=some o->H' b=some o
theorem qj.seq{K:Frag}{H H':Hp}{a:Addr}{xs:List V}(e:qj H H')(h:SqL K H a xs):SqL K H' a xs:=by
 rcases h with (h | ⟨o,h⟩) | h
 ·exact .inl (.inl (e _ _ h))
 ·exact .inl (.inr ⟨o,e _ _ h⟩)
 ·exact .inr h
end L2
set_option maxHeartbeats 4000000
namespace DG
open PySem
def qcp:Stmt->List Stmt
 |.ClassDef _ _ _ b _ _ _ _ _ _ _=>b
 |_=>[]
end DG
namespace HD
open PySem PySem.W
noncomputable def yi(tb:String->Option Builtin)(p:Program)(w:World)(n₀:Nat)(ann:Option Value):Nat->SharedT->Thread->Option SharedT
 |0,_,_=>none
 | n+1,s,t=>match through t with
  |true=>some s
  |false=>match stepOk n₀ ann t with
   |false=>none
   |true=>match stepT (denote tb) p w s t with
    | some (s',t')=>yi tb p w n₀ ann n s' t'
    |none=>none
theorem JS{tb:String->Option Builtin}{p:Program}{w:World}{n₀:Nat}{ann:Option Value}:∀{n:Nat} {s s':SharedT} {t:Thread},yi tb p w n₀ ann n s t=some s'->topRun tb p w n₀ ann n s.abs t=some s'.abs
 |0,_,_,_,h=>by cases h
 | n+1,s,s',t,h=>by
  unfold yi at h;unfold topRun
  cases ht:through t with
  |true=>rw[ht] at h;cases h;rfl
  |false=>
   rw[ht] at h
   cases hk:stepOk n₀ ann t with
   |false=>rw[hk] at h;cases h
   |true=>
    rw[hk] at h
    cases hs:stepT (denote tb) p w s t with
    |none=>rw[hs] at h;cases h
    |some r=>obtain⟨s₂,t₂⟩:=r;rw[hs] at h;dsimp only;rw[stepT_spec hs];exact JS h
def ofL:List Obj->Nat->BT->BT
 |[],_,t=>t
 | o::r,n,t=>ofL r (n+1) (t.ins n o)
noncomputable def qcq(P:Params)(os:OsState):SharedT:=⟨ofL (boot_heap P).objs.toList 0 .nil,(boot_heap P).objs.toList.length,(boot_heap P).life,Array.mk [],boot_drawn,boot_toks,os⟩
theorem Zj(P:Params)(os:OsState):(qcq P os).abs=⟨boot_heap P,Array.mk [],boot_drawn,boot_toks,os⟩:=by kernel_rfl
noncomputable def qcr{α:Type}(p q:Program)(loose:List Str)(Xt:Shared->Bool)(Yf:Shared->α)(g0:Bool)(Hv:Heap)(s:Shared):=
 (staticsOk (importedModules p.main.body) Hv s.heap&&namesBound p s.heap&&gensDone s&&laidKept Hv s.heap,openSeen q loose (importedModules p.main.body) Xt g0 s,Yf s)
theorem qcs{p q:Program}{loose:List Str}{Xt:Shared->Bool}{α:Type}{Yf:Shared->α}{Ya:World->α}{N:Nat}{g0:Bool}{m₀:Nat}{ann:Option Value}
  (open_:∀w:World,(fencedOpening treeTable p w N).map (λs=>(s.heap,s.gens,s.drawn,s.toks))=some (boot_heap w.params,Array.mk [],boot_drawn,boot_toks))
  (size:∀w:World,((boot_heap w.params).isNs mainGlobals&&(Array.mk []:Array GenState).size == 0,(boot_heap w.params).objs.size,(boot_heap w.params).nsMap mainGlobals "__annotations__")=(true,m₀,ann))
  (h:∀w os,(yi treeTable p w m₀ ann N (qcq w.params os) (topStub p)).map (λs=>qcr p q loose Xt Yf g0 (boot_heap w.params) s.abs)=some (true,openGood q loose,Ya w)):LeftO p q loose Xt Yf Ya N g0:=λw=>by
 obtain⟨⟨h0,gs,d,k,os⟩,e,e'⟩:=Option.map_eq_some_iff.mp (open_ w);obtain⟨rfl,rfl,rfl,rfl⟩:h0=boot_heap w.params/\gs=Array.mk []/\d=boot_drawn/\k=boot_toks:=by simpa using e'
 obtain⟨z1,z2,z3⟩:_/\_/\_:=by simpa only[Prod.mk.injEq] using size w
 obtain⟨s₁,r,l⟩:=Option.map_eq_some_iff.mp (h w os);have r':=JS r;rw[Zj] at r';obtain⟨l1,l2,l3⟩:_/\_/\_:=by simpa only[qcr,Prod.mk.injEq] using l
 have t:topFrom treeTable p w N ⟨boot_heap w.params,Array.mk [],boot_drawn,boot_toks,os⟩=some s₁.abs:=by unfold topFrom;dsimp only;rw[z1,z2,z3,r'];show(match staticsOk (importedModules p.main.body) (boot_heap w.params) s₁.abs.heap&&namesBound p s₁.abs.heap&&gensDone s₁.abs&&laidKept (boot_heap w.params) s₁.abs.heap with |true=>_ |false=>_)=_;rw[l1]
 unfold openEnds;rw[e];show(topFrom treeTable p w N _).map _=_;rw[t];exact congrArg some (Prod.ext l2 l3)
end HD
namespace HD
open PySem PySem.W
def dE(P:Params)(k:Str)(t:Tok)(v:Value):DictEntry:=⟨PyData.keyHash P k,.str k t,v⟩
noncomputable def oFn(d:Option Addr)(st:Stmt)(name qual:Str)(dV kV doc pm:Value)(an:Option Addr)(cd ct:Value):Obj:=⟨.type "function",d,.func (fnOf name qual (L2.qP st) (L2.qk st) (L2.qe st) dV kV doc pm an cd ct),#[]⟩
noncomputable def oC(n:Str)(t1:Tok)(q:Str)(t2 t3:Tok)(l ar:Int)(a b:Addr)(x y:Value)(c:Addr)(u:Int)(v:Tok):Obj:=⟨.type "code",none,.fields #[.str n t1,.str q t2,.str "/claim/cut.py" t3,.int l 0,.int ar 0,.int 0 0,.int 0 0,.int 3 0,.ref a,.bool true,.int 181 0,.ref b,.none,x,y,.ref c,.int u 0,.int l 0,.str "/claim/cut.py" v],#[]⟩
noncomputable def oG(st:Stmt)(n m:Str)(t:Tok)(a:Addr):Obj:=oFn none st n n .none .none .none (.str m t) none (.ref a) .none
noncomputable def oB(n:Str)(t:Tok)(l ar:Int)(a:Addr)(v:Nat):Obj:=oC n t n (t+1) (t+2) l ar a (a+1) (.ref (a+2)) (.ref (a+3)) (a+4) v (v+1)
def co(a:Addr)(o:Obj)(r:Frag):Frag:=(a,o)::r
noncomputable def fB(st:Stmt)(m:Str)(mt:Tok)(a b:Addr)(n:Str)(t:Tok)(l ar:Int)(u:Nat)(r:Frag):Frag:=(a,oB n t l ar (a - 5) u)::(b,oG st n m mt a)::r
noncomputable def fM(st:Stmt)(m:Str)(mt:Tok)(a b:Addr)(n q:Str)(t:Tok)(l ar:Int)(u:Nat)(r:Frag):Frag:=(a,oC n t q (t+1) (t+2) l ar (a - 5) (a - 4) (.ref (a - 3)) (.ref (a - 2)) (a - 1) u (u+1))::(b,oFn none st n q .none .none .none (.str m mt) none (.ref a) .none)::r
noncomputable def dRs(P:Params)(L:List (Str×Tok×Addr))(r:List DictEntry):List DictEntry:=L.foldr (λx r=>dE P x.1 x.2.1 (.ref x.2.2)::r) r
noncomputable def kD(P:Params)(m:Str)(mt t:Tok)(l:Int)(k:Nat)(L:List (Str×Tok×Addr))(d:Tok):Obj:=⟨.type "dict",none,.dict ⟨dE P "__module__" (t+7) (.str m mt)::dE P "__firstlineno__" (t+11) (.int l (t+10))::dRs P L [dE P "__doc__" d .none]⟩ k,#[]⟩
noncomputable def kO(nw:String)(a b:Addr)(n:Str)(t:Tok)(e:Value)(ms ss:List Value)(i:Option Value):Obj:=⟨.type "type",none,.cls ⟨n,[e],.ref b::ms,a,n,true,[],ss,false,none,false⟩,#[i,none,some (.str n t),some (.str n (t+8)),some (.builtin nw),some (.bool true)]⟩
noncomputable def kC(P:Params)(m:Str)(mt:Tok)(nw:String)(a b:Addr)(n:Str)(t:Tok)(l:Int)(k:Nat)(L:List (Str×Tok×Addr))(d:Tok)(e:Value)(ms ss:List Value)(i:Option Value)(r:Frag):Frag:=
 (a,kD P m mt t l k L d)::(b,kO nw a b n t e ms ss i)::r
theorem Zk(w:World):((boot_heap w.params).isNs mainGlobals&&(Array.mk []:Array GenState).size == 0,(boot_heap w.params).objs.size,(boot_heap w.params).nsMap mainGlobals "__annotations__")=(true,11,some (.ref 6)):=by kernel_rfl
end HD
namespace TS
open PySem PyProof.Rows
section
variable{O:KeyOrd}{kf:Keyed->O.α}
def le(O:KeyOrd)(kf:Keyed->O.α)(x y:Keyed):Prop:=O.kle (kf x) (kf y)
theorem le_of_lt{x y:Keyed}(h:O.blt (kf x) (kf y)=true):le O kf x y:=KeyOrd.kle_of_klt h
variable{a b o:Array Keyed}{i j:Nat}
end
end TS
namespace L2
open PySem PySem.Spec PyProof.Rows
noncomputable def qS(env:Env)(ns:List (Str×NameKind))(acc:List (Str×Addr)):List (Str×Addr):=ns.foldl (λcs x=>if x.2 == .free then (x.1,(env.cells.lookup x.1).getD 0)::cs else cs) acc
theorem qbv{env:Env}:∀(ns:List (Str×NameKind)) (acc:List (Str×Addr)),(∀x∈ns,x.2=.free->∃c,env.cells.lookup x.1=some c)->
  (forIn ns acc λ(x:Str×NameKind) (cs:List (Str×Addr))=>(match x with |(name,kind)=>if kind == .free then (do let c<-cellOf env name;pure (ForInStep.yield ((name,c)::cs)):Sem (ForInStep (List (Str×Addr)))) else pure (ForInStep.yield cs)))=(pure (qS env ns acc):Sem (List (Str×Addr)))
 |[],acc,_=>by rw[List.forIn_nil];rfl
 | (n,k)::r,acc,h=>by
  rw[List.forIn_cons];have hr:=qbv (env:=env) r
  by_cases hk:k=.free
  ·subst hk;obtain⟨c,hc⟩:=h (n,.free) List.mem_cons_self rfl;have e1:cellOf env n=pure c:=by unfold cellOf;rw[hc]
   simp only[beq_self_eq_true,if_true,e1,pure_bind];rw[hr _ λx hx=>h x (List.mem_cons_of_mem _ hx)];unfold qS;simp[hc]
  ·have hb:(k == NameKind.free)=false:=by simpa using hk
   simp only[hb,Bool.false_eq_true,if_false,pure_bind];rw[hr _ λx hx=>h x (List.mem_cons_of_mem _ hx)];unfold qS;rw[List.foldl_cons];simp only[hb,Bool.false_eq_true,if_false]
theorem qbw{env:Env}{scope:Scope}(h:∀x∈scope.names,x.2=.free->∃c,env.cells.lookup x.1=some c):closureFor scope env=pure (qS env scope.names []):=by
 unfold closureFor
 have:=qbv scope.names [] h
 simp only[bind_pure_comp] at this;simp only[bind_pure_comp,id_map',this];rfl
theorem Zl{env:Env}:∀(ns:List (Str×NameKind)) (acc:List (Str×Addr)),(∀x∈ns,x.2=.free->∃c,env.cells.lookup x.1=some c)->(∀x c,acc.lookup x=some c->env.cells.lookup x=some c)->
  ∀x c,(qS env ns acc).lookup x=some c->env.cells.lookup x=some c
 |[],_,_,h=>h
 | (n,k)::r,acc,hf,h=>by
  have ih:=Zl (env:=env) r (if k == .free then (n,(env.cells.lookup n).getD 0)::acc else acc) (λx hx=>hf x (List.mem_cons_of_mem _ hx)) (λx c e=>by
   by_cases hk:k=.free
   ·subst hk;simp only[beq_self_eq_true,if_true] at e;obtain⟨c',hc⟩:=hf (n,.free) List.mem_cons_self rfl;rw[List.lookup_cons] at e
    by_cases hx:x=n
    ·subst hx;simp[hc] at e;rw[hc,e]
    ·rw[show(x == n)=false by simpa using hx] at e;exact h x c e
   ·rw[show(k == NameKind.free)=false by simpa using hk] at e;exact h x c e)
  exact ih
theorem jd{env:Env}{ns:List (Str×NameKind)}(h:∀x∈ns,x.2=.free->∃c,env.cells.lookup x.1=some c):∀x c,(qS env ns []).lookup x=some c->env.cells.lookup x=some c:=Zl ns [] h λ_ _ e=>by cases e
theorem Jd{env:Env}:∀(ns:List (Str×NameKind)) (acc:List (Str×Addr)) (x:Str) (c:Addr),acc.lookup x=some c->∃c,(qS env ns acc).lookup x=some c
 |[],_,_,c,h=>⟨c,h⟩
 | (n,k)::r,acc,x,c,h=>by
  show∃c,(qS env r (if k == .free then (n,(env.cells.lookup n).getD 0)::acc else acc)).lookup x=some c
  by_cases hk:k=.free
  ·subst hk;simp only[beq_self_eq_true,if_true]
   by_cases hx:x=n
   ·subst hx;exact Jd r _ x ((env.cells.lookup x).getD 0) (by rw[List.lookup_cons];simp)
   ·exact Jd r _ x c (by rw[List.lookup_cons,show(x == n)=false by simpa using hx];exact h)
  ·rw[show(k == NameKind.free)=false by simpa using hk];exact Jd r _ x c h
theorem YD{env:Env}:∀(ns:List (Str×NameKind)) (acc:List (Str×Addr)) (x:Str),(x,NameKind.free)∈ns->∃c,(qS env ns acc).lookup x=some c
 | (n,k)::r,acc,x,h=>by
  show∃c,(qS env r (if k == .free then (n,(env.cells.lookup n).getD 0)::acc else acc)).lookup x=some c;rcases List.mem_cons.mp h with e | h
  ·injection e with e1 e2;subst e1 e2;simp only[beq_self_eq_true,if_true];exact Jd r _ x ((env.cells.lookup x).getD 0) (by rw[List.lookup_cons];simp)
  ·exact YD r _ x h
theorem jW{env:Env}:∀{names:List (Str×NameKind)} {x:Str},names.lookup x=some .free->
  (names.map λ(n,k)=>if (k == NameKind.free&&env.scope.kind == .function&&env.kindOf n == some .cell) then (n,NameKind.cell) else (n,k)).lookup x=some .cell\/
  (names.map λ(n,k)=>if (k == NameKind.free&&env.scope.kind == .function&&env.kindOf n == some .cell) then (n,NameKind.cell) else (n,k)).lookup x=some .free
 |[],_,h=>by simp at h
 | (n,k)::r,x,h=>by
  simp only[List.map_cons]
  by_cases hx:x=n
  ·subst hx;simp[List.lookup_cons] at h;subst h
   by_cases hc:(NameKind.free == NameKind.free&&env.scope.kind == .function&&env.kindOf x == some .cell)=true
   ·rw[if_pos hc];left;simp[List.lookup_cons]
   ·rw[if_neg hc];right;simp[List.lookup_cons]
  ·have hb:(x == n)=false:=by simpa using hx
   rw[List.lookup_cons,hb] at h;have ih:=jW (env:=env) h
   by_cases hc:(k == NameKind.free&&env.scope.kind == .function&&env.kindOf n == some .cell)=true
   ·rw[if_pos hc];simp only[List.lookup_cons,hb];exact ih
   ·rw[if_neg hc];simp only[List.lookup_cons,hb];exact ih
theorem Zm{env:Env}:∀{names:List (Str×NameKind)} {x:Str} {k':NameKind},(names.map λ(n,k)=>if (k == NameKind.free&&env.scope.kind == .function&&env.kindOf n == some .cell) then (n,NameKind.cell) else (n,k)).lookup x=some k'->
  k'=.cell\/k'=.free->(x,NameKind.free)∈names\/(x,NameKind.cell)∈names
 |[],_,_,h,_=>by simp at h
 | (n,k)::r,x,k',h,hk=>by
  simp only[List.map_cons] at h
  by_cases hx:x=n
  ·subst hx
   by_cases hc:(k == NameKind.free&&env.scope.kind == .function&&env.kindOf x == some .cell)=true
   ·have:k=.free:=by simp at hc;exact hc.1.1
    subst this;exact .inl List.mem_cons_self
   ·rw[if_neg hc] at h;simp[List.lookup_cons] at h;subst h;rcases hk with rfl | rfl
    ·exact .inr List.mem_cons_self
    ·exact .inl List.mem_cons_self
  ·have hb:(x == n)=false:=by simpa using hx
   have ih:=Zm (env:=env) (names:=r) (x:=x) (k':=k') (by
    by_cases hc:(k == NameKind.free&&env.scope.kind == .function&&env.kindOf n == some .cell)=true
    ·rw[if_pos hc] at h;simp only[List.lookup_cons,hb] at h;exact h
    ·rw[if_neg hc] at h;simp only[List.lookup_cons,hb] at h;exact h) hk
   exact ih.imp (List.mem_cons_of_mem _) (List.mem_cons_of_mem _)
noncomputable def blk(X:Cx)(N:List Str)(scope:Scope)(cl:List (Str×Addr))(C:Addr)(fp:List Addr)(s2:Shared)(H2:Hp):Cx:=
 { X with N:=N,s₀:=s2,Hv:=H2,env:=compEnvC scope cl C X.env,outer:=X.stack,stack:=X.stack,ex:=fp,fn:=λ_=>false,pn:=[],xe:=λ_ _=>False }
structure BlkScope(X:Cx)(own:List Str)(fr:List Nat)(scope:Scope):Prop where
 kind:scope.kind=.function
 nocell:∀x∈scope.names,x.2≠.cell
 names:∀x∈scope.names,x.2=.local->scope.names.lookup x.1=some .local
 free:∀x∈scope.names,x.2=.free->X.env.kindOf x.1=some .cell\/X.env.kindOf x.1=some .free
 look:∀i∈fr,scope.names.lookup (X.N.getD i "")=some .free
def jG(X:Cx)(own:List Str)(fr:List Nat):List Str:=own++fr.map λi=>X.N.getD i ""
def yH(own:List Str)(fr:List Nat)(σ:St):St:=(own.map λ_=>none)++fr.map λi=>(σ[i]?).join
section
variable{X:Cx}{pins:PP}{σ:St}{H:Hp}{s:Shared}{own:List Str}{fr:List Nat}{scope:Scope}
abbrev QR(its:List Value)(n:Nat):Obj:={ cls:=.type "list",data:=.seq its.toArray n }
theorem qeD{C:Addr}{fp:List Addr}(B:BlkScope X own fr scope)(I:Inv X pins σ H s)(hf:∀b∈fp,Qw X pins H b)(hfo:∀b∈fp,b < s.heap.objs.size)(hC:s.heap.objs.size<=C) :
  (blk X (jG X own fr) scope (qS X.env scope.names []) C fp s H).Ok where
 mod:=I.ok.mod
 kind:=B.kind
 glob:=I.ok.glob
 blt:=I.ok.blt
 above:=hC
 inj:=λx y c h1 h2=>I.ok.inj x y c (jd (λz hz e=>I.ok.has _ (B.free z hz e)) x c h1) (jd (λz hz e=>I.ok.has _ (B.free z hz e)) y c h2)
 has:=λx h=>by
  have h':(x,NameKind.free)∈scope.names\/(x,NameKind.cell)∈scope.names:=by
   rcases h with h | h
   ·exact Zm (env:=X.env) h (.inl rfl)
   ·exact Zm (env:=X.env) h (.inr rfl)
  rcases h' with h' | h'
  ·exact YD _ _ _ h'
  ·exact absurd rfl (B.nocell _ h')
 cab:=λx c h=>nomatch h
 hd:=I.ok.hd
 frames:=I.ok.frames
 stk:=.inl rfl
 exf:=λb hb=>⟨Nat.ne_of_lt (Nat.lt_of_lt_of_le (hfo b hb) hC),λx c e=>(hf b hb).2.2.2.2.1 x c (jd (λz hz e=>I.ok.has _ (B.free z hz e)) x c e)⟩
 bs:=I.bs
 bsz:=Nat.le_trans I.ok.bsz I.sz
 noex:=λb o e hb=>by
  rcases (hf b hb).2.2.2.1 with z | z
  ·exact I.ok.noex b o e z
  ·exact absurd (Nat.lt_of_lt_of_le (Heap.lt_size (I.ok.bs b o e).1) z) (Nat.lt_irrefl _)
 exfs:=λb hb z=>by
  rcases List.mem_cons.mp (I.stkSub b z) with e | e
  ·exact(hf b hb).2.1 e
  ·exact(hf b hb).2.2.1 e
 funs:=I.stack
 frf:=I.stkFree
theorem Zn{C D:Addr}{fp:List Addr}{h4:Heap}{tk:Nat}{n:Nat}(B:BlkScope X own fr scope)(I:Inv X pins σ H s)(hf:∀b∈fp,Qw X pins H b)(hfo:∀b∈fp,b < s.heap.objs.size)(hC:s.heap.objs.size<=C)(hD:s.heap.objs.size<=D)(hDC:D≠C)
  (k:∀b o,s.heap.get? b=some o->h4.get? b=some o) (hn:h4.Ns C λ_=>none) (hl:h4.get? D=some (QR [] n)) :
  Inv (blk X (jG X own fr) scope (qS X.env scope.names []) C fp s H) [(D,QR [] n)] (yH own fr σ) H { s with heap:=h4,toks:=tk }:=by
 have sub:=jd (env:=X.env) (ns:=scope.names) (λz hz e=>I.ok.has _ (B.free z hz e));refine⟨qeD B I hf hfo hC,rfl,I.bare,Un.kept k,⟨_,hn,λi x v h1 h2 h3=>?_⟩,λx c e=>?_,I.hok.fresh hC,λx c e=>I.freeC x c (sub x c e),λp hp=>?_,I.hok.kept k,?_⟩
 ·have h1:(jG X own fr)[i]?=some x:=h1;unfold jG at h1;unfold yH at h2
  by_cases hi:i < own.length
  ·rw[List.getElem?_append_left (by simpa using hi),List.getElem?_map] at h2
   cases q:own[i]? with
   |none=>rw[q] at h2;cases h2
   |some a=>rw[q] at h2;cases h2
  ·rw[List.getElem?_append_right (by simpa using hi),List.getElem?_map] at h2;rw[List.getElem?_append_right (by simpa using hi),List.getElem?_map] at h1;rw[List.length_map] at h2
   cases q:fr[i - own.length]? with
   |none=>rw[q] at h2;cases h2
   |some j=>
    rw[q] at h1 h2;have h1:X.N.getD j "" = x:=Option.some.inj h1;have h2:(σ[j]?).join=some v:=Option.some.inj h2
    have h2':σ[j]?=some (some v):=by
     cases w:σ[j]? with
     |none=>rw[w] at h2;cases h2
     |some y=>rw[w] at h2;cases y with
      |none=>cases h2
      |some y=>cases h2;rfl
    have hjl:j < X.N.length:=by rw[<-I.len];exact(List.getElem?_eq_some_iff.mp h2').1
    have hN:X.N[j]?=some x:=by rw[<-h1,List.getElem?_eq_getElem hjl];simp[hjl]
    have hfree:scope.names.lookup x=some .free:=by rw[<-h1];exact B.look j (List.mem_of_getElem? q)
    have hk:=B.free (x,.free) (PySem.mem_of_lookup hfree) rfl;obtain⟨m,_,hloc⟩:=I.loc
    obtain⟨u,r,l⟩:=hloc j x v hN h2' (by
     rcases hk with z | z
     ·exact .inr (.inl z)
     ·exact .inr (.inr z))
    refine⟨u,r,.inr ⟨?_,?_⟩⟩
    ·exact jW (env:=X.env) hfree
    ·rcases l with ⟨l,_⟩ | ⟨_,c,hc,o,ho,hd⟩
     ·have hk:X.env.kindOf x=some .cell\/X.env.kindOf x=some .free:=hk;rw[l] at hk;rcases hk with z | z<;>cases z
     ·obtain⟨c',hc'⟩:=YD (env:=X.env) scope.names [] x (PySem.mem_of_lookup hfree)
      have:=sub x c' hc'
      rw[hc] at this;cases this;exact⟨c,hc',o,k _ _ ho,hd⟩
 ·obtain⟨v,o,ho,hd⟩:=I.cell x c (sub x c e);exact⟨v,o,k _ _ ho,hd⟩
 ·have hp:p∈[(D,QR [] n)]:=by simpa [blk] using hp
  obtain rfl:=List.mem_singleton.mp hp;refine⟨hl,I.hok.fresh hD,hDC,λz=>?_,λv e=>by cases e⟩;rcases List.mem_cons.mp (I.stkSub D z) with e | e
  ·exact Nat.ne_of_lt (Nat.lt_of_lt_of_le I.lt hD) e.symm
  ·exact I.nofs hD e
 ·show(yH own fr σ).length=(jG X own fr).length;unfold yH jG;simp
end
end L2
namespace L2
open PySem PySem.Spec PyProof.Rows
noncomputable def PIf(X:Cx)(ifs:List Expr)(t:TT):Prop:=
 ∀(pins:PP) (s:Shared) (σ:St) (H:Hp) (Q:Bool->Hp->Prop),Inv X pins σ H s->t σ H Q->
  wpAny (model X.prog X.w) X.A (forIn ifs true λc r=>if r=true then do let ok<-isTrue c X.env (eval c X.env);pure (ForInStep.yield ok) else pure (ForInStep.yield r)) (TP X pins σ Q) X.xe s
def qi0:TT:=λ_ H Q=>Q true H
section
variable{X:Cx}{pins:PP}{σ:St}{H:Hp}{s:Shared}{own:List Str}{fr:List Nat}{scope:Scope}
theorem qct:PIf X [] qi0:=λ_ _ _ H _ I h=>wpAny_tests_nil ⟨H,I,h⟩
theorem qcu{c:Expr}{t:TT}(h:PT X c t):PIf X [c] t:=λpins s σ H Q I hw=>wpAny_tests_one (h pins s σ H Q I hw)
noncomputable def JT(J:It)(g:TG)(tc:TT)(te:TE)(fin:List V->Hp->Prop)(W:Nat->Nat->List V->St->Hp->Prop):Prop:=
 ∀i m ys σ' H',W i m ys σ' H'->(J.stop i H'/\fin ys H')\/
  (J.go i H'/\ys.length < sizeLine/\∃N:List V->St->Hp->Prop,(∀ys' σ2 H2,N ys' σ2 H2->∃m',m' < m/\W (i+1) m' ys' σ2 H2)/\
   ∀x H2,J.yld i H' x H2->g x σ' H2 λσ2 H3=>tc σ2 H3 λb H4=>if b=true then te σ2 H4 λy H5=>N (ys++[y]) σ2 H5 else N ys σ2 H4)
noncomputable def qcv(own:List Str)(fr:List Nat)(wi:TI)(g:TG)(tc:TT)(te:TE):TE:=λσ H Q=>wi σ H λJ H1=>∃W:Nat->Nat->List V->St->Hp->Prop,(∃m,W 0 m [] (yH own fr σ) H1)/\JT J g tc te (λys H'=>∀l,H' l=none->Q (.ref l) (upd H' l (.lst ys))) W
theorem qcw{N:List Str}{cl:List (Str×Addr)}{C l:Addr}{fp:List Addr}{s4:Shared}{H':Hp}{σ':St}{its:List Value}{k:Nat}{ys:List V}(I:Inv X pins σ H s)(hf:∀b∈fp,Qw X pins H b)(hl:s.heap.objs.size<=l)
  (I4:Inv (blk X N scope cl C fp s H) [(l,QR its k)] σ' H' s4) (rv:qy ys its) (hz:ys.length<=sizeLine):Inv X pins σ (upd H' l (.lst ys)) s4:=by
 have base:Un (frs X.stack) fp H H' s.heap s4.heap:=I4.base;have pin:=I4.pin (l,QR its k) (List.mem_append_right _ List.mem_cons_self);have nl:∀b o,s.heap.get? b=some o->b≠l:=λb o e=>Nat.ne_of_lt (Nat.lt_of_lt_of_le (Heap.lt_size e) hl);have nh:∀b u,H' b=some u->b≠l:=λb u e=>qG e pin.2.1;refine I.call' (ch:=fp) I4.os ⟨base.keep,base.slot,λb o e n hx=>?_,base.there,λb xs e=>?_,λb o u e=>?_,λb ps e=>?_⟩ (λb u e=>?_) I4.bare (λb hb=>⟨(hf b hb).2.2.2.1,(hf b hb).2.1,(hf b hb).2.2.2.2.1,(hf b hb).2.2.2.2.2⟩)
 ·rw[qb (nl b o e)];exact base.free b o e n hx
 ·have:=base.tups b xs e
  rw[qb (nh b _ this)];exact this
 ·have:=base.frzs b o u e
  rw[qb (nh b _ this)];exact this
 ·obtain⟨more,this⟩:=base.tbls b ps e;exact⟨more,by rw[qb (nh b _ this)];exact this⟩
 ·by_cases hb:b=l
  ·subst hb;rw[qc] at e;cases e;exact⟨hz,its,k,rv,pin.1⟩
  ·rw[qb hb] at e;exact(I4.hok b u e).stay (λc v _ q=>q) (λc q=>by rw[qb (nh c _ q)];exact q) λc xs q=>by rw[qb (nh c _ q)];exact q
theorem JU{elt iter tg:Expr}{ifs:List Expr}{pos:Pos}{g:TG}{tc:TT}{te:TE}{it:Addr}{fp:List Addr}{tn:Nat->Heap->Prop}{J:It}{fin:List V->Hp->Prop}{W:Nat->Nat->List V->St->Hp->Prop}{m0:Nat}
  {RR:Value->Addr->Result->Shared->Prop} {E:PQ} (hc:X.calm=true) (B:BlkScope X own fr scope)
  (hg:∀cl C fp s2 H2,PG (blk X (jG X own fr) scope cl C fp s2 H2) tg g) (ht:∀cl C fp s2 H2,PIf (blk X (jG X own fr) scope cl C fp s2 H2) ifs tc) (he:∀cl C fp s2 H2,PE (blk X (jG X own fr) scope cl C fp s2 H2) elt te)
  (I:Inv X pins σ H s) (T:Turn X.prog X.w X.K tg J fp it tn) (st0:tn 0 s.heap) (hf:∀b∈fp,Qw X pins H b) (w0:W 0 m0 [] (yH own fr σ) H) (hW:JT J g tc te fin W)
  (post:∀(l C:Addr) (s4:Shared) (ys:List V) (H':Hp) (m:PR),s.heap.objs.size<=C->H' C=none->H' l=none->l≠C->s4.heap.Ns C m->Inv X pins σ (upd H' l (.lst ys)) s4->fin ys H'->RR (.ref l) C (.ok .next) s4) :
  wpAny (model X.prog X.w) X.A (newList []) (λacc s₃=>wpAny (model X.prog X.w) X.A (newFunctionEnv scope X.env.globals (qS X.env scope.names []) [] X.env.qual none .none (some X.env)) (λcenv s₄=>codeAny (model X.prog X.w) X.A (.compStart (.ListComp elt [⟨tg,iter,ifs,0⟩] scope pos) 0 (.ref it) acc { cenv with scope:=relabel scope X.env }) (RR acc cenv.locals) s₄) E s₃) E s:=by
 have hfo:∀b∈fp,b < s.heap.objs.size:=λb hb=>by obtain⟨o,e,_⟩:=T.obj _ _ st0 b hb;exact Heap.lt_size e
 refine wpAny_newObj_type (wpAny_newFunctionEnv B.nocell (by intro y hy;simp at hy) (λh1 hns hsb=>?_) B.kind);dsimp only at hns hsb ⊢;generalize hH2:s.heap.push { cls:=.type "list",dict:=none,data:=.seq ([]:List Value).toArray }=h2 at hns hsb ⊢;have hC:h2.objs.size=s.heap.objs.size+1:=by rw[<-hH2,Heap.size_push]
 have hDC:s.heap.objs.size≠h2.objs.size:=by rw[hC];exact Nat.ne_of_lt (Nat.lt_succ_self _)
 have hCle:s.heap.objs.size<=h2.objs.size:=by rw[hC];exact Nat.le_succ _
 have old:∀b o,s.heap.get? b=some o->h1.get? b=some o:=λb o e=>hsb.extBut b o (by rw[hC];exact Nat.ne_of_lt (Nat.lt_succ_of_lt (Heap.lt_size e))) (Heap.get?_push_of_some _ (hH2▸Heap.get?_push_of_some _ e));have hacc:h1.get? s.heap.objs.size=some (QR [] 0):=hsb.extBut _ _ hDC (Heap.get?_push_of_some _ (hH2▸Heap.get?_push_size _ rfl));have hns':h1.Ns h2.objs.size λ_=>none:=hns;have I0:=Zn (tk:=s.toks+([]:List (Str×Value)).length) B I hf hfo hCle (Nat.le_refl _) hDC old hns' hacc;have st1:tn 0 h1:=T.keep _ _ _ st0 λb hb o e=>old b o e
 have loop:codeAny (model X.prog X.w) X.A (.compLoop (.ListComp elt [⟨tg,iter,ifs,0⟩] scope pos) 0 (.ref it) (.ref s.heap.objs.size) (compEnvC scope (qS X.env scope.names []) h2.objs.size X.env))
   (RR (.ref s.heap.objs.size) h2.objs.size) { s with heap:=h1,toks:=s.toks+([]:List (Str×Value)).length }:=by
  generalize hl:s.heap.objs.size=l at *;generalize hCC:h2.objs.size=C at *
  have stat:∀{H':Hp} {o:Obj},(∀b∈fp,H' b=none)->∀b∈fp,Qw (blk X (jG X own fr) scope (qS X.env scope.names []) C fp s H) [(l,o)] H' b:=λ{H' o} hn b hb=>by
   refine⟨hn b hb,λe=>?_,λz=>?_,.inl hb,λx c e z=>?_,λp hp z=>?_⟩
   ·exact Nat.ne_of_lt (Nat.lt_of_lt_of_le (hfo b hb) hCle) e
   ·rcases List.mem_cons.mp (I.stkSub b z) with e | e
    ·exact(hf b hb).2.1 e
    ·exact(hf b hb).2.2.1 e
   ·exact(hf b hb).2.2.2.2.1 x c (jd (λz hz e=>I.ok.has _ (B.free z hz e)) x c e) z
   ·have hp:p∈[(l,o)]:=by simpa [blk] using hp
    obtain rfl:=List.mem_singleton.mp hp;exact Nat.ne_of_lt (hfo b hb) z.symm
  refine codeAny_loop rfl (λn s'=>∃i ys σ' H' its k,Inv (blk X (jG X own fr) scope (qS X.env scope.names []) C fp s H) [(l,QR its k)] σ' H' s'/\qy ys its/\ys.length<=sizeLine/\tn i s'.heap/\(∀b∈fp,H' b=none)/\W i n ys σ' H')
   (λn s3 hI=>?_) m0 ⟨0,[],yH own fr σ,H,[],0,I0,.nil,Nat.zero_le _,st1,λb hb=>(hf b hb).1,w0⟩
  show wpAny _ X.A ((compTurn (.ListComp elt [⟨tg,iter,ifs,0⟩] scope pos) 0 (.ref it) (.ref l) (compEnvC scope (qS X.env scope.names []) C X.env)).onRaise (λx=>do noteFrame x (compEnvC scope (qS X.env scope.names []) C X.env);theTreesLotGoes x)) _ _ s3;refine wpAny_noted ?_;rw[compTurn_list];obtain⟨i,ys,σ3,H3,its,k,I3,rv,hz,st3,fr3,w3⟩:=hI;refine wpAny_bind (wpAny_standAt (wpAny_bind ?_));rcases hW i n ys σ3 H3 w3 with ⟨stop,qn⟩ | ⟨go,hlt,N,hN,step⟩
  ·refine thn (T.done (blk X (jG X own fr) scope (qS X.env scope.names []) C fp s H) rfl rfl rfl hc i _ s3 σ3 H3 _ I3 (stat fr3) st3 stop) λr s4 hq1=>?_;obtain⟨hr,I4⟩:=hq1;subst hr;obtain⟨m,hm,_⟩:=I4.loc;exact wpAny_pure (post l C s4 ys H3 m hCle I4.free (I4.pin (l,QR its k) (List.mem_append_right _ List.mem_cons_self)).2.1 hDC hm (qcw I hf (Nat.le_of_eq hl) I4 rv hz) qn)
  ·refine thn (T.item (blk X (jG X own fr) scope (qS X.env scope.names []) C fp s H) rfl rfl rfl hc i _ s3 σ3 H3 _ I3 (stat fr3) st3 go) λr s4 hq1=>?_;obtain⟨u,hr,h4⟩:=hq1;subst hr;refine wpAny_bind (thn h4 λ_ s5 hq1=>?_);obtain⟨x,H5,I5,r5,y5,st5,fr5⟩:=hq1;have I5':=I5.pinned (stat fr5) (T.obj _ _ st5);refine wpAny_bind (wpAny_mono (hg _ _ _ _ _ _ s5 σ3 H5 x u _ I5' r5 (step x H5 y5)) (λ_ s6 hz64=>?_) λ_ _ z=>z.elim);obtain⟨σ6,H6,I6,q6⟩:=hz64;refine wpAny_bind (wpAny_mono (ht _ _ _ _ _ _ s6 σ6 H6 _ I6 q6) (λb s7 hz65=>?_) λ_ _ z=>z.elim);obtain⟨H7,I7,q7⟩:=hz65
   have back:∀{σ8:St} {H8:Hp} {s8:Shared},Inv (blk X (jG X own fr) scope (qS X.env scope.names []) C fp s H) ([(l,QR its k)]++JH fp s5.heap) σ8 H8 s8->(∀b∈fp,∀o,s5.heap.get? b=some o->s8.heap.get? b=some o)/\∀b∈fp,H8 b=none:=λI8=>by refine⟨λb hb o e=>(I8.pin (b,o) (List.mem_append_right _ (List.mem_append_right _ (zK hb e)))).1,λb hb=>?_⟩;obtain⟨o,e,_⟩:=T.obj _ _ st5 b hb;exact(I8.pin (b,o) (List.mem_append_right _ (List.mem_append_right _ (zK hb e)))).2.1
   cases b with
   |false=>obtain⟨k1,k2⟩:=back I7;simp only[Bool.false_eq_true,if_false] at q7 ⊢;obtain⟨m',hm',w7⟩:=hN _ _ _ q7;exact wpAny_pure ⟨rfl,m',hm',i+1,ys,σ6,H7,its,k,I7.unpinned,rv,hz,T.keep _ _ _ st5 k1,k2,w7⟩
   |true=>
    simp only[if_true] at q7 ⊢;refine wpAny_bind (wpAny_bind (wpAny_mono (he _ _ _ _ _ _ s7 σ6 H7 _ I7 q7) (λw s8 hz66=>?_) λ_ _ z=>z.elim));obtain⟨y,H8,I8,r8,q8⟩:=hz66;obtain⟨k1,k2⟩:=back I8;obtain⟨m',hm',w8⟩:=hN _ _ _ q8;have pin:=I8.pin (l,QR its k) (List.mem_append_right _ (List.mem_append_left _ List.mem_cons_self));have hil:its.length=ys.length:=rv.length.symm;refine wpAny_bind (append_at pin.1 (λh9 hs9 hD9=>?_) (by rw[List.size_toArray,hil];exact hz));have new:h9.get? l=some (QR (its++[w]) (k+1)):=by rw[hD9,List.push_toArray]
    have Ia:Inv (blk X (jG X own fr) scope (qS X.env scope.names []) C fp s H) [] σ6 H8 s8:=I8.pins_of (λp hp=>nomatch hp)
    have Ib:Inv (blk X (jG X own fr) scope (qS X.env scope.names []) C fp s H) [] σ6 H8 { s8 with heap:=h9 }:=Ia.turned (t':=s8.toks) (λb o hb e=>hs9.extBut b o hb e) pin.2.1 pin.2.2.1 (.inr (Nat.le_of_eq hl)) (λx c e z=>by
     obtain⟨v,o,ho,hd⟩:=I8.cell x c e;rw[z,pin.1] at ho;cases ho
     cases hd) (λp hp=>by
      have hp:p∈([]:PP):=by simpa [blk] using hp
      cases hp)
    have Ic:Inv (blk X (jG X own fr) scope (qS X.env scope.names []) C fp s H) [(l,QR (its++[w]) (k+1))] σ6 H8 { s8 with heap:=h9 }:=Ib.pins_of λp hp=>by obtain rfl:=List.mem_singleton.mp hp;exact⟨new,pin.2.1,pin.2.2.1,pin.2.2.2.1,λv e=>by cases e⟩
    refine wpAny_pure (wpAny_pure ⟨rfl,m',hm',i+1,ys++[y],σ6,H8,its++[w],k+1,Ic,rv.append %[r8|0],by rw[List.length_append];exact hlt,T.keep _ _ _ st5 λb hb o e=>?_,k2,w8⟩);exact hs9.extBut b o (Nat.ne_of_lt (hfo b hb)) (k1 b hb o e)
 exact codeAny_compStart_list loop (T.self _ 0 _ _ _ st1 loop)
theorem Inv.letgo{s2 s4:Shared}{H2 H4:Hp}{C:Addr}{h':Heap}(I2:Inv X pins σ H2 s2){σ4:St}(I4:Inv X pins σ4 H4 s4)(hC:s2.heap.objs.size<=C)(hn:H4 C=none)(hs:Heap.SameBut C s4.heap h'):Inv X pins σ4 H4 { s4 with heap:=h' }:=by obtain⟨f0,f1,_,f3,f4,f5⟩:=I2.fpOk hC hn;exact I4.turned (t':=s4.toks) (λb o hb e=>hs.extBut b o hb e) f0 f1 f3 f4 f5
theorem qcx{elt iter tg:Expr}{ifs:List Expr}{pos:Pos}{g:TG}{tc:TT}{te:TE}{wi:TI}(own:List Str)(fr:List Nat)(hc:X.calm=true)(B:BlkScope X own fr scope)(hi:PI X tg iter wi)
  (hg:∀cl C fp s2 H2,PG (blk X (jG X own fr) scope cl C fp s2 H2) tg g) (ht:∀cl C fp s2 H2,PIf (blk X (jG X own fr) scope cl C fp s2 H2) ifs tc) (he:∀cl C fp s2 H2,PE (blk X (jG X own fr) scope cl C fp s2 H2) elt te)
  (hs:∀x,foldedSetIterable iter X.env x=pure x:=by intro _;rfl):PE X (.ListComp elt [⟨tg,iter,ifs,0⟩] scope pos) (qcv own fr wi g tc te):=by
 intro pins s σ H Q I h;rw[eval_ListComp];refine wpAny_comprehension_free (use:=none) rfl hs (qbw λz hz e=>I.ok.has _ (B.free z hz e)) B.kind B.names ?_;refine thn (hi pins s σ H _ I h) λv s1 h1=>thn h1 λitv s2 h2=>?_;obtain⟨it,fp,tn,J,H2,e,I2,T,st2,f2,W,⟨m0,w0⟩,hW⟩:=h2;subst e;refine JU hc B hg ht he I2 T st2 f2 w0 hW λl C s4 ys H' m hC nC nl hlC hm I4 fin=>?_;exact⟨m,hm,λh' hs'=>⟨.ref l,_,I2.letgo I4 hC (by rw[qb (Ne.symm hlC)];exact nC) hs',rfl,fin l nl⟩⟩
theorem Zo{elt iter tg:Expr}{ifs:List Expr}{pos pos' cpos:Pos}{g:TG}{tc:TT}{te:TE}{wi:TI}{i:Nat}{x:Str}(own:List Str)(fr:List Nat)(hN:X.N.Nodup)(hxi:X.N[i]?=some x)(hx:X.env.scope.names.lookup x=some .local)(hc:X.calm=true)(B:BlkScope X own fr scope)(hi:PI X tg iter wi)
  (hg:∀cl C fp s2 H2,PG (blk X (jG X own fr) scope cl C fp s2 H2) tg g) (ht:∀cl C fp s2 H2,PIf (blk X (jG X own fr) scope cl C fp s2 H2) ifs tc) (he:∀cl C fp s2 H2,PE (blk X (jG X own fr) scope cl C fp s2 H2) elt te)
  (hsw:swapsWith (.ListComp elt [⟨tg,iter,ifs,0⟩] scope cpos) (some (.Name x pos')) pos.line X.env=pure true:=by rfl)
  (hs:∀x,foldedSetIterable iter X.env x=pure x:=by intro _;rfl):PS X (.Assign [.Name x pos'] (.ListComp elt [⟨tg,iter,ifs,0⟩] scope cpos) pos) (qgF (qcv own fr wi g tc te) (QU i)):=by
 intro pins s σ H D I h;rw[exec_Assign_Name_used _ _ _ _ hsw];refine wpAny_bind (wpAny_standAt (wpAny_bind ?_));show wpAny _ X.A (do let _<-comprehension (.ListComp elt [⟨tg,iter,ifs,0⟩] scope cpos) scope X.env _ (newList []) false (eval iter X.env) (some (assign (.Name x pos') X.env))) _ _ s;refine wpAny_bind (wpAny_mono (wpAny_comprehension_free (use:=some (assign (.Name x pos') X.env)) (Q:=λ_ s'=>SP X pins D .next s') rfl hs (qbw λz hz e=>I.ok.has _ (B.free z hz e)) B.kind B.names ?_) (λ_ s' hq=>wpAny_pure (wpAny_pure hq)) λ_ _ e=>e);refine thn (hi pins s σ H _ I h) λv s1 h1=>thn h1 λitv s2 h2=>?_;obtain⟨it,fp,tn,J,H2,e,I2,T,st2,f2,W,⟨m0,w0⟩,hW⟩:=h2;subst e;refine JU (RR:=λacc C=>compPost (model X.prog X.w) X.A X.xe (some (assign (.Name x pos') X.env)) (λ_ s'=>SP X pins D .next s') acc C) hc B hg ht he I2 T st2 f2 w0 hW λl C s4 ys H' m hC nC nl hlC hm I4 fin=>?_;show wpAny _ X.A (assign (.Name x pos') X.env (.ref l)) _ _ s4;refine wpAny_assign_Name (ja I4 hN hxi (.inl hx) (v:=.ref l) rfl (λs5 I5 hsb=>?_) (.inr hx));obtain⟨a,sb,ha⟩:=hsb
 have hCa:C≠a:=by
  rcases ha with rfl | ha
  ·exact Nat.ne_of_gt (Nat.lt_of_lt_of_le I2.lt hC)
  ·obtain⟨v,q⟩:=I2.cell x a ha;exact Nat.ne_of_gt (Nat.lt_of_lt_of_le q.lt hC)
 exact⟨m,hm.sameBut sb hCa,λh' hs'=>⟨_,_,I2.letgo I5 hC (by rw[qb (Ne.symm hlC)];exact nC) hs',fin l nl⟩⟩
end
end L2
namespace L2
open PySem PySem.Spec PyProof.Rows
mutual
noncomputable def DV(K:Frag)(H:Hp):PyData->V->Prop
 |.none,v=>v=.non
 |.bool b,v=>v=.bl b
 |.int i,v=>v=.int i
 |.str x,v=>v=.str x
 |.list ds,v=>∃a xs,v=.ref a/\SqL K H a xs/\DVs K H ds xs
 |.tuple ds,v=>∃a xs,v=.ref a/\SqT K H a xs/\DVs K H ds xs
 |.dict _,_=>False
noncomputable def DVs(K:Frag)(H:Hp):List PyData->List V->Prop
 |[],xs=>xs=[]
 | d::ds,xs=>∃x r,xs=x::r/\DV K H d x/\DVs K H ds r
end
section
variable{X:Cx}{pins:PP}{σ:St}{H:Hp}{s:Shared}
mutual
theorem DV.reads(I:Inv X pins σ H s):∀{d:PyData} {v:V} {u:Value},DV X.K H d v->qC v u->∃as,Reads s.heap u d as
 |.none,v,u,h,r=>by
  have h:v=.non:=by simpa [DV] using h
  subst h;cases r;exact⟨_,Reads.none⟩
 |.bool b,v,u,h,r=>by
  have h:v=.bl b:=by simpa [DV] using h
  subst h;cases r;exact⟨_,Reads.bool b⟩
 |.int i,v,u,h,r=>by
  have h:v=.int i:=by simpa [DV] using h
  subst h;obtain⟨t,rfl⟩:=r;exact⟨_,Reads.int i t⟩
 |.str x,v,u,h,r=>by
  have h:v=.str x:=by simpa [DV] using h
  subst h;obtain⟨t,rfl⟩:=r;exact⟨_,Reads.str x t⟩
 |.list ds,v,u,h,r=>by
  have h:∃a xs,v=.ref a/\SqL X.K H a xs/\DVs X.K H ds xs:=by simpa [DV] using h
  obtain⟨a,xs,rfl,hq,hd⟩:=h;cases r;obtain⟨its,rv,pl,_⟩:=I.list hq;obtain⟨as,ra⟩:=DVs.reads I hd rv;obtain⟨o,ho,hc,n,hdd⟩:=pl.isList;exact⟨_,reads_list_at ho hc hdd (by simpa using ra)⟩
 |.tuple ds,v,u,h,r=>by
  have h:∃a xs,v=.ref a/\SqT X.K H a xs/\DVs X.K H ds xs:=by simpa [DV] using h
  obtain⟨a,xs,rfl,hq,hd⟩:=h;cases r;obtain⟨its,rv,pl,_⟩:=I.tuple hq;obtain⟨as,ra⟩:=DVs.reads I hd rv;obtain⟨o,ho,hc,n,hdd⟩:=pl;exact⟨_,reads_tuple_at ho hc hdd (by simpa using ra)⟩
 |.dict _,v,u,h,r=>by simp[DV] at h
theorem DVs.reads(I:Inv X pins σ H s):∀{ds:List PyData} {vs:List V} {us:List Value},DVs X.K H ds vs->qy vs us->∃as,ReadsAll s.heap us ds as
 |[],vs,us,h,r=>by
  have h:vs=[]:=by simpa [DVs] using h
  subst h;cases r;exact⟨_,ReadsAll.nil⟩
 | d::ds,vs,us,h,r=>by
  have h:∃x r,vs=x::r/\DV X.K H d x/\DVs X.K H ds r:=by simpa [DVs] using h
  obtain⟨x,rr,rfl,h1,h2⟩:=h
  cases r with
  |cons r1 r2=>obtain⟨as,ra⟩:=DV.reads I h1 r1;obtain⟨bs,rb⟩:=DVs.reads I h2 r2;exact⟨_,ReadsAll.cons ra rb⟩
end
noncomputable def qi1(K:Frag):R2:=λx y H Q=>∃d e,DV K H d x/\DV K H e y/\SeqAt.shaped d=true/\SeqAt.shaped e=true/\Q (.bl (PyData.eqv d e)) H
noncomputable def qi2(K:Frag):R2:=λx y H Q=>∃d e,DV K H d x/\DV K H e y/\SeqAt.shaped d=true/\SeqAt.shaped e=true/\Q (.bl (!PyData.eqv d e)) H
theorem qeE(hu:X.A.units+64 < cLine):OpR X (compareOp .Eq) (qi1 X.K):=by intro pins s σ H x y v u Q I rx ry h;obtain⟨d,e,hd,he,sd,se,q⟩:=h;obtain⟨as,ra⟩:=DV.reads I hd rx;obtain⟨bs,rb⟩:=DV.reads I he ry;exact eq_dataH ra rb sd se hu ⟨.bl _,H,I,rfl,q⟩
theorem qeF(hu:X.A.units+64 < cLine):OpR X (compareOp .NotEq) (qi2 X.K):=by intro pins s σ H x y v u Q I rx ry h;obtain⟨d,e,hd,he,sd,se,q⟩:=h;obtain⟨as,ra⟩:=DV.reads I hd rx;obtain⟨bs,rb⟩:=DV.reads I he ry;exact ne_dataH ra rb sd se hu ⟨.bl _,H,I,rfl,q⟩
theorem qaA:zW X (.builtin "isinstance") (λvs H Q=>∃x n t b,vs=[x,.ty n]/\TyOf X.K H x t/\PySem.W.kitOne X.K t (.type n)=some b/\Q (.bl b) H):=by intro pins s σ H xs us Q I r h;obtain⟨x,n,t,b,rfl,ty,e,q⟩:=h;obtain⟨u,w,rfl,rx,rn⟩:=Q4 r;cases rn;exact JL I rx ty e λtk=>⟨.bl b,H,I.tok tk,rfl,q⟩
end
end L2
namespace L2
open PySem PySem.Spec PyProof.Rows
noncomputable def jX(osc:Scope)(N:List Str)(fr:List Nat)(sc:Scope):Bool:=
 sc.kind == .function&&(sc.names.all λx=>x.2 != .cell&&(x.2 != .local||sc.names.lookup x.1 == some .local)&&(x.2 != .free||(osc.names.lookup x.1 == some .cell||osc.names.lookup x.1 == some .free)))&&fr.all λi=>sc.names.lookup (N.getD i "") == some .free
theorem qj.upd{H:Hp}{a:Addr}{o:HO}(h:H a=none):qj H (upd H a o):=λb u e=>by rw[qb (qG e h)];exact e
end L2
namespace L2
open PySem PySem.Spec PyProof.Rows PySem.W
noncomputable def Chn(h:Heap):Nat->Addr->Prop
 |0,x=>∃o vs C,h.get? x=some o/\o.cls=.ref C/\o.data=.fields vs/\vs[2]?=some .none
 | n+1,x=>∃o vs C c,h.get? x=some o/\o.cls=.ref C/\o.data=.fields vs/\vs[2]?=some (.ref c)/\Chn h n c
theorem Chn.uniq{h:Heap}:∀{n m:Nat} {x:Addr},Chn h n x->Chn h m x->n=m
 |0,0,_,_,_=>rfl
 | 0,m+1,x,a,b=>by obtain⟨o,vs,C,h1,_,h3,h4⟩:=a;obtain⟨o',vs',C',c,g1,_,g3,g4,_⟩:=b;rw[h1] at g1;cases g1;rw[h3] at g3;cases g3;rw[h4] at g4;cases g4
 | n+1,0,x,a,b=>by obtain⟨o,vs,C,h1,_,h3,h4⟩:=b;obtain⟨o',vs',C',c,g1,_,g3,g4,_⟩:=a;rw[h1] at g1;cases g1;rw[h3] at g3;cases g3;rw[h4] at g4;cases g4
 | n+1,m+1,x,a,b=>by obtain⟨o,vs,C,c,h1,_,h3,h4,h5⟩:=a;obtain⟨o',vs',C',c',g1,_,g3,g4,g5⟩:=b;rw[h1] at g1;cases g1;rw[h3] at g3;cases g3;rw[h4] at g4;cases g4;rw[Chn.uniq h5 g5]
theorem Chn.at{h:Heap}{n:Nat}{x:Addr}(c:Chn h n x):∃o vs C,h.get? x=some o/\o.cls=.ref C/\o.data=.fields vs:=by
 cases n with
 |zero=>obtain⟨o,vs,C,a,b,d,_⟩:=c;exact⟨o,vs,C,a,b,d⟩
 |succ n=>obtain⟨o,vs,C,c,a,b,d,_⟩:=c;exact⟨o,vs,C,a,b,d⟩
theorem Chn.keep{h h':Heap}(k:∀b o vs C,h.get? b=some o->o.cls=.ref C->o.data=.fields vs->∃o' vs',h'.get? b=some o'/\o'.cls=o.cls/\o'.data=.fields vs'/\vs'[2]?=vs[2]?):∀{n:Nat} {x:Addr},Chn h n x->Chn h' n x:=by
 intro n
 induction n with
 |zero=>intro x c;obtain⟨o,vs,C,a,b,d,e⟩:=c;obtain⟨o',vs',a',b',d',e'⟩:=k x o vs C a b d;exact⟨o',vs',C,a',b'.trans b,d',e'.trans e⟩
 |succ n ih=>intro x c;obtain⟨o,vs,C,c,a,b,d,e,f⟩:=c;obtain⟨o',vs',a',b',d',e'⟩:=k x o vs C a b d;exact⟨o',vs',C,c,a',b'.trans b,d',e'.trans e,ih f⟩
structure NX(fs:List Addr)(e:Addr)(oT:Option Addr)(oe:Obj)(vs:Array Value)(T':Addr)(fl:Value)(h h':Heap):Prop where
 kept:∀b o,b∉fs->b≠e->oT≠some b->h.get? b=some o->h'.get? b=some o
 frame:∀b o,b∈fs->h.get? b=some o->∃sl,h'.get? b=some { o with slots:=sl }
 obj:∃o' vs',h'.get? e=some o'/\o'.cls=oe.cls/\o'.dict=oe.dict/\o'.data=.fields vs'/\vs'[0]?=vs[0]?/\vs'[1]?=some (.ref T')/\vs'[2]?=vs[2]?
 new:h.get? T'=none
 ne:T'≠e
 ent:∃ot ts,h'.get? T'=some ot/\ot.data=.fields ts/\ts[3]?=some fl/\ot.cls=.type "traceback"
section
variable{M:Model}{A:Around}{E:PQ}{s:Shared}{base:Heap}{env:Env}{outer:List Env}{L e:Addr}{oe:Obj}{vs:Array Value}{Q:Unit->Shared->Prop}
theorem qcy(hl:s.heap.FunFrames base (env::outer))(he:s.heap.get? e=some oe)(hd:oe.data=.fields vs):e∉frs (env::outer):=λhm=>by obtain⟨_,o,ho,hnf⟩:=hl.mem hm;rw[he] at ho;cases ho;exact hnf vs hd
theorem yW{head:Value}{hadNext:Bool}(hfr:A.frames=some (env::outer))(hl:s.heap.FunFrames base (env::outer))(hf:env.frame=some L)(he:s.heap.get? e=some oe)(hd:oe.data=.fields vs)(hsz:1 < vs.size)
  (k:∀h' T',NX (frs (env::outer)) e none oe vs T' (rawInt L) s.heap h'->Q () { s with heap:=h' }) :
  wpAny M A (do let fr<-frameOf env;let pl<-entryPlaceOf L hadNext;let en<-EntryCells.newEntry head fr .none (rawInt L) .none pl;setField (.ref e) 1 en) Q E s:=by
 have hne:=qcy hl he hd;refine wpAny_bind (wpAny_frameOf_fun hfr hl hf λh1 so=>wpAny_bind (wpAny_entryPlaceOf λpl hpl=>wpAny_bind ?_));obtain⟨so1,so2,so3⟩:=so;have e1:h1.get? e=some oe:=(so2 e hne).trans he;simp only[EntryCells.newEntry,newFields];refine wpAny_newObj_type ?_ (hpl.sizeOk5 _ _ _ _ _);generalize hob:(⟨.type "traceback",none,.fields ([head,.ref L,.none,rawInt L,.none]++(if pl.isEmpty then List.replicate 6 Value.none else pl)).toArray,#[]⟩:Obj)=tb;have hts:∃ts,tb.data=.fields ts/\ts[3]?=some (rawInt L):=⟨_,by rw[<-hob],by simp⟩;have e2:(h1.push tb).get? e=some oe:=Heap.get?_push_of_some _ e1;refine wpAny_setField e2 hd hsz (k _ h1.objs.size ?_);have hTe:h1.objs.size≠e:=Nat.ne_of_gt (Heap.lt_size e1)
 have up:∀b o,b≠e->h1.get? b=some o->((h1.push tb).update e (Obj.mapFields (·.setIfInBounds 1 (Value.ref h1.objs.size)))).get? b=some o:=λb o hb q=>by rw[Heap.get?_update_other _ _ (Ne.symm hb)];exact Heap.get?_push_of_some _ q
 have hdt:=Obj.data_mapFields hd (·.setIfInBounds 1 (Value.ref h1.objs.size));refine⟨λb o h1' h2' _ q=>up b o h2' ((so2 b h1').trans q),λb o hb q=>?_,?_,?_,hTe,?_⟩
 ·obtain⟨sl,z⟩:=so3 b o q;exact⟨sl,up b _ (λz=>hne (z▸hb)) z⟩
 ·refine⟨_,_,Heap.get?_update_self _ e2 (Obj.isFreed_of_fields hdt),Obj.cls_mapFields _ _,?_,hdt,?_,?_,?_⟩
  ·obtain⟨c1,c2,c3,c4⟩:=oe;cases hd;rfl
  ·rw[Array.getElem?_setIfInBounds_ne (2:)]
  ·simp[hsz]
  ·rw[Array.getElem?_setIfInBounds_ne (2:)]
 ·cases q:s.heap.get? h1.objs.size with
  |none=>rfl
  |some o=>obtain⟨sl,z⟩:=so3 _ o q;exact absurd (Heap.lt_size z) (Nat.lt_irrefl _)
 ·obtain⟨ts,t1,t2⟩:=hts;refine⟨tb,ts,?_,t1,t2,by rw[<-hob]⟩;rw[Heap.get?_update_other _ _ (Ne.symm hTe)];exact Heap.get?_push_size _ (by rw[<-hob];rfl)
noncomputable def QF(h:Heap)(e:Addr)(vs:Array Value):Option Addr->Prop
 |none=>vs[1]?=some .none/\∃n,Chn h n e
 |some T=>vs[1]?=some (.ref T)/\T≠e/\∃ot ts,h.get? T=some ot/\ot.data=.fields ts/\ts[3]?=some .none/\ot.cls=.type "traceback"/\∃n,Chn h n e
theorem qbx{oT:Option Addr}(hfr:A.frames=some (env::outer))(hl:s.heap.FunFrames base (env::outer))(hf:env.frame=some L)(he:s.heap.get? e=some oe)(hd:oe.data=.fields vs)(hb:QF s.heap e vs oT)
  (k:∀h' T',NX (frs (env::outer)) e oT oe vs T' (rawInt L) s.heap h'->Q () { s with heap:=h' }):wpAny M A (noteFrame (.ref e) env) Q E s:=by
 simp only[noteFrame,hf]
 cases oT with
 |none=>have hv:vs[1]?=some .none:=hb.1;have hsz:1 < vs.size:=(Array.getElem?_eq_some_iff.mp hv).1;refine wpAny_bind (wpAny_field he hd hv ?_);rw[if_neg (2:)];exact yW hfr hl hf he hd hsz k
 |some T=>
  obtain⟨hv,hTe,ot,ts,hT,hdT,h3,_⟩:=hb;have hsz:1 < vs.size:=(Array.getElem?_eq_some_iff.mp hv).1;refine wpAny_bind (wpAny_field he hd hv ?_);rw[if_pos (show(Value.ref T != Value.none)=true by simp)];refine wpAny_bind (wpAny_field hT hdT h3 ?_);rw[if_neg (show ¬ ((Value.none == rawInt L)=true) by simp[rawInt])];refine wpAny_bind (wpAny_setField hT hdT (Array.getElem?_eq_some_iff.mp h3).1 ?_);have oth:∀{b:Addr},b≠T->(s.heap.update T (Obj.mapFields (·.setIfInBounds 3 Value.none))).get? b=s.heap.get? b:=λhb=>Heap.get?_update_other _ _ (Ne.symm hb)
  have nT:∀{b:Addr} {o:Obj},s.heap.get? b=some o->(∀vs,o.data≠.fields vs)->b≠T:=λ{b o} q hn z=>by rw[z,hT] at q;cases q;exact hn ts hdT
  have hl2:(s.heap.update T (Obj.mapFields (·.setIfInBounds 3 Value.none))).FunFrames base (env::outer):=hl.of_keeps λb o q hn=>⟨o,(oth (nT q hn)).trans q,rfl⟩;refine yW (s:={ s with heap:=s.heap.update T (Obj.mapFields (·.setIfInBounds 3 Value.none)) }) hfr hl2 hf ((oth (Ne.symm hTe)).trans he) hd hsz λh' T' nx=>k h' T' ?_;obtain⟨n1,n2,n3,n4,n5,n6⟩:=nx;refine⟨λb o h1 h2 h4 q=>n1 b o h1 h2 (by simp) ((oth (λz=>h4 (by rw[z]))).trans q),λb o hb q=>n2 b o hb ((oth ?_).trans q),n3,?_,n5,n6⟩
  ·obtain⟨_,o',ho',hn⟩:=hl.mem hb;exact nT ho' hn
  ·cases q:s.heap.get? T' with
   |none=>rfl
   |some o=>
    by_cases z:T'=T
    ·subst z
     have:=Heap.get?_update_self (Obj.mapFields (·.setIfInBounds 3 Value.none)) hT (Obj.isFreed_of_fields (Obj.data_mapFields hdT _))
     rw[this] at n4;cases n4
    ·rw[oth z,q] at n4;cases n4
theorem jY{fs:List Addr}{oT:Option Addr}{T':Addr}{fl:Value}{h:Heap}(nx:NX fs e oT oe vs T' fl h s.heap)(k:∀h',NX fs e oT oe vs T' .none h h'->Q () { s with heap:=h' }):wpAny M A (setFlight (.ref e) none) Q E s:=by
 obtain⟨n1,n2,⟨o',vs',o1,o2,o3,o4,o5,o6,o7⟩,n4,n5,ot,ts,t1,t2,t3,t4⟩:=nx;have h3:3 < ts.size:=(Array.getElem?_eq_some_iff.mp t3).1;unfold setFlight;refine wpAny_bind (wpAny_field o1 o4 o6 ?_);rw[if_pos (show(Value.ref T' != Value.none)=true by simp)];refine wpAny_setField t1 t2 h3 (k _ ?_);have oth:∀{b:Addr},b≠T'->(s.heap.update T' (Obj.mapFields (·.setIfInBounds 3 ((none:Option Addr).elim Value.none λf=>rawInt f)))).get? b=s.heap.get? b:=λhb=>Heap.get?_update_other _ _ (Ne.symm hb)
 have nT:∀{b:Addr} {o:Obj},h.get? b=some o->b≠T':=λ{b o} q z=>by rw[z,n4] at q;cases q
 have hdt:=Obj.data_mapFields t2 (·.setIfInBounds 3 ((none:Option Addr).elim Value.none λf=>rawInt f));refine⟨λb o h1 h2 h4 q=>(oth (nT q)).trans (n1 b o h1 h2 h4 q),λb o hb q=>?_,⟨o',vs',(oth (Ne.symm n5)).trans o1,o2,o3,o4,o5,o6,o7⟩,n4,n5,_,_,Heap.get?_update_self _ t1 (Obj.isFreed_of_fields hdt),hdt,by simp[h3],(Obj.cls_mapFields _ _).trans t4⟩;obtain⟨sl,z⟩:=n2 b o hb q;exact⟨sl,(oth (nT q)).trans z⟩
theorem qcz{oT:Option Addr}(hfr:A.frames=some (env::outer))(hl:s.heap.FunFrames base (env::outer))(hf:env.frame=some L)(he:s.heap.get? e=some oe)(hd:oe.data=.fields vs)(hb:QF s.heap e vs oT)
  (k:∀h' T',NX (frs (env::outer)) e oT oe vs T' .none s.heap h'->Q () { s with heap:=h' }):wpAny M A (leaving env (.ref e)) Q E s:=by
 unfold leaving;exact wpAny_bind (qbx hfr hl hf he hd hb λh1 T' nx=>jY (s:={ s with heap:=h1 }) nx λh2 nx2=>k h2 T' nx2)
end
end L2
namespace L2
open PySem PySem.Spec PyProof.Rows PySem.W
noncomputable def Fly(h:Heap)(x:Addr)(C:Addr)(od oT:Option Addr):Prop:=∃oe vs,h.get? x=some oe/\oe.cls=.ref C/\oe.dict=od/\oe.data=.fields vs/\QF h x vs oT
noncomputable def CX1(P:Program)(w:World):CXT:=λouter H s E e s'=>∃x T C od H',e=.ref x/\s'.os=s.os/\AllBare s'.gens/\Un (frs outer) [] H H' s.heap s'.heap/\HOk P w H' s'.heap/\H' x=none/\H' T=none/\
 s.heap.get? x=none/\s.heap.get? T=none/\Fly s'.heap x C od (some T)/\E (.ref C) od H'
theorem Y2{P:Program}{w:World}{H:Hp}{h:Heap}{a:Addr}{o:HO}(x:qH P w H h a o):∃ob,h.get? a=some ob:=by
 cases o with
 |lst xs=>obtain⟨z,its,n,r,e⟩:=x;exact⟨_,e⟩
 |tup xs=>obtain⟨z,its,r,ob,e,c⟩:=x;exact⟨_,e⟩
 |dK kvs=>obtain⟨z,y,vs,r,ob,es,ep,e,c⟩:=x;exact⟨_,e⟩
 |dT kvs=>obtain⟨z,y,xs,r,ob,es,ep,e,c⟩:=x;exact⟨_,e⟩
 |set S n=>obtain⟨ob,es,ep,t,e,c⟩:=x;exact⟨_,e⟩
 |ins C dx fs=>obtain⟨d,z,ne,e,_⟩:=x;exact⟨_,e⟩
 |own y=>obtain⟨ob,e⟩:=x;exact⟨_,e⟩
 |xd fs=>obtain⟨mA,⟨od,es,ep,e,c⟩,r⟩:=x;exact⟨_,e⟩
 |rng lo hi=>obtain⟨t,u,v,e⟩:=x;exact⟨_,e⟩
 |frz ob u=>obtain⟨e,q⟩:=x;exact⟨_,e⟩
 |tbl ps=>exact⟨_,x⟩
 |met f y=>exact⟨_,x⟩
 |ext φ=>obtain⟨p,⟨o,e⟩,st⟩:=x;exact⟨_,e⟩
section
variable{X:Cx}{pins:PP}{σ:St}{H:Hp}{s:Shared}
structure Mine(X:Cx)(pins:PP)(H:Hp)(x:Addr)(oT:Option Addr):Prop where
 hx:H x=none
 x0:X.s₀.heap.get? x=none
 hT:∀T,oT=some T->H T=none/\X.s₀.heap.get? T=none
 pin:∀p∈X.pn++pins,p.1≠x/\oT≠some p.1
variable{x T':Addr}{oT:Option Addr}{oe:Obj}{vs:Array Value}{h':Heap}
theorem yj(I:Inv X pins σ H s)(hex:X.ex=[])(M:Mine X pins H x oT)(fx:∃o vs,s.heap.get? x=some o/\o.data=.fields vs)(fT:∀T,oT=some T->∃o vs,s.heap.get? T=some o/\o.data=.fields vs)(nx:NX (frs X.stack) x oT oe vs T' .none s.heap h') :
  Inv X pins σ H { s with heap:=h' }:=by
 obtain⟨k1,k2,_⟩:=nx;have nex:∀{b:Addr},b∉X.ex:=λ{b} hb=>by rw[hex] at hb;cases hb
 have s0x:∀{b:Addr} {o:Obj},X.s₀.heap.get? b=some o->b≠X.env.locals/\b≠x/\oT≠some b:=λ{b o} e=>⟨Nat.ne_of_lt (Nat.lt_of_lt_of_le (Heap.lt_size e) I.ok.above),(λz=>by rw[z,M.x0] at e;cases e),(λz=>by rw[(M.hT b z).2] at e;cases e)⟩
 have frm:∀{b:Addr},b∈frs X.stack->b=X.env.locals\/b∈X.fs:=λ{b} hb=>List.mem_cons.mp (I.stkSub b hb)
 have any:∀{b:Addr} {o:Obj},s.heap.get? b=some o->(∀vs,o.data≠.fields vs)->∃sl,h'.get? b=some { o with slots:=sl }:=λ{b o} e hn=>by
  by_cases hm:b∈frs X.stack
  ·exact k2 b o hm e
  ·refine⟨o.slots,k1 b o hm (λz=>?_) (λz=>?_) e⟩
   ·obtain⟨o',v',q,qd⟩:=fx;rw[z,q] at e;cases e;exact hn v' qd
   ·obtain⟨o',v',q,qd⟩:=fT b z;rw[q] at e;cases e;exact hn v' qd
 have cellK:∀{c:Addr} {v:Option Value},s.heap.IsCell c v->h'.IsCell c v:=λ{c v} ⟨o,ho,hd⟩=>by
  obtain⟨sl,e⟩:=any ho λvs z=>by rw[hd] at z;cases z
  exact⟨_,e,hd⟩
 refine⟨I.ok,I.os,I.bare,⟨λb o e n hb hx=>?_,λb o e n hb hx=>?_,I.base.free,λb o e hx=>?_,I.base.tups,I.base.frzs,I.base.tbls⟩,?_,λy c e=>?_,I.free,I.freeC,λp hp=>?_,λa o e=>?_,I.len⟩
 ·obtain⟨z1,z2,z3⟩:=s0x e;refine k1 b o (λz=>?_) z2 z3 (I.base.keep b o e n hb hx);rcases frm z with z | z
  ·exact z1 z
  ·exact hb z
 ·obtain⟨sl,e1⟩:=I.base.slot b o e n hb hx;obtain⟨_,o',ho',hd⟩:=I.ok.funs.mem hb;rw[e] at ho';cases ho';obtain⟨sl',e2⟩:=any e1 hd;exact⟨sl',e2⟩
 ·obtain⟨o1,e1⟩:=I.base.there b o e hx;obtain⟨z1,z2,z3⟩:=s0x e
  by_cases hm:b∈frs X.stack
  ·obtain⟨sl,e2⟩:=k2 b _ hm e1;exact⟨_,e2⟩
  ·exact⟨_,k1 b _ hm z2 z3 e1⟩
 ·obtain⟨m,⟨o,es,ep,ho,hd,r⟩,hl⟩:=I.loc;obtain⟨sl,e2⟩:=any ho λvs z=>by rw[hd] at z;cases z
  refine⟨m,⟨_,es,ep,e2,hd,r⟩,λi y v e1 e2 e3=>?_⟩;obtain⟨u,r,l⟩:=hl i y v e1 e2 e3;refine⟨u,r,?_⟩;rcases l with l | ⟨k,c,e,z⟩
  ·exact .inl l
  ·exact .inr ⟨k,c,e,cellK z⟩
 ·obtain⟨v,z⟩:=I.cell y c e;exact⟨v,cellK z⟩
 ·obtain⟨e,n,ne,nf,d⟩:=I.pin p hp;refine⟨k1 _ _ (λz=>?_) (M.pin p hp).1 (M.pin p hp).2 e,n,ne,nf,d⟩;rcases frm z with z | z
  ·exact ne z
  ·exact nf z
 ·have trk:∀{b:Addr} {u:HO},H b=some u->b∉frs X.stack/\b≠x/\oT≠some b:=λ{b u} e=>
   ⟨(λz=>by rw[I.stkFree b z] at e;cases e),(λz=>by rw[z,M.hx] at e;cases e),(λz=>by rw[(M.hT b z).1] at e;cases e)⟩
  refine(I.hok a o e).stay (λb u hb q=>?_) (λ_ q=>q) λ_ _ q=>q
  have:b∉frs X.stack/\b≠x/\oT≠some b:=by
   rcases hb with z | z
   ·rw[z];exact trk e
   ·exact trk z
  exact k1 _ _ this.1 this.2.1 this.2.2 q
theorem NX.chn{h:Heap}{fs:List Addr}{fl:Value}(nx:NX fs x oT oe vs T' fl h h')(he:h.get? x=some oe)(hf:oe.data=.fields vs)(b:QF h x vs oT):∃n,Chn h' n x:=by
 obtain⟨k1,k2,⟨o',vs',o1,o2,o3,o4,o5,o6,o7⟩,_⟩:=nx
 obtain⟨n,c⟩:∃n,Chn h n x:=by
  cases oT with
  |none=>exact b.2
  |some T=>obtain⟨_,_,_,_,_,_,_,_,q⟩:=b;exact q
 refine⟨n,c.keep λy o ws C e1 e2 e3=>?_⟩
 by_cases hx:y=x
 ·subst hx;rw[he] at e1;cases e1;rw[hf] at e3;cases e3;exact⟨o',vs',o1,o2,o4,o7⟩
 by_cases hm:y∈fs
 ·obtain⟨sl,z⟩:=k2 y o hm e1;exact⟨_,ws,z,rfl,e3,rfl⟩
 by_cases hT:oT=some y
 ·subst hT;obtain⟨_,_,ot,ts,t1,_,_,t4,_⟩:=b;rw[t1] at e1;cases e1;rw[t4] at e2;cases e2
 exact⟨o,ws,k1 y o hm hx hT e1,rfl,e3,rfl⟩
theorem NX.fly{C:Addr}{od:Option Addr}{h:Heap}{fs:List Addr}(nx:NX fs x oT oe vs T' .none h h')(hc:oe.cls=.ref C)(hd:oe.dict=od)(he:h.get? x=some oe)(hf:oe.data=.fields vs)(b:QF h x vs oT):Fly h' x C od (some T'):=by have q:=nx.chn he hf b;obtain⟨_,_,⟨o',vs',o1,o2,o3,o4,o5,o6,_⟩,_,n5,ot,ts,t1,t2,t3,t4⟩:=nx;exact⟨o',vs',o1,o2.trans hc,o3.trans hd,o4,o6,n5,ot,ts,t1,t2,t3,t4,q⟩
theorem Fly.fields{C:Addr}{od:Option Addr}{h:Heap}(fl:Fly h x C od oT):(∃o vs,h.get? x=some o/\o.data=.fields vs)/\∀T,oT=some T->∃o vs,h.get? T=some o/\o.data=.fields vs:=by obtain⟨o,vs,e1,_,_,e4,b⟩:=fl;refine⟨⟨o,vs,e1,e4⟩,λT z=>?_⟩;subst z;obtain⟨_,_,ot,ts,t1,t2,_⟩:=b;exact⟨ot,ts,t1,t2⟩
theorem Inv.newH{x:Addr}(I:Inv X pins σ H s)(h:s.heap.get? x=none):H x=none:=by
 cases e:H x with
 |none=>rfl
 |some u=>obtain⟨o,q⟩:=Y2 (I.hok x u e);rw[h] at q;cases q
theorem Inv.new0{x:Addr}(I:Inv X pins σ H s)(hx:x∉X.ex)(h:s.heap.get? x=none):X.s₀.heap.get? x=none:=by
 cases e:X.s₀.heap.get? x with
 |none=>rfl
 |some o=>obtain⟨o',q⟩:=I.base.there x o e hx;rw[h] at q;cases q
theorem Y3{E:XK}{C:Addr}{od:Option Addr}(I:Inv X pins σ H s)(hst:X.stack=X.env::X.outer/\X.env.frame=some X.env.locals)(hex:X.ex=[])(M:Mine X pins H x oT)(fl:Fly s.heap x C od oT)(q:E (.ref C) od H){E':PQ} :
  wpAny (model X.prog X.w) X.A (leaving X.env (.ref x)) (λ_ s''=>CX1 X.prog X.w X.outer X.Hv X.s₀ E (.ref x) s'') E' s:=by
 obtain⟨fx,fT⟩:=fl.fields;obtain⟨oe,vs,e1,e2,e3,e4,b⟩:=fl;have hfr:X.A.frames=some (X.env::X.outer):=by rw[<-hst.1];exact I.ok.frames
 have hl:=I.stack;rw[hst.1] at hl;refine qcz hfr hl hst.2 e1 e4 b λh' T' nx=>?_;have nx2:=nx;rw[<-hst.1] at nx2;have I2:=yj I hex M fx fT nx2;have no:∀b:Addr,b∉X.ex:=λb z=>by rw[hex] at z;cases z
 exact⟨x,T',C,od,H,rfl,I2.os,I2.bare,by rw[<-hex];exact I2.base,I2.hok,M.hx,I.newH nx.new,M.x0,I.new0 (no T') nx.new,nx.fly e2 e3 e1 e4 b,q⟩
end
end L2
namespace L2
open PySem PySem.Spec PyProof.Rows PySem.W
theorem qcA{K:Frag}{h:Heap}{C:Addr}{bB:List Value}{nid:String}(Y:K.In h)(ok:excIn K C bB nid=true) :
  ∃bm N nm qn bs hd sn sub ab col dd k0 k1 k2 k3 k5 mN,h.get? C=some (excClassObj nm qn C N bs bm hd sn sub ab col dd k0 k1 k2 k3 k5 nid)/\h.Ns N mN/\mN "__init__" = none/\OwnTail h bB bm:=by
 unfold excIn at ok
 split at ok
 case h_2=>cases ok
 case h_1 d1 cdat slots hlk=>
  split at ok
  case h_2=>cases ok
  case h_1 C2 tl a0 a1 a2 a3 nn a5 hmro hsl=>
   simp only[Bool.and_eq_true,beq_iff_eq,Bool.not_eq_true'] at ok;obtain⟨⟨⟨⟨⟨e1,e2⟩,e3⟩,e4⟩,e5⟩,e6⟩:=ok;subst e1;subst e2;obtain⟨w1,w2,w3,w4,w5,w6,w7,w8,w9,w10,w11⟩:=cdat
   dsimp only at hmro e3 e5 e6;subst hmro;subst e3;obtain⟨sl⟩:=slots;obtain rfl:sl=[a0,a1,a2,a3,some (.builtin nn),a5]:=hsl;exact⟨tl,w4,w1,w5,w2,w6,w7,w8,w9,w10,d1,a0,a1,a2,a3,a5,_,Y _ _ hlk,.of_isNs (isNs_of_in Y e5),nsMap_none_of_in Y e5 e6,tail_of_in Y e4⟩
noncomputable def Zp(X:Cx)(E:XK):Prop:=∀(pins:PP) (σ:St) (H:Hp) (s:Shared),Inv X pins σ H s->∀(h':Heap) (x C:Addr) (vs:List Value),Heap.MadeExcOf s.heap h' x (.ref C) vs->E (.ref C) none H->X.xe (.ref x) { s with heap:=h' }
section
variable{X:Cx}{pins:PP}{σ:St}{H:Hp}{s:Shared}
theorem qaB{h h':Heap}{x C:Addr}{vs:List Value}(m:Heap.MadeExcOf h h' x (.ref C) vs):Fly h' x C none none:=by obtain⟨t,ht,_⟩:=m.there;exact⟨_,_,ht,rfl,rfl,rfl,rfl,0,_,_,_,ht,rfl,rfl,rfl⟩
end
section
variable{P:Program}{w:World}{K:Frag}{mg:PR}{base:Heap}{N:List Str}{qual:Str}{scope:Scope}{f:Addr}{cd:Value}{A:Around}{outer:List Env}{s:Shared}{H:Hp}{E:XK}
theorem Zq{X:Cx}{pins:PP}{σ:St}{H1 H2:Hp}{s1:Shared}{x T:Addr}(I:Inv X pins σ H1 s1)(hex:X.ex=[])(hx:H2 x=none)(hT:H2 T=none)(nx:s1.heap.get? x=none)(nT:s1.heap.get? T=none):Mine X pins H2 x (some T):=by
 have no:∀b:Addr,b∉X.ex:=λb z=>by rw[hex] at z;cases z
 refine⟨hx,I.new0 (no x) nx,λT' z=>by cases z;exact⟨hT,I.new0 (no T) nT⟩,λp hp=>?_⟩;obtain⟨e,_⟩:=I.pin p hp;refine⟨λz=>?_,λz=>?_⟩
 ·rw[z,nx] at e;cases e
 ·cases z;rw[nT] at e;cases e
theorem qcB{E2:XK}(hE:∀c d h,E2 c d h->E c d h):zg (CX1 P w) (yV (CX1 P w) P w K mg base N qual scope f cd A outer s H E) E2:=λpins σ H1 s1 e s2 I h=>by obtain⟨x,T,C,od,H2,rfl,hos,hb,un,hok,hx,hT,nx,nT,fl,q⟩:=h;have I2:Inv (yV (CX1 P w) P w K mg base N qual scope f cd A outer s H E) pins σ H2 s2:=I.call' (ch:=[]) hos un hok hb λb z=>absurd z (by simp);exact Y3 I2 ⟨rfl,rfl⟩ rfl (Zq I rfl hx hT nx nT) fl (hE _ _ _ q)
theorem Fun.okx{x:Str}{st:Stmt}{fd:FuncData}{ps:List Str}{k:Nat}{sp:Sp}(F:Fun K x qual st f fd)(S:FnScope N ps (qe st))(len:∀vs H Q E,sp vs H Q E->vs.length=ps.length)
  (body:∀(cdv:Value) (A:Around) (outer:List Env) (s:Shared) (H:Hp) (vs:List V) (Q:VK) (E:XK),Room k (A.deeper (envOfC qual (qe st) s.heap.objs.size f cdv))->sp vs H Q E->
   ∃t,PSs (yV (CX1 P w) P w K mg base N qual (qe st) f cdv A outer s H E) (qk st) t/\t { nx:=λ_ H'=>Q .non H',rt:=Q } (qE N vs) H):FnOk P w K mg base (CX1 P w) (k+1) f fd ps sp:=by
 obtain⟨oc,od,kV,doc,pm,an,cdv,ct,osl,rfl,lk,hcd⟩:=F.ex;exact qeu lk hcd S len λA outer s H vs Q E hr hsp=>body cdv A outer s H vs Q E hr hsp
theorem FnOk.lift{fd:FuncData}{ps:List Str}{k:Nat}{sp:Sp}{CX:CXT}(F:FnOk P w K mg base CX0 k f fd ps sp):FnOk P w K mg base CX k f fd ps sp:=
 ⟨F.len,λA outer s H args us vs Q E hr he hb hv hs=>codeAny_mono (F.run A outer s H args us vs Q E hr he hb hv hs) λr s' h=>by
  cases r with
  |error e=>exact False.elim h
  |ok f=>cases f<;>exact h⟩
end
section
variable{X:Cx}{E:XK}{n:Str}{C:Addr}{bB:List Value}{B nid iid:String}{e0:Expr}{es:List Expr}{t:TA}{np cpos pos:Pos}
noncomputable def qeG(C:Addr)(E:XK)(t:TA):TS:=λ_ σ H=>t σ H λvs H1=>vs.length<=sizeLine/\E (.ref C) none H1
theorem qaC(hx:Zp X E)(hc:X.calm=true)(hg:Gl X n)(hm:X.mg n=some (.ref C))(ok:excIn X.K C bB nid=true)(FB:ExcBaseFacts B nid iid bB)(ha:PA X (e0::es) t)
  (he:starEach (e0::es) X.env=(false,eval e0 X.env)::starEach es X.env:=by rfl) (hpl:(backTo cpos (starEach es X.env)).any (·.1)=false:=by rfl) (hdb:(n == ("__debug__" : Str))=false:=by decide) :
  PS X (.Raise (some (.Call (.Name n np) (e0::es) [] cpos)) none pos) (qeG C E t):=by
 intro pins s σ H D I h;obtain⟨bm,N,nm,qn,bs,hd,sn,sub,ab,col,dd,k0,k1,k2,k3,k5,mN,hC,hN,hni,T⟩:=qcA I.mod.kin ok
 refine wpAny_Raise_call_subT (C:=C) (nm:=nm) (q:=qn) (N:=N) (bs:=bs) (bm:=bm) (hdct:=hd) (sn:=sn) (sub:=sub) (ab:=ab) (col:=col) (dd:=dd) (k0:=k0) (k1:=k1) (k2:=k2) (k3:=k3) (k5:=k5)
  FB (mN:=mN) (T.hasType FB.hasBase) (I.ok.hd hc) ?_ hni (qI I hg hm ⟨rfl,?_⟩ hdb)
 ·rw[he];show(false||(backTo cpos (starEach es X.env)).any (·.1))=false;rw[hpl];rfl
 have ha':=ha cpos pins s σ H _ I h;rw[he] at ha' ⊢;refine Calls.evalArgs_plain (thn ha' λus s1 z=>?_);obtain⟨vs,H1,I1,r,hl,q⟩:=z;exact⟨rfl,by rw[<-r.length];exact hl,I1.bk _ _ hC,hN.keeps I1.bk,T.keeps I1.bk,λh' x m=>hx pins σ H1 s1 I1 h' x C _ m q⟩
end
end L2
namespace L2
open PySem PySem.Spec PyProof.Rows PySem.W
noncomputable def qag(x C:Addr)(od:Option Addr):HO:=.ext λh=>∃o,h.get? x=some o/\o.cls=.ref C/\o.dict=od/\notCls o=true
section
variable{X:Cx}{pins:PP}{σ:St}{H:Hp}{s:Shared}{x C:Addr}{od oT:Option Addr}
theorem qhb(I:Inv X pins σ H s)(fl:Fly s.heap x C od oT)(hx:H x=none)(x0:X.s₀.heap.get? x=none)(pin:∀p∈X.pn++pins,p.1≠x):Inv X pins σ (upd H x (qag x C od)) s:=by
 obtain⟨oe,vs,ho,hc,hdi,hd,_⟩:=fl;have nn:∀{b:Addr},b≠x->upd H x (qag x C od) b=H b:=λh=>qb h;have ntr:∀{b:Addr} {u:HO},H b=some u->b≠x:=λ{b u} e z=>by rw[z,hx] at e;cases e
 refine⟨I.ok,I.os,I.bare,⟨I.base.keep,I.base.slot,λb o e n hx=>?_,I.base.there,λb xs e=>?_,λb o u e=>?_,λb ps e=>?_⟩,I.loc,I.cell,?_,λy c e=>?_,λp hp=>?_,λa o e=>?_,I.len⟩
 ·rw[nn (λz=>by rw[z,x0] at e;cases e)];exact I.base.free b o e n hx
 ·have:=I.base.tups b xs e
  rw[nn (ntr this)];exact this
 ·have:=I.base.frzs b o u e
  rw[nn (ntr this)];exact this
 ·obtain⟨more,this⟩:=I.base.tbls b ps e;rw[nn (ntr this)];exact⟨more,this⟩
 ·have:X.env.locals≠x:=λz=>by
   obtain⟨m,⟨o,es,ep,e1,e2,_⟩,_⟩:=I.loc;rw[z,ho] at e1;cases e1;rw[hd] at e2;cases e2
  rw[nn this];exact I.free
 ·have:c≠x:=λz=>by
   obtain⟨v,o,e1,e2⟩:=I.cell y c e;rw[z,ho] at e1;cases e1;rw[hd] at e2;cases e2
  rw[nn this];exact I.freeC y c e
 ·obtain⟨e,n,r⟩:=I.pin p hp;refine⟨e,?_,r⟩;rw[nn (pin p hp)];exact n
 ·have st:∀{c:Addr} {v:HO},qH X.prog X.w H s.heap c v->qH X.prog X.w (upd H x (qag x C od)) s.heap c v:=λz=>
   z.stay (λ_ _ _ q=>q) (λb q=>by rw[nn (ntr q)];exact q) (λb xs q=>by rw[nn (ntr q)];exact q)
  by_cases hb:a=x
  ·subst hb;rw[qc] at e;cases e;refine⟨⟨oe,ho,hc,hdi,?_⟩,⟨oe,ho⟩,λh1 h2 ⟨o,e1,e2⟩ k=>⟨o,k o e1,e2⟩⟩;unfold notCls;rw[hd]
  ·rw[nn hb] at e;exact st (I.hok a o e)
end
abbrev Cx.mark(X:Cx)(e:Value):Cx:={ X with A:=X.A.mark (some e),calm:=false,xe:=λ_ _=>False }
section
variable{X:Cx}{pins:PP}{σ:St}{H:Hp}{s:Shared}{e:Value}
theorem Inv.mark(I:Inv X pins σ H s):Inv (X.mark e) pins σ H s:=
 ⟨⟨I.ok.mod,I.ok.kind,I.ok.glob,I.ok.blt,I.ok.above,I.ok.inj,I.ok.has,I.ok.cab,(λz=>by cases z),I.ok.frames,I.ok.stk,I.ok.exf,I.ok.bs,I.ok.bsz,I.ok.noex,I.ok.exfs,I.ok.funs,I.ok.frf⟩,I.os,I.bare,I.base,I.loc,I.cell,I.free,I.freeC,I.pin,I.hok,I.len⟩
theorem Inv.unmark(ok:X.Ok)(I:Inv (X.mark e) pins σ H s):Inv X pins σ H s:=⟨ok,I.os,I.bare,I.base,I.loc,I.cell,I.free,I.freeC,I.pin,I.hok,I.len⟩
theorem je{M:Model}{A:Around}{E:PQ}{i:Nat}{n:Str}{pos:Pos}{Q:Unit->Shared->Prop}(I:Inv X pins σ H s)(hN:X.N.Nodup)(hi:X.N[i]?=some n)(hl:X.env.scope.names.lookup n=some .local)
  (h:∀s',Inv X pins (σ.set i none) H s'->Q () s'):wpAny M A (do bindName X.env n .none;unbindBehindTheSuite X.env n pos) Q E s:=by
 refine wpAny_bind (wpAny_bindName (ja (v:=.non) I hN hi (.inl hl) rfl (λs1 I1 _=>?_) (.inr hl)));unfold unbindBehindTheSuite;refine wpAny_onRaise ?_;obtain⟨m,hn,hlk⟩:=id I1.loc;have hiσ:i < σ.length:=by rw[I.len];exact(List.getElem?_eq_some_iff.mp hi).1
 obtain⟨u,ru,hlook⟩:=hlk i n .non hi (by rw[List.getElem?_set_self hiσ]) (.inl hl);have hkl:X.env.kindOf n=some .local:=hl
 have hv:m n=some u:=by
  rcases hlook with ⟨_,z⟩ | ⟨z,_⟩
  ·exact z
  ·rcases z with z | z<;>(rw[hkl] at z;cases z)
 have hcls:(X.env.scope.kind == .class||(X.env.scope.kind == .module&&X.env.locals != X.env.globals))=false:=by rw[I.ok.kind];rfl
 refine wpAny_unbindName_local hkl hn hv hcls λh' u' hn' hs'=>?_;refine h _ ?_;have kp:∀{b:Addr} {o:Obj},b≠X.env.locals->s1.heap.get? b=some o->h'.get? b=some o:=λ{b o} hb e=>(hs'.2 b hb).trans e;have s0l:∀{b:Addr} {o:Obj},X.s₀.heap.get? b=some o->b≠X.env.locals:=λ{b o} e=>Nat.ne_of_lt (Nat.lt_of_lt_of_le (Heap.lt_size e) I.ok.above);have cK:∀{c:Addr} {v:Option Value} {y:Str},X.env.cells.lookup y=some c->s1.heap.IsCell c v->h'.IsCell c v:=λ{c v y} ey ⟨o,ho,hd⟩=>⟨o,kp (I1.cne y c ey) ho,hd⟩;refine⟨I1.ok,I1.os,I1.bare,⟨λb o e n hb hx=>kp (s0l e) (I1.base.keep b o e n hb hx),λb o e n hb hx=>?_,I1.base.free,λb o e hx=>?_,I1.base.tups,I1.base.frzs,I1.base.tbls⟩,⟨_,hn',λj y v e1 e2 e3=>?_⟩,λy c e=>?_,I1.free,I1.freeC,λp hp=>?_,λa o e=>?_,?_⟩
 ·obtain⟨sl,e1⟩:=I1.base.slot b o e n hb hx;exact⟨sl,kp (s0l e) e1⟩
 ·obtain⟨o1,e1⟩:=I1.base.there b o e hx;exact⟨o1,kp (s0l e) e1⟩
 ·have hij:i≠j:=λz=>by
   subst z;rw[List.getElem?_set_self hiσ] at e2;cases e2
  have hyn:y≠n:=λz=>hij (y7 hN hi (z▸e1));obtain⟨u2,r2,l2⟩:=hlk j y v e1 (by rw[List.getElem?_set_ne hij] at e2 ⊢;exact e2) e3;refine⟨u2,r2,?_⟩;rcases l2 with ⟨k,z⟩ | ⟨k,c,e,z⟩
  ·exact .inl ⟨k,by show(if y=n then u' else m y)=_;rw[if_neg hyn];exact z⟩
  ·exact .inr ⟨k,c,e,cK e z⟩
 ·obtain⟨v,z⟩:=I1.cell y c e;exact⟨v,cK e z⟩
 ·obtain⟨e,n,ne,r⟩:=I1.pin p hp;exact⟨kp ne e,n,ne,r⟩
 ·have tl:∀{b:Addr} {u:HO},H b=some u->b≠X.env.locals:=λ{b u} e z=>by rw[z,I1.free] at e;cases e
  refine(I1.hok a o e).stay (λb u hb q=>kp ?_ q) (λ_ q=>q) λ_ _ q=>q;rcases hb with z | z
  ·rw[z];exact tl e
  ·exact tl z
 ·rw[List.length_set];exact I.len
end
end L2
namespace L2
open PySem PySem.Spec PyProof.Rows PySem.W
noncomputable def PEx(X:Cx)(e:Expr)(t:XK->TE):Prop:=∀(EX:XK) (E1:PQ) (pins:PP) (s:Shared) (σ:St) (H:Hp) (Q:VK),Inv X pins σ H s->
 (∀(H1:Hp) (s1:Shared) (e:Value) (s':Shared),Inv X pins σ H1 s1->CX1 X.prog X.w X.stack H1 s1 EX e s'->E1 e s')->t EX σ H Q->wpAny (model X.prog X.w) X.A (eval e X.env) (EP X pins σ Q) E1 s
section
variable{X:Cx}{pins:PP}{σ:St}{H:Hp}{s:Shared}
structure Held(X:Cx)(pins:PP)(σ:St)(H:Hp)(s:Shared)(x T C:Addr)(od:Option Addr)(h:Heap):Prop where
 inv:Inv X pins σ H s
 mine:Mine X pins H x (some T)
 fld:(∃o vs,s.heap.get? x=some o/\o.data=.fields vs)/\∀T',some T=some T'->∃o vs,s.heap.get? T'=some o/\o.data=.fields vs
 nx:∃oe vs T',NX (frs X.stack) x (some T) oe vs T' .none s.heap h/\oe.cls=.ref C/\oe.dict=od/\s.heap.get? x=some oe/\oe.data=.fields vs/\QF s.heap x vs (some T)
variable{x T C:Addr}{od:Option Addr}{h:Heap}
theorem Held.now(Hd:Held X pins σ H s x T C od h)(hex:X.ex=[]):Inv X pins σ H { s with heap:=h }:=by obtain⟨oe,vs,T',nx,_⟩:=Hd.nx;exact yj Hd.inv hex Hd.mine Hd.fld.1 Hd.fld.2 nx
theorem Held.fly(Hd:Held X pins σ H s x T C od h):∃T',Fly h x C od (some T'):=by obtain⟨oe,vs,T',nx,e1,e2,e3,e4,b⟩:=Hd.nx;exact⟨T',nx.fly e1 e2 e3 e4 b⟩
theorem Held.ty{M:Model}(Hd:Held X pins σ H s x T C od h):Looks M h (typeOf (.ref x)) (.ref C):=by obtain⟨T',o,_,ho,hc,_⟩:=Hd.fly;rw[<-hc];exact(Looks.ld ho).andThen .now
noncomputable def qeH(i:Nat)(D:Ends):Ends:={ nx:=λσ' H'=>D.nx (σ'.set i none) H',rt:=D.rt,bk:=λσ' H'=>D.bk (σ'.set i none) H',ct:=λσ' H'=>D.ct (σ'.set i none) H' }
variable{c n:Str}{Dc:Addr}{cp hpos:Pos}{b0:Stmt}{suite:List Stmt}{rest:List ExceptHandler}{i:Nat}{D:Ends}{E:PQ}
theorem QG{th:TS}(Hd:Held X pins σ H s x T C od h)(hex:X.ex=[])(hg:Gl X c)(hm:X.mg c=some (.ref Dc))(hq:exmOne X.K (.ref C) (.ref Dc)=some true)
  (hN:X.N.Nodup) (hi:X.N[i]?=some n) (hl:X.env.scope.names.lookup n=some .local) (hsu:PSs (X.mark (.ref x)) (b0::suite) th) (q:th (qeH i D) (σ.set i (some (.ref x))) (upd H x (qag x C od)))
  (hdb:(c == ("__debug__" : Str))=false) :
  wpAny (model X.prog X.w) X.A (handleBy (.ref x) X.env (.ExceptHandler (some (.Name c cp)) (some n) (b0::suite) hpos::rest)) (SP X pins D) E { s with heap:=h }:=by
 have I:=Hd.now hex;refine wpAny_handleBy_cons (codeAny_handlers_test ?_) (by intro z;cases z);refine qI (X:=X.mark (.ref x)) I.mark hg hm ?_ hdb;refine Looks.here (exm_one I.kIn Hd.ty hq) ?_;refine codeAny_handlers_suite_as ?_;obtain⟨oe,vs,T',nx,e1,e2,e3,e4,b⟩:=Hd.nx;refine jY (s:={ s with heap:=h }) nx λh3 nx3=>?_;have Hd3:Held X pins σ H s x T C od h3:=⟨Hd.inv,Hd.mine,Hd.fld,oe,vs,T',nx3,e1,e2,e3,e4,b⟩;have I3:=Hd3.now hex;have I4:Inv X pins σ (upd H x (qag x C od)) { s with heap:=h3 }:=qhb I3 (nx3.fly e1 e2 e3 e4 b) Hd.mine.hx Hd.mine.x0 λp hp=>(Hd.mine.pin p hp).1;refine ja (X:=X.mark (.ref x)) (v:=.ref x) I4.mark hN hi (.inl hl) rfl (λs5 I5 _=>?_) (.inr hl);refine wpAny_mono (hsu pins s5 _ _ (qeH i D) I5 q) (λf s6 z=>?_) (λ_ _ z=>False.elim z);have ok:=I.ok
 cases f with
 |next=>obtain⟨σ6,H6,I6,z⟩:=z;exact je (I6.unmark ok) hN hi hl λs7 I7=>⟨_,H6,I7,z⟩
 |brk=>obtain⟨σ6,H6,I6,z⟩:=z;exact je (I6.unmark ok) hN hi hl λs7 I7=>⟨_,H6,I7,z⟩
 |cont=>obtain⟨σ6,H6,I6,z⟩:=z;exact je (I6.unmark ok) hN hi hl λs7 I7=>⟨_,H6,I7,z⟩
 |ret u=>obtain⟨v,σ6,H6,I6,r,z⟩:=z;exact je (I6.unmark ok) hN hi hl λs7 I7=>⟨v,_,H6,I7,r,z⟩
theorem yk{nm:Option Str}{body:List Stmt}(Hd:Held X pins σ H s x T C od h)(hex:X.ex=[])(hg:Gl X c)(hm:X.mg c=some (.ref Dc))(hq:exmOne X.K (.ref C) (.ref Dc)=some false)
  (k:wpAny (model X.prog X.w) X.A (handleBy (.ref x) X.env rest) (SP X pins D) E { s with heap:=h }) (hdb:(c == ("__debug__" : Str))=false) :
  wpAny (model X.prog X.w) X.A (handleBy (.ref x) X.env (.ExceptHandler (some (.Name c cp)) nm body hpos::rest)) (SP X pins D) E { s with heap:=h }:=by
 have I:=Hd.now hex;refine wpAny_handleBy_cons (codeAny_handlers_test ?_) (by intro z;cases z);refine qI (X:=X.mark (.ref x)) I.mark hg hm ?_ hdb;exact Looks.here (exm_one I.kIn Hd.ty hq) k
theorem qic{H1:Hp}{s1 s':Shared}{EX:XK}{e:Value}{hs:List ExceptHandler}(hst:X.stack=X.env::X.outer/\X.env.frame=some X.env.locals)(hex:X.ex=[])(I:Inv X pins σ H1 s1)(cx:CX1 X.prog X.w X.stack H1 s1 EX e s')
  (k:∀(x T C:Addr) (od:Option Addr) (H2:Hp) (h:Heap),EX (.ref C) od H2->Held X pins σ H2 s' x T C od h->wpAny (model X.prog X.w) X.A (handleBy (.ref x) X.env hs) (SP X pins D) E { s' with heap:=h }) :
  wpAny (model X.prog X.w) X.A (noteFrame e X.env) (λ_ s2=>wpAny (model X.prog X.w) X.A (setFlight e none) (λ_ s3=>wpAny (model X.prog X.w) X.A (handleBy e X.env hs) (SP X pins D) E s3) E s2) E s':=by
 obtain⟨x,T,C,od,H2,rfl,hos,hb,un,hok,hx,hT,nx,nT,fl,q⟩:=cx;have I2:Inv X pins σ H2 s':=I.call' (ch:=[]) hos un hok hb λb z=>absurd z (by simp);have M:Mine X pins H2 x (some T):=Zq I hex hx hT nx nT;have hfr:X.A.frames=some (X.env::X.outer):=by rw[<-hst.1];exact I.ok.frames
 have hl:=I2.stack;rw[hst.1] at hl;have ff:=fl.fields;obtain⟨oe,vs,e1,e2,e3,e4,b⟩:=fl;refine qbx hfr hl hst.2 e1 e4 b λh1 T' n1=>jY (s:={ s' with heap:=h1 }) n1 λh2 n2=>?_;exact k x T C od H2 h2 q ⟨I2,M,ff,oe,vs,T',by rw[hst.1];exact n2,e2,e3,e1,e4,b⟩
end
end L2
namespace L2
open PySem PySem.Spec PyProof.Rows PySem.W
section
variable{prog:Program}{w:World}{A:Around}{E:PQ}{s:Shared}{K:Frag}{x C:Addr}{ox:Obj}
theorem Zr{name:Str}{a g:Value}{od:Option Obj}(hc:(clsIn K C).isSome=true)(ha:findIn K (.ref C) name=some (some a))(hg:specialIn K a "__get__" = some (some g))(ht:takesIn K a=some true):findObj K C od name=some (.bind g a):=by obtain⟨cd,e⟩:=Option.isSome_iff_exists.mp hc;simp[findObj,e,ha,hg,ht]
structure ExcIs(K:Frag)(C:Addr):Prop where
 cls:(clsIn K C).isSome=true
 ga:findIn K (.ref C) "__getattribute__" = some (some (.builtin "BaseException.__getattribute__"))
 gh:findIn K (.ref C) "__getattr__" = some none
 at_:findIn K (.ref C) "__class__" = some (some (.builtin "object.__class__"))
 get:specialIn K (.builtin "object.__class__") "__get__" = some (some (.builtin "getset_descriptor.__get__"))
 tk:takesIn K (.builtin "object.__class__")=some true
 obj:mroIn K C (.type "object")=some true
 base:mroIn K C (.type "BaseException")=some true
theorem Zs{Q:Option Value->Shared->Prop}(Y:K.In s.heap){od:Option Obj}(I:W.InstAt s.heap x ox C od)(hC:ExcIs K C)
  (h:Q (some (.ref C)) { s with toks:=s.toks+1 }):wpAny (model prog w) A (getAttr? (.ref x) "__class__") Q E s:=by
 obtain⟨hh,g,d,t,os⟩:=s;have L0:=I.type (M:=model prog w);have L1:=looks_findIn (M:=model prog w) Y hC.ga;have L2:=looks_findIn (M:=model prog w) Y hC.gh;have L3:=looks_find (M:=model prog w) Y I (Zr hC.cls hC.at_ hC.get hC.tk);have L4:=looks_mroIn (M:=model prog w) Y hC.base;have hbind:∀self,bindSpecial (.builtin "BaseException.__getattribute__") self=pure (.builtin "BaseException.__getattribute__",[self]):=λself=>by rfl
 unfold getAttr? getAttrBy? getAttrBy;refine wpAny_bind (wpAny_mkText (wpAny_bind (wpAny_attempt (wpAny_holding (wpAny_bind (L0.at (wpAny_bind (L1.at ?_))))))));show wpAny _ _ (getAttrByItsOwn _ _ _ _ _ _) _ _ _;unfold getAttrByItsOwn;refine wpAny_bind ?_;show wpAny _ _ (typeLookup (.ref C) "__getattr__") _ _ _;refine L2.at (wpAny_bind (wpAny_attempt (wpAny_holding ?_)));show wpAny _ _ (boundAndCalled _ _ _) _ _ _;unfold boundAndCalled;refine wpAny_bind ?_;rw[hbind];refine wpAny_pure ?_;refine wpAny_call (codeAny_call_builtin (by decide+kernel) F.entry_bexc_ga ?_);have hk:builtinKind "BaseException.__getattribute__" = some .slot:=by decide+kernel
 have hsp:splitId "BaseException.__getattribute__" = some ("BaseException","__getattribute__"):=by decide+kernel
 have LI:Looks (model prog w) hh (isInstance (.ref x) (.type "BaseException")) true:=L0.andThen L4;have hargs:=F.args_bexc_ga (.ref x) (.str "__class__" t);simp only[checkBuiltinCall,hk,hsp];refine wpAny_bind ?_;refine LI.at ?_;rw[if_neg (2:)];refine wpAny_of_eq hargs ?_;unfold Builtin.«object.__getattribute__»;refine wpAny_bind (wpAny_pure ?_);refine wpAny_bind (wpAny_pure ?_);refine wpAny_bind (L0.at (wpAny_bind (L3.at ?_)));show wpAny _ _ (holding [Value.builtin "object.__class__"] (call (.builtin "getset_descriptor.__get__") [.builtin "object.__class__",.ref x,.ref C]) >>= ret) _ _ _;refine wpAny_bind (wpAny_holding (wpAny_call (class_get (s:=⟨hh,g,d,t+1,os⟩) (ox:=ox) (od:=od) Y I hC.obj ?_)));exact wpAny_pure (handed_on rfl (wpAny_pure h))
theorem qcC(hC:ExcIs K C):KitX K (.ref x) (.ref C) (λh=>∃ox od,W.InstAt h x ox C od) where
 ty:=λ_ _ _ ⟨_,_,I⟩=>I.type
 it:=λM h Y _=>by
  obtain⟨cd,e⟩:=Option.isSome_iff_exists.mp hC.cls;unfold clsIn at e
  split at e
  ·rename_i ho;intro A' Q' E' s' k q;unfold isType loadHead;refine wpAny_bind (wpAny_loadPart (k _ _ (Y _ _ ho)) ?_);exact wpAny_pure q
  ·cases e
 ne:=λh tp dd its n sl Y htp=>by
  obtain⟨cd,e⟩:=Option.isSome_iff_exists.mp hC.cls;refine Bool.eq_false_iff.mpr λq=>?_;have z:C=tp:=Value.ref.inj (beq_iff_eq.mp q);subst z;unfold clsIn at e
  split at e
  ·rename_i ho;have z:=(Y _ _ ho).symm.trans htp;cases z
  ·cases e
 ca:=λY ⟨_,_,I⟩ k=>Zs Y I hC k
end
section
variable{X:Cx}
noncomputable def qcD(H:Hp)(x C:Addr)(od:Option Addr):Prop:=H x=some (qag x C od)/\∀dd,od=some dd->∃u,H dd=some u
theorem qcD.inst{pins:PP}{σ:St}{H:Hp}{s:Shared}{x C:Addr}{od:Option Addr}(I:Inv X pins σ H s)(h:qcD H x C od):∃ox oo,W.InstAt s.heap x ox C oo:=by
 obtain⟨o,e1,e2,e3,e4⟩:=(I.hok x _ h.1).1
 cases od with
 |none=>exact⟨o,none,e1,e2,e4,by rw[e3];trivial⟩
 |some dd=>obtain⟨u,hu⟩:=h.2 dd rfl;obtain⟨ob,hob⟩:=Y2 (I.hok dd u hu);exact⟨o,some ob,e1,e2,e4,by rw[e3];exact hob⟩
theorem Zt:zW X (.builtin "isinstance") (λvs H Q=>∃x C od c cv b,vs=[.ref x,c]/\qcD H x C od/\ExcIs X.K C/\qC c cv/\(∀u,qC c u->u=cv)/\kitOne X.K (.ref C) cv=some b/\Q (.bl b) H):=by intro pins s σ H xs us Q I r h;obtain⟨x,C,od,c,cv,b,rfl,hx,hC,rc,uq,e,q⟩:=h;obtain⟨u,v,rfl,ru,rv⟩:=Q4 r;cases ru;obtain rfl:v=cv:=uq v rv;exact kia_one (qcC hC) I.kIn (hx.inst I) e (λz=>nomatch z) λtk=>⟨.bl b,H,I.tok tk,rfl,q⟩
end
end L2
namespace L2
open PySem PySem.Spec PyProof.Rows PySem.W
noncomputable def Its(x:Str):It:=⟨λi _=>i < x.cps.size,λi H v H'=>H'=H/\∃c,x.cps[i]?=some c/\v=.str ⟨#[c]⟩,λi _=>i=x.cps.size⟩
theorem qaD{P:Program}{w:World}{K:Frag}{tg:Expr}{x:Str}{t:Tok}{it:Addr}{T:String}(hT:T = "str_ascii_iterator"\/T = "str_iterator")(W:∀A':Around,A'.handled=none->Walks P w A' it [it] [it] x.cps.size (SignAt x) (λi h=>h.IsStrIter it T x t i)) :
  Turn P w K tg (Its x) [it] it (λi h=>h.IsStrIter it T x t i) where
 mem:=by simp
 obj:=λi h st b hb=>by
  have e:b=it:=by simpa using hb
  subst e;obtain⟨o,e,c,d⟩:=st;exact⟨o,e,λv z=>by rw[d] at z;cases z⟩
 keep:=λi h h' st k=>let ⟨o,e,r⟩:=st;⟨o,k it (by simp) o e,r⟩
 item:=by intro X hP hw hK hc i pins s σ H E I hf st hg;subst hP hw hK;obtain⟨f0,f1,f2,f3,f4,f5⟩:=hf it (by simp);refine(W X.A (I.ok.hd hc)).item i s _ _ hg st λv h' tk hv st' kk=>?_;obtain⟨c,u,hcx,rfl⟩:=hv;have I1:Inv X pins σ H { s with heap:=h',toks:=tk }:=I.turned (λb o hb e=>kk b o (by simpa using hb) e) f0 f1 f3 f4 f5;obtain⟨o,e1,e2,e3⟩:=id st';refine⟨_,rfl,qap (s:={ s with heap:=h',toks:=tk }) e1 e2 e3 (by rcases hT with z | z<;>(rw[z];decide)) ⟨.str ⟨#[c]⟩,H,I1,⟨u,rfl⟩,⟨rfl,c,hcx,rfl⟩,st',λb hb=>(hf b hb).1⟩⟩
 done:=by intro X hP hw hK hc i pins s σ H E I hf st hg;subst hP hw hK;obtain rfl:i=x.cps.size:=hg;obtain⟨f0,f1,f2,f3,f4,f5⟩:=hf it (by simp);exact(W X.A (I.ok.hd hc)).done s _ _ st λh' tk kk=>⟨rfl,I.turned (λb o hb e=>kk b o (by simpa using hb) e) f0 f1 f3 f4 f5⟩
 self:=λA i s Q E st h=>by
  rcases hT with z | z
  ·subst z;exact wpAny_pyIter_striter_ascii st h
  ·subst z;exact wpAny_pyIter_striter_wide st h
end L2
namespace L2
open PySem PySem.Spec PyProof.Rows PySem.W
theorem Inv.turnedAll{X:Cx}{pins:PP}{σ:St}{H:Hp}{s:Shared}{h':Heap}{t':Nat}{ch:List Addr}(I:Inv X pins σ H s)(k:∀b o,b∉ch->s.heap.get? b=some o->h'.get? b=some o)(hf:∀b∈ch,Qw X pins H b):Inv X pins σ H { s with heap:=h',toks:=t' }:=by
 have nch:∀{b:Addr} {u:HO},H b=some u->b∉ch:=λ{b u} e z=>by rw[(hf b z).1] at e;cases e
 refine I.step (g':=s.gens) (d':=s.drawn) (ch:=ch) (λb hb=>?_) (λb o _ _ hc e _=>k b o hc e) (λb o _ _ hc e _=>⟨o.slots,k b o hc e⟩) (λ_ _ _ _ n=>n) (λb o hc e=>⟨o,k b o hc e⟩) (λ_ _ e=>e) (λ_ _ _ e=>e) (λb ps e=>⟨#[],by rw[e];simp⟩) (λm hm=>?_) (λb u e=>?_) I.bare
 ·obtain⟨f0,f1,f2,f3,f4,f5⟩:=hf b hb;exact⟨f3,f1,f4,f5⟩
 ·obtain⟨o,es,ep,ho,r⟩:=hm;exact⟨o,es,ep,k _ o (λz=>(hf _ z).2.1 rfl) ho,r⟩
 ·refine(I.hok b u e).stay (λc v hc q=>k c v ?_ q) (λ_ q=>q) λ_ _ q=>q;rcases hc with z | z
  ·rw[z];exact nch e
  ·exact nch z
theorem Inv.turnedNew{X:Cx}{pins:PP}{σ:St}{H:Hp}{s:Shared}{h':Heap}{t':Nat}{ch:List Addr}{T:Addr}{ob:HO}(I:Inv X pins σ H s)(k:∀b o,b∉ch->s.heap.get? b=some o->h'.get? b=some o)(hf:∀b∈ch,Qw X pins H b)
  (hT:s.heap.get? T=none) (new:qH X.prog X.w (upd H T ob) h' T ob):Inv X pins σ (upd H T ob) { s with heap:=h',toks:=t' }:=by
 have hH:H T=none:=I.newH hT;have nch:∀{b:Addr} {u:HO},H b=some u->b∉ch:=λ{b u} e z=>by rw[(hf b z).1] at e;cases e
 have nT:∀{b:Addr} {u:HO},H b=some u->b≠T:=λ{b u} e z=>by rw[z,hH] at e;cases e
 have up:∀{b:Addr} {u:HO},H b=some u->upd H T ob b=some u:=λ{b u} e=>by rw[qb (nT e)];exact e
 refine I.step (g':=s.gens) (d':=s.drawn) (ch:=ch) (λb hb=>?_) (λb o _ _ hc e _=>k b o hc e) (λb o _ _ hc e _=>⟨o.slots,k b o hc e⟩) (λb o _ e n=>?_) (λb o hc e=>⟨o,k b o hc e⟩) (λ_ _ e=>up e) (λ_ _ _ e=>up e) (λb ps e=>⟨#[],by rw[up e];simp⟩) (λm hm=>?_) (λb u e=>?_) I.bare
 ·obtain⟨f0,f1,f2,f3,f4,f5⟩:=hf b hb;exact⟨f3,f1,f4,f5⟩
 ·rw[qb (λz=>by rw[z,hT] at e;cases e)];exact n
 ·obtain⟨o,es,ep,ho,r⟩:=hm;exact⟨o,es,ep,k _ o (λz=>(hf _ z).2.1 rfl) ho,r⟩
 ·by_cases hb:b=T
  ·subst hb;rw[qc] at e;cases e;exact new
  ·rw[qb hb] at e;refine(I.hok b u e).stay (λc v hc q=>k c v ?_ q) (λ_ q=>up q) λ_ _ q=>up q;rcases hc with z | z
   ·rw[z];exact nch e
   ·exact nch z
end L2
namespace L2
open PySem PySem.Spec PyProof.Rows PySem.W PyProof
section
variable{X:Cx}
theorem qeI:SlR X (λx lo hi H Q=>∃z,x=.str z/\z.length<=sizeLine/\Q (.str (Txt.slice z lo hi)) H):=by
 intro pins s σ H x v vl vu lo hi sl Q I rx hs pl pu h;obtain⟨z,rfl,hz,q⟩:=h;obtain⟨t,rfl⟩:=rx;refine⟨"str",_,F.slot_str_getitem.lookup,typeIs_str _ _ _,?_⟩;obtain⟨o,e1,e2,e3⟩:=hs
 cases pl with
 |none=>
  cases pu with
  |none=>exact wpAny_getItem_str_slice (l:=none) (u:=none) (st:=none) ⟨o,e1,e2,e3⟩ rfl (post_val_or_str ⟨Nat.le_trans (Txt.slice_le z _ _) hz,λt' k=>⟨.str _,H,I.tok k,⟨t',rfl⟩,q⟩⟩)
  |int j uj=>exact wpAny_getItem_str_slice (l:=none) (u:=some (j,uj)) (st:=none) ⟨o,e1,e2,e3⟩ rfl (post_val_or_str ⟨Nat.le_trans (Txt.slice_le z _ _) hz,λt' k=>⟨.str _,H,I.tok k,⟨t',rfl⟩,q⟩⟩)
 |int i ui=>
  cases pu with
  |none=>exact wpAny_getItem_str_slice (l:=some (i,ui)) (u:=none) (st:=none) ⟨o,e1,e2,e3⟩ rfl (post_val_or_str ⟨Nat.le_trans (Txt.slice_le z _ _) hz,λt' k=>⟨.str _,H,I.tok k,⟨t',rfl⟩,q⟩⟩)
  |int j uj=>exact wpAny_getItem_str_slice (l:=some (i,ui)) (u:=some (j,uj)) (st:=none) ⟨o,e1,e2,e3⟩ rfl (post_val_or_str ⟨Nat.le_trans (Txt.slice_le z _ _) hz,λt' k=>⟨.str _,H,I.tok k,⟨t',rfl⟩,q⟩⟩)
end
end L2
namespace L2
open PySem PySem.Spec PyProof.Rows PySem.W
noncomputable def Ite(K:Frag)(a:Addr):It:=
 ⟨λi H=>∃xs x,SqL K H a xs/\xs[i]?=some x,
  λi H v H'=>∃T x,v=.ref T/\H T=none/\H'=upd H T (.tup [.int i,x])/\∀xs,SqL K H a xs->xs[i]?=some x,
  λi H=>∃xs,SqL K H a xs/\xs.length<=i⟩
noncomputable def ESt(e it a:Addr)(i:Nat)(h:Heap):Prop:=(∃old,IsEnum h e it ((i:Nat):Int) old)/\h.IsListIter it a i
theorem Zu{P:Program}{w:World}{K:Frag}{elts:List Expr}{kk:Nat}{pos:Pos}{e it a:Addr}(hne:e≠it) :
  Turn P w K (.Tuple elts kk pos) (Ite K a) [e,it] e (ESt e it a) where
 mem:=by simp
 obj:=λi h st c hc=>by
  obtain⟨⟨old,s1⟩,⟨o4,s4,_,d4⟩⟩:=st;simp at hc;rcases hc with rfl | rfl
  ·exact⟨_,s1,λv q=>by cases q⟩
  ·exact⟨_,s4,λv q=>by rw[d4] at q;cases q⟩
 keep:=λi h h' st k=>by obtain⟨⟨old,s1⟩,s4⟩:=st;exact⟨⟨old,k e (by simp) _ s1⟩,s4.at λo e=>k it (by simp) o e⟩
 item:=by
  intro X hP hw hK hc i pins s σ H E I hf st hg;subst hP hw hK;obtain⟨xs,x,qa,hx⟩:=hg;obtain⟨⟨old,s1⟩,s4⟩:=st;obtain⟨ia,ra,pa,za⟩:=I.list qa;obtain⟨ux,ex,rx⟩:=ra.get hx;refine wpAny_pyNext_enum_item s1 s4 pa.isList (x:=ux) (by simpa using ex) hne λh' a1 a2 a3 a4 kp=>?_;refine⟨_,rfl,wpAny_letOwnedTupleGo_enum (s:={ s with heap:=h',toks:=s.toks+1 }) a1 λh2 b1 b2=>?_⟩;have two:(2:Nat)<=sizeLine:=Nat.le_of_lt (Zi (2:))
  have kp2:∀c o,c∉[e,it]->s.heap.get? c=some o->h2.get? c=some o:=λc o hc q=>by simp at hc;exact b2.extBut c o hc.1 (kp c o hc.1 hc.2 q)
  have hnew:s.heap.get? s.heap.objs.size=none:=by
   cases q:s.heap.get? s.heap.objs.size with
   |none=>rfl
   |some o=>exact absurd (Heap.lt_size q) (Nat.lt_irrefl _)
  have hH:H s.heap.objs.size=none:=I.hok.fresh (Nat.le_refl _);have hTe:s.heap.objs.size≠e:=Nat.ne_of_gt (Heap.lt_size s1);have hT2:IsPair h2 s.heap.objs.size (.int i s.toks) ux:=b2.extBut _ _ hTe a3;have I2:Inv X pins σ (upd H s.heap.objs.size (.tup [.int i,x])) { s with heap:=h2,toks:=s.toks+1 }:=I.turnedNew (t':=s.toks+1) kp2 hf hnew ⟨two,[.int i s.toks,ux],.cons ⟨_,rfl⟩ %[rx|0],_,hT2,rfl,0,rfl⟩;refine⟨.ref s.heap.objs.size,_,I2,rfl,⟨_,x,rfl,hH,rfl,λxs' h1=>?_⟩,?_,λc hc=>?_⟩
  ·rw[I.list_inj h1 qa];exact hx
  ·have e1:((i+1:Nat):Int)=(i:Int)+1:=by lia
   refine⟨⟨ux,?_⟩,a2.extBut b2.extBut (Ne.symm hne)⟩;rw[e1];exact b1
  ·have hc0:=(hf c hc).1;rw[qb]
   ·exact hc0
   ·intro q
    have e:∃o,s.heap.get? c=some o:=by
     simp at hc;rcases hc with rfl | rfl
     ·exact⟨_,s1⟩
     ·obtain⟨o,e,_⟩:=s4;exact⟨o,e⟩
    obtain⟨o,e⟩:=e;rw[q,hnew] at e;cases e
 done:=by intro X hP hw hK hc i pins s σ H E I hf st hg;subst hP hw hK;obtain⟨xs,qa,hend⟩:=hg;obtain⟨⟨old,s1⟩,s4⟩:=st;obtain⟨ia,ra,pa,za⟩:=I.list qa;have la:=ra.length;refine wpAny_pyNext_enum_end (I.ok.hd hc) s1 s4 pa.isList (by simp;lia) λh' kp=>⟨rfl,I.turnedAll (t':=s.toks) (λc o hc e=>?_) hf⟩;simp at hc;exact kp c o hc.2 e
 self:=λA i s Q E st h=>by obtain⟨⟨old,s1⟩,_⟩:=st;exact wpAny_pyIter_enum s1 h
noncomputable def qhc(K:Frag)(ta:TA):TI:=λσ H R=>ta σ H λvs H1=>∃a,vs=[.ref a]/\(∃xs,SqL K H1 a xs)/\R (Ite K a) H1
section
variable{X:Cx}
theorem qcE{ea:Expr}{elts:List Expr}{kk:Nat}{tpos p pos:Pos}{ta:TA}(hg:Gl X "enumerate")(hm:X.mg "enumerate" = none)(ha:PA X [ea] ta)(hs:starEach [ea] X.env=[(false,eval ea X.env)]:=by rfl) :
  PI X (.Tuple elts kk tpos) (.Call (.Name "enumerate" p) [ea] [] pos) (qhc X.K ta):=by
 intro pins s σ H R I h;refine Call_ (JG I hg hm boot_enumerate (PyProof.Rows.callWith_type1 (thn (ha pos pins s σ H _ I h) λus s1 z=>?_) hs rfl));obtain⟨vs,H1,I1,r1,a,rfl,⟨xs,qa⟩,q⟩:=z;obtain⟨u,rfl,ru⟩:=QB r1;cases ru;obtain⟨ia,ra,pa,za⟩:=I1.list qa;refine call_enumerate_list pa.isList λh' z1 z2 z3 kp=>wpAny_pyIter_enum z1 ?_;refine⟨s1.heap.objs.size+1,[s1.heap.objs.size+1,s1.heap.objs.size],_,_,H1,rfl,I1.kept (t':=s1.toks) kp,Zu (Nat.succ_ne_self _),⟨⟨_,z1⟩,z2⟩,λc hc=>?_,q⟩
 have:s1.heap.objs.size<=c:=by
  simp at hc;rcases hc with rfl | rfl
  ·exact Nat.le_add_right _ _
  ·exact Nat.le_refl _
 exact I1.fpOk this (I1.hok.fresh this)
end
end L2
namespace L2
open PySem PySem.Spec PyProof.Rows
def rsz(lo hi c:Int):Nat:=if lo < hi then ((hi - lo - 1) / c+1).toNat else 0
end L2
namespace L2
open PySem PySem.Spec PyProof.Rows PySem.W
noncomputable def ym(K:Frag)(C fI:Addr)(bmB:List Value)(newId:String):Bool:=match K.lookup C with
 | some ⟨.type "type",_,.cls cd,sl⟩=>(match cd.mro,sl.toList with
  | .ref C'::bm,[_,_,_,_,some (.builtin n),_]=>C' == C&&n == newId&&!cd.hasDel&&tailIn K bmB bm&&nsOkIn K cd.ns&&nsIn K cd.ns "__init__" == some (some (.ref fI))
  |_,_=>false)
 |_=>false
theorem QH{K:Frag}{h:Heap}{N:Addr}{mg:PR}{n:Str}{v:Value}(X:K.In h)(G:h.Ns N mg)(e:nsIn K N n=some (some v)):mg n=some v:=by
 obtain⟨o,es,ep,ho,hd,_,hf⟩:=G;unfold nsIn at e
 split at e
 ·rename_i c d es' n' sl q
  have:=X _ _ q
  rw[ho] at this;cases this;cases hd
  split at e
  ·rename_i en he;cases e;rw[<-hf];unfold nsFind findBy;rw[<-Array.find?_toList,he];rfl
  ·split at e<;>cases e
 ·cases e
theorem Je{K:Frag}{h:Heap}{C fI:Addr}{bB:List Value}{nid:String}(Y:K.In h)(ok:ym K C fI bB nid=true) :
  ∃bm N nm qn bs hd sn sub ab col dd k0 k1 k2 k3 k5 mN,h.get? C=some (excClassObj nm qn C N bs bm hd sn sub ab col dd k0 k1 k2 k3 k5 nid)/\h.Ns N mN/\mN "__init__" = some (.ref fI)/\OwnTail h bB bm:=by
 unfold ym at ok
 split at ok
 case h_2=>cases ok
 case h_1 d1 cdat slots hlk=>
  split at ok
  case h_2=>cases ok
  case h_1 C2 tl a0 a1 a2 a3 nn a5 hmro hsl=>
   simp only[Bool.and_eq_true,beq_iff_eq,Bool.not_eq_true'] at ok;obtain⟨⟨⟨⟨⟨e1,e2⟩,e3⟩,e4⟩,e5⟩,e6⟩:=ok;subst e1;subst e2;obtain⟨w1,w2,w3,w4,w5,w6,w7,w8,w9,w10,w11⟩:=cdat
   dsimp only at hmro e3 e5 e6;subst hmro;subst e3;obtain⟨sl⟩:=slots;obtain rfl:sl=[a0,a1,a2,a3,some (.builtin nn),a5]:=hsl;exact⟨tl,w4,w1,w5,w2,w6,w7,w8,w9,w10,d1,a0,a1,a2,a3,a5,_,Y _ _ hlk,.of_isNs (isNs_of_in Y e5),QH Y (.of_isNs (isNs_of_in Y e5)) e6,tail_of_in Y e4⟩
section
variable{prog:Program}{w:World}{A:Around}{E:PQ}{h:Heap}{g:Array GenState}{d:Drawn}{t:Nat}{os:OsState}
variable{nm q:Str}{C N:Addr}{bs bm bmB:List Value}{hdct:Bool}{sn:List Str}{sub:List Value}{ab:Bool}{col:Option Bool}{dd:Option Addr}{k0 k1 k2 k3 k5:Option Value}{B newId initId:String}
theorem yn(F:ExcBaseFacts B newId initId bmB)(T:OwnTail h bmB bm){mN:PR}{rest:List Value}{fI:Addr}{oI:Obj}{Q:Fin->Shared->Prop}
  (hC:h.get? C=some (excClassObj nm q C N bs bm hdct sn sub ab col dd k0 k1 k2 k3 k5 newId)) (hn:h.Ns N mN) (hi:mN "__init__" = some (.ref fI))
  (hfI:h.get? fI=some oI) (hfc:oI.cls=.type "function")
  (hq:∀h' e,Heap.MadeExcOf h h' e (.ref C) rest->
   wpAny (model prog w) A (call (.ref fI) (.ref e::rest)) (λr s'=>r=.none/\Q (.done (.ret (.ref e))) s') E ⟨h',g,d,t,os⟩) (hrest:rest.length<=sizeLine) :
  wpAny (model prog w) A (Builtin.«type.__call__» ⟨.ref C::rest,[]⟩) Q E ⟨h,g,d,t,os⟩:=by
 repeat (first | with_reducible refine wpAny_loadPart_at hC ?_ | with_reducible refine wpAny_madeBy_exc hC ?_ | wp_step)
 refine codeAny_call_builtin_code (Code.quiet_builtin _ F.quiet) (wpAny_check_new_subT F T hC ?_);refine codeAny_exc_new_subT F T hC ?_ hrest;show wpAny _ _ _ _ _ _
 have hC₁:=Heap.get?_push_of_some { cls:=.ref C,data:=.fields #[.ref h.objs.size,.none,.none,.none,.bool false,.none] }
  (Heap.get?_push_of_some { cls:=.type "tuple",data:=.seq rest.toArray } hC)
 have hfI₁:=Heap.get?_push_of_some { cls:=.ref C,data:=.fields #[.ref h.objs.size,.none,.none,.none,.bool false,.none] }
  (Heap.get?_push_of_some { cls:=.type "tuple",data:=.seq rest.toArray } hfI)
 have hn₁:((h.push { cls:=.type "tuple",data:=.seq rest.toArray }).push { cls:=.ref C,data:=.fields #[.ref h.objs.size,.none,.none,.none,.bool false,.none] }).Ns N mN:=
  let ⟨o,es,ep,e,r⟩:=hn;⟨o,es,ep,Heap.get?_push_of_some _ (Heap.get?_push_of_some _ e),r⟩
 have hget:((h.push { cls:=.type "tuple",data:=.seq rest.toArray }).push
   { cls:=.ref C,data:=.fields #[.ref h.objs.size,.none,.none,.none,.bool false,.none] }).get? (h.objs.size+1)=some
   { cls:=.ref C,data:=.fields #[.ref h.objs.size,.none,.none,.none,.bool false,.none] }:=by heap_get
 have hcC:(Value.ref C::bm).contains (.ref C)=true:=by simp
 have T₁:=T.keeps (h':=(h.push { cls:=.type "tuple",data:=.seq rest.toArray }).push { cls:=.ref C,data:=.fields #[.ref h.objs.size,.none,.none,.none,.bool false,.none] })
  λb o e=>Heap.get?_push_of_some _ (Heap.get?_push_of_some _ e)
 unfold isInstance
 repeat (first | with_reducible refine wpAny_loadPart_at hget ?_ | (with_reducible refine wpAny_isSubtype_exc hC₁ ?_;rw[hcC]) | wp_step)
 show wpAny _ _ (typeLookup (.ref C) _) _ _ _;refine wpAny_typeLookup_tail hC₁ hn₁ T₁ F.mroIs F.init.lookup ?_;rw[hi];refine wpAny_holding (wpAny_bind ?_);unfold bindSpecial;refine wpAny_bind (wpAny_typeOf (T:="function") ⟨_,hfI₁,hfc⟩ ?_);rw[if_pos (2:)];refine wpAny_pure (wpAny_bind (wpAny_mono (hq _ (h.objs.size+1) ⟨λb o hb=>Heap.get?_push_of_some _ (Heap.get?_push_of_some _ hb),Heap.get?_none_of_le (Nat.le_succ _),h.objs.size,hget,Heap.get?_none_of_le (Nat.le_refl _),?_⟩) (λr s' hr=>?_) λ_ _ x=>x))
 ·exact Heap.get?_push_of_some _ (Heap.get?_push_at rfl rfl)
 ·obtain⟨rfl,hQ⟩:=hr
  wp_walk
  exact hQ
theorem yY(F:ExcBaseFacts B newId initId bmB)(T:OwnTail h bmB bm){mN:PR}{rest:List Value}{fI:Addr}{oI:Obj}{Q:PQ}
  (hC:h.get? C=some (excClassObj nm q C N bs bm hdct sn sub ab col dd k0 k1 k2 k3 k5 newId)) (hn:h.Ns N mN) (hi:mN "__init__" = some (.ref fI))
  (hfI:h.get? fI=some oI) (hfc:oI.cls=.type "function")
  (hq:∀h' e,Heap.MadeExcOf h h' e (.ref C) rest->
   wpAny (model prog w) (A.under (.builtin "type.__call__" ⟨.ref C::rest,[]⟩)) (call (.ref fI) (.ref e::rest)) (λr s'=>r=.none/\Q (.ref e) s') E ⟨h',g,d,t,os⟩) (hrest:rest.length<=sizeLine) :
  wpAny (model prog w) A (call (.ref C) rest) Q E ⟨h,g,d,t,os⟩:=by
 have f1:=tc_lookup;have f2:=tc_bind (.ref C);have hT:(⟨h,g,d,t,os⟩:Shared).TypeIs (.ref C) "type":=⟨_,hC,rfl⟩;refine wpAny_call (codeAny_of_tree ?_);show wpAny _ _ (callAny (.ref C) _) _ _ _
 repeat (any_goals (first | assumption | with_reducible refine wpAny_loadPart_at hC ?_ | wp_step))
 refine⟨rfl,?_⟩;refine codeAny_call_builtin_at (Code.quiet_builtin _ (by decide+kernel)) entry_typeCall (wpAny_check_type_call_sub hC (yn (hrest:=hrest) F T hC hn hi hfI hfc λh' e hm=>?_));exact hq h' e hm
end
section
variable{prog:Program}{w:World}{A:Around}{E:PQ}{s:Shared}{env:Env}
variable{nm q:Str}{C N:Addr}{bs bm bmB:List Value}{hdct:Bool}{sn:List Str}{sub:List Value}{ab:Bool}{col:Option Bool}{dd:Option Addr}{k0 k1 k2 k3 k5:Option Value}{newId:String}
theorem QI{M:Model}{x:Str}{np cpos pos:Pos}{args:List Expr}{Q:Flow->Shared->Prop}(hbase:bm.contains (.type "BaseException")=true)(hh:A.handled=none)
  (h:wpAny M A (eval (.Call (.Name x np) args [] cpos) env) (λv s₁=>∃e v0 od sl,v=.ref e/\s₁.heap.get? C=some (excClassObj nm q C N bs bm hdct sn sub ab col dd k0 k1 k2 k3 k5 newId)/\
   s₁.heap.get? e=some ⟨.ref C,od,.fields #[v0,.none,.none,.none,.bool false,.none],sl⟩/\E (.ref e) s₁) E s) :
  wpAny M A (exec (.Raise (some (.Call (.Name x np) args [] cpos)) none pos) env) Q E s:=by
 rw[arm_exec_Raise];have hcB:(Value.ref C::bm).contains (.type "BaseException")=true:=by rw[List.contains_cons,hbase,Bool.or_true]
 simp only[evalOpt,Option.map];refine wpAny_bind (wpAny_standAt ?_);unfold raiseStmt;refine wpAny_bind (wpAny_bind (wpAny_mono h (λv s₁ h₁=>wpAny_bind (wpAny_standAt (wpAny_pure ?_))) λ_ _ x=>x));obtain⟨e,v0,od,sl,rfl,hC,he,hE⟩:=h₁;obtain⟨hp,g,d,tk,os⟩:=s₁
 repeat (first | with_reducible refine wpAny_loadPart_at he ?_ | with_reducible refine wpAny_loadPart_at hC ?_ | (with_reducible refine wpAny_isSubtype_exc hC ?_;rw[hcB]) | wp_step)
 exact wpAny_raiseNew_none hh hE
end
end L2
namespace L2
open PySem PySem.Spec PyProof.Rows PySem.W
abbrev bV:List Value:=[.type "ValueError",.type "Exception",.type "BaseException",.type "object"]
noncomputable def zM(x C:Addr)(od:Option Addr):HO:=.ext λh=>∃v0,h.get? x=some ⟨.ref C,od,.fields #[v0,.none,.none,.none,.bool false,.none],#[]⟩
noncomputable def xD(a:Addr)(fs:List (Str×V)):HO:=.ext λh=>∃mA,h.Ns1 a mA/\(∀f,YV (fs.lookup f) (mA f))/\PySem.Within mA (fs.map (·.1))
theorem yo{P:Program}{w:World}{H:Hp}{h:Heap}{x C:Addr}{od:Option Addr}{v0:Value}(e:h.get? x=some ⟨.ref C,od,.fields #[v0,.none,.none,.none,.bool false,.none],#[]⟩):qH P w H h x (zM x C od):=
 ⟨⟨v0,e⟩,⟨_,e⟩,λh1 h2 ⟨v,z⟩ k=>⟨v,k _ z⟩⟩
theorem qcF{P:Program}{w:World}{H:Hp}{h:Heap}{a:Addr}{fs:List (Str×V)}{mA:PR}(e:h.Ns1 a mA)(r:∀f,YV (fs.lookup f) (mA f))(wi:PySem.Within mA (fs.map (·.1))):qH P w H h a (xD a fs):=by obtain⟨od,es,ep,e1,c⟩:=e;refine⟨⟨mA,⟨od,es,ep,e1,c⟩,r,wi⟩,⟨_,e1⟩,λh1 h2 hz k=>?_⟩;obtain⟨mB,⟨o2,es2,ep2,e2,c2⟩,r2⟩:=hz;exact⟨mB,⟨o2,es2,ep2,k _ e2,c2⟩,r2⟩
theorem Y4{H:Hp}{a:Addr}{o:HO}(h:H a=some o):upd H a o=H:=by
 funext b
 by_cases hb:b=a
 ·subst hb;rw[qc,h]
 ·rw[qb hb]
section
variable{X:Cx}
theorem QJ:zW X (.builtin "ValueError.__init__") (λvs H Q=>∃x C fI m,vs=[.ref x,.str m]/\H x=some (zM x C none)/\ym X.K C fI bV "ValueError.__new__" = true/\Q .non H):=by
 intro pins s σ H xs us Q I r h;obtain⟨x,C,fI,m,rfl,hx,ok,q⟩:=h;obtain⟨u,v,rfl,ru,rv⟩:=Q4 r;cases ru;obtain⟨t,rfl⟩:=rv;obtain⟨bm,N,nm,qn,bs,hd,sn,sub,ab,col,dd,k0,k1,k2,k3,k5,mN,hC,hN,hi,T⟩:=Je I.kIn ok;obtain⟨⟨v0,he⟩,_⟩:=I.hok x _ hx;have F:=PySem.F.excBase_ValueError;obtain⟨hh,g,d,tk,os⟩:=s;refine wpAny_call (codeAny_call_builtin F.init.plain F.initEntry (wpAny_check_init_subT F T hC he rfl ?_))
 wp_walk
 have hn:(hh.push { cls:=.type "tuple",data:=.seq #[Value.str m t] }).get? x=some ⟨.ref C,none,.fields #[v0,.none,.none,.none,.bool false,.none],#[]⟩:=Heap.get?_push_of_some _ he
 have fin:EP X pins σ Q Value.none { heap:=(hh.push { cls:=.type "tuple",data:=.seq #[Value.str m t] }).update x (Obj.mapFields λx=>x.setIfInBounds 0 (Value.ref hh.objs.size)),gens:=g,drawn:=d,toks:=tk,os:=os }:=by
  refine⟨.non,H,?_,rfl,q⟩
  have I2:=I.write (x:=x) (e:=x) (o:=zM x C none) (t':=tk) (h':=(hh.push { cls:=.type "tuple",data:=.seq #[Value.str m t] }).update x (Obj.mapFields λx=>x.setIfInBounds 0 (Value.ref hh.objs.size))) (by rw[hx];exact True.intro) (.inl rfl)
   (λb u hb e=>by rw[Heap.get?_update_other _ _ (Ne.symm hb)];exact Heap.get?_push_of_some _ e) ⟨_,Heap.get?_update_self _ hn rfl⟩ (yo (v0:=Value.ref hh.objs.size) (Heap.get?_update_self _ hn rfl))
  rw[Y4 hx] at I2;exact I2
 cases v0<;>first | exact wpAny_pure (wpAny_pure fin) | (refine wpAny_letGo ?_;exact wpAny_pure fin)
end
end L2
namespace L2
open PySem PySem.Spec PyProof.Rows PySem.W
def Zv:V->Prop
 |.int n=>n.natAbs.log2 < 1920
 |.non=>True
 |_=>False
section
variable{X:Cx}
noncomputable def PJ(X:Cx)(es:List Expr)(t:St->Prop):Prop:=∀(pins:PP) (s:Shared) (σ:St) (H:Hp) (acc:Str),Inv X pins σ H s->t σ->acc.length+3000 * es.length<=90000->
 Joins (model X.prog X.w) X.A X.xe (evalEach es X.env) acc (λout s1=>out.length<=90000/\Inv X pins σ H s1) s
theorem Zw{n:Nat}(h:n<=90000):n<=sizeLine:=by rw[sizeLine_eq];lia
theorem qeJ:PJ X [] (λ_=>True):=λpins s σ H acc I _ h=>⟨by simpa using h,I⟩
theorem qeK{z:Str}{j:Nat}{p:Pos}{es:List Expr}{t:St->Prop}(hz:z.length<=3000)(h:PJ X es t):PJ X (.Constant (.str z) j p::es) t:=λpins s σ H acc I ht hl=>by
 rw[List.length_cons] at hl;refine thn (qbm (X:=X) pins s σ H (λv H1=>v=.str z/\H1=H) I ⟨rfl,rfl⟩) λv s1 hq=>?_;obtain⟨v',H1,I1,r,rfl,rfl⟩:=hq;obtain⟨t',rfl⟩:=r;have e:(acc++z).length+3000 * es.length<=90000:=by rw[strLen_append];lia
 exact⟨z,t',rfl,Zw (by lia),h pins s1 σ _ _ I1 ht e⟩
theorem qeL{i:Nat}{x:Str}{np p:Pos}{es:List Expr}{t:St->Prop}(hv:PE X (.Name x np) (qaf i))(h:PJ X es t):PJ X (.FormattedValue (.Name x np) (-1) none p::es) (λσ=>(∃v,σ[i]?=some (some v)/\Zv v)/\t σ):=λpins s σ H acc I ht hl=>by
 rw[List.length_cons] at hl;obtain⟨⟨v,hσ,fv⟩,ht⟩:=ht
 have go:∀(y:Str) (k:Tok) (s1:Shared),y.length<=3000->Inv X pins σ H s1->∃y' t',Value.str y k=.str y' t'/\(acc++y').length<=sizeLine/\Joins (model X.prog X.w) X.A X.xe (evalEach es X.env) (acc++y') (λout s1=>out.length<=90000/\Inv X pins σ H s1) s1:=λy k s1 hy I1=>by
  have e:(acc++y).length+3000 * es.length<=90000:=by rw[strLen_append];lia
  exact⟨y,k,rfl,Zw (by lia),h pins s1 σ _ _ I1 ht e⟩
 refine FormattedValue_plain (thn (hv pins s σ H (λv' H1=>v'=v/\H1=H) I ⟨v,hσ,rfl,rfl⟩) λu s1 hq=>?_);obtain⟨v',H1,I1,r,rfl,rfl⟩:=hq
 cases v' with
 |int n=>
  obtain⟨t',rfl⟩:=r;refine formatField_int_small fv ?_
  have:=int_text_length_le (k:=1920) (2:) fv
  exact go _ _ _ (by rw[PySem.ofString_length];lia) ((I1.tok _).tok _)
 |non=>cases r;exact wpAny_formatField_none (go _ _ _ (2:) ((I1.tok _).tok _))
 |_=>exact fv.elim
theorem JV{v₁ v₂:Expr}{rest:List Expr}{pos:Pos}{t:St->Prop}(h:PJ X (v₁::v₂::rest) t)(hl:rest.length<=20):PE X (.JoinedStr (v₁::v₂::rest) pos) (λσ H Q=>t σ/\∀z,Q (.str z) H):=λpins s σ H Q I hq=>by
 refine wpAny_JoinedStr ?_;have e0:Str.empty.length=0:=rfl
 have:=h pins s σ H Str.empty I hq.1 (by simp only[List.length_cons,e0];lia)
 have mono:∀(ts:List (Sem Value)) (acc:Str) (Q1 Q2:Str->Shared->Prop) (s:Shared),(∀o s,Q1 o s->Q2 o s)->Joins (model X.prog X.w) X.A X.xe ts acc Q1 s->Joins (model X.prog X.w) X.A X.xe ts acc Q2 s:=by
  intro ts
  induction ts with
  |nil=>exactλacc Q1 Q2 s i h=>i _ _ h
  |cons a l ih=>exactλacc Q1 Q2 s i h=>thn h λv s1 ⟨y,t',e1,e2,e3⟩=>⟨y,t',e1,e2,ih _ _ _ _ i e3⟩
 refine mono _ _ _ _ _ (λo s1 hz71=>?_) this;obtain⟨h1,h2⟩:=hz71;exact⟨Zw h1,.str o,H,h2.tok _,⟨_,rfl⟩,hq.2 o⟩
structure ClsIni(K:Frag)(D:Addr):Prop where
 reads:readsIn K D (.type "type")=true
 sp:specialIn K (.ref D) "__getattribute__" = some (some (.builtin "type.__getattribute__"))
 at_:findCls K (.ref D) (.type "type") "__init__" = some (.val (.builtin "ValueError.__init__"))
theorem Y5{D:Addr}{x:Str}{p pos apos:Pos}{e:Expr}{es:List Expr}{t:TA}{pl:Sem Bool}(hD:ClsIni X.K D)(hg:Gl X x)(hm:X.mg x=some (.ref D))(ha:PA X (e::es) t)
  (hdb:(x == ("__debug__" : Str))=false) (hst:starEach (e::es) X.env=(false,eval e X.env)::starEach es X.env) (hpl:(backTo pos (starEach es X.env)).any (·.1)=false)
  (ht:eval (.Call (.Attribute (.Name x p) "__init__" apos) (e::es) [] pos) X.env=(do
   let ov<-eval (.Name x p) X.env
   standAt apos.atName
   let (f,first)<-holding [ov] (getMethod ov "__init__" pl)
   callWith pos f first (backTo pos (starEach (e::es) X.env)) (backToKw pos (keywordEach [] X.env)))) :
  PE X (.Call (.Attribute (.Name x p) "__init__" apos) (e::es) [] pos) (λσ H Q=>t σ H λvs H1=>∃x C fI m,vs=[.ref x,.str m]/\H1 x=some (zM x C none)/\ym X.K C fI bV "ValueError.__new__" = true/\Q .non H1):=by
 intro pins s σ H Q I h;refine PySem.W.methodCall_KW (pl:=pl) (qI I hg hm ?_ hdb) ht;refine method_cls I.kIn hD.sp (cls_value I.kIn hD.reads hD.at_ (by decide+kernel) ?_);have I1:=I.tok (s.toks+1);refine PyProof.Rows.callWith_builtin1 (thn (ha pos pins _ σ H _ I1 h) λus s2 z=>?_) hst hpl;obtain⟨vs,H2,I2,r,q⟩:=z;exact QJ pins s2 σ H2 vs us Q I2 r q
end
end L2
namespace L2
open PySem PySem.Spec PyProof.Rows PySem.W
open Builtin Builtin.ObjectAttr
def qcG:List Value->Bool
 | .ref _::r=>qcG r
 |l=>l == bV
theorem Y6:∀{l:List Value},qcG l=true->l.contains (.type "object")=true/\∀self,refuseLoop self "__setattr__" l=pure ()
 | .ref c::r,e=>by obtain⟨h1,h2⟩:=Y6 (l:=r) e;exact⟨by rw[List.contains_cons,h1,Bool.or_true],λself=>by rw[refuseLoop_ref];exact h2 self⟩
 |[],e=>by cases e
 | .type n::r,e=>by have z:Value.type n::r=bV:=beq_iff_eq.mp e;rw[z];exact⟨by decide,PySem.F.store_ValueError.passes⟩
 | .none::r,e=>by have z:=beq_iff_eq.mp e;cases z
 | .bool _::r,e=>by have z:=beq_iff_eq.mp e;cases z
 | .int _ _::r,e=>by have z:=beq_iff_eq.mp e;cases z
 | .float _ _::r,e=>by have z:=beq_iff_eq.mp e;cases z
 | .str _ _::r,e=>by have z:=beq_iff_eq.mp e;cases z
 | .bytes _ _::r,e=>by have z:=beq_iff_eq.mp e;cases z
 | .ellipsis::r,e=>by have z:=beq_iff_eq.mp e;cases z
 | .notImplemented::r,e=>by have z:=beq_iff_eq.mp e;cases z
 | .builtin _::r,e=>by have z:=beq_iff_eq.mp e;cases z
def qeM(K:Frag)(C:Addr):Bool:=(clsIn K C).any λcd=>qcG cd.mro&&cd.hasDict
section
variable{prog:Program}{w:World}{A:Around}{s:Shared}{K:Frag}{x C:Addr}{R:Result->Shared->Prop}
theorem JW{ox:Obj}{od:Option Obj}{name:Str}{tk:Tok}{v:Value}(X:K.In s.heap)(I:InstAt s.heap x ox C od)(hp:qeM K C=true)(ht:takerIn K C name=some none)
  (h:∀b,wpAny (model prog w) A.in1 (storeInOwnDict (.ref x) (.ref C) (.str name tk) name v b)
   (λfin s'=>match fin with |.done f=>R (.ok f) s' | .again c'=>c'.quiet=true/\codeAny (model prog w) A c' R s') (λe s'=>R (.error e) s') s) :
  codeAny (model prog w) A (.call (.builtin "object.__setattr__") ⟨[.ref x,.str name tk,v],[]⟩) R s:=by
 have SF:=PySem.F.store_object;obtain⟨cd,hc,ho⟩:=any_some hp;rw[Bool.and_eq_true] at ho;obtain⟨hob,hpass⟩:=Y6 ho.1
 have ne:cd.mro.isEmpty=false:=by
  cases q:cd.mro with
  |nil=>rw[q] at hob;cases hob
  |cons _ _=>rfl
 have sub:Looks (model prog w) s.heap (isInstance (.ref x) (.type "object")) true:=I.type.andThen (looks_mroIn X (by unfold mroIn;rw[hc,Option.bind_some,if_neg (by rw[ne];decide),hob]));refine codeAny_call_builtin SF.slot.plain SF.entry (@check_slot (model prog w) _ _ s "object.__setattr__" "object" "__setattr__" (.ref x) [.str name tk,v] [] _ SF.kind SF.split sub (SF.args (.ref x) (.str name tk) v) ?_);obtain⟨attr,ha,hr⟩:=Option.bind_eq_some_iff.mp ht;have hm:Looks (model prog w) s.heap (mroOf (.ref C)) cd.mro:=(looks_clsIn X hc).andThen .now
 have L3:Looks (model prog w) s.heap (storeTaker? attr) none:=by
  cases attr with
  |none=>exact .now
  |some a=>
   obtain⟨b,hb,hr⟩:=Option.map_eq_some_iff.mp hr;refine(looks_takesIn X hb).andThen ?_
   cases b with
   |true=>cases hr
   |false=>exact .now
 rw[osa_eq,refuse_eq];refine wpAny_bind (wpAny_bind (I.type.here (wpAny_bind (hm.here ?_))));rw[hpass];refine wpAny_pure (wpAny_bind (I.type.here (wpAny_bind ((looks_findIn X ha).here (wpAny_bind (L3.here ?_))))));exact h _
end
section
variable{X:Cx}{pins:PP}{σ:St}{H:Hp}{s:Shared}{x C:Addr}{name:Str}
structure XcS(K:Frag)(C:Addr)(name:Str):Prop where
 sa:findIn K (.ref C) "__setattr__" = some (some (.builtin "object.__setattr__"))
 ov:qeM K C=true
 tk:takerIn K C name=some none
theorem Zx{name:Str}{y:V}{u:Value}{fs:List (Str×V)}{mA:PR}(ry:qC y u)(r:∀f,YV (fs.lookup f) (mA f)):∀g,YV ((jE name y fs).lookup g) (if g=name then some u else mA g):=λg=>by
 rw[zX]
 by_cases q:g=name
 ·rw[if_pos q,if_pos q];exact ry
 ·rw[if_neg q,if_neg q];exact r g
theorem qby{name:Str}{y:V}{u:Value}{fs:List (Str×V)}{mA:PR}(wi:PySem.Within mA (fs.map (·.1))):PySem.Within (λg=>if g=name then some u else mA g) ((jE name y fs).map (·.1)):=λg hg=>by
 by_cases q:g=name
 ·rw[q];exact(zq name y fs).1
 ·refine(zq name y fs).2 g (wi g λz=>hg ?_);show(if g=name then some u else mA g)=none;rw[if_neg q];exact z
theorem qaE{A:Around}{E:PQ}{y:V}{u:Value}{Q:Unit->Shared->Prop}(I:Inv X pins σ H s)(hx:H x=some (zM x C none))(c:XcS X.K C name)(ry:qC y u)
  (h:∀dd s',H dd=none->Inv X pins σ (upd (upd H dd (xD dd [(name,y)])) x (zM x C (some dd))) s'->Q () s'):wpAny (model X.prog X.w) A (setAttr (.ref x) name u) Q E s:=by
 obtain⟨⟨v0,he⟩,_⟩:=I.hok x _ hx;have J:InstAt s.heap x _ C none:=⟨he,rfl,rfl,trivial⟩;have hfr:H s.heap.objs.size=none:=I.hok.fresh (Nat.le_refl _);obtain⟨cd,hc,ho⟩:=any_some c.ov;rw[Bool.and_eq_true] at ho;refine set_plain I.kIn J c.sa (JW (s:={ s with toks:=s.toks+1 }) I.kIn J c.ov c.tk λb=>?_);have hne:x≠s.heap.objs.size:=Nat.ne_of_lt (Heap.lt_size he);refine wpAny_bind (wpAny_pure (wpAny_bind (wpAny_bind (wpAny_loadPart he (wpAny_bind (Looks.here (s:={ s with toks:=s.toks+1 }) (looks_clsIn I.kIn hc) ?_))))));rw[ho.2];have I0:=I.tok (s.toks+1);have e1:(s.heap.push { cls:=.type "dict",data:=.dict #[] }).get? s.heap.objs.size=some { cls:=.type "dict",data:=.dict #[] }:=Heap.get?_push_size _ rfl;have n1:(s.heap.push { cls:=.type "dict",data:=.dict #[] }).Ns s.heap.objs.size (λ_=>none):=⟨_,#[],_,e1,rfl,(λe he=>absurd he (by simp)),λ_=>rfl⟩;have I1:=I0.laid (a:=s.heap.objs.size) (o:=xD s.heap.objs.size []) (h':=s.heap.push { cls:=.type "dict",data:=.dict #[] }) (t':=s.toks+1) (λb u q=>Heap.get?_push_of_some _ q) (Nat.le_refl _) (qcF (Heap.Ns1.of_empty n1) (λ_=>True.intro) (λy hy=>absurd rfl hy));have hx1:(s.heap.push { cls:=.type "dict",data:=.dict #[] }).get? x=some ⟨.ref C,none,.fields #[v0,.none,.none,.none,.bool false,.none],#[]⟩:=Heap.get?_push_of_some _ he;have hHx:upd H s.heap.objs.size (xD s.heap.objs.size []) x=some (zM x C none):=by rw[qb hne];exact hx
 have hx2:((s.heap.push { cls:=.type "dict",data:=.dict #[] }).update x λo=>{ o with dict:=some s.heap.objs.size }).get? x=some ⟨.ref C,some s.heap.objs.size,.fields #[v0,.none,.none,.none,.bool false,.none],#[]⟩:=Heap.get?_update_self _ hx1 rfl
 have I2:=I1.write (x:=x) (e:=x) (o:=zM x C (some s.heap.objs.size)) (t':=s.toks+1) (h':=(s.heap.push { cls:=.type "dict",data:=.dict #[] }).update x λo=>{ o with dict:=some s.heap.objs.size }) (by rw[hHx];exact True.intro) (.inl rfl)
  (λb u hb e=>by rw[Heap.get?_update_other _ _ (Ne.symm hb)];exact e) ⟨_,hx2⟩ (yo hx2)
 refine wpAny_bind (wpAny_alloc' (wpAny_bind (wpAny_update' hx1 (wpAny_pure ?_))));have ns2:((s.heap.push { cls:=.type "dict",data:=.dict #[] }).update x λo=>{ o with dict:=some s.heap.objs.size }).Ns1 s.heap.objs.size (λ_=>none):=(Heap.Ns1.of_empty n1).at λo q=>by rw[Heap.get?_update_other _ _ hne];exact q
 have hHd:upd (upd H s.heap.objs.size (xD s.heap.objs.size [])) x (zM x C (some s.heap.objs.size)) s.heap.objs.size=some (xD s.heap.objs.size []):=by rw[qb (Ne.symm hne),qc]
 refine wpAny_bind (wpAny_pure (wpAny_bind (wpAny_nsSet1 (s:={ s with heap:=(s.heap.push { cls:=.type "dict",data:=.dict #[] }).update x λo=>{ o with dict:=some s.heap.objs.size },toks:=s.toks+1 }) ns2 λh' hn' hs=>?_)));obtain⟨oD,esD,epD,hoD,hdD,hcD⟩:=hn'.count (Within.cons name u Within.nil);refine wpAny_bind (wpAny_lookBehind hoD (by rw[hdD];exact pastItsLine_dict (Nat.le_trans hcD (by rw[List.length_cons,List.length_nil,sizeLine_eq];lia))) ?_)
 have I3:=I2.write (x:=s.heap.objs.size) (e:=s.heap.objs.size) (o:=xD s.heap.objs.size [(name,y)]) (t':=s.toks+2) (h':=h') (by rw[hHd];exact True.intro) (.inl rfl) (λb u hb e=>(hs.2 b hb).trans e) ⟨_,hoD⟩
  (qcF hn' (Zx (fs:=[]) (mA:=λ_=>none) ry λ_=>True.intro) (qby (y:=y) (fs:=[]) (mA:=λ_=>none) λy hy=>absurd rfl hy))
 refine wpAny_pure (h s.heap.objs.size _ hfr ?_)
 have e:upd (upd (upd H s.heap.objs.size (xD s.heap.objs.size [])) x (zM x C (some s.heap.objs.size))) s.heap.objs.size (xD s.heap.objs.size [(name,y)])=upd (upd H s.heap.objs.size (xD s.heap.objs.size [(name,y)])) x (zM x C (some s.heap.objs.size)):=by
  funext b;unfold upd
  by_cases h1:b=s.heap.objs.size
  ·subst h1;rw[if_pos rfl,if_neg (Ne.symm hne),if_pos rfl]
  ·rw[if_neg h1]
   by_cases h2:b=x
   ·rw[if_pos h2,if_pos h2]
   ·rw[if_neg h2,if_neg h2,if_neg h1,if_neg h1]
 rw[<-e];exact I3
theorem Zy{A:Around}{E:PQ}{dd:Addr}{fs:List (Str×V)}{y:V}{u:Value}{Q:Unit->Shared->Prop}(I:Inv X pins σ H s)(hx:H x=some (zM x C (some dd)))(hd:H dd=some (xD dd fs))(hl:fs.length < 1000)(c:XcS X.K C name)(ry:qC y u)
  (h:∀s',Inv X pins σ (upd H dd (xD dd (jE name y fs))) s'->Q () s'):wpAny (model X.prog X.w) A (setAttr (.ref x) name u) Q E s:=by
 obtain⟨⟨v0,he⟩,_⟩:=I.hok x _ hx;obtain⟨⟨mA,ns,r,wi⟩,_⟩:=I.hok dd _ hd;obtain⟨oo,hoo,_⟩:=ya ns;have J:InstAt s.heap x _ C (some oo):=⟨he,rfl,rfl,hoo⟩;obtain⟨cd,hc,ho⟩:=any_some c.ov;rw[Bool.and_eq_true] at ho;refine set_plain I.kIn J c.sa (JW (s:={ s with toks:=s.toks+1 }) I.kIn J c.ov c.tk λb=>?_);refine wpAny_bind (wpAny_pure (wpAny_bind (wpAny_bind (wpAny_loadPart he (wpAny_bind (Looks.here (s:={ s with toks:=s.toks+1 }) (looks_clsIn I.kIn hc) ?_))))));rw[ho.2];refine wpAny_pure (a:=some dd) (wpAny_bind (wpAny_pure (wpAny_bind (wpAny_nsSet1 (s:={ s with toks:=s.toks+1 }) ns λh' hn' hs=>?_))));obtain⟨oD,esD,epD,hoD,hdD,hcD⟩:=hn'.count (Within.cons name u wi);refine wpAny_bind (wpAny_lookBehind hoD (by rw[hdD];exact pastItsLine_dict (Nat.le_trans hcD (by rw[List.length_cons,List.length_map,sizeLine_eq];lia))) ?_);have I3:=(I.tok (s.toks+1)).write (x:=dd) (e:=dd) (o:=xD dd (jE name y fs)) (t':=s.toks+2) (h':=h') (by rw[hd];exact True.intro) (.inl rfl) (λb u hb e=>(hs.2 b hb).trans e) ⟨_,hoD⟩ (qcF hn' (Zx ry r) (qby wi));exact wpAny_pure (h _ I3)
noncomputable def qhd(K:Frag)(ta tv:TE)(f:Str):TS:=λD σ H=>tv σ H λy H1=>ta σ H1 λx H2=>∃a C,x=.ref a/\H2 a=some (zM a C none)/\XcS K C f/\∀dd,H2 dd=none->D.nx σ (upd (upd H2 dd (xD dd [(f,y)])) a (zM a C (some dd)))
noncomputable def qhe(K:Frag)(ta tv:TE)(f:Str):TS:=λD σ H=>tv σ H λy H1=>ta σ H1 λx H2=>∃a C dd fs,x=.ref a/\H2 a=some (zM a C (some dd))/\H2 dd=some (xD dd fs)/\fs.length < 1000/\XcS K C f/\D.nx σ (upd H2 dd (xD dd (jE f y fs)))
theorem Zz{o value:Expr}{f:Str}{pos pos':Pos}{ta tv:TE}(ha:PE X o ta)(hv:PE X value tv)(hs:swapsWith value (some (.Attribute o f pos')) pos.line X.env=pure false):PS X (.Assign [.Attribute o f pos'] value pos) (qhd X.K ta tv f):=by intro pins s σ H D I h;refine plainObj_wpAny_Assign_Attribute (thn (hv pins s σ H _ I h) λu s1 hz72=>?_) hs;obtain⟨y,H1,I1,ry,q⟩:=hz72;refine thn (ha pins s1 σ H1 _ I1 q) λov s2 hz73=>?_;obtain⟨x,H2,I2,rx,a,C,ex,ea,c,q2⟩:=hz73;subst ex;obtain rfl:ov=Value.ref a:=rx;exact qaE I2 ea c ry λdd s3 hd I3=>⟨σ,_,I3,q2 dd hd⟩
theorem qcH{o value:Expr}{f:Str}{pos pos':Pos}{ta tv:TE}(ha:PE X o ta)(hv:PE X value tv)(hs:swapsWith value (some (.Attribute o f pos')) pos.line X.env=pure false):PS X (.Assign [.Attribute o f pos'] value pos) (qhe X.K ta tv f):=by intro pins s σ H D I h;refine plainObj_wpAny_Assign_Attribute (thn (hv pins s σ H _ I h) λu s1 hz74=>?_) hs;obtain⟨y,H1,I1,ry,q⟩:=hz74;refine thn (ha pins s1 σ H1 _ I1 q) λov s2 hz75=>?_;obtain⟨x,H2,I2,rx,a,C,dd,fs,ex,ea,ed,el,c,q2⟩:=hz75;subst ex;obtain rfl:ov=Value.ref a:=rx;exact Zy I2 ea ed el c ry λs3 I3=>⟨σ,_,I3,q2⟩
end
end L2
namespace L2
open PySem PySem.Spec PyProof.Rows PySem.W
def rem(H:Hp)(x:Addr):Hp:=λb=>if b=x then none else H b
theorem Y7{H:Hp}{x:Addr}:rem H x x=none:=by unfold rem;rw[if_pos rfl]
theorem Y8{H:Hp}{x b:Addr}(h:b≠x):rem H x b=H b:=by unfold rem;rw[if_neg h]
section
variable{X:Cx}{pins:PP}{σ:St}{H:Hp}{s:Shared}{x C:Addr}{od oT:Option Addr}
theorem Inv.trk{φ:Heap->Prop}(I:Inv X pins σ H s)(new:qH X.prog X.w (upd H x (.ext φ)) s.heap x (.ext φ))(dat:∃oe vs,s.heap.get? x=some oe/\oe.data=.fields vs)(hx:H x=none)(x0:X.s₀.heap.get? x=none)(pin:∀p∈X.pn++pins,p.1≠x):Inv X pins σ (upd H x (.ext φ)) s:=by
 obtain⟨oe,vs,ho,hd⟩:=dat
 have nn:∀{b:Addr},b≠x->upd H x (.ext φ) b=H b:=λh=>qb h;have ntr:∀{b:Addr} {u:HO},H b=some u->b≠x:=λ{b u} e z=>by rw[z,hx] at e;cases e
 refine⟨I.ok,I.os,I.bare,⟨I.base.keep,I.base.slot,λb o e n hx=>?_,I.base.there,λb xs e=>?_,λb o u e=>?_,λb ps e=>?_⟩,I.loc,I.cell,?_,λy c e=>?_,λp hp=>?_,λa o e=>?_,I.len⟩
 ·rw[nn (λz=>by rw[z,x0] at e;cases e)];exact I.base.free b o e n hx
 ·have:=I.base.tups b xs e
  rw[nn (ntr this)];exact this
 ·have:=I.base.frzs b o u e
  rw[nn (ntr this)];exact this
 ·obtain⟨more,this⟩:=I.base.tbls b ps e;rw[nn (ntr this)];exact⟨more,this⟩
 ·have:X.env.locals≠x:=λz=>by
   obtain⟨m,⟨o,es,ep,e1,e2,_⟩,_⟩:=I.loc;rw[z,ho] at e1;cases e1;rw[hd] at e2;cases e2
  rw[nn this];exact I.free
 ·have:c≠x:=λz=>by
   obtain⟨v,o,e1,e2⟩:=I.cell y c e;rw[z,ho] at e1;cases e1;rw[hd] at e2;cases e2
  rw[nn this];exact I.freeC y c e
 ·obtain⟨e,n,r⟩:=I.pin p hp;refine⟨e,?_,r⟩;rw[nn (pin p hp)];exact n
 ·by_cases hb:a=x
  ·subst hb;rw[qc] at e;cases e;exact new
  ·rw[nn hb] at e;exact(I.hok a o e).stay (λ_ _ _ q=>q) (λb q=>by rw[nn (ntr q)];exact q) (λb xs q=>by rw[nn (ntr q)];exact q)
theorem Inv.untrk{φ:Heap->Prop}(I:Inv X pins σ H s)(h:H x=some (.ext φ)):Inv X pins σ (rem H x) s:=by
 have nn:∀{b:Addr} {u:HO},H b=some u->(∀ψ,u≠.ext ψ)->rem H x b=some u:=λ{b u} e n=>by rw[Y8 (λz=>by rw[z,h] at e;exact n φ (Option.some.inj e).symm)];exact e
 have no:∀{b:Addr},H b=none->rem H x b=none:=λ{b} e=>by
  unfold rem
  by_cases hb:b=x
  ·rw[if_pos hb]
  ·rw[if_neg hb];exact e
 refine⟨I.ok,I.os,I.bare,⟨I.base.keep,I.base.slot,λb o e n hx=>no (I.base.free b o e n hx),I.base.there,λb xs e=>nn (I.base.tups b xs e) (λ_ z=>by cases z),λb o u e=>nn (I.base.frzs b o u e) (λ_ z=>by cases z),λb ps e=>?_⟩,I.loc,I.cell,no I.free,λy c e=>no (I.freeC y c e),λp hp=>?_,λa o e=>?_,I.len⟩
 ·obtain⟨more,this⟩:=I.base.tbls b ps e;exact⟨more,nn this (λ_ z=>by cases z)⟩
 ·obtain⟨e,n,r⟩:=I.pin p hp;exact⟨e,no n,r⟩
 ·have ha:a≠x:=λz=>by rw[z,Y7] at e;cases e
  rw[Y8 ha] at e;exact(I.hok a o e).stay (λ_ _ _ q=>q) (λb q=>nn q (λ_ z=>by cases z)) (λb xs q=>nn q (λ_ z=>by cases z))
noncomputable def zN(X:Cx)(E:XK):Prop:=∀(pins:PP) (σ:St) (H:Hp) (s:Shared) (x C:Addr) (od:Option Addr),Inv X pins σ H s->Mine X pins H x none->Fly s.heap x C od none->E (.ref C) od H->X.xe (.ref x) s
end
section
variable{P:Program}{w:World}{K:Frag}{mg:PR}{base:Heap}{N:List Str}{qual:Str}{scope:Scope}{f:Addr}{cd:Value}{A:Around}{outer:List Env}{s:Shared}{H:Hp}{E:XK}
theorem ZA:zN (yV (CX1 P w) P w K mg base N qual scope f cd A outer s H E) E:=λpins σ H1 s1 x C od I M fl q=>Y3 I ⟨rfl,rfl⟩ rfl M fl q
end
section
variable{X:Cx}{E:XK}
theorem qaF(hex:X.ex=[])(h:zN X E):Zp X E:=λpins σ H s I h' x C vs m q=>by
 have no:∀b:Addr,b∉X.ex:=λb z=>by rw[hex] at z;cases z
 refine h pins σ H _ x C none (I.kept (t':=s.toks) m.keeps) ⟨I.newH m.new,I.new0 (no x) m.new,(λT z=>by cases z),λp hp=>⟨λz=>?_,by simp⟩⟩ (qaB m) q;obtain⟨e,_⟩:=I.pin p hp;rw[z,m.new] at e;cases e
noncomputable def qcI(K:Frag)(f:Addr):Bool:=match K.lookup f with
 |some ⟨.type n,_,_,_⟩=>n == "function"
 |_=>false
structure XcC(K:Frag)(C fI:Addr):Prop where
 ok:ym K C fI bV "ValueError.__new__" = true
 fn:qcI K fI=true
 kp:keepIn K (.ref C)=true
noncomputable def qcJ(C:Addr)(sp:Sp)(E:XK)(t:TA):TS:=λ_ σ H=>t σ H λvs H1=>vs.length<=sizeLine/\∀x,H1 x=none->sp (.ref x::vs) (upd H1 x (zM x C none)) (λv H2=>v=.non/\∃od,H2 x=some (zM x C od)/\E (.ref C) od (rem H2 x)) E0
theorem ZB{k:Nat}{n:Str}{C fI:Addr}{fd:FuncData}{ps:List Str}{sp:Sp}{e0:Expr}{es:List Expr}{t:TA}{np cpos pos:Pos}(hex:X.ex=[])(hx:zN X E)(hc:X.calm=true)(hg:Gl X n)(hm:X.mg n=some (.ref C))(c:XcC X.K C fI)
  (F:FnOk X.prog X.w X.K X.mg X.base CX0 k fI fd ps sp) (hr:Room (k+1) X.A) (hb:qx X.K fd ps []) (ha:PA X (e0::es) t)
  (he:starEach (e0::es) X.env=(false,eval e0 X.env)::starEach es X.env) (hpl:(backTo cpos (starEach es X.env)).any (·.1)=false) (hdb:(n == ("__debug__" : Str))=false) :
  PS X (.Raise (some (.Call (.Name n np) (e0::es) [] cpos)) none pos) (qcJ C sp E t):=by
 intro pins s σ H D I h;obtain⟨bm,N,nm,qn,bs,hd,sn,sub,ab,col,dd,k0,k1,k2,k3,k5,mN,hC,hN,hi,T⟩:=Je I.mod.kin c.ok;have FB:=PySem.F.excBase_ValueError
 obtain⟨oI,hoI,hcI⟩:∃oI,X.K.lookup fI=some oI/\oI.cls=.type "function":=by
  have:=c.fn
  unfold qcI at this
  split at this
  ·rename_i q;exact⟨_,q,by rw[beq_iff_eq.mp this]⟩
  ·cases this
 have no:∀b:Addr,b∉X.ex:=λb z=>by rw[hex] at z;cases z
 refine QI (C:=C) (nm:=nm) (q:=qn) (N:=N) (bs:=bs) (bm:=bm) (hdct:=hd) (sn:=sn) (sub:=sub) (ab:=ab) (col:=col) (dd:=dd) (k0:=k0) (k1:=k1) (k2:=k2) (k3:=k3) (k5:=k5) (newId:="ValueError.__new__") (T.hasType FB.hasBase) (I.ok.hd hc) ?_;refine wpAny_Call_Name_kw (qI I hg hm ?_ hdb);refine PySem.W.callWith_K (h₀:=X.base) I.ok.mod.kin c.kp (thn (ha cpos pins s σ H _ I h) λus s1 z=>?_) he hpl;obtain⟨vs,H1,I1,r,hl,q⟩:=z;refine⟨I1.kIn,?_⟩;obtain⟨hh,g,d,tk,os⟩:=s1;refine yY FB (T.keeps I1.bk) (I1.bk _ _ hC) (hN.keeps I1.bk) hi (I1.bk _ _ (I.mod.kin _ _ hoI)) hcI (λh' e m=>?_) (by rw[List.nil_append,<-r.length];exact hl);have Ik:=I1.kept (t':=tk) m.keeps;have hn1:=I1.newH m.new;have h0:=I1.new0 (no e) m.new
 have hpin:∀p∈X.pn++pins,p.1≠e:=λp hp z=>by obtain⟨e',_⟩:=I1.pin p hp;rw[z,m.new] at e';cases e'
 obtain⟨t',ht,_⟩:=m.there;have I2:Inv X pins σ (upd H1 e (zM e C none)) _:=Ik.trk (x:=e) (yo ht) ⟨_,_,ht,rfl⟩ hn1 h0 hpin;have hq:=q e hn1;have r2:qy (V.ref e::vs) (Value.ref e::us):=.cons rfl r
 have hln:(Value.ref e::us++[]).length=ps.length:=by
  have:=r2.length
  rw[F.len _ _ _ _ hq] at this;rw[List.append_nil];exact this.symm
 have hbn:=hb ⟨h',g,d,tk,os⟩ (Value.ref e::us) I2.kIn hln;rw[List.append_nil] at hbn;refine wpAny_call (codeAny_mono (F.run _ X.stack _ _ ⟨Value.ref e::us,[]⟩ (Value.ref e::us) _ _ E0 (hr.make C us []) (I2.env0.make C us []) hbn r2 hq) λres s' hq'=>?_)
 cases res with
 |error e=>exact False.elim hq'
 |ok fl=>
  cases fl with
  |ret u=>obtain⟨v,H',I3,rv,ev,od,hxe,q3⟩:=I2.after hq';subst ev;obtain⟨⟨v0,ho⟩,_⟩:=I3.hok e _ hxe;refine⟨rv,e,v0,od,#[],rfl,I3.bk _ _ hC,ho,hx pins σ (rem H' e) s' e C od (I3.untrk hxe) ⟨Y7,h0,(λT z=>by cases z),λp hp=>⟨hpin p hp,by simp⟩⟩ ⟨_,_,ho,rfl,rfl,rfl,rfl,0,_,_,_,ho,rfl,rfl,rfl⟩ q3⟩
  |next=>exact False.elim hq'
  |brk=>exact False.elim hq'
  |cont=>exact False.elim hq'
end
end L2
namespace L2
open PySem PySem.Spec PyProof.Rows PySem.W
section
variable{prog:Program}{w:World}{A:Around}{E:PQ}{s:Shared}{K:Frag}{x C:Addr}{ox:Obj}
theorem qcK{name:Str}{v:Value}{expr:Bool}{od:Option Obj}{Q:PQ}(Y:K.In s.heap)(I:W.InstAt s.heap x ox C od)(hC:ExcIs K C)(hf:findObj K C od name=some (.value v))(hh:handedIn v=true)
  (h:Q v { s with toks:=s.toks+1 }):wpAny (model prog w) A (getAttr (.ref x) name expr) Q E s:=by
 obtain⟨hp,g,d,t,os⟩:=s;have L0:=I.type (M:=model prog w);have L1:=looks_findIn (M:=model prog w) Y hC.ga;have L2:=looks_findIn (M:=model prog w) Y hC.gh;have L3:=looks_find (M:=model prog w) Y I hf;have L4:=looks_mroIn (M:=model prog w) Y hC.base;have hbind:∀self,bindSpecial (.builtin "BaseException.__getattribute__") self=pure (.builtin "BaseException.__getattribute__",[self]):=λself=>by rfl
 unfold getAttr getAttrBy;refine wpAny_bind (wpAny_mkText (wpAny_holding (wpAny_bind (L0.at (wpAny_bind (L1.at ?_))))));show wpAny _ _ (getAttrByItsOwn _ _ _ _ _ _) _ _ _;unfold getAttrByItsOwn;refine wpAny_bind ?_;show wpAny _ _ (typeLookup (.ref C) "__getattr__") _ _ _;refine L2.at (wpAny_bind (wpAny_attempt (wpAny_holding ?_)));unfold callGetattribute;rw[if_neg (by cases expr<;>decide)];show wpAny _ _ (boundAndCalled _ _ _) _ _ _;unfold boundAndCalled;refine wpAny_bind ?_;rw[hbind];refine wpAny_pure ?_;refine wpAny_call (codeAny_call_builtin (by decide+kernel) F.entry_bexc_ga ?_);have hk:builtinKind "BaseException.__getattribute__" = some .slot:=by decide+kernel
 have hsp:splitId "BaseException.__getattribute__" = some ("BaseException","__getattribute__"):=by decide+kernel
 have LI:Looks (model prog w) hp (isInstance (.ref x) (.type "BaseException")) true:=L0.andThen L4;have hargs:=F.args_bexc_ga (.ref x) (.str name t);simp only[checkBuiltinCall,hk,hsp];refine wpAny_bind ?_;refine LI.at ?_;rw[if_neg (2:)];refine wpAny_of_eq hargs ?_;unfold Builtin.«object.__getattribute__»;refine wpAny_bind (wpAny_pure ?_);refine wpAny_bind (wpAny_pure ?_);refine wpAny_bind (L0.at (wpAny_bind (L3.at ?_)));exact wpAny_pure (handed_on hh h)
end
structure XcG(K:Frag)(C:Addr)(name:Str):Prop where
 is_:ExcIs K C
 no:findIn K (.ref C) name=some none
 hd:hasDictIn K C=true
section
variable{X:Cx}
noncomputable def tXf(K:Frag)(ta:TE)(f:Str):TE:=λσ H Q=>ta σ H λx H1=>∃a C dd fs v,x=.ref a/\H1 a=some (qag a C (some dd))/\H1 dd=some (xD dd fs)/\XcG K C f/\fs.lookup f=some v/\Q v H1
theorem qcL{e:Expr}{f:Str}{pos:Pos}{ta:TE}(he:PE X e ta)(hb:attributeBase e f X.env (eval e X.env)=eval e X.env):PE X (.Attribute e f pos) (tXf X.K ta f):=by
 intro pins s σ H Q I h;refine Q7 hb (thn (he pins s σ H _ I h) λu s1 hq1=>?_);obtain⟨x,H1,I1,rx,a,C,dd,fs,v,ex,ea,ed,c,l,q⟩:=hq1;subst ex;obtain rfl:u=Value.ref a:=rx;obtain⟨o,e1,e2,e3,e4⟩:=(I1.hok a _ ea).1;obtain⟨mA,ns,r,_⟩:=(I1.hok dd _ ed).1;obtain⟨oo,hoo,hlk⟩:=ya ns;have J:InstAt s1.heap a o C (some oo):=⟨e1,e2,e4,by rw[e3];exact hoo⟩;have hr:=r f;rw[l] at hr
 cases hm:mA f with
 |none=>rw[hm] at hr;exact hr.elim
 |some w=>
  rw[hm] at hr
  have hw:handedIn w=true:=by
   have hr:qC v w:=hr
   cases v<;>first | (obtain⟨t,rfl⟩:=hr;rfl) | (cases hr;rfl)
  refine qcK I1.kIn J c.is_ (findObj_own c.hd c.no rfl (by rw[hlk,hm])) hw ⟨v,H1,I1.tok _,hr,q⟩
end
end L2
namespace L2
open PySem PySem.Spec PyProof.Rows PySem.W
theorem jf:entryFor table "proto.unchain" = some Builtin.«proto.unchain»:=entryFor_of_tree (by kernel_rfl)
theorem qT:plainId "proto.unchain" = true:=by decide+kernel
end L2
namespace L2
open PySem PySem.Spec PyProof.Rows PySem.W
section
variable{M:Model}{A:Around}{E:PQ}{s:Shared}{env:Env}{L e:Addr}{oe:Obj}{vs:Array Value}{Q:Unit->Shared->Prop}
theorem Y9{fs:List Addr}{oT:Option Addr}{T':Addr}{fl:Value}{h:Heap}(fr:Option Addr)(nx:NX fs e oT oe vs T' fl h s.heap)(k:∀h',NX fs e oT oe vs T' (fr.elim .none λf=>rawInt f) h h'->Q () { s with heap:=h' }):wpAny M A (setFlight (.ref e) fr) Q E s:=by
 obtain⟨n1,n2,⟨o',vs',o1,o2,o3,o4,o5,o6,o7⟩,n4,n5,ot,ts,t1,t2,t3,t4⟩:=nx;have h3:3 < ts.size:=(Array.getElem?_eq_some_iff.mp t3).1;unfold setFlight;refine wpAny_bind (wpAny_field o1 o4 o6 ?_);rw[if_pos (show(Value.ref T' != Value.none)=true by simp)];refine wpAny_setField t1 t2 h3 (k _ ?_);have oth:∀{b:Addr},b≠T'->(s.heap.update T' (Obj.mapFields (·.setIfInBounds 3 (fr.elim Value.none λf=>rawInt f)))).get? b=s.heap.get? b:=λhb=>Heap.get?_update_other _ _ (Ne.symm hb)
 have nT:∀{b:Addr} {o:Obj},h.get? b=some o->b≠T':=λ{b o} q z=>by rw[z,n4] at q;cases q
 have hdt:=Obj.data_mapFields t2 (·.setIfInBounds 3 (fr.elim Value.none λf=>rawInt f));refine⟨λb o h1 h2 h4 q=>(oth (nT q)).trans (n1 b o h1 h2 h4 q),λb o hb q=>?_,⟨o',vs',(oth (Ne.symm n5)).trans o1,o2,o3,o4,o5,o6,o7⟩,n4,n5,_,_,Heap.get?_update_self _ t1 (Obj.isFreed_of_fields hdt),hdt,by simp[h3],(Obj.cls_mapFields _ _).trans t4⟩;obtain⟨sl,z⟩:=n2 b o hb q;exact⟨sl,(oth (nT q)).trans z⟩
theorem qcM{fs:List Addr}{oT:Option Addr}{T':Addr}{h:Heap}(hf:env.frame=some L)(nx:NX fs e oT oe vs T' (rawInt L) h s.heap)(k:∀h',NX fs e oT oe vs T' .none h h'->Q () { s with heap:=h' }):wpAny M A (leaving env (.ref e)) Q E s:=by unfold leaving;refine wpAny_bind ?_;have nx2:=nx;obtain⟨n1,n2,⟨o',vs',o1,o2,o3,o4,o5,o6,o7⟩,n4,n5,ot,ts,t1,t2,t3,t4⟩:=nx2;simp only[noteFrame,hf];refine wpAny_bind (wpAny_field o1 o4 o6 ?_);rw[if_pos (show(Value.ref T' != Value.none)=true by simp)];refine wpAny_bind (wpAny_field t1 t2 t3 ?_);rw[if_pos (show(rawInt L == rawInt L)=true by simp)];exact wpAny_pure (Y9 none nx k)
end
noncomputable def ZC(X:Cx)(E:XK):Prop:=∀(pins:PP) (σ:St) (H:Hp) (s:Shared) (x T C:Addr) (od:Option Addr) (h:Heap) (Q:Flow->Shared->Prop),Held X pins σ H s x T C od h->E (.ref C) od H->
 wpAny (model X.prog X.w) X.A (handleBy (.ref x) X.env []) Q X.xe { s with heap:=h }
section
variable{P:Program}{w:World}{K:Frag}{mg:PR}{base:Heap}{N:List Str}{qual:Str}{scope:Scope}{f:Addr}{cd:Value}{A:Around}{outer:List Env}{s:Shared}{H:Hp}{E:XK}
theorem ZD:ZC (yV (CX1 P w) P w K mg base N qual scope f cd A outer s H E) E:=λpins σ H1 s1 x T C od h Q Hd q=>by obtain⟨I,Mi,ff,oe,vs,T',nx,e1,e2,e3,e4,b⟩:=Hd;refine wpAny_handleBy_nil ?_;unfold PySem.passOn;have nx0:=nx;obtain⟨_,_,⟨o',vs',o1,o2,o3,o4,o5,o6,o7⟩,_⟩:=nx0;refine wpAny_bind (wpAny_field o1 o4 o6 ?_);rw[if_neg (by simp)];refine wpAny_bind (Y9 (s:={ s1 with heap:=h }) (some _) nx λh2 nx2=>wpAny_throw ?_);refine qcM (s:={ s1 with heap:=h2 }) rfl nx2 λh3 nx3=>?_;have I2:=yj I rfl Mi ff.1 ff.2 nx3;exact⟨x,T',C,od,H1,rfl,I2.os,I2.bare,I2.base,I2.hok,Mi.hx,I.newH nx3.new,Mi.x0,I.new0 (by intro z;cases z) nx3.new,nx3.fly e1 e2 e3 e4 b,q⟩
end
end L2
namespace L2
open PySem PySem.Spec PyProof.Rows PySem.W
section
variable{X:Cx}{pins:PP}{σ:St}{H:Hp}{s:Shared}{E:PQ}
theorem qeN{i:Nat}{x:Str}{pos:Pos}{v:V}{Q:PQ}(I:Inv X pins σ H s)(hN:X.N[i]?=some x)(hv:Vis X.env.scope x)(e:σ[i]?=some (some v))(h:∀u,qC v u->Q u s)
  (hd:(x == ("__debug__" : Str))=false) (hcd:(x == ("__classdict__" : Str))=false):wpAny (model X.prog X.w) X.A (eval (.Name x pos) X.env) Q E s:=by
 obtain⟨m,hn,hl⟩:=I.loc;obtain⟨u,r,l⟩:=hl i x v hN e hv;have fin:Q u s:=h u r;rcases l with ⟨hk,hm⟩ | ⟨hk,c,hc,hcell⟩
 ·exact wpAny_Name (wpAny_loadName_local I.ok.kind hk hn hm fin) hd
 ·rcases hk with hk | hk
  ·exact wpAny_Name (wpAny_loadName_cell I.ok.kind hk hc hcell fin) hd
  ·exact wpAny_Name (wpAny_loadName_free I.ok.kind hk hc hcell fin hcd) hd
end
end L2
namespace L2
open PySem PySem.Spec PyProof.Rows PySem.W
def Kp(h0 h:Heap):Prop:=∀b ob,h0.get? b=some ob->∃sl,h.get? b=some { ob with slots:=sl }
section
variable{prog:Program}{w:World}{A:Around}{E:PQ}{s:Shared}
theorem zY{y:Addr}{h0:Heap}{R:Result->Shared->Prop}(kp:Kp h0 s.heap)(hy:h0.get? y=none)(hR:R (.ok (.ret .none)) s):∀(n:Nat) (o sl:Addr) (m:Nat) (tg:Bool),Chn h0 n o->Chn h0 m sl->n<=m->(n=m->tg=false)->
  codeAny (model prog w) A (.builtin "proto.unchain" ⟨[.ref y,.ref o,.ref sl,.bool tg],[]⟩) R s
 |0,o,sl,m,tg,co,cs,hm,ht=>by obtain⟨ob,vs,C,h1,_,h3,h4⟩:=co;refine codeAny_builtin jf ?_;rw[Around.under_plainId qT _];unfold Builtin.«proto.unchain»;obtain⟨sk,hk⟩:=kp _ _ h1;refine wpAny_bind (wpAny_field hk h3 h4 ?_);rw[if_pos (by rfl)];exact wpAny_pure hR
 | n+1,o,sl,m,tg,co,cs,hm,ht=>by
  obtain⟨ob,vs,C,c,h1,_,h3,h4,h5⟩:=co;refine codeAny_builtin jf ?_;rw[Around.under_plainId qT _];unfold Builtin.«proto.unchain»
  have ny:c≠y:=λz=>by
   obtain⟨o,_,_,q,_⟩:=h5.at
   rw[z,hy] at q;cases q
  have ns:c≠sl:=λz=>by
   have:=h5.uniq (z▸cs)
   omega
  obtain⟨sk,hk⟩:=kp _ _ h1;refine wpAny_bind (wpAny_field hk h3 h4 ?_);rw[if_neg (by simp)];rw[if_neg (by simp[ny])];rw[if_neg (by simp[ns])]
  cases tg with
  |false=>simp only[Bool.false_eq_true,if_false];refine wpAny_bind (wpAny_pure ?_);exact wpAny_pure ⟨plainId_quiet qT _,zY kp hy hR n c sl m true h5 cs (1:) (1:)⟩
  |true=>
   have hlt:n+1 < m:=by
    rcases Nat.lt_or_eq_of_le hm with h | h
    ·exact h
    ·cases ht h
   obtain⟨m',rfl⟩:∃m',m=m'+1:=⟨m - 1,by omega⟩;obtain⟨ob',vs',C',c',g1,_,g3,g4,g5⟩:=cs;simp only[if_true];obtain⟨sk2,hk2⟩:=kp _ _ g1;refine wpAny_bind (wpAny_field hk2 g3 g4 ?_);exact wpAny_pure ⟨plainId_quiet qT _,zY kp hy hR n c c' m' false h5 g5 (1:) (λ_=>rfl)⟩
theorem yI{α:Type}{x y:Addr}{h0:Heap}{n:Nat}{oy:Obj}{vs:Array Value}{Q:α->Shared->Prop}(hh:A.handled=some (.ref x))(kp:Kp h0 s.heap)(hy:h0.get? y=none)(c:Chn h0 n x)
  (ho:s.heap.get? y=some oy) (hd:oy.data=.fields vs) (h2:2 < vs.size) (h:E (.ref y) { s with heap:=s.heap.update y (Obj.mapFields (·.setIfInBounds 2 (.ref x))) }):wpAny (model prog w) A (raiseNew (.ref y):Sem α) Q E s:=by
 unfold raiseNew;refine wpAny_bind (wpAny_handled ?_);rw[hh];dsimp only
 have ne:x≠y:=λz=>by
  obtain⟨o,_,_,q,_⟩:=c.at
  rw[z,hy] at q;cases q
 rw[if_pos (show(Value.ref x != Value.ref y)=true by simp[ne])];refine wpAny_bind (wpAny_holding (wpAny_runValue ?_));refine zY kp hy ?_ n x x n false c c (Nat.le_refl _) (λ_=>rfl);dsimp only;refine wpAny_bind ?_;unfold updateField;refine wpAny_bind (wpAny_load ho ?_);rw[hd];dsimp only;rw[if_pos h2];exact wpAny_update ho (wpAny_throw h)
end
section
variable{prog:Program}{w:World}{A:Around}{E:PQ}{s:Shared}{env:Env}
variable{nm q:Str}{C N:Addr}{bs bm bmB:List Value}{hdct:Bool}{sn:List Str}{sub:List Value}{ab:Bool}{col:Option Bool}{dd:Option Addr}{k0 k1 k2 k3 k5:Option Value}{newId:String}
theorem YE{x:Str}{xh:Addr}{np cpos pos kp:Pos}{kk:Nat}{args:List Expr}{Q:Flow->Shared->Prop}(hbase:bm.contains (.type "BaseException")=true)(hh:A.handled=some (.ref xh))
  (h:wpAny (model prog w) A (eval (.Call (.Name x np) args [] cpos) env) (λv s₁=>∃e v0 od sl h0 n,v=.ref e/\s₁.heap.get? C=some (excClassObj nm q C N bs bm hdct sn sub ab col dd k0 k1 k2 k3 k5 newId)/\
   s₁.heap.get? e=some ⟨.ref C,od,.fields #[v0,.none,.none,.none,.bool false,.none],sl⟩/\Kp h0 s₁.heap/\h0.get? e=none/\Chn h0 n xh/\
   ∀h',Heap.SameBut e s₁.heap h'->h'.get? e=some ⟨.ref C,od,.fields #[v0,.none,.ref xh,.none,.bool true,.none],sl⟩->E (.ref e) { s₁ with heap:=h' }) E s) :
  wpAny (model prog w) A (exec (.Raise (some (.Call (.Name x np) args [] cpos)) (some (.Constant .none kk kp)) pos) env) Q E s:=by
 rw[arm_exec_Raise];have hcB:(Value.ref C::bm).contains (.type "BaseException")=true:=by rw[List.contains_cons,hbase,Bool.or_true]
 simp only[evalOpt,Option.map];refine wpAny_bind (wpAny_standAt ?_);unfold raiseStmt;refine wpAny_bind (wpAny_bind (wpAny_mono h (λv s₁ h₁=>wpAny_bind (wpAny_standAt (wpAny_pure ?_))) λ_ _ x=>x));obtain⟨e,v0,od,sl,h0,n,rfl,hC,he,kp,hy,hc,hE⟩:=h₁;obtain⟨hp,g,d,tk,os⟩:=s₁
 repeat (first | with_reducible refine wpAny_loadPart_at he ?_ | with_reducible refine wpAny_loadPart_at hC ?_ | (with_reducible refine wpAny_isSubtype_exc hC ?_;rw[hcB]) | wp_step)
 have ne:e≠C:=λz=>by rw[z,hC] at he;cases he
 have hC2:((hp.update e (Obj.mapFields λx=>x.setIfInBounds 3 Value.none)).update e (Obj.mapFields λx=>x.setIfInBounds 4 (Value.bool true))).get? C=some (excClassObj nm q C N bs bm hdct sn sub ab col dd k0 k1 k2 k3 k5 newId):=by rw[Heap.get?_update_other _ _ ne,Heap.get?_update_other _ _ ne];exact hC
 have he1:=Heap.get?_update_self (Obj.mapFields λx=>x.setIfInBounds 3 Value.none) he rfl
 have he2:((hp.update e (Obj.mapFields λx=>x.setIfInBounds 3 Value.none)).update e (Obj.mapFields λx=>x.setIfInBounds 4 (Value.bool true))).get? e=some ⟨.ref C,od,.fields #[v0,.none,.none,.none,.bool true,.none],sl⟩:=
  Heap.get?_update_self (Obj.mapFields λx=>x.setIfInBounds 4 (Value.bool true)) he1 rfl
 have sb:Heap.SameBut e hp ((hp.update e (Obj.mapFields λx=>x.setIfInBounds 3 Value.none)).update e (Obj.mapFields λx=>x.setIfInBounds 4 (Value.bool true))):=(Heap.SameBut.update ..).trans (Heap.SameBut.update ..);generalize (hp.update e (Obj.mapFields λx=>x.setIfInBounds 3 Value.none)).update e (Obj.mapFields λx=>x.setIfInBounds 4 (Value.bool true))=hq at hC2 he2 sb ⊢
 repeat (first | with_reducible refine wpAny_loadPart_at he2 ?_ | with_reducible refine wpAny_loadPart_at hC2 ?_ | (with_reducible refine wpAny_isSubtype_exc hC2 ?_;rw[hcB]) | wp_step)
 refine yI hh (h0:=h0) (λb ob z=>?_) hy hc he2 rfl (by show 2 < 6;decide) ?_
 ·obtain⟨sk,hk⟩:=kp b ob z;exact⟨sk,(sb.2 b (λz'=>by rw[z',hy] at z;cases z)).trans hk⟩
 ·exact hE _ (sb.trans (Heap.SameBut.update ..)) (Heap.get?_update_self (Obj.mapFields (·.setIfInBounds 2 (.ref xh))) he2 rfl)
end
section
variable{X:Cx}{pins:PP}{σ:St}{H:Hp}{s:Shared}{h':Heap}
theorem Inv.kpt{g':Array GenState}{t':Nat}{d':Drawn}{dd:Addr}{φ:Heap->Prop}(I:Inv X pins σ H s)(k1:∀b o,b∉frs X.stack->s.heap.get? b=some o->h'.get? b=some o)(k2:Kp s.heap h')(hdd:s.heap.get? dd=none)
  (new:qH X.prog X.w (upd H dd (.ext φ)) h' dd (.ext φ)) (hg:AllBare g'):Inv X pins σ (upd H dd (.ext φ)) { s with heap:=h',gens:=g',drawn:=d',toks:=t' }:=by
 have nd:∀{b:Addr} {o:Obj},s.heap.get? b=some o->b≠dd:=λ{b o} e z=>by rw[z,hdd] at e;cases e
 have hn:H dd=none:=I.newH hdd;have nt:∀{b:Addr} {u:HO},H b=some u->b≠dd:=λ{b u} e z=>by rw[z,hn] at e;cases e
 refine I.call (ch:=[]) ⟨λb o e n hf _=>k1 b o hf e,λb o e n hf _=>k2 b o e,λb o e n _=>by rw[qb (nd e)];exact n,λb o e _=>?_,λb xs e=>by rw[qb (nt e)];exact e,λb o u e=>by rw[qb (nt e)];exact e,λb ps e=>⟨#[],by rw[Array.append_empty,qb (nt e)];exact e⟩⟩ (λa o e=>?_) hg (λb z=>absurd z (by simp))
 ·obtain⟨sl,z⟩:=k2 b o e;exact⟨_,z⟩
 ·by_cases ha:a=dd
  ·subst ha;rw[qc] at e;cases e;exact new
  ·rw[qb ha] at e;have trk:∀{b:Addr} {u:HO},H b=some u->b∉frs X.stack:=λ{b u} e z=>by rw[I.stkFree b z] at e;cases e
   exact(I.hok a o e).stay (λb u hb q=>k1 b u (hb.elim (λz=>z▸trk e) λz=>trk z) q) (λb q=>by rw[qb (nt q)];exact q) (λb xs q=>by rw[qb (nt q)];exact q)
end
end L2
namespace L2
open PySem PySem.Spec PyProof.Rows PySem.W
structure RoomH(k:Nat)(A:Around):Prop where
 dp:A.depth+3 * k+5 < recursionLimit
 un:A.units+16 * k+200 < cLine
theorem Room.mk_{k:Nat}{A:Around}(r:Room k A)(e:Value):RoomH k (A.mark (some e)):=⟨r.dp,r.un⟩
theorem RoomH.deeper{k:Nat}{A:Around}(r:RoomH (k+1) A)(env:Env):RoomH k (A.deeper env):=
 ⟨by have:=r.dp;show A.depth+1+3 * k+5 < _;lia,by have:=r.un;show A.units+3+16 * k+200 < _;lia⟩
theorem RoomH.make{k:Nat}{A:Around}(r:RoomH (k+1) A)(C:Addr)(us:List Value)(kw:List (Str×Value)):RoomH k (A.under (.builtin "type.__call__" ⟨.ref C::us,kw⟩)):=
 ⟨by have:=r.dp;rw[yT];lia,by have:=r.un;rw[yU];lia⟩
theorem RoomH.depth{k:Nat}{A:Around}(r:RoomH k A):A.depth < recursionLimit:=by have:=r.dp;lia
structure FnOkH(P:Program)(w:World)(K:Frag)(mg:PR)(base:Heap)(CX:CXT)(k:Nat)(f:Addr)(fd:FuncData)(ps:List Str)(sp:Sp):Prop where
 len:∀vs H Q E,sp vs H Q E->vs.length=ps.length
 run:∀(A:Around) (outer:List Env) (s:Shared) (H:Hp) (args:Args) (us:List Value) (vs:List V) (Q:VK) (E:XK),RoomH k A->Env0 P w K mg base A outer s H->BindsTo s fd args (ps.zip us)->qy vs us->sp vs H Q E->
  codeAny (model P w) A (.call (.ref f) args) (CR CX outer P w H s Q E) s
noncomputable def jP(CX:CXT)(P:Program)(w:World)(K:Frag)(mg:PR)(base:Heap)(N:List Str)(qual:Str)(scope:Scope)(f:Addr)(cd:Value)(A:Around)(outer:List Env)(s:Shared)(H:Hp)(E:XK):Cx:=
 { yV CX P w K mg base N qual scope f cd A outer s H E with calm:=false }
theorem QK{CX:CXT}{P:Program}{w:World}{K:Frag}{mg:PR}{base:Heap}{N ps:List Str}{qual:Str}{scope:Scope}{f:Addr}{cd:Value}{A:Around}{outer:List Env}{s s1:Shared}{H:Hp}{E:XK}{us:List Value}{vs:List V}
  (S:FnScope N ps scope) (e0:Env0 P w K mg base A outer s H) (hl:vs.length=ps.length) (r:qy vs us)
  (x:InCallC s s.heap.objs.size (bindL (envOfC qual scope s.heap.objs.size f cd).kindOf (ps.zip us) λ_=>none) (cellsFrom (s.heap.objs.size+1) scope.names []) (bindC (envOfC qual scope s.heap.objs.size f cd).kindOf (ps.zip us) λ_=>none) s1) :
  Inv (jP CX P w K mg base N qual scope f cd A outer s H E) [] (qE N vs) H s1:=by
 have hpl:ps.length<=N.length:=by have:=congrArg List.length S.pre;rw[List.length_take] at this;lia
 obtain⟨h1,tk,rfl,hk⟩:=x.done;have noA:∀b:Addr,b∉(jP CX P w K mg base N qual scope f cd A outer s H E).ex:=λb z=>absurd (show b∈([]:List Addr) from z) (by simp)
 refine⟨⟨e0.mod,S.kind,rfl,rfl,Nat.le_refl _,λy z c h1 h2=>?_,λy hy=>?_,λy c _ h=>?_,λz=>(by cases z),Around.frames_deeper e0.frames,.inr ⟨rfl,rfl⟩,λb z=>absurd z (noA b),e0.bs,e0.bsz,λb _ _=>noA b,λb z=>absurd z (noA b),e0.funs,e0.frf⟩,
  rfl,e0.bare,Un.kept hk,⟨_,x.toInCall.ns,λi y v h1 h2 h3=>?_⟩,λy c h=>⟨_,x.cell y c h⟩,e0.hok.fresh (Nat.le_refl _),λy c h=>?_,λp hp=>absurd (show p∈([]:PP) from hp) (by simp),e0.hok.kept hk,?_⟩
 ·exact name_of_addr x.apart (PySem.mem_of_lookup h1) (PySem.mem_of_lookup h2)
 ·have hy:scope.names.lookup y=some .cell\/scope.names.lookup y=some .free:=hy;rcases hy with hy | hy
  ·exact jU hy
  ·exact absurd rfl (S.nofree _ (PySem.mem_of_lookup hy))
 ·exact Nat.le_of_lt (x.above y c (PySem.mem_of_lookup h))
 ·have hi:i < vs.length:=by
   unfold qE at h2
   by_cases hi:i < vs.length
   ·exact hi
   ·rw[List.getElem?_append_right (by simpa using hi)] at h2;rw[List.getElem?_replicate] at h2
    split at h2<;>cases h2
  have ha:vs[i]?=some v:=by
   unfold qE at h2;rw[List.getElem?_append_left (by simpa using hi),List.getElem?_map] at h2
   cases e:vs[i]? with
   |none=>rw[e] at h2;cases h2
   |some a=>rw[e] at h2;cases h2;rfl
  obtain⟨u,hu,rv⟩:=r.get ha
  have hp:ps[i]?=some y:=by rw[<-S.pre,List.getElem?_take_of_lt (by lia)];exact h1
  have ndP:ps.Nodup:=by rw[<-S.pre];exact S.nd.sublist (List.take_sublist _ _)
  refine⟨u,rv,?_⟩;rcases S.par y (List.mem_of_getElem? hp) with k | k
  ·exact .inl ⟨k,yd ndP hp hu k⟩
  ·obtain⟨c,e⟩:=jU (n:=s.heap.objs.size+1) k;refine .inr ⟨.inl k,c,e,?_⟩;have q:=x.cell y c e;rw[ye ndP hp hu (by show scope.names.lookup y≠_;rw[k];decide)] at q;exact q
 ·exact e0.hok.fresh (Nat.le_of_lt (x.above y c (PySem.mem_of_lookup h)))
 ·unfold qE;show _=N.length;rw[List.length_append,List.length_map,List.length_replicate]
  lia
theorem qeO{CX:CXT}{P:Program}{w:World}{K:Frag}{mg:PR}{base:Heap}{k:Nat}{f:Addr}{name qual:Str}{params:Arguments}{body:List Stmt}{scope:Scope}{dV kV doc pm cdv ct oc:Value}{an od:Option Addr}
  {osl:Array (Option Value)} {N ps:List Str} {sp:Sp} (lk:K.lookup f=some ⟨oc,od,.func (PySem.W.fnOf name qual params body scope dV kV doc pm an cdv ct),osl⟩) (hcd:PySem.W.codeIn K cdv qual=true) (S:FnScope N ps scope)
  (len:∀vs H Q E,sp vs H Q E->vs.length=ps.length)
  (hbody:∀(A:Around) (outer:List Env) (s:Shared) (H:Hp) (vs:List V) (Q:VK) (E:XK),RoomH k (A.deeper (envOfC qual scope s.heap.objs.size f cdv))->sp vs H Q E->
   ∃t,PSs (jP CX P w K mg base N qual scope f cdv A outer s H E) body t/\t { nx:=λ_ H'=>Q .non H',rt:=Q } (qE N vs) H) :
  FnOkH P w K mg base CX (k+1) f (PySem.W.fnOf name qual params body scope dV kV doc pm an cdv ct) ps sp:=by
 refine⟨len,λA outer s H args us vs Q E hr e0 hb r hsp=>?_⟩;have hl:=len _ _ _ _ hsp;have KX:K.In s.heap:=e0.mod.kin.keeps λb o e=>(e0.bs b o e).1;have lim:s.heap.NoLimit:=e0.mod.nolimit.keeps λb o e=>(e0.bs b o e).1
 have hkind:∀y∈ps.zip us,scope.names.lookup y.1=some .local\/(scope.names.lookup y.1=some .cell/\((cellsFrom (s.heap.objs.size+1) scope.names []).lookup y.1).isSome=true):=λ⟨n,v⟩ hy=>by
  rcases S.par n (List.of_mem_zip hy).1 with q | q
  ·exact .inl q
  ·exact .inr ⟨q,PySem.W.cellsFrom_some _ _ _ (.inl q)⟩
 refine codeAny_call_function hr.depth (KX _ _ lk) rfl S.co S.gen rfl (PySem.W.codeRec_of KX hcd) (hb _ _ _ _ ?_);refine wpAny_newFunctionEnv_cells S.kind hkind λenv he s1 x=>?_;subst he;refine⟨lim.keeps x.toInCall.keep,codeAny_func ?_⟩;obtain⟨t,ht,hq⟩:=hbody A outer s H vs Q E (hr.deeper _) hsp;have I:Inv (jP CX P w K mg base N qual scope f cdv A outer s H E) [] (qE N vs) H s1:=QK S e0 hl r x;refine wpAny_mono (ht [] s1 (qE N vs) H _ I hq) (λfl s' hs=>?_) λe s' hs=>hs
 have fin:∀{σ':St} {H':Hp} {v:V} {u:Value},Inv (jP CX P w K mg base N qual scope f cdv A outer s H E) [] σ' H' s'->qC v u->Q v H'->CE outer P w H s Q u s':=
  λ{σ' H' v u} J rv q=>⟨v,H',J.os,J.bare,J.base,J.hok,rv,q⟩
 cases fl with
 |ret u=>obtain⟨v,σ',H',J,rv,q⟩:=hs;exact fin J rv q
 |next=>obtain⟨σ',H',J,q⟩:=hs;exact fin (v:=V.non) (u:=Value.none) J rfl q
 |brk=>obtain⟨_,_,_,q⟩:=hs;exact False.elim q
 |cont=>obtain⟨_,_,_,q⟩:=hs;exact False.elim q
section
variable{P:Program}{w:World}{K:Frag}{mg:PR}{base:Heap}
theorem Fun.okH{x qual:Str}{st:Stmt}{f:Addr}{fd:FuncData}{N ps:List Str}{k:Nat}{sp:Sp}(F:Fun K x qual st f fd)(S:FnScope N ps (qe st))(len:∀vs H Q E,sp vs H Q E->vs.length=ps.length)
  (hbody:∀(cdv:Value) (A:Around) (outer:List Env) (s:Shared) (H:Hp) (vs:List V) (Q:VK) (E:XK),RoomH k (A.deeper (envOfC qual (qe st) s.heap.objs.size f cdv))->sp vs H Q E->
   ∃t,PSs (jP CX0 P w K mg base N qual (qe st) f cdv A outer s H E).nox (qk st) t/\t { nx:=λ_ H'=>Q .non H',rt:=Q } (qE N vs) H):FnOkH P w K mg base CX0 (k+1) f fd ps sp:=by
 obtain⟨oc,od,kV,doc,pm,an,cdv,ct,osl,rfl,lk,hcd⟩:=F.ex;refine qeO lk hcd S len λA outer s H vs Q E hr hsp=>?_;obtain⟨t,h,q⟩:=hbody cdv A outer s H vs Q E hr hsp;exact⟨t,h.nox,q⟩
end
end L2
namespace L2
open PySem PySem.Spec PyProof.Rows PySem.W
noncomputable def qcN(C:Addr)(nf:Str):Sp:=λvs H Q _=>∃x u,vs=[.ref x,u]/\H x=some (zM x C none)/\Zv u/\∀dd,H dd=none->dd≠x->Q .non (upd (upd H dd (xD dd [(nf,u)])) x (zM x C (some dd)))
section
variable{X:Cx}{pins:PP}{σ:St}{H:Hp}{s:Shared}{x T C:Addr}{od:Option Addr}{h:Heap}{c n:Str}{Dc Cn fI:Addr}{E:XK}{D:Ends}{rest:List ExceptHandler}
theorem Jf{i jj k:Nat}{v nf:Str}{cp hpos np cpos rpos kp np2:Pos}{u0:V}{fd:FuncData}(Hd:Held X pins σ H s x T C od h)(hex:X.ex=[])(hg:Gl X c)(hm:X.mg c=some (.ref Dc))(hq:exmOne X.K (.ref C) (.ref Dc)=some true)
  (own:PassesOwnAt (model X.prog X.w) (X.A.mark (some (.ref x))) X.A X.env X.xe) (rs:zN X E) (hgn:Gl X n) (hmn:X.mg n=some (.ref Cn)) (cI:XcC X.K Cn fI)
  (F:FnOkH X.prog X.w X.K X.mg X.base CX0 k fI fd ["self",nf] (qcN Cn nf)) (hb:qx X.K fd ["self",nf] []) (hr:Room (k+1) X.A)
  (hN:X.N[i]?=some v) (hv:Vis X.env.scope v) (e:σ[i]?=some (some u0)) (hf:Zv u0) (q:∀dd,H dd=none->E (.ref Cn) (some dd) (upd H dd (xD dd [(nf,u0)])))
  (hdb:(c == ("__debug__" : Str))=false) (hdn:(n == ("__debug__" : Str))=false) (hdv:(v == ("__debug__" : Str))=false) (hcv:(v == ("__classdict__" : Str))=false) :
  wpAny (model X.prog X.w) X.A (handleBy (.ref x) X.env (.ExceptHandler (some (.Name c cp)) none [.Raise (some (.Call (.Name n np) [.Name v np2] [] cpos)) (some (.Constant .none jj kp)) rpos] hpos::rest)) (SP X pins D) X.xe { s with heap:=h }:=by
 have I:=Hd.now hex;refine wpAny_handleBy_cons (codeAny_handlers_test ?_) (by intro z;cases z);refine qI (X:=X.mark (.ref x)) I.mark hg hm ?_ hdb;refine Looks.here (exm_one I.kIn Hd.ty hq) ?_;refine codeAny_handlers_suite ?_;obtain⟨oe,vs,T',nx,e1,e2,e3,e4,b⟩:=Hd.nx;refine jY (s:={ s with heap:=h }) nx λh3 nx3=>?_;have Hd3:Held X pins σ H s x T C od h3:=⟨Hd.inv,Hd.mine,Hd.fld,oe,vs,T',nx3,e1,e2,e3,e4,b⟩;have I3:=Hd3.now hex;obtain⟨kc,ch⟩:=nx3.chn e3 e4 b;refine wpAny_passesOwnAt own (wpAny_execs_cons ?_);obtain⟨bm,N,nm,qn,bs,hd,sn,sub,ab,col,dd,k0,k1,k2,k3,k5,mN,hC,hNs,hni,Tl⟩:=Je I.mod.kin cI.ok;have FB:=PySem.F.excBase_ValueError
 obtain⟨oI,hoI,hcI⟩:∃oI,X.K.lookup fI=some oI/\oI.cls=.type "function":=by
  have:=cI.fn
  unfold qcI at this
  split at this
  ·rename_i q;exact⟨_,q,by rw[beq_iff_eq.mp this]⟩
  ·cases this
 have no:∀b:Addr,b∉X.ex:=λb z=>by rw[hex] at z;cases z
 refine YE (C:=Cn) (nm:=nm) (q:=qn) (N:=N) (bs:=bs) (bm:=bm) (hdct:=hd) (sn:=sn) (sub:=sub) (ab:=ab) (col:=col) (dd:=dd) (k0:=k0) (k1:=k1) (k2:=k2) (k3:=k3) (k5:=k5) (newId:="ValueError.__new__") (Tl.hasType FB.hasBase) rfl ?_;refine wpAny_Call_Name_kw (qI (X:=X.mark (.ref x)) I3.mark hgn hmn ?_ hdn);refine PySem.W.callWith_K (h₀:=X.base) I.ok.mod.kin cI.kp (Calls.spliced_cons (qeN (X:=X.mark (.ref x)) I3.mark hN hv e (λu r=>Calls.spliced_nil ?_) hdv hcv)) rfl rfl;refine⟨I3.kIn,?_⟩;refine yY FB (Tl.keeps I3.bk) (I3.bk _ _ hC) (hNs.keeps I3.bk) hni (I3.bk _ _ (I.mod.kin _ _ hoI)) hcI (λh' y m=>?_) (by show 1<=sizeLine;decide+kernel);have Ik:=I3.kept (t':=s.toks) m.keeps;have hn1:H y=none:=I3.newH m.new;have h0:=I3.new0 (no y) m.new
 have hpin:∀p∈X.pn++pins,p.1≠y:=λp hp z=>by obtain⟨e',_⟩:=I3.pin p hp;rw[z] at e';have m2:h3.get? y=none:=m.new;rw[m2] at e';cases e'
 obtain⟨tt,ht,_⟩:=m.there;have I2:Inv X pins σ (upd H y (zM y Cn none)) _:=Ik.trk (x:=y) (yo ht) ⟨_,_,ht,rfl⟩ hn1 h0 hpin
 have ny:∀b∈frs X.stack,b≠y:=λb hb z=>by
  have:=I2.stkFree b hb
  rw[z,qc] at this;cases this
 have E1:=(I2.mark (e:=.ref x)).env0
 have E2:Env0 X.prog X.w X.K X.mg X.base (X.mark (.ref x)).A X.stack _ (upd (λ_=>none) y (zM y Cn none)):=⟨E1.frames,E1.mod,λb o z=>⟨(E1.bs b o z).1,(by
   have:=(E1.bs b o z).2
   by_cases hb:b=y
   ·rw[hb,qc] at this;cases this
   ·rw[qb hb])⟩,E1.bsz,E1.funs,λb hb=>(by rw[qb (ny b hb)]),λa o z=>(by
   by_cases ha:a=y
   ·subst ha;rw[qc] at z;cases z;exact yo ht
   ·rw[qb ha] at z;cases z),E1.bare⟩
 have hq':qcN Cn nf [V.ref y,u0] (upd (λ_=>none) y (zM y Cn none)) (λv H2=>v=.non/\∃dd,dd≠y/\H2=upd (upd (upd (λ_=>none) y (zM y Cn none)) dd (xD dd [(nf,u0)])) y (zM y Cn (some dd))) E0:=⟨y,u0,rfl,qc,hf,λdd _ nd=>⟨rfl,dd,nd,rfl⟩⟩;have r2:qy [V.ref y,u0] [Value.ref y,u]:=.cons rfl %[r|0];have hbn:=hb ⟨h',s.gens,s.drawn,s.toks,s.os⟩ [Value.ref y,u] I2.kIn rfl;rw[List.append_nil] at hbn;refine wpAny_call (codeAny_mono (F.run _ X.stack _ _ ⟨[Value.ref y,u],[]⟩ [Value.ref y,u] _ _ E0 ((hr.mk_ (.ref x)).make Cn [u] []) (E2.make Cn [u] []) hbn r2 hq') λres s' hres=>?_)
 cases res with
 |error e=>exact False.elim hres
 |ok fl=>
  cases fl with
  |next=>exact False.elim hres
  |brk=>exact False.elim hres
  |cont=>exact False.elim hres
  | ret u'=>
   obtain⟨v',H',os,bare,un,hok,rv,ev,dc,ndy,rfl⟩:=hres;subst ev
   have hdd0:h'.get? dc=none:=by
    cases z:h'.get? dc with
    |none=>rfl
    |some o=>
     have:=un.free dc o z (by rw[qb ndy]) (by simp)
     rw[qb ndy,qc] at this;cases this
   have hdd:h3.get? dc=none:=by
    cases z:h3.get? dc with
    |none=>rfl
    |some o=>rw[m.keeps _ _ z] at hdd0;cases hdd0
   have old:∀{b:Addr} {o:Obj},h3.get? b=some o->b≠y:=λ{b o} z w=>by have m2:h3.get? y=none:=m.new;rw[w,m2] at z;cases z
   obtain⟨⟨v0,ho⟩,_⟩:=hok y _ qc;obtain⟨f1,⟨ud,f2⟩,f3⟩:=hok dc _ (by rw[qb ndy,qc]);have p1:∀b o,b∉frs X.stack->h3.get? b=some o->s'.heap.get? b=some o:=λb o hb z=>un.keep b o (m.keeps _ _ z) (by rw[qb (old z)]) hb (by simp);have p2:Kp h3 s'.heap:=λb o z=>un.any (m.keeps _ _ z) (by rw[qb (old z)]) (by simp);obtain⟨sh,sg,sd,stk,sos⟩:=s';obtain rfl:sos=s.os:=os;have I4:=I3.kpt (dd:=dc) (t':=stk) (d':=sd) p1 p2 hdd ⟨f1,⟨ud,f2⟩,f3⟩ bare;refine⟨rv,y,v0,some dc,#[],h3,kc,rfl,I4.bk _ _ hC,ho,p2,m.new,ch,λh'' sb hy=>?_⟩;have kd:∀u,sh.get? dc=some u->h''.get? dc=some u:=λu z=>(sb.2 dc ndy).trans z;have p1':∀b o,b∉frs X.stack->h3.get? b=some o->h''.get? b=some o:=λb o hb z=>(sb.2 b (old z)).trans (p1 b o hb z)
   have p2':Kp h3 h'':=λb o z=>by obtain⟨sl,q⟩:=p2 b o z;exact⟨sl,(sb.2 b (old z)).trans q⟩
   have I5:=I3.kpt (dd:=dc) (t':=stk) (d':=sd) p1' p2' hdd ⟨f3 _ _ f1 kd,⟨ud,kd _ f2⟩,f3⟩ bare
   exact rs pins σ _ _ y Cn (some dc) I5 ⟨by rw[qb (Ne.symm ndy)];exact hn1,h0,(λT z=>by cases z),λp hp=>⟨hpin p hp,by simp⟩⟩
    ⟨_,_,hy,rfl,rfl,rfl,rfl,kc+1,_,_,Cn,x,hy,rfl,rfl,rfl,ch.keep λb o vs C a1 a2 a3=>(by obtain⟨sl,z⟩:=p2' b o a1;exact⟨_,vs,z,rfl,a3,rfl⟩)⟩ (q dc (I3.newH hdd))
end
end L2
namespace L2
open PySem PySem.Spec PyProof.Rows PySem.W
section
variable{X:Cx}
theorem qaG{e:Expr}{te:TE}(h:PE X.nox e te):PEx X e (λ_=>te):=λEX E1 pins s σ H Q I hx q=>wpAny_mono (h pins s σ H Q (I.wish _) q) (λ_ _ z=>by obtain⟨v,H',I',r,q⟩:=z;exact⟨v,H',I'.unwish,r,q⟩) λ_ _ z=>False.elim z
noncomputable def PAx(X:Cx)(es:List Expr)(t:XK->TA):Prop:=∀(EX:XK) (E1:PQ) (pos:Pos) (pins:PP) (s:Shared) (σ:St) (H:Hp) (Q:List V->Hp->Prop),Inv X pins σ H s->
 (∀(H1:Hp) (s1:Shared) (e:Value) (s':Shared),Inv X pins σ H1 s1->CX1 X.prog X.w X.stack H1 s1 EX e s'->E1 e s')->t EX σ H Q->wpAny (model X.prog X.w) X.A (spliced (backTo pos (starEach es X.env))) (AP X pins σ Q) E1 s
theorem qcO:PAx X [] (λ_=>qce):=λ_ _ _ _ _ _ H Q I _ h=>Calls.spliced_nil ⟨[],H,I,.nil,h⟩
theorem Qa{e:Expr}{es:List Expr}{te:XK->TE}{t:XK->TA}(ha:PEx X e te)(hr:PAx X es t)(hs:starEach (e::es) X.env=(false,eval e X.env)::starEach es X.env):PAx X (e::es) (λEX=>Q8 (te EX) (t EX)):=by intro EX E1 pos pins s σ H Q I hx h;rw[hs];show wpAny _ _ (spliced ((false,eval e X.env)::backTo pos (starEach es X.env))) _ _ s;refine Calls.spliced_cons (thn (ha EX E1 pins s σ H _ I hx h) λu s1 hq1=>?_);obtain⟨x,H1,I1,r1,q1⟩:=hq1;refine thn (hr EX E1 pos pins s1 σ H1 _ I1 hx q1) λus s2 hz34=>?_;obtain⟨xs,H2,I2,r2,q2⟩:=hz34;exact⟨x::xs,H2,I2,.cons r1 r2,q2⟩
theorem JX{k:Nat}{f:Addr}{fd:FuncData}{ps:List Str}{sp:Sp}{dvs:List V}{ds:List Value}{x:Str}{p pos:Pos}{e:Expr}{es:List Expr}{t:XK->TA}
  (F:FnOk X.prog X.w X.K X.mg X.base (CX1 X.prog X.w) k f fd ps sp) (hr:Room k X.A) (hg:Gl X x) (hm:X.mg x=some (.ref f)) (hk:PySem.W.keepIn X.K (.ref f)=true) (hb:qx X.K fd ps ds) (hd:qy dvs ds)
  (ha:PAx X (e::es) t) (hdb:(x == ("__debug__" : Str))=false) (he:starEach (e::es) X.env=(false,eval e X.env)::starEach es X.env) (hpl:(backTo pos (starEach es X.env)).any (·.1)=false) :
  PEx X (.Call (.Name x p) (e::es) [] pos) (λEX=>qav sp dvs EX (t EX)):=by
 intro EX E1 pins s σ H Q I hx h;refine wpAny_Call_Name_kw (qI I hg hm ?_ hdb);refine PySem.W.callWith_K (h₀:=X.base) I.ok.mod.kin hk (thn (ha EX E1 pos pins s σ H _ I hx h) λus s1 z=>?_) he hpl;obtain⟨vs,H1,I1,r,q⟩:=z;refine⟨I1.kIn,?_⟩;have r2:qy (vs++dvs) (us++ds):=r.append hd;have hl:(us++ds).length=ps.length:=by rw[<-r2.length];exact F.len _ _ _ _ q
 refine wpAny_call (codeAny_mono (F.run X.A X.stack s1 H1 ⟨us,[]⟩ (us++ds) (vs++dvs) Q EX hr I1.env0 (hb s1 us I1.kIn hl) r2 q) λres s' hq=>?_)
 cases res with
 |error e=>exact hx H1 s1 e s' I1 hq
 |ok fl=>
  cases fl with
  |ret u=>exact I1.after hq
  |next=>exact False.elim hq
  |brk=>exact False.elim hq
  |cont=>exact False.elim hq
theorem qeP{es:List Expr}{t:TA}(h:PA X.nox es t):PAx X es (λ_=>t):=λEX E1 pos pins s σ H Q I hx q=>wpAny_mono (h pos pins s σ H Q (I.wish _) q) (λ_ _ z=>by obtain⟨v,H',I',r,q⟩:=z;exact⟨v,H',I'.unwish,r,q⟩) λ_ _ z=>False.elim z
end
theorem PAx.imp{X:Cx}{es:List Expr}{t t':XK->TA}(h:PAx X es t')(i:∀EX σ H Q,t EX σ H Q->t' EX σ H Q):PAx X es t:=λEX E1 pos pins s σ H Q I hx q=>h EX E1 pos pins s σ H Q I hx (i EX σ H Q q)
end L2
namespace L2
open PySem PySem.Spec PyProof.Rows PySem.W
section
variable{X:Cx}
noncomputable def qeQ(X:Cx)(c n:Str)(i k:Nat)(nf:Str)(E:XK)(t:XK->TE):TS:=λD σ H=>∃u0,σ[i]?=some (some u0)/\Zv u0/\
 t (λcv od H2=>∃C b Dc,cv=.ref C/\X.mg c=some (.ref Dc)/\exmOne X.K (.ref C) (.ref Dc)=some b/\(b=true->∃Cn fI fd,X.mg n=some (.ref Cn)/\XcC X.K Cn fI/\FnOkH X.prog X.w X.K X.mg X.base CX0 k fI fd ["self",nf] (qcN Cn nf)/\qx X.K fd ["self",nf] []/\
  ∀dd,H2 dd=none->E (.ref Cn) (some dd) (upd H2 dd (xD dd [(nf,u0)])))/\(b=false->E (.ref C) od H2)) σ H D.rt
theorem qaH{e:Expr}{t:XK->TE}{c n v nf:Str}{E:XK}{i jj k:Nat}{cp hpos np cpos rpos kp np2 rp pos:Pos}(he:PEx X e t)(hst:X.stack=X.env::X.outer/\X.env.frame=some X.env.locals)(hex:X.ex=[])(hr:Room (k+1) X.A)
  (hg:Gl X c) (own:∀x:Addr,PassesOwnAt (model X.prog X.w) (X.A.mark (some (.ref x))) X.A X.env X.xe) (rs:zN X E) (pt:ZC X E) (hgn:Gl X n)
  (hN:X.N[i]?=some v) (hv:Vis X.env.scope v)
  (hdb:(c == ("__debug__" : Str))=false) (hdn:(n == ("__debug__" : Str))=false) (hdv:(v == ("__debug__" : Str))=false) (hcv:(v == ("__classdict__" : Str))=false) :
  PS X (.Try [.Return (some e) rp] [.ExceptHandler (some (.Name c cp)) none [.Raise (some (.Call (.Name n np) [.Name v np2] [] cpos)) (some (.Constant .none jj kp)) rpos] hpos] [] [] pos) (qeQ X c n i k nf E t):=by
 intro pins s σ H D I h;obtain⟨u0,hz,hf,h⟩:=h;refine wpAny_Try_except (wpAny_execs_cons (wpAny_Return_some (thn (he _ _ pins s σ H _ I (λH1 s1 ev s' I1 cx=>?_) h) λw s1 q=>?_)))
 ·exact qic (D:=D) hst hex I1 cx λx T C od H2 hh q Hd=>by
   obtain⟨C',b,Dc,ec,hm,hq,q1,q2⟩:=q;cases ec
   cases b with
   |true=>obtain⟨Cn,fI,fd,hmn,xc,F,hb,q⟩:=q1 rfl;exact Jf Hd hex hg hm hq (own x) rs hgn hmn xc F hb hr hN hv hz hf q hdb hdn hdv hcv
   |false=>exact yk Hd hex hg hm hq (pt pins σ H2 s' x T C od hh _ Hd (q2 rfl)) hdb
 ·obtain⟨x,H1,I1,r1,q1⟩:=q;exact⟨x,σ,H1,I1,r1,q1⟩
end
end L2
namespace DE
open PySem L2
inductive D where
 | non | bl (b:Bool) | int (n:Int) | str (s:Str) | lst (l:List D) | tup (l:List D) | ins (c:Str) (ns:List Str) (l:List D) | exc (C:Addr) (ns:List Str) (l:List D) | dct (ks:List Str) (l:List D)
 deriving Inhabited
abbrev KC:=Str->Option Addr
def kvX(ks:List Str)(xs:List V):List (Key×V):=(ks.zip xs).map λp=>(Sum.inr p.1,p.2)
mutual
noncomputable def Rep(κ:KC)(G:Hp):D->V->Prop
 |.non,v=>v=.non
 |.bl b,v=>v=.bl b
 |.int n,v=>v=.int n
 |.str s,v=>v=.str s
 |.lst ds,v=>∃a xs,v=.ref a/\G a=some (.lst xs)/\qm κ G ds xs
 |.tup ds,v=>∃a xs,v=.ref a/\G a=some (.tup xs)/\qm κ G ds xs
 |.ins c ns ds,v=>∃p dx C xs,κ c=some C/\v=.ref p/\G p=some (.ins C dx (ns.zip xs))/\xs.length=ns.length/\qm κ G ds xs
 |.exc C ns ds,v=>∃p od xs,v=.ref p/\G p=some (qag p C od)/\((od=none/\ns=[])\/∃dd,od=some dd/\G dd=some (xD dd (ns.zip xs)))/\qm κ G ds xs
 |.dct ks ds,v=>∃p xs,v=.ref p/\G p=some (.dK (kvX ks xs))/\xs.length=ks.length/\qm κ G ds xs
noncomputable def qm(κ:KC)(G:Hp):List D->List V->Prop
 |[],xs=>xs=[]
 | d::ds,xs=>∃x r,xs=x::r/\Rep κ G d x/\qm κ G ds r
end
mutual
theorem Rep.same{κ:KC}{G G':Hp}(e:qj G G'):∀{d:D} {v:V},Rep κ G d v->Rep κ G' d v
 |.non,v,h=>by simp only[Rep] at h ⊢;exact h
 |.bl b,v,h=>by simp only[Rep] at h ⊢;exact h
 |.int i,v,h=>by simp only[Rep] at h ⊢;exact h
 |.str x,v,h=>by simp only[Rep] at h ⊢;exact h
 |.lst ds,v,h=>by simp only[Rep] at h ⊢;obtain⟨a,xs,rfl,h1,h2⟩:=h;exact⟨a,xs,rfl,e _ _ h1,qm.same e h2⟩
 |.tup ds,v,h=>by simp only[Rep] at h ⊢;obtain⟨a,xs,rfl,h1,h2⟩:=h;exact⟨a,xs,rfl,e _ _ h1,qm.same e h2⟩
 |.ins c ns ds,v,h=>by simp only[Rep] at h ⊢;obtain⟨p,dx,C,xs,hc,rfl,h1,hl,h2⟩:=h;exact⟨p,dx,C,xs,hc,rfl,e _ _ h1,hl,qm.same e h2⟩
 |.exc C ns ds,v,h=>by
  simp only[Rep] at h ⊢;obtain⟨p,od,xs,rfl,h1,h3,h2⟩:=h;refine⟨p,od,xs,rfl,e _ _ h1,?_,qm.same e h2⟩;rcases h3 with z | ⟨dd,z1,z2⟩
  ·exact .inl z
  ·exact .inr ⟨dd,z1,e _ _ z2⟩
 |.dct ks ds,v,h=>by simp only[Rep] at h ⊢;obtain⟨p,xs,rfl,h1,hl,h2⟩:=h;exact⟨p,xs,rfl,e _ _ h1,hl,qm.same e h2⟩
theorem qm.same{κ:KC}{G G':Hp}(e:qj G G'):∀{ds:List D} {vs:List V},qm κ G ds vs->qm κ G' ds vs
 |[],vs,h=>by simp only[qm] at h ⊢;exact h
 | d::ds,vs,h=>by simp only[qm] at h ⊢;obtain⟨x,r,rfl,h1,h2⟩:=h;exact⟨x,r,rfl,Rep.same e h1,qm.same e h2⟩
end
section
variable{κ:KC}{G G':Hp}
theorem qm.nil:qm κ G [] []:=by simp only[qm]
theorem qm.cons{d:D}{ds:List D}{v:V}{vs:List V}(h:Rep κ G d v)(t:qm κ G ds vs):qm κ G (d::ds) (v::vs):=by simp only[qm];exact⟨v,vs,rfl,h,t⟩
theorem qm.len:∀{ds:List D} {vs:List V},qm κ G ds vs->ds.length=vs.length
 |[],vs,h=>by simp only[qm] at h;subst h;rfl
 | d::ds,vs,h=>by simp only[qm] at h;obtain⟨x,r,rfl,h1,h2⟩:=h;simp[qm.len h2]
theorem qm.app:∀{ds es:List D} {vs us:List V},qm κ G ds vs->qm κ G es us->qm κ G (ds++es) (vs++us)
 | [],es,vs,us,h,h'=>by simp only[qm] at h;subst h;exact h'
 | d::ds,es,vs,us,h,h'=>by simp only[qm] at h;obtain⟨x,r,rfl,h1,h2⟩:=h;exact qm.cons h1 (qm.app h2 h')
theorem qm.snoc{ds:List D}{vs:List V}{d:D}{v:V}(h:qm κ G ds vs)(h':Rep κ G d v):qm κ G (ds++[d]) (vs++[v]):=h.app %[h'|0]
theorem qm.drop:∀(n:Nat) {ds:List D} {vs:List V},qm κ G ds vs->qm κ G (ds.drop n) (vs.drop n)
 |0,_,_,h=>h
 | n+1,[],vs,h=>by simp only[qm] at h;subst h;exact .nil
 | n+1,d::ds,vs,h=>by simp only[qm] at h;obtain⟨x,r,rfl,h1,h2⟩:=h;exact qm.drop n h2
theorem qm.take:∀(n:Nat) {ds:List D} {vs:List V},qm κ G ds vs->qm κ G (ds.take n) (vs.take n)
 |0,_,_,h=>by simpa using qm.nil
 | n+1,[],vs,h=>by simp only[qm] at h;subst h;exact .nil
 | n+1,d::ds,vs,h=>by simp only[qm] at h;obtain⟨x,r,rfl,h1,h2⟩:=h;exact qm.cons h1 (qm.take n h2)
theorem qm.atD:∀{ds:List D} {vs:List V} {i:Nat} {d:D},qm κ G ds vs->ds[i]?=some d->∃v,vs[i]?=some v/\Rep κ G d v
 |[],vs,i,d,h,e=>by simp at e
 | d::ds,vs,0,d',h,e=>by simp only[qm] at h;obtain⟨x,r,rfl,h1,h2⟩:=h;simp at e;subst e;exact⟨x,rfl,h1⟩
 | d::ds,vs,i+1,d',h,e=>by simp only[qm] at h;obtain⟨x,r,rfl,h1,h2⟩:=h;obtain⟨v',e1,e2⟩:=qm.atD (i:=i) h2 (by simpa using e);exact⟨v',by simpa using e1,e2⟩
end
inductive Ob where
 | val (d:D) | lst (a:Addr) (l:List D) | ins (a:Addr) (c:Str) (ns:List Str) (l:List Ob)
mutual
noncomputable def ObR(κ:KC)(G H:Hp):Ob->V->Prop
 |.val d,v=>Rep κ G d v
 |.lst a ds,v=>∃xs,v=.ref a/\H a=some (.lst xs)/\qm κ G ds xs
 |.ins p c ns os,v=>∃dx C xs,κ c=some C/\v=.ref p/\H p=some (.ins C dx (ns.zip xs))/\xs.length=ns.length/\YF κ G H os xs
noncomputable def YF(κ:KC)(G H:Hp):List Ob->List V->Prop
 |[],xs=>xs=[]
 | o::os,xs=>∃x r,xs=x::r/\ObR κ G H o x/\YF κ G H os r
end
mutual
theorem ObR.same{κ:KC}{G G' H H':Hp}(h:qj H H')(e:qj G G'):∀{o:Ob} {v:V},ObR κ G H o v->ObR κ G' H' o v
 |.val d,v,r=>by simp only[ObR] at r ⊢;exact r.same e
 |.lst a ds,v,r=>by simp only[ObR] at r ⊢;obtain⟨xs,rfl,h1,h2⟩:=r;exact⟨xs,rfl,h _ _ h1,h2.same e⟩
 |.ins p c ns os,v,r=>by simp only[ObR] at r ⊢;obtain⟨dx,C,xs,hc,rfl,h1,hl,h2⟩:=r;exact⟨dx,C,xs,hc,rfl,h _ _ h1,hl,YF.same h e h2⟩
theorem YF.same{κ:KC}{G G' H H':Hp}(h:qj H H')(e:qj G G'):∀{os:List Ob} {vs:List V},YF κ G H os vs->YF κ G' H' os vs
 |[],vs,r=>by simp only[YF] at r ⊢;exact r
 | o::os,vs,r=>by simp only[YF] at r ⊢;obtain⟨x,r,rfl,h1,h2⟩:=r;exact⟨x,r,rfl,ObR.same h e h1,YF.same h e h2⟩
end
theorem ObR.gs{κ:KC}{G G' H:Hp}(e:qj G G'){o:Ob}{v:V}(r:ObR κ G H o v):ObR κ G' H o v:=r.same (λ_ _ q=>q) e
theorem YF.look{κ:KC}{G H:Hp}{x:Str}{o:Ob}:∀{ns:List Str} {os:List Ob} {xs:List V},YF κ G H os xs->(ns.zip os).lookup x=some o->∃u,(ns.zip xs).lookup x=some u/\ObR κ G H o u
 |[],_,_,_,e=>by simp at e
 | _::_,[],_,_,e=>by simp at e
 | n::ns,o'::os,xs,h,e=>by
  simp only[YF] at h;obtain⟨v,r,rfl,h1,h2⟩:=h;rw[List.zip_cons_cons,List.lookup_cons] at e ⊢
  cases q:(x == n) with
  |true=>rw[q] at e;cases e;exact⟨v,rfl,h1⟩
  |false=>rw[q] at e;exact YF.look h2 e
inductive Sl where
 | no | val (d:D) | own (l:List D) | bor (l:List D) | scr (l:List D) | obj (a:Addr) (c:Str) (ns:List Str) (l:List Ob)
abbrev Env:=List Sl
noncomputable def SlR(κ:KC)(K:Frag)(G H Hv:Hp):Sl->Option (Option V)->Prop
 |.no,_=>True
 |.val d,o=>∃v,o=some (some v)/\Rep κ G d v
 |.own ds,o=>∃a xs,o=some (some (.ref a))/\H a=some (.lst xs)/\Hv a=none/\G a=none/\qm κ G ds xs
 |.bor ds,o=>∃a xs,o=some (some (.ref a))/\Hv a=some (.lst xs)/\qm κ G ds xs
 |.scr ds,o=>∃a xs,o=some (some (.ref a))/\SqL K Hv a xs/\qm κ G ds xs
 |.obj p c ns l,o=>∃v,o=some (some v)/\ObR κ G Hv (.ins p c ns l) v
noncomputable def zZ(ρ:Env)(σ:St)(a:Addr):Prop:=∃(i:Nat) (l:List D),ρ[i]?=some (.own l)/\σ[i]?=some (some (.ref a))
structure ER(κ:KC)(K:Frag)(Gv Hv G H:Hp)(ρ:Env)(σ:St):Prop where
 len:ρ.length=σ.length
 sub:qj G H
 base:qj Hv H
 g0:qj Gv G
 fresh:∀a o,G a=some o->(∃o',Gv a=some o')\/Hv a=none
 sl:∀(i:Nat) (s:Sl),ρ[i]?=some s->SlR κ K G H Hv s σ[i]?
 ap:∀(i j:Nat) (a:Addr) (l m:List D),ρ[i]?=some (.own l)->ρ[j]?=some (.own m)->σ[i]?=some (some (.ref a))->σ[j]?=some (some (.ref a))->i=j
structure Po(κ:KC)(K:Frag)(Gv Hv:Hp)(σ:St)(G H:Hp)(ρ:Env)(G' H':Hp)(ρ':Env):Prop where
 er:ER κ K Gv Hv G' H' ρ' σ
 hs:qj H H'
 gs:qj G G'
 new:∀a o,G' a=some o->(∃o',G a=some o')\/H a=none\/zZ ρ σ a
 fz:∀(i:Nat) (l:List D),ρ'[i]?=some (.own l)->ρ[i]?=some (.own l)
theorem qj.none{H H':Hp}(e:qj H H'){a:Addr}(h:H' a=none):H a=none:=by
 cases q:H a with
 |none=>rfl
 |some o=>rw[e a o q] at h;cases h
section
variable{κ:KC}{K:Frag}{Gv Hv G H G' H' G'' H'':Hp}{ρ ρ' ρ'':Env}{σ:St}
theorem Po.refl(h:ER κ K Gv Hv G H ρ σ):Po κ K Gv Hv σ G H ρ G H ρ:=⟨h,λ_ _ e=>e,λ_ _ e=>e,λ_ o e=>.inl ⟨o,e⟩,λ_ _ e=>e⟩
theorem Po.trans(a:Po κ K Gv Hv σ G H ρ G' H' ρ')(b:Po κ K Gv Hv σ G' H' ρ' G'' H'' ρ''):Po κ K Gv Hv σ G H ρ G'' H'' ρ'':=
 ⟨b.er,λc o e=>b.hs c o (a.hs c o e),λc o e=>b.gs c o (a.gs c o e),λc o e=>by
  rcases b.new c o e with ⟨o',z⟩ | z | ⟨i,l,z1,z2⟩
  ·exact a.new c o' z
  ·exact .inr (.inl (qj.none a.hs z))
  ·exact .inr (.inr ⟨i,l,a.fz i l z1,z2⟩),λi l e=>a.fz i l (b.fz i l e)⟩
theorem SlR.grow(hs:qj H H')(gs:qj G G')(nw:∀a xs,H a=some (.lst xs)->Hv a=none->G a=none->G' a=none){s:Sl}{o:Option (Option V)}(h:SlR κ K G H Hv s o):SlR κ K G' H' Hv s o:=by
 cases s with
 |no=>trivial
 |val d=>obtain⟨v,e,r⟩:=h;exact⟨v,e,r.same gs⟩
 |own ds=>obtain⟨a,xs,e,h1,h2,h3,h4⟩:=h;exact⟨a,xs,e,hs _ _ h1,h2,nw a xs h1 h2 h3,h4.same gs⟩
 |bor ds=>obtain⟨a,xs,e,h1,h4⟩:=h;exact⟨a,xs,e,h1,h4.same gs⟩
 |scr ds=>obtain⟨a,xs,e,h1,h4⟩:=h;exact⟨a,xs,e,h1,h4.same gs⟩
 |obj oa c ns os=>obtain⟨v,e,r⟩:=h;exact⟨v,e,r.gs gs⟩
theorem Po.more(h:ER κ K Gv Hv G H ρ σ)(hs:qj H H')(gs:qj G G')(sub:qj G' H')(new:∀a o,G' a=some o->(∃o',G a=some o')\/H a=none):Po κ K Gv Hv σ G H ρ G' H' ρ:=by
 refine⟨⟨h.len,sub,λb o e=>hs b o (h.base b o e),λb o e=>gs b o (h.g0 b o e),λa o e=>?_,λi s e=>(h.sl i s e).grow hs gs λa xs h1 h2 h3=>?_,h.ap⟩,hs,gs,λa o e=>?_,λ_ _ e=>e⟩
 ·rcases new a o e with ⟨o',z⟩ | z
  ·exact h.fresh a o' z
  ·exact .inr (qj.none h.base z)
 ·cases q:G' a with
  |none=>rfl
  |some o=>
   rcases new a o q with ⟨o',z⟩ | z
   ·rw[h3] at z;cases z
   ·rw[h1] at z;cases z
 ·rcases new a o e with z | z
  ·exact .inl z
  ·exact .inr (.inl z)
theorem Po.room(h:ER κ K Gv Hv G H ρ σ)(hs:qj H H'):Po κ K Gv Hv σ G H ρ G H' ρ:=
 Po.more h hs (λ_ _ e=>e) (λb o e=>hs b o (h.sub b o e)) λ_ o e=>.inl ⟨o,e⟩
theorem Po.lay(h:ER κ K Gv Hv G H ρ σ){a:Addr}{o:HO}(ha:H a=none):Po κ K Gv Hv σ G H ρ (upd G a o) (upd H a o) ρ:=by
 have ga:G a=none:=qj.none h.sub ha;refine Po.more h (qj.upd ha) (qj.upd ga) (λb u e=>?_) λb u e=>?_
 ·by_cases hb:b=a
  ·subst hb;rw[qc] at e ⊢;exact e
  ·rw[qb hb] at e ⊢;exact h.sub b u e
 ·by_cases hb:b=a
  ·subst hb;exact .inr ha
  ·rw[qb hb] at e;exact .inl ⟨u,e⟩
end
inductive Rv where
 | val (d:D) | tmp (l:List D) | cell (l:List D) | scr (l:List D) | obj (a:Addr) (c:Str) (ns:List Str) (l:List Ob)
noncomputable def RvR(κ:KC)(K:Frag)(Hv Hb G H:Hp)(ρ:Env)(σ:St):Rv->V->Prop
 |.val d,v=>Rep κ G d v
 |.tmp ds,v=>∃a xs,v=.ref a/\H a=some (.lst xs)/\Hb a=none/\Hv a=none/\G a=none/\¬ zZ ρ σ a/\qm κ G ds xs
 |.cell ds,v=>∃a xs,v=.ref a/\H a=some (.lst xs)/\qm κ G ds xs
 |.scr ds,v=>∃a xs,v=.ref a/\SqL K H a xs/\qm κ G ds xs
 |.obj p c ns l,v=>ObR κ G H (.ins p c ns l) v
section
variable{κ:KC}{K:Frag}{Gv Hv Hb G H G' H':Hp}{ρ ρ':Env}{σ:St}
theorem RvR.keep{r:Rv}{v:V}(h:RvR κ K Hv Hb G H ρ σ r v)(p:Po κ K Gv Hv σ G H ρ G' H' ρ'):RvR κ K Hv Hb G' H' ρ' σ r v:=by
 cases r with
 |val d=>exact Rep.same p.gs h
 |tmp ds=>
  obtain⟨a,xs,rfl,h1,h2,h3,h4,h5,h6⟩:=h;refine⟨a,xs,rfl,p.hs _ _ h1,h2,h3,?_,λ⟨i,l,z1,z2⟩=>h5 ⟨i,l,p.fz i l z1,z2⟩,h6.same p.gs⟩
  cases q:G' a with
  |none=>rfl
  |some o=>
   rcases p.new a o q with ⟨o',z⟩ | z | z
   ·rw[h4] at z;cases z
   ·rw[h1] at z;cases z
   ·exact absurd z h5
 |cell ds=>obtain⟨a,xs,rfl,h1,h6⟩:=h;exact⟨a,xs,rfl,p.hs _ _ h1,h6.same p.gs⟩
 |scr ds=>obtain⟨a,xs,rfl,h1,h6⟩:=h;exact⟨a,xs,rfl,p.hs.seq h1,h6.same p.gs⟩
 |obj oa c ns os=>exact ObR.same p.hs p.gs h
theorem RvR.back{Hc:Hp}{r:Rv}{v:V}(h:RvR κ K Hv Hc G H ρ σ r v)(e:qj Hb Hc):RvR κ K Hv Hb G H ρ σ r v:=by
 cases r with
 |val d=>exact h
 |tmp ds=>obtain⟨a,xs,rfl,h1,h2,h3,h4,h5,h6⟩:=h;exact⟨a,xs,rfl,h1,qj.none e h2,h3,h4,h5,h6⟩
 |cell ds=>exact h
 |scr ds=>exact h
 |obj oa c ns os=>exact h
noncomputable def Rv.list?:Rv->Option (List D)
 |.val (.lst l)=>some l
 |.tmp l=>some l
 |.cell l=>some l
 |.scr l=>some l
 |_=>none
noncomputable def Rv.plain?:Rv->Option (List D)
 |.val (.lst l)=>some l
 |.tmp l=>some l
 |.cell l=>some l
 |_=>none
theorem RvR.plain(er:ER κ K Gv Hv G H ρ σ){r:Rv}{v:V}{l:List D}(h:RvR κ K Hv Hb G H ρ σ r v)(e:r.plain?=some l):∃a xs,v=.ref a/\H a=some (.lst xs)/\qm κ G l xs:=by
 cases r with
 |val d=>
  cases d<;>simp only[Rv.plain?] at e<;>try (cases e)
  simp only[RvR,Rep] at h;obtain⟨a,xs,rfl,h1,h2⟩:=h;exact⟨a,xs,rfl,er.sub _ _ h1,h2⟩
 |tmp ds=>simp only[Rv.plain?] at e;cases e;obtain⟨a,xs,rfl,h1,_,_,_,_,h6⟩:=h;exact⟨a,xs,rfl,h1,h6⟩
 |cell ds=>simp only[Rv.plain?] at e;cases e;exact h
 |scr ds=>simp only[Rv.plain?] at e;cases e
 |obj oa c ns os=>simp only[Rv.plain?] at e;cases e
theorem RvR.list(er:ER κ K Gv Hv G H ρ σ){r:Rv}{v:V}{l:List D}(h:RvR κ K Hv Hb G H ρ σ r v)(e:r.list?=some l):∃a xs,v=.ref a/\SqL K H a xs/\qm κ G l xs:=by
 cases r with
 |scr ds=>simp only[Rv.list?] at e;cases e;exact h
 |val d=>
  have e':(Rv.val d).plain?=some l:=by cases d<;>simp only[Rv.list?] at e<;>first | (cases e;rfl) | cases e
  obtain⟨a,xs,h1,h2,h3⟩:=h.plain er e';exact⟨a,xs,h1,SqL.of h2,h3⟩
 |tmp ds=>obtain⟨a,xs,h1,h2,h3⟩:=h.plain er (l:=l) e;exact⟨a,xs,h1,SqL.of h2,h3⟩
 |cell ds=>obtain⟨a,xs,h1,h2,h3⟩:=h.plain er (l:=l) e;exact⟨a,xs,h1,SqL.of h2,h3⟩
 |obj oa c ns os=>simp only[Rv.list?] at e;cases e
theorem Po.freeze{a:Addr}{xs:List V}{G1 H1:Hp}{ρ1:Env}(p:Po κ K Gv Hv σ G H ρ G1 H1 ρ1)(h1:H1 a=some (.lst xs))(h2:H a=none)(h3:Hv a=none)(h4:G1 a=none)(h5:¬ zZ ρ1 σ a):Po κ K Gv Hv σ G H ρ (upd G1 a (.lst xs)) H1 ρ1:=by
 have gs:qj G1 (upd G1 a (.lst xs)):=qj.upd h4;have er:=p.er;refine⟨⟨er.len,λb u e=>?_,er.base,λb o e=>gs b o (er.g0 b o e),λb o e=>?_,λi s e=>?_,er.ap⟩,p.hs,λb o e=>gs b o (p.gs b o e),λb o e=>?_,p.fz⟩
 ·by_cases hb:b=a
  ·subst hb;rw[qc] at e;cases e;exact h1
  ·rw[qb hb] at e;exact er.sub b u e
 ·by_cases hb:b=a
  ·subst hb;exact .inr h3
  ·rw[qb hb] at e;exact er.fresh b o e
 ·have q:=er.sl i s e
  cases s with
  |no=>trivial
  |val d=>obtain⟨v,z,r⟩:=q;exact⟨v,z,r.same gs⟩
  |own ds=>obtain⟨b,ys,z,q1,q2,q3,q4⟩:=q;have hb:b≠a:=λw=>h5 ⟨i,ds,e,by rw[<-w];exact z⟩;exact⟨b,ys,z,q1,q2,by rw[qb hb];exact q3,q4.same gs⟩
  |bor ds=>obtain⟨b,ys,z,q1,q4⟩:=q;exact⟨b,ys,z,q1,q4.same gs⟩
  |scr ds=>obtain⟨b,ys,z,q1,q4⟩:=q;exact⟨b,ys,z,q1,q4.same gs⟩
  |obj oa c ns os=>obtain⟨v,z,r⟩:=q;exact⟨v,z,r.gs gs⟩
 ·by_cases hb:b=a
  ·subst hb;exact .inr (.inl h2)
  ·rw[qb hb] at e;exact p.new b o e
theorem ER.froze{i:Nat}{l:List D}(h:ER κ K Gv Hv G H ρ σ)(e:ρ[i]?=some (.own l)):∃a xs,σ[i]?=some (some (.ref a))/\Po κ K Gv Hv σ G H ρ (upd G a (.lst xs)) H (ρ.set i (.val (.lst l)))/\Rep κ (upd G a (.lst xs)) (.lst l) (.ref a):=by
 obtain⟨a,xs,z,h1,h2,h3,h4⟩:=h.sl i _ e;have gs:qj G (upd G a (.lst xs)):=qj.upd h3;have hi:i < ρ.length:=(List.getElem?_eq_some_iff.mp e).1;have rp:Rep κ (upd G a (.lst xs)) (.lst l) (.ref a):=by simp only[Rep];exact⟨a,xs,rfl,qc,h4.same gs⟩
 refine⟨a,xs,z,⟨⟨by rw[List.length_set];exact h.len,λb u q=>?_,h.base,λb o q=>gs b o (h.g0 b o q),λb o q=>?_,λj s q=>?_,λj k b m n q1 q2=>?_⟩,λ_ _ q=>q,gs,λb o q=>?_,λj m q=>?_⟩,rp⟩
 ·by_cases hb:b=a
  ·subst hb;rw[qc] at q;cases q;exact h1
  ·rw[qb hb] at q;exact h.sub b u q
 ·by_cases hb:b=a
  ·subst hb;exact .inr h2
  ·rw[qb hb] at q;exact h.fresh b o q
 ·by_cases hj:i=j
  ·subst hj;rw[List.getElem?_set_self hi] at q;cases q;exact⟨_,z,rp⟩
  ·rw[List.getElem?_set_ne hj] at q;have w:=h.sl j s q
   cases s with
   |no=>trivial
   |val d=>obtain⟨v,z,r⟩:=w;exact⟨v,z,r.same gs⟩
   |own ds=>obtain⟨b,ys,z',q1,q2,q3,q4⟩:=w;have hb:b≠a:=λu=>hj (h.ap i j a l ds e q z (by rw[<-u];exact z'));exact⟨b,ys,z',q1,q2,by rw[qb hb];exact q3,q4.same gs⟩
   |bor ds=>obtain⟨b,ys,z,q1,q4⟩:=w;exact⟨b,ys,z,q1,q4.same gs⟩
   |scr ds=>obtain⟨b,ys,z,q1,q4⟩:=w;exact⟨b,ys,z,q1,q4.same gs⟩
   |obj oa c ns os=>obtain⟨v,z,r⟩:=w;exact⟨v,z,r.gs gs⟩
 ·have f:∀{j:Nat} {m:List D},(ρ.set i (.val (.lst l)))[j]?=some (.own m)->ρ[j]?=some (.own m):=λ{j m} q=>by
   by_cases hj:i=j
   ·subst hj;rw[List.getElem?_set_self hi] at q;cases q
   ·rw[List.getElem?_set_ne hj] at q;exact q
  exact h.ap j k b m n (f q1) (f q2)
 ·by_cases hb:b=a
  ·subst hb;exact .inr (.inr ⟨i,l,e,z⟩)
  ·rw[qb hb] at q;exact .inl ⟨o,q⟩
 ·by_cases hj:i=j
  ·subst hj;rw[List.getElem?_set_self hi] at q;cases q
  ·rw[List.getElem?_set_ne hj] at q;exact q
theorem ER.setVal{i:Nat}{d:D}{v:V}(h:ER κ K Gv Hv G H ρ σ)(r:Rep κ G d v):ER κ K Gv Hv G H (ρ.set i (.val d)) (σ.set i (some v)):=by
 refine⟨by rw[List.length_set,List.length_set];exact h.len,h.sub,h.base,h.g0,h.fresh,λj s q=>?_,λj k b m n q1 q2 q3 q4=>?_⟩
 ·by_cases hj:i=j
  ·subst hj;have hi:i < ρ.length:=by simpa using (List.getElem?_eq_some_iff.mp q).1
   rw[List.getElem?_set_self hi] at q;cases q;exact⟨v,by rw[List.getElem?_set_self (by rw[<-h.len];exact hi)],r⟩
  ·rw[List.getElem?_set_ne hj] at q ⊢;exact h.sl j s q
 ·have f:∀{j:Nat} {m:List D},(ρ.set i (.val d))[j]?=some (.own m)->i≠j/\ρ[j]?=some (.own m):=λ{j m} q=>by
   by_cases hj:i=j
   ·subst hj;have hi:i < ρ.length:=by simpa using (List.getElem?_eq_some_iff.mp q).1
    rw[List.getElem?_set_self hi] at q;cases q
   ·rw[List.getElem?_set_ne hj] at q;exact⟨hj,q⟩
  obtain⟨n1,e1⟩:=f q1;obtain⟨n2,e2⟩:=f q2;rw[List.getElem?_set_ne n1] at q3;rw[List.getElem?_set_ne n2] at q4;exact h.ap j k b m n e1 e2 q3 q4
theorem ER.setOwn{i:Nat}{l:List D}{a:Addr}{xs:List V}(h:ER κ K Gv Hv G H ρ σ)(h1:H a=some (.lst xs))(h2:Hv a=none)(h3:G a=none)(h4:¬ zZ ρ σ a)(r:qm κ G l xs):ER κ K Gv Hv G H (ρ.set i (.own l)) (σ.set i (some (.ref a))):=by
 have f:∀{j:Nat} {m:List D},(ρ.set i (.own l))[j]?=some (.own m)->i≠j->ρ[j]?=some (.own m):=λ{j m} q hj=>by rw[List.getElem?_set_ne hj] at q;exact q
 refine⟨by rw[List.length_set,List.length_set];exact h.len,h.sub,h.base,h.g0,h.fresh,λj s q=>?_,λj k b m n q1 q2 q3 q4=>?_⟩
 ·by_cases hj:i=j
  ·subst hj;have hi:i < ρ.length:=by simpa using (List.getElem?_eq_some_iff.mp q).1
   rw[List.getElem?_set_self hi] at q;cases q;exact⟨a,xs,by rw[List.getElem?_set_self (by rw[<-h.len];exact hi)],h1,h2,h3,r⟩
  ·rw[List.getElem?_set_ne hj] at q ⊢;exact h.sl j s q
 ·by_cases hj:i=j
  ·by_cases hk:i=k
   ·lia
   ·subst hj;have hi:i < σ.length:=by simpa using (List.getElem?_eq_some_iff.mp q3).1
    rw[List.getElem?_set_self hi] at q3;rw[List.getElem?_set_ne hk] at q4;cases q3;exact absurd ⟨k,n,f q2 hk,q4⟩ h4
  ·by_cases hk:i=k
   ·subst hk;have hi:i < σ.length:=by simpa using (List.getElem?_eq_some_iff.mp q4).1
    rw[List.getElem?_set_self hi] at q4;rw[List.getElem?_set_ne hj] at q3;cases q4;exact absurd ⟨j,m,f q1 hj,q3⟩ h4
   ·rw[List.getElem?_set_ne hj] at q3;rw[List.getElem?_set_ne hk] at q4;exact h.ap j k b m n (f q1 hj) (f q2 hk) q3 q4
theorem ER.write{i:Nat}{l m:List D}{a:Addr}{ys:List V}(h:ER κ K Gv Hv G H ρ σ)(e:ρ[i]?=some (.own l))(z:σ[i]?=some (some (.ref a)))(r:qm κ G m ys):ER κ K Gv Hv G (upd H a (.lst ys)) (ρ.set i (.own m)) σ:=by
 obtain⟨a',xs,z',h1,h2,h3,h4⟩:=h.sl i _ e;have ea:a'=a:=by rw[z'] at z;injection z with z;injection z with z;injection z
 subst ea;have hi:i < ρ.length:=(List.getElem?_eq_some_iff.mp e).1;refine⟨by rw[List.length_set];exact h.len,λb u q=>?_,λb u q=>?_,h.g0,h.fresh,λj s q=>?_,λj k b m' n q1 q2=>?_⟩
 ·have hb:b≠a':=λw=>by rw[w,h3] at q;cases q
  rw[qb hb];exact h.sub b u q
 ·have hb:b≠a':=λw=>by rw[w,h2] at q;cases q
  rw[qb hb];exact h.base b u q
 ·by_cases hj:i=j
  ·subst hj;rw[List.getElem?_set_self hi] at q;cases q;exact⟨a',ys,z',qc,h2,h3,r⟩
  ·rw[List.getElem?_set_ne hj] at q;have w:=h.sl j s q
   cases s with
   |no=>trivial
   |val d=>exact w
   |own ds=>obtain⟨b,zs,z2,q1,q2,q3,q4⟩:=w;have hb:b≠a':=λu=>hj (h.ap i j a' l ds e q z' (by rw[<-u];exact z2));exact⟨b,zs,z2,by rw[qb hb];exact q1,q2,q3,q4⟩
   |bor ds=>exact w
   |scr ds=>exact w
   |obj oa c ns os=>exact w
 ·have f:∀{j:Nat} {n:List D},(ρ.set i (.own m))[j]?=some (.own n)->∃n',ρ[j]?=some (.own n'):=λ{j n} q=>by
   by_cases hj:i=j
   ·subst hj;exact⟨l,e⟩
   ·rw[List.getElem?_set_ne hj] at q;exact⟨n,q⟩
  obtain⟨_,e1⟩:=f q1;obtain⟨_,e2⟩:=f q2;exact h.ap j k b _ _ e1 e2
end
end DE
namespace DE
open PySem L2
inductive Sk where
 | lst | tup | str
def qah(s:Str):List D:=s.cps.toList.map λc=>D.str ⟨#[c]⟩
inductive R(α:Type) where
 | ok (a:α) | exc (c:Addr) (l:List (Str×D)) | no
def R.th{α β:Type}:R α->(α->R β)->R β
 |.ok a,f=>f a
 |.exc c l,_=>.exc c l
 |.no,_=>.no
def noX{α:Type}:R α->R α
 |.ok a=>.ok a
 |_=>.no
def R.of{α:Type}:Option α->R α
 |some a=>.ok a
 |none=>.no
mutual
noncomputable def toP:D->Option PyData
 |.non=>some .none
 |.bl b=>some (.bool b)
 |.int n=>some (.int n)
 |.str s=>some (.str s)
 |.lst l=>(qaI l).map .list
 |.tup l=>(qaI l).map .tuple
 |.ins ..=>none
 |.exc ..=>none
 |.dct ..=>none
noncomputable def qaI:List D->Option (List PyData)
 |[]=>some []
 | d::l=>(toP d).bind λp=>(qaI l).map (p :: ·)
end
noncomputable def Rv.data:Rv->D
 |.val d=>d
 |.tmp l=>.lst l
 |.cell l=>.lst l
 |.scr l=>.lst l
 |.obj ..=>.ins "" [] []
inductive Ar where
 | val (d:D) | bor (l:List D) | scr (l:List D) | obj (a:Addr) (c:Str) (ns:List Str) (l:List Ob)
structure Xs where
 xa:Str->Addr:=λ_=>0
 xn:Str->Option (List Str):=λ_=>none
 xs:Addr->Str->Option Bool:=λ_ _=>none
 xg:Addr->Str->Bool:=λ_ _=>false
 xt:List Str:=[]
structure Cs extends Xs where
 tab:List Str
 fld:Str->Str->Bool
 mt:Str->Str->Option Str
 sub:Str->Str->Option Bool
 xh:Str->Bool:=λ_=>false
def Cs.non:Cs:={ tab:=[],fld:=λ_ _=>false,mt:=λ_ _=>none,sub:=λ_ _=>none }
structure Ct where
 N:List Str
 sc:Scope
 tab:List Str
 gl:Str->Option D
 cl:Str->List Ar->R Rv
 cs:Cs
 nw:Str->List Ar->R Rv
 z:Bool:=false
 x:Bool:=true
 y:Bool:=true
noncomputable def Yt:List Str->Str->Option Nat
 |[],_=>none
 | y::r,x=>if y=x then some 0 else (Yt r x).map (· + 1)
noncomputable def Jg(sc:Scope)(x:Str):Bool:=match sc.names.lookup x with
 |some .local=>true
 |some .cell=>true
 |some .free=>true
 |_=>false
noncomputable def qai(sc:Scope)(x:Str):Bool:=match sc.names.lookup x with
 |some .local=>true
 |some .cell=>true
 |_=>false
def glB(sc:Scope)(x:Str):Bool:=sc.names.lookup x == some .globalImplicit
noncomputable def qv(x:Str):Bool:=!(x == ("__debug__" : Str))&&!(x == ("__classdict__" : Str))&&!(x == ("__name__" : Str))
def oif{α:Type}(c:Bool)(a:Option α):Option α:=match c with
 |true=>a
 |false=>none
def qd2(Γ:Ct)(x:Str):Option Nat:=oif (qv x&&Jg Γ.sc x) (Yt Γ.N x)
def isF(Γ:Ct)(it:Expr):Option Nat:=none
noncomputable def slC(ρ:Env)(i:Nat):R (List D):=match ρ[i]? with
 |some (.own l)=>.ok l
 |some (.val (.lst l))=>.ok l
 |some (.val (.tup l))=>.ok l
 |_=>.no
def Rv.int?:Rv->Option Int
 |.val (.int i)=>some i
 |_=>none
def Rv.str?:Rv->Option Str
 |.val (.str i)=>some i
 |_=>none
def Rv.bl?:Rv->Option Bool
 |.val (.bl i)=>some i
 |_=>none
def Rv.tup?:Rv->Option (List D)
 |.val (.tup i)=>some i
 |_=>none
noncomputable def YG(i j:Int):Bool:=(decide (-(2 ^ 64) < i)&&decide (i < 2 ^ 64))||(decide (-(2 ^ 64) < j)&&decide (j < 2 ^ 64))
noncomputable def int2(x y:Rv)(f:Int->Int->R Rv):R Rv:=match x.int?,y.int? with
 |some i,some j=>f i j
 |_,_=>.no
noncomputable def qhf(x y:Rv):R Rv:=match x.int?,y.int? with
 |some i,some j=>.ok (.val (.int (i+j)))
 |_,_=>match x.str?,y.str? with
  |some a,some b=>if a.length+b.length<=sizeLine then .ok (.val (.str (a++b))) else .no
  |_,_=>match x.plain?,y.plain? with
   |some l,some m=>if l.length+m.length<=sizeLine then .ok (.tmp (l++m)) else .no
   |_,_=>.no
noncomputable def qhg(x y:Rv):R Rv:=match x.int?,y.int? with
 |some i,some j=>if YG i j=true then .ok (.val (.int (i * j))) else .no
 |_,_=>.no
noncomputable def Qb(op:Operator)(x y:Rv):R Rv:=match op with
 |.Add=>qhf x y
 |.Sub=>int2 x y λi j=>.ok (.val (.int (i - j)))
 |.Mult=>qhg x y
 |.FloorDiv=>int2 x y λi j=>if 0 < j/\j < 1073741824 then .ok (.val (.int (i / j))) else if j < 0/\-1073741824 < j then .ok (.val (.int (i.fdiv j))) else .no
 |.Mod=>int2 x y λi j=>if 0 < j then .ok (.val (.int (i % j))) else if j < 0 then .ok (.val (.int (i.fmod j))) else .no
 |.Pow=>int2 x y λi j=>if 0<=j/\j<=1000000/\i.natAbs < 2 ^ 64 then .ok (.val (.int (i ^ j.toNat))) else .no
 |_=>.no
noncomputable def eqD(x y:D):Option Bool:=match toP x,toP y with
 |some p,some q=>if SeqAt.shaped p&&SeqAt.shaped q then some (PyData.eqv p q) else none
 |_,_=>none
def yq:D->Bool
 |.non=>true
 |.bl _=>true
 |.int _=>true
 |.str _=>true
 |_=>false
def seqD(r:Rv):Option (List D):=match r.tup? with
 |some l=>some l
 |none=>r.list?
def flV:D->V
 |.bl b=>.bl b
 |.int n=>.int n
 |.str s=>.str s
 |_=>.non
noncomputable def inD(x:D)(l:List D):Option Bool:=if (yq x&&l.all yq)=true then some (inV (flV x) (l.map flV)) else none
noncomputable def qd3(x y:Rv)(f:Int->Int->Bool):Option Bool:=match x.int?,y.int? with
 |some i,some j=>some (f i j)
 |_,_=>none
def Rv.non?:Rv->Bool
 |.val .non=>true
 |_=>false
def qaJ(a b:Str):Bool:=!(Builtin.Str.occurrences b a 0 b.length 1).isEmpty
noncomputable def qbz(x y:Rv):Option Bool:=match x.str?,y.str? with
 |some a,some b=>some (qaJ a b)
 |_,_=>(seqD y).bind (inD x.data)
def ltD(x y:Rv):Option Bool:=qd3 x y λi j=>decide (i < j)
noncomputable def yJ(op:CmpOp)(x y:Rv):Option Bool:=match op with
 |.Eq=>eqD x.data y.data
 |.NotEq=>(eqD x.data y.data).map (!·)
 |.Lt=>ltD x y
 |.LtE=>qd3 x y λi j=>decide (i<=j)
 |.Gt=>qd3 x y λi j=>decide (j < i)
 |.GtE=>qd3 x y λi j=>decide (j<=i)
 |.Is=>if y.non? then some x.non? else none
 |.IsNot=>if y.non? then some (!x.non?) else none
 |.In=>qbz x y
 |.NotIn=>(qbz x y).map (!·)
def qi3(x y:Rv):R Rv:=.no
noncomputable def idxD(x y:Rv):R Rv:=match y.int? with
 |some i=>(match x.str? with
  |some z=>if z.length<=sizeLine then (match atI z.cps.toList i with |some c=>.ok (.val (.str ⟨#[c]⟩)) |none=>.no) else .no
  |none=>match seqD x with
   |some l=>(match atI l i with |some d=>.ok (.val d) |none=>.no)
   |none=>.no)
 |none=>qi3 x y
noncomputable def ZE(l:List D)(lo hi:Option Int):List D:=(l.drop (HT.sIx l.length 0 lo)).take (HT.sIx l.length l.length hi - HT.sIx l.length 0 lo)
noncomputable def sliceD(r:Rv)(lo hi:Option Int):R Rv:=match r.str? with
 |some z=>if z.length<=sizeLine then .ok (.val (.str (Txt.slice z lo hi))) else .no
 |none=>(R.of r.list?).th λl=>.ok (.tmp (ZE l lo hi))
noncomputable def truthD(r:Rv):Option Bool:=match r with
 |.val .non=>some false
 |.val (.bl b)=>some b
 |.val (.int i)=>some (i != 0)
 |.val (.str s)=>if s.length<=sizeLine then some ((s.length:Int) != 0) else none
 |r=>(seqD r).map λl=>!l.isEmpty
noncomputable def qcP(cs:Cs)(r:Rv)(t:Str):Option Bool:=match r with
 |.val (.ins c _ _)=>cs.sub c t
 |.val (.exc C _ _)=>cs.xs C t
 |_=>none
noncomputable def qid(cs:Cs)(C:Addr):List Str->Option Bool
 |[]=>some false
 | t::l=>(cs.xs C t).bind λb=>(qid cs C l).map (b || ·)
noncomputable def qi4(cs:Cs)(r:Rv)(ts:List Str):Option Bool:=match r with
 |.val (.exc C _ _)=>qid cs C ts
 |_=>none
noncomputable def qaK(cs:Cs)(r:Rv)(x:Str):Option D:=match r with
 |.val (.ins c ns ds)=>if cs.fld c x then (ns.zip ds).lookup x else none
 |.val (.exc C ns ds)=>if cs.xg C x then (ns.zip ds).lookup x else none
 |_=>none
def obV:Ob->Rv
 |.val d=>.val d
 |.lst _ l=>.cell l
 |.ins a c ns l=>.obj a c ns l
noncomputable def qcQ(cs:Cs)(c:Str)(ns:List Str)(l:List Ob)(x:Str):Option Rv:=if cs.fld c x=true then ((ns.zip l).lookup x).map obV else none
noncomputable def qgJ(cs:Cs)(r:Rv)(x:Str):Option Rv:=match r with
 |.obj _ c ns l=>qcQ cs c ns l x
 |r=>(qaK cs r x).map Rv.val
noncomputable def mtD(cs:Cs)(r:Rv)(x:Str):Option Str:=match r with
 |.val (.ins c ns _)=>if ns.contains x then none else cs.mt c x
 |.obj _ c ns _=>if ns.contains x then none else cs.mt c x
 |_=>none
def ixM(r:Rv)(as:List Ar):R Rv:=.no
def qi5(x a:Str)(as:List Ar):R Rv:=.no
noncomputable def bmD(x:Str)(r:Rv)(as:List Ar):R Rv:=match r with
 |.val (.str a)=>qi5 x a as
 |r=>if x = "index" then ixM r as else .no
noncomputable def qi6:D->Option Str
 |.int n=>if n.natAbs.log2 < 1920 then some (Str.ofString (toString n)) else none
 |.str z=>if z.length<=3000 then some z else none
 |_=>none
noncomputable def qie(acc:Str):List D->Option Str
 |[]=>some acc
 | d::l=>(qi6 d).bind λy=>if (acc++y).length<=sizeLine then qie (acc++y) l else none
def ifX{α:Type}(b:Bool)(r:R α):R α:=if b=true then r else noX r
noncomputable def jH:Expr->Bool
 |.Constant (.str _) _ _=>true
 |.Name ..=>true
 |.Subscript ..=>true
 |.Attribute ..=>true
 | .Call (.Name _ _) (_::_) _ _=>true
 |_=>false
noncomputable def rprD(r:Rv):R Rv:=match r.str? with
 |some z=>if (reprText z).length<=sizeLine then .ok (.val (.str (reprText z))) else .no
 |none=>.no
noncomputable def lenD(r:Rv):R Rv:=match r.str? with
 |some s=>if s.length<=sizeLine then .ok (.val (.int s.length)) else .no
 |none=>match seqD r with
  |some l=>.ok (.val (.int l.length))
  |none=>.no
def listD(r:Rv):R Rv:=match seqD r with
 |some l=>.ok (.tmp l)
 |none=>.no
def qi7(r:Rv):R Rv:=.no
noncomputable def intD(r:Rv):R Rv:=match r.int? with
 |some i=>.ok (.val (.int i))
 |none=>match r.bl? with
  |some b=>.ok (.val (.int (if b then 1 else 0)))
  |none=>qi7 r
def prD:D->Option (Int×Int)
 |.tup [.int a,.int b]=>some (a,b)
 |_=>none
def qcR(r:Rv):R Rv:=.no
def qi8(r:Rv):R Rv:=.no
def qi9(r:Rv):R Rv:=.no
noncomputable def qhh(xs:List D)(lo hi:Option Int)(n:Int):List D:=(sliceRange (sliceBounds lo hi (some n) xs.length).1 (sliceBounds lo hi (some n) xs.length).2.1 (sliceBounds lo hi (some n) xs.length).2.2).filterMap (xs[·]?)
def qD:Expr->Bool
 |.Starred ..=>true
 |_=>false
def strD(r:Rv):R Rv:=.no
def tupD(r:Rv):R Rv:=.no
def qja(r:Rv):R Rv:=.no
def qjb(r:Rv):R Rv:=.no
def kvD:D->Option (Str×Int)
 |.tup [.str s,.int n]=>some (s,n)
 |_=>none
noncomputable def qhi:List D->Option (List (Str×Int))
 |[]=>some []
 | d::l=>match kvD d,qhi l with
  |some p,some ps=>some (p::ps)
  |_,_=>none
def qjc(kvs:List (Str×Int))(k:Str):Option Int:=(kvs.find? λkv=>decide (kv.1=k)).map (·.2)
noncomputable def qhj(n:Int)(x y:Rv):R Rv:=match x.list?,y.str? with
 |some l,some k=>(match qhi l with |some kvs=>if (kvs.map (·.1)).Nodup then .ok (.val (.int ((qjc kvs k).getD n))) else .no |none=>.no)
 |some l,none=>(match qhi l with |some kvs=>if y.non?=true/\(kvs.map (·.1)).Nodup then .ok (.val (.int n)) else .no |none=>.no)
 |_,_=>.no
def caV:Expr->Option (Str×List Expr)
 |.Call (.Name f _) as [] _=>some (f,as)
 |_=>none
theorem qjd(e:Expr):(caV e).elim True λt=>∃p q,e=.Call (.Name t.1 p) t.2 [] q:=by
 cases e with
 |Call f as ks q=>cases f with
  |Name f p=>cases ks with
   |nil=>exact⟨p,q,rfl⟩
   |cons _ _=>exact True.intro
  |_=>exact True.intro
 |_=>exact True.intro
theorem z7{α:Type}{o:Option α}{P:α->Prop}{a:α}(b:o.elim True P)(h:o=some a):P a:=by rw[h] at b;exact b
theorem ZF{e:Expr}{t:Str×List Expr}(h:caV e=some t):∃p q,e=.Call (.Name t.1 p) t.2 [] q:=by have b:=qjd e;rw[h] at b;exact b
def one?{α:Type}:List α->Option α
 |[a]=>some a
 |_=>none
theorem qgK{α:Type}(l:List α):(one? l).elim True λa=>l=[a]:=by
 cases l with
 |nil=>exact True.intro
 |cons a l=>cases l with
  |nil=>exact rfl
  |cons _ _=>exact True.intro
def dgE(Γ:Ct)(o:Expr)(x:Str)(es:List Expr)(b:Bool):Option (Expr×Expr×Int):=none
def maxD(x y:Rv):R Rv:=.no
def minD(x y:Rv):R Rv:=int2 x y λi j=>.ok (.val (.int (if j < i then j else i)))
def JY:Expr->Bool
 |.Set ..=>false
 |_=>true
noncomputable def qW:Expr->Option (List Str)
 |.Name x _=>some [x]
 |.Tuple es _ _=>es.foldr (λe r=>match e,r with |.Name x _,some l=>some (x::l) |_,_=>none) (some [])
 |_=>none
def qbA:Expr->Bool
 |.Tuple ..=>true
 |_=>false
def qgL:Sl->Sl
 |.own l=>.bor l
 |s=>s
noncomputable def yF(N:List Str)(sc:Scope):List Nat:=(List.range N.length).filter λi=>sc.names.lookup (N.getD i "") == some .free
def zw(l:List D):List D:=(List.range l.length).zipWith (λ(i:Nat) d=>D.tup [.int i,d]) l
def qje(l m:List D):List D:=List.zipWith (λa b=>D.tup [a,b]) l m
def qN(lo hi:Int):List D:=(List.range (hi - lo).toNat).map λi:Nat=>D.int (lo+i)
def qcS(lo hi c:Int):List D:=(List.range (rsz lo hi c)).map λi:Nat=>D.int (lo+i * c)
noncomputable def rgB(i j c:Int):Bool:=decide (-(2 ^ 60)<=i)&&decide (i < 2 ^ 60)&&decide (-(2 ^ 60)<=j)&&decide (j < 2 ^ 60)&&decide (0 < c)&&decide (c < 2 ^ 30)
noncomputable def rg3(x y z:Rv):R (List D):=match x.int?,y.int?,z.int? with
 |some i,some j,some c=>if rgB i j c=true then .ok (qcS i j c) else .no
 |_,_,_=>.no
def qbB(i:Int):Bool:=decide (-(2 ^ 62)<=i)&&decide (i < 2 ^ 62)
def lrE(Γ:Ct)(f:Str)(a:Expr):Option (Expr×Expr):=none
def ssE(Γ:Ct)(f:Str)(a:Expr):Option Expr:=none
noncomputable def lrD(x y:Rv):R Rv:=match x.int?,y.int? with
 |some i,some j=>if qbB i=true/\qbB j=true/\(j - i).toNat<=10000 then .ok (.tmp (qN i j)) else .no
 |_,_=>.no
def irE(Γ:Ct)(op:CmpOp)(b:Expr):Option Expr:=none
noncomputable def qjf(x y:Rv):R Rv:=match x.int?,y.int? with
 |some i,some j=>.ok (.val (.bl (!decide (0<=i/\i < j))))
 |_,_=>.no
def qO(i:Int):Bool:=decide (-(2 ^ 62)<=i)&&decide (i < 2 ^ 62)
mutual
noncomputable def nfD:D->Bool
 |.lst l=>(l.isEmpty||!(l.all yq))&&qbC l
 |.tup l=>qbC l
 |.ins _ _ l=>qbC l
 |.exc _ _ l=>qbC l
 |.dct _ l=>qbC l
 |_=>true
noncomputable def qbC:List D->Bool
 |[]=>true
 | d::l=>nfD d&&qbC l
end
def nfA:Ar->Bool
 |.val d=>nfD d
 |.bor l=>qbC l
 |.scr l=>qbC l
 |.obj ..=>false
noncomputable def qjg(as:List Ar)(r:Rv):Rv:=match r with
 |.val (.lst l)=>if as.all nfA&&!l.isEmpty&&l.all yq then .tmp l else r
 |_=>r
noncomputable def ZG(asg:D->Env->R Env)(test:Env->R (Bool×Env))(elt:Env->R (D×Env)):List D->Env->List D->R (List D)
 |[],_,acc=>.ok acc
 | d::ds,ρ,acc=>(asg d ρ).th λρ1=>(test ρ1).th λbt=>if bt.1 then (elt bt.2).th λx=>if acc.length < sizeLine then ZG asg test elt ds x.2 (acc++[x.1]) else .no else ZG asg test elt ds bt.2 acc
inductive Fl where
 | next (ρ:Env) | ret (r:Rv)
def jx:Expr->Bool
 |.ListComp ..=>false
 |.SetComp ..=>false
 |.DictComp ..=>false
 |_=>true
def ZH:Expr->Bool
 |.Tuple ..=>false
 |_=>true
noncomputable def qgM(step:D->Env->R Fl):List D->Env->R Fl
 |[],ρ=>.ok (.next ρ)
 | d::ds,ρ=>(step d ρ).th λf=>match f with
  |.next ρ1=>qgM step ds ρ1
  |.ret r=>.ok (.ret r)
noncomputable def whL(test:Env->R (Bool×Env))(body:Env->R Fl):Nat->Env->R Fl
 |0,_=>.no
 | n+1,ρ=>(test ρ).th λb=>if b.1 then (body b.2).th λf=>(match f with
  |.next ρ1=>whL test body n ρ1
  |.ret r=>.ok (.ret r)) else .ok (.next b.2)
end DE
namespace DE
open PySem L2
inductive B1 where
 | len | list | int | srt | sum | all | str | tup | any | sst | rpr
inductive B2 where
 | max | min | get (n:Int) | rng | inr
inductive Ty where
 | int | bool | str | list | tuple
inductive Tg where
 | one (i:Nat) | many (l:List Nat)
structure Cl where
 f:Str->List Ar->R Rv
 cs:Cs
 nw:Str->List Ar->R Rv
 x:Bool:=true
 y:Bool:=true
instance:CoeFun Cl (λ_=>Str->List Ar->R Rv):=⟨Cl.f⟩
mutual
inductive E where
 | var (i:Nat) | con (d:D) | bin (op:Operator) (a b:E) | neg (a:E) | not (a:E) | one (a:E) | and (a b:E) | or (a b:E) | cmp (op:CmpOp) (a b:E) | ite (c:T) (a b:E)
 | idx (a i:E) | sli (a:E) (lo hi:O) | rvs (a:E) | stp (n:Int) (a:E) (lo hi:O) | lst (l:Es) | tup (l:Es) | call (f:Str) (l:Es) | calF (f:Str) (l:Es) | calN (f:Str) (l:Es) | b1 (f:B1) (a:E) | b2 (f:B2) (a b:E) | isi (t:Ty) (a:E) | isc (t:Str) (a:E) | isn (ts:List Str) (a:E) | fld (a:E) (x:Str) | met (a:E) (x:Str) (l:Es) | new (f:Str) (l:Es) | fst (l:Es) | dct (ks:List Str) (l:Es) | comp (x:E) (src:I) (tg:Tg) (c:F) (n:Nat) (fr:List Nat)
inductive Es where
 | nil | cons (a:E) (l:Es)
inductive T where
 | not (a:T) | one (a:T) | and (a b:T) | or (a b:T) | cmp (op:CmpOp) (a b:E) | chn (op op':CmpOp) (a b c:E) | val (a:E)
inductive O where
 | none | some (a:E)
inductive F where
 | yes | test (c:T)
inductive I where
 | nam (i:Nat) | seq (a:E) | rng (a:E) | rng2 (a b:E) | rng3 (a b c:E) | enum (a:E) | zip (a b:E) | rev (a:E)
end
noncomputable def slR(ρ:Env)(i:Nat):R Rv:=match ρ[i]? with
 |some (.val d)=>.ok (.val d)
 |some (.own l)=>.ok (.cell l)
 |some (.bor l)=>.ok (.cell l)
 |some (.scr l)=>.ok (.scr l)
 |some (.obj a c ns l)=>.ok (.obj a c ns l)
 |_=>.no
noncomputable def slE(ρ:Env)(i:Nat):R (D×Env):=match ρ[i]? with
 |some (.val d)=>.ok (d,ρ)
 |some (.own l)=>.ok (.lst l,ρ.set i (.val (.lst l)))
 |_=>.no
noncomputable def slL(ρ:Env)(i:Nat):R ((Sk×List D)×Env):=match ρ[i]? with
 |some (.val (.lst l))=>.ok ((.lst,l),ρ)
 |some (.val (.tup l))=>.ok ((.tup,l),ρ)
 |some (.val (.str z))=>.ok ((.str,qah z),ρ)
 |some (.own l)=>.ok ((.lst,l),ρ.set i (.val (.lst l)))
 |some (.bor l)=>.ok ((.lst,l),ρ)
 |some (.scr l)=>.ok ((.lst,l),ρ)
 |_=>.no
noncomputable def slX(ρ:Env)(i:Nat):R Rv:=match ρ[i]? with
 |some (.val d)=>.ok (.val d)
 |some (.own l)=>.ok (.tmp l)
 |_=>.no
noncomputable def B1.go:B1->Rv->R Rv
 |.len=>lenD
 |.list=>listD
 |.int=>intD
 |.srt=>qcR
 |.sum=>qi9
 |.all=>qja
 |.str=>strD
 |.tup=>tupD
 |.any=>qjb
 |.sst=>qi8
 |.rpr=>rprD
def B2.go:B2->Rv->Rv->R Rv
 |.max=>maxD
 |.min=>minD
 |.get n=>qhj n
 |.rng=>lrD
 |.inr=>qjf
noncomputable def Ty.of:Ty->D->Option Bool
 |_,.ins ..=>none
 |_,.exc ..=>none
 |_,.dct ..=>none
 |.int,.int _=>some true
 |.int,.bl _=>some true
 |.bool,.bl _=>some true
 |.str,.str _=>some true
 |.list,.lst _=>some true
 |.tuple,.tup _=>some true
 |_,_=>some false
def Ty.go(t:Ty):Rv->Option Bool
 |.scr _=>none
 |r=>t.of r.data
noncomputable def Jh:List Nat->List D->Env->R Env
 |[],[],ρ=>.ok ρ
 | i::l,d::ds,ρ=>Jh l ds (ρ.set i (.val d))
 |_,_,_=>.no
noncomputable def Tg.go:Tg->D->Env->R Env
 |.one i,d,ρ=>.ok (ρ.set i (.val d))
 |.many l,.tup ds,ρ=>Jh l ds ρ
 |_,_,_=>.no
noncomputable def toAr:Rv->Ar
 |.val d=>.val d
 |.tmp l=>.val (.lst l)
 |.cell l=>.bor l
 |.scr l=>.scr l
 |.obj a c ns l=>.obj a c ns l
def QL(n:Nat)(fr:List Nat)(ρ:Env):Env:=List.replicate n Sl.no++fr.map λi=>qgL (ρ.getD i .no)
noncomputable def qd4(x:Rv×Env):R (D×Env):=match x.1 with
 |.val d=>.ok (d,x.2)
 |.tmp l=>.ok (.lst l,x.2)
 |_=>.no
noncomputable def qif(x:Rv×Env):R ((Sk×List D)×Env):=match x.1 with
 |.val (.lst l)=>.ok ((.lst,l),x.2)
 |.val (.tup l)=>.ok ((.tup,l),x.2)
 |.val (.str z)=>.ok ((.str,qah z),x.2)
 |.tmp l=>.ok ((.lst,l),x.2)
 |_=>.no
noncomputable def zR(e:E)(r:Env->R (Rv×Env))(ρ:Env):R (D×Env):=match e with
 |.var i=>slE ρ i
 |.con d=>.ok (d,ρ)
 |_=>(r ρ).th qd4
noncomputable def JZ(e:E)(r:Env->R (Rv×Env))(ρ:Env):R ((Sk×List D)×Env):=match e with
 |.var i=>slL ρ i
 |_=>(r ρ).th qif
mutual
noncomputable def iR(cl:Cl):E->Env->R (Rv×Env)
 |.var i,ρ=>(slR ρ i).th λr=>.ok (r,ρ)
 |.con d,ρ=>.ok (.val d,ρ)
 |.bin op a b,ρ=>(iR cl a ρ).th λx=>(iR cl b x.2).th λy=>(Qb op x.1 y.1).th λr=>.ok (r,y.2)
 |.neg a,ρ=>(iR cl a ρ).th λx=>match x.1 with
  |.val (.int i)=>.ok (.val (.int (-i)),x.2)
  |_=>.no
 |.not a,ρ=>(iR cl a ρ).th λx=>match x.1 with
  |.val (.bl b)=>.ok (.val (.bl (!b)),x.2)
  |_=>.no
 |.one a,ρ=>iR cl a ρ
 |.and a b,ρ=>(iR cl a ρ).th λx=>match x.1 with
  |.val (.bl true)=>iR cl b x.2
  |.val (.bl false)=>.ok (.val (.bl false),x.2)
  |_=>.no
 |.or a b,ρ=>(iR cl a ρ).th λx=>match x.1 with
  |.val (.bl false)=>iR cl b x.2
  |.val (.bl true)=>.ok (.val (.bl true),x.2)
  |_=>.no
 |.cmp op a b,ρ=>(iR cl a ρ).th λx=>(iR cl b x.2).th λy=>(R.of (yJ op x.1 y.1)).th λr=>.ok (.val (.bl r),y.2)
 |.ite c a b,ρ=>(iT cl c ρ).th λt=>if t.1 then iR cl a t.2 else iR cl b t.2
 |.idx a i,ρ=>(iR cl a ρ).th λx=>(iR cl i x.2).th λy=>(idxD x.1 y.1).th λr=>.ok (r,y.2)
 |.sli a lo hi,ρ=>(iR cl a ρ).th λx=>(iO cl lo x.2).th λl=>(iO cl hi l.2).th λh=>(sliceD x.1 l.1 h.1).th λr=>.ok (r,h.2)
 |.stp n a lo hi,ρ=>(iR cl a ρ).th λx=>(iO cl lo x.2).th λl=>(iO cl hi l.2).th λh=>(R.of x.1.list?).th λd=>.ok (.tmp (qhh d l.1 h.1 n),h.2)
 |.rvs a,ρ=>(iR cl a ρ).th λx=>(R.of x.1.list?).th λl=>.ok (.tmp l.reverse,x.2)
 |.lst l,ρ=>(iEs cl l ρ).th λx=>if x.1.length<=sizeLine then .ok (.tmp x.1,x.2) else .no
 |.tup l,ρ=>(iEs cl l ρ).th λx=>if x.1.length<=sizeLine then .ok (.val (.tup x.1),x.2) else .no
 |.call f l,ρ=>(iAs cl l ρ).th λx=>(cl f x.1).th λr=>.ok (r,x.2)
 |.calF f l,ρ=>(iEs cl l ρ).th λx=>(cl f (x.1.map .val)).th λr=>.ok (r,x.2)
 |.calN f l,ρ=>(iAs cl l ρ).th λx=>(noX (cl f x.1)).th λr=>.ok (qjg x.1 r,x.2)
 |.b1 f a,ρ=>(iR cl a ρ).th λx=>(f.go x.1).th λr=>.ok (r,x.2)
 |.b2 f a b,ρ=>(iR cl a ρ).th λx=>(noX (iR cl b x.2)).th λy=>(f.go x.1 y.1).th λr=>.ok (r,y.2)
 |.isi t a,ρ=>(iR cl a ρ).th λx=>(R.of (t.go x.1)).th λb=>.ok (.val (.bl b),x.2)
 |.isc t a,ρ=>(noX (iR cl a ρ)).th λx=>(R.of (qcP cl.cs x.1 t)).th λb=>.ok (.val (.bl b),x.2)
 |.isn ts a,ρ=>(noX (iR cl a ρ)).th λx=>(R.of (qi4 cl.cs x.1 ts)).th λb=>.ok (.val (.bl b),x.2)
 |.fld a x,ρ=>(noX (iR cl a ρ)).th λy=>(R.of (qgJ cl.cs y.1 x)).th λd=>.ok (d,y.2)
 |.met a x l,ρ=>(iR cl a ρ).th λy=>match mtD cl.cs y.1 x with
  |some f=>(iAs cl l y.2).th λz=>(cl f (toAr y.1::z.1)).th λr=>.ok (r,z.2)
  |none=>(noX (iAs cl l y.2)).th λz=>(noX (bmD x y.1 z.1)).th λr=>.ok (r,z.2)
 |.new f l,ρ=>(ifX cl.y (iAs cl l ρ)).th λx=>(cl.nw f x.1).th λr=>.ok (r,x.2)
 |.fst l,ρ=>(noX (iEs cl l ρ)).th λx=>(R.of (qie Str.empty x.1)).th λz=>.ok (.val (.str z),x.2)
 |.dct ks l,ρ=>(iEs cl l ρ).th λx=>.ok (.val (.dct ks x.1),x.2)
 |.comp e src tg c n fr,ρ=>(iI cl src ρ).th λx=>if x.1.length<=sizeLine then (noX (ZG tg.go (λρ1=>iF cl c ρ1) (zR e (iR cl e)) x.1 (QL n fr x.2) [])).th λl=>.ok (.tmp l,x.2) else .no
noncomputable def iT(cl:Cl):T->Env->R (Bool×Env)
 |.not a,ρ=>(iT cl a ρ).th λt=>.ok (!t.1,t.2)
 |.one a,ρ=>iT cl a ρ
 |.and a b,ρ=>(iT cl a ρ).th λt=>if t.1 then iT cl b t.2 else .ok (false,t.2)
 |.or a b,ρ=>(iT cl a ρ).th λt=>if t.1 then .ok (true,t.2) else iT cl b t.2
 |.cmp op a b,ρ=>(iR cl a ρ).th λx=>(iR cl b x.2).th λy=>(R.of (yJ op x.1 y.1)).th λr=>.ok (r,y.2)
 | .chn op op' a b c,ρ=>(iR cl a ρ).th λx=>(iR cl b x.2).th λy=>(R.of (yJ op x.1 y.1)).th λr=>if r=true then (iR cl c y.2).th λz=>(R.of (yJ op' y.1 z.1)).th λr'=>.ok (r',z.2) else .ok (false,y.2)
 |.val a,ρ=>(iR cl a ρ).th λx=>(R.of (truthD x.1)).th λb=>.ok (b,x.2)
noncomputable def iEs(cl:Cl):Es->Env->R (List D×Env)
 |.nil,ρ=>.ok ([],ρ)
 |.cons e l,ρ=>(zR e (iR cl e) ρ).th λx=>(iEs cl l x.2).th λy=>.ok (x.1::y.1,y.2)
noncomputable def iAs(cl:Cl):Es->Env->R (List Ar×Env)
 |.nil,ρ=>.ok ([],ρ)
 |.cons e l,ρ=>(iR cl e ρ).th λx=>(iAs cl l x.2).th λy=>.ok (toAr x.1::y.1,y.2)
noncomputable def iO(cl:Cl):O->Env->R (Option Int×Env)
 |.none,ρ=>.ok (none,ρ)
 |.some e,ρ=>(iR cl e ρ).th λx=>match x.1 with
  |.val (.int i)=>.ok (some i,x.2)
  |_=>.no
noncomputable def iF(cl:Cl):F->Env->R (Bool×Env)
 |.yes,ρ=>.ok (true,ρ)
 |.test c,ρ=>iT cl c ρ
noncomputable def iI(cl:Cl):I->Env->R (List D×Env)
 |.nam i,ρ=>(slC ρ i).th λl=>.ok (l,ρ)
 |.seq a,ρ=>(JZ a (iR cl a) ρ).th λx=>.ok (x.1.2,x.2)
 |.rng a,ρ=>(iR cl a ρ).th λx=>(match x.1.int? with
  |some n=>if qO n=true then .ok (qN 0 n,x.2) else .no
  |none=>.no)
 |.rng3 a b c,ρ=>(iR cl a ρ).th λx=>(iR cl b x.2).th λy=>(iR cl c y.2).th λz=>(rg3 x.1 y.1 z.1).th λl=>.ok (l,z.2)
 |.rng2 a b,ρ=>(iR cl a ρ).th λx=>(iR cl b x.2).th λy=>(match x.1.int?,y.1.int? with
  |some i,some j=>if qO i=true/\qO j=true then .ok (qN i j,y.2) else .no
  |_,_=>.no)
 |.enum a,ρ=>(JZ a (iR cl a) ρ).th λx=>match x.1.1 with |.lst=>.ok (zw x.1.2,x.2) |_=>.no
 |.rev a,ρ=>(JZ a (iR cl a) ρ).th λx=>match x.1.1 with |.lst=>.ok (x.1.2.reverse,x.2) |_=>.no
 |.zip a b,ρ=>(JZ a (iR cl a) ρ).th λx=>(JZ b (iR cl b) x.2).th λy=>match x.1.1,y.1.1 with |.lst,.lst=>.ok (qje x.1.2 y.1.2,y.2) |_,_=>.no
end
inductive Xa where
 | nil | leaf (e:E) (r:Xa) | call (g:Str) (l:Es) (r:Xa)
noncomputable def iXa(cl:Cl):Xa->Env->R (List Ar×Env)
 |.nil,ρ=>.ok ([],ρ)
 |.leaf e r,ρ=>(noX (iR cl e ρ)).th λx=>(iXa cl r x.2).th λy=>.ok (toAr x.1::y.1,y.2)
 |.call g l r,ρ=>(noX (iAs cl l ρ)).th λx=>(cl g x.1).th λv=>(iXa cl r x.2).th λy=>.ok (toAr v::y.1,y.2)
mutual
inductive S where
 | pass | expr (e:E) | app (i:Nat) (e:E) | ext (i:Nat) (e:E) | clr (i:Nat) | ret (e:E) | retN | set (i:Nat) (e:E) | setT (tg:Tg) (e:E) | setI (i:Nat) (x e:E) | ite (c:T) (a b:Ss) | for_ (tg:Tg) (src:I) (b:Ss) | whl (c:T) (b:Ss) | rai (n:Str) (l:Es) | tryN (f:Str) (a:Xa) (c n:Str) (i:Nat) | try_ (b:Ss) (hs:List (Str×Nat×Nat)) | stuck
inductive Ss where
 | nil | cons (s:S) (l:Ss)
end
def yG(ρ:Env)(i:Nat):Option (List D):=match ρ[i]? with
 |some (.own l)=>some l
 |_=>none
noncomputable def qaL(e:E)(r:Env->R (Rv×Env))(ρ:Env):R Rv:=match e with
 |.var i=>slX ρ i
 |.con d=>.ok (.val d)
 |_=>(r ρ).th λx=>match x.1 with
  |.val d=>.ok (.val d)
  |.tmp l=>.ok (.tmp l)
  |_=>.no
noncomputable def QS(e:E)(r:Env->R (Rv×Env))(ρ:Env):R (Sl×Env):=match e with
 |.var i=>(slE ρ i).th λr=>.ok (.val r.1,r.2)
 |.con d=>.ok (.val d,ρ)
 |_=>(r ρ).th λx=>match x.1 with
  |.val d=>.ok (.val d,x.2)
  |.tmp l=>.ok (.own l,x.2)
  |_=>.no
def yK:D->Bool
 |.int i=>decide (i.natAbs.log2 < 1920)
 |.non=>true
 |_=>false
noncomputable def mkX(b:Bool)(cs:Cs)(n:Str)(ds:List D):R Fl:=match cs.xn n with
 |some []=>if ds.length<=sizeLine then .exc (cs.xa n) [] else .no
 |some ns=>if (b&&decide (ds.length=ns.length)&&decide (ds.length<=sizeLine)&&ds.all yK)=true then .exc (cs.xa n) (ns.zip ds) else .no
 |none=>.no
noncomputable def jg(cs:Cs)(n:Nat)(C:Addr)(l:List (Str×D)):List (Str×Nat×Nat)->R Fl
 |[]=>.no
 | h::hs=>match cs.xs C h.1 with
  |some true=>.ok (.next ((List.replicate n Sl.no).set h.2.2 (.val (.exc C (l.map (·.1)) (l.map (·.2))))))
  |some false=>jg cs n C l hs
  |none=>.no
noncomputable def jh(b:Bool)(cs:Cs)(C:Addr)(l:List (Str×D))(c n:Str)(d:D):R Fl:=match cs.xs C c with
 |some true=>(match cs.xn n with
  |some [nf]=>if (b&&cs.xh n&&yK d)=true then .exc (cs.xa n) [(nf,d)] else .no
  |_=>.no)
 |some false=>.exc C l
 |none=>.no
def qhk:R Rv->Option D
 |.ok (.val d)=>some d
 |_=>none
def qcT:Rv->R Fl
 |.val d=>.ok (.ret (.val d))
 |.tmp l=>.ok (.ret (.tmp l))
 |_=>.no
mutual
noncomputable def iS(cl:Cl)(w:Nat):S->Env->R Fl
 |.pass,ρ=>.ok (.next ρ)
 |.expr e,ρ=>(iR cl e ρ).th λx=>.ok (.next x.2)
 |.app i e,ρ=>(match yG ρ i with
  |none=>.no
  |some _=>(zR e (iR cl e) ρ).th λy=>(match yG y.2 i with
   |some l=>if l.length < sizeLine then .ok (.next (y.2.set i (.own (l++[y.1])))) else .no
   |none=>.no))
 |.ext i e,ρ=>(match yG ρ i with
  |none=>.no
  |some _=>(iR cl e ρ).th λy=>(match yG y.2 i,y.1.plain? with
   |some l,some n=>if l.length+n.length<=sizeLine then .ok (.next (y.2.set i (.own (l++n)))) else .no
   |_,_=>.no))
 |.clr i,ρ=>(match yG ρ i with
  |some _=>.ok (.next (ρ.set i (.own [])))
  |none=>.no)
 |.ret e,ρ=>(qaL e (iR cl e) ρ).th λr=>.ok (.ret r)
 |.retN,ρ=>.ok (.ret (.val .non))
 |.set i e,ρ=>(QS e (iR cl e) ρ).th λs=>.ok (.next (s.2.set i s.1))
 |.setT tg e,ρ=>(zR e (iR cl e) ρ).th λx=>(tg.go x.1 x.2).th λρ1=>.ok (.next ρ1)
 |.setI i x e,ρ=>(zR e (iR cl e) ρ).th λy=>(match yG y.2 i with
  |none=>.no
  |some _=>(iR cl x y.2).th λz=>(match yG z.2 i,z.1.int? with
   |some l,some n=>(match ixN l.length n with
    |some k=>.ok (.next (z.2.set i (.own (l.set k y.1))))
    |none=>.no)
   |_,_=>.no))
 |.ite c a b,ρ=>(iT cl c ρ).th λt=>if t.1 then iSs cl w a t.2 else iSs cl w b t.2
 |.for_ tg src b,ρ=>(iI cl src ρ).th λx=>qgM (λd ρ1=>(tg.go d ρ1).th λρ2=>iSs cl w b ρ2) x.1 x.2
 |.whl c b,ρ=>whL (λρ1=>iT cl c ρ1) (λρ1=>iSs cl w b ρ1) w ρ
 |.rai n l,ρ=>(noX (iEs cl l ρ)).th λx=>mkX cl.x cl.cs n x.1
 |.try_ b hs,ρ=>match iSs cl w b ρ with
  |.exc C l=>jg cl.cs ρ.length C l hs
  |r=>r
 |.tryN f a c n i,ρ=>(R.of (qhk (slR ρ i))).th λd=>if cl.x=true/\yK d=true then (match (iXa cl a ρ).th λx=>(cl f x.1).th qcT with
   |.exc C l=>jh cl.x cl.cs C l c n d
   |r=>r) else .no
 |.stuck,_=>.no
noncomputable def iSs(cl:Cl)(w:Nat):Ss->Env->R Fl
 |.nil,ρ=>.ok (.next ρ)
 |.cons s l,ρ=>(iS cl w s ρ).th λf=>match f with
  |.next ρ1=>iSs cl w l ρ1
  |.ret r=>.ok (.ret r)
end
end DE
namespace DE
open PySem L2
noncomputable def o2{α β γ:Type}(a:Option α)(b:Option β)(f:α->β->γ):Option γ:=match a,b with
 |some x,some y=>some (f x y)
 |_,_=>none
theorem qi{α β γ:Type}{a:Option α}{b:Option β}{f:α->β->γ}{z:γ}(h:o2 a b f=some z):∃x y,a=some x/\b=some y/\f x y=z:=by
 cases a with
 |none=>cases h
 |some x=>
  cases b with
  |none=>cases h
  |some y=>exact⟨x,y,rfl,rfl,Option.some.inj h⟩
theorem qg{α:Type}{c:Bool}{a:Option α}{z:α}(h:oif c a=some z):c=true/\a=some z:=by
 cases c with
 |true=>exact⟨rfl,h⟩
 |false=>cases h
def Ct.k(Γ:Ct):Cl:=⟨Γ.cl,Γ.cs,Γ.nw,Γ.x,Γ.y⟩
noncomputable def cC(Γ:Ct)(it:Expr)(r:Option I):Option I:=match isF Γ it with
 |some i=>some (.nam i)
 |none=>r
noncomputable def YH(Γ:Ct)(x:Str):Option E:=oif (qv x) (match Yt Γ.N x with
 |some i=>oif (Jg Γ.sc x) (some (.var i))
 |none=>oif (glB Γ.sc x) ((Γ.gl x).map .con))
noncomputable def qbD:Const->Option E
 |.none=>some (.con .non)
 |.bool b=>some (.con (.bl b))
 |.int i=>some (.con (.int i))
 |.str s=>some (.con (.str s))
 |_=>none
noncomputable def qgN(t:Str):Option Ty:=if t = "int" then some .int else if t = "bool" then some .bool else if t = "str" then some .str else if t = "list" then some .list else if t = "tuple" then some .tuple else none
noncomputable def qhl(f:Str):Option B1:=if f = "len" then some .len else if f = "list" then some .list else if f = "int" then some .int else none
def qhm(f:Str):Option B2:=if f = "min" then some .min else none
def qaj(Γ:Ct)(x:Str):Option Nat:=oif (qai Γ.sc x&&qv x) (Yt Γ.N x)
def qaM(Γ:Ct):List Str->Option (List Nat)
 |[]=>some []
 | x::l=>o2 (qaj Γ x) (qaM Γ l) (· :: ·)
noncomputable def cTg(Γ:Ct)(tg:Expr):Option Tg:=match tg with
 |.Name x _=>(qaj Γ x).map .one
 |.Tuple es j p=>oif (!es.any qD) (match qW (.Tuple es j p) with
  |some xs=>(qaM Γ xs).map .many
  |none=>none)
 |_=>none
def Ji:E->Option E
 |.var _=>none
 |e=>some e
def qjh:Expr->Bool
 |.Name ..=>true
 |_=>false
noncomputable def cFs(g:Expr->Option E):List Expr->Option Es
 |[]=>some .nil
 | .Constant (.str z) _ _::l=>(cFs g l).map (.cons (.con (.str z)))
 | .FormattedValue e i none _::l=>if i=114 then oif (qjh e) (o2 (g e) (cFs g l) λa r=>.cons (.b1 .rpr a) r) else oif (decide (i = -1)) (o2 (g e) (cFs g l) .cons)
 |_=>none
def cVs(g:Expr->Option E):List Expr->Option Es
 |[]=>some .nil
 | e::l=>o2 (g e) (cVs g l) .cons
noncomputable def cKs:List (Option Expr)->Option (List Str)
 |[]=>some []
 | some (.Constant (.str z) _ _)::l=>(cKs l).map (z :: ·)
 |_=>none
mutual
noncomputable def cE:Nat->Ct->Expr->Option E
 |0,_,_=>none
 | m+1,Γ,e=>match e with
  |.Name x _=>YH Γ x
  |.Constant c _ _=>qbD c
  |.BinOp a op b _=>o2 (cE m Γ a) (cE m Γ b) (E.bin op)
  |.UnaryOp .USub a _=>(cE m Γ a).map .neg
  |.UnaryOp .Not a _=>(cE m Γ a).map .not
  |.BoolOp _ [a] _=>(cE m Γ a).map .one
  | .BoolOp .And (a::b::l) p=>o2 (cE m Γ a) (cE m Γ (.BoolOp .And (b::l) p)) .and
  | .BoolOp .Or (a::b::l) p=>o2 (cE m Γ a) (cE m Γ (.BoolOp .Or (b::l) p)) .or
  |.Compare a [op] [b] _=>oif (!behindInMarks op b) (o2 (cE m Γ a) (cE m Γ b) (E.cmp op))
  |.IfExp ..=>none
  |.Subscript a (.Slice lo hi none _) _=>o2 (cE m Γ a) (o2 (cO m Γ lo) (cO m Γ hi) Prod.mk) λa p=>.sli a p.1 p.2
  |.Subscript _ (.Slice _ _ (some _) _) _=>none
  |.Subscript a i _=>o2 (cE m Γ a) (cE m Γ i) .idx
  |.List es _=>(cEs m Γ es).map .lst
  |.Tuple es _ _=>(cEs m Γ es).map .tup
  |.Call (.Name f p) es [] _=>oif (qv f&&glB Γ.sc f&&(Yt Γ.N f).isNone) (
    if f = "isinstance" then (match es with
     |[a,b]=>(match b with
      |.Name t _=>oif (qv t&&glB Γ.sc t&&(Yt Γ.N t).isNone&&!qD a) (match qgN t with |some y=>(cE m Γ a).map (.isi y) |none=>(cE m Γ a).map (.isc t))
      |_=>none)
     |_=>none)
    else if Γ.tab.contains f=true then (cAs m Γ es).map (.call f)
    else if Γ.cs.tab.contains f=true then (cAs m Γ es).map (.new f)
    else match es with
     |[a]=>(match lrE Γ f a with
      |some t=>o2 (cE m Γ t.1) (cE m Γ t.2) (.b2 .rng)
      |none=>(match ssE Γ f a with
       |some t=>(cE m Γ t).map (.b1 .sst)
       |none=>oif (!qD a) (o2 (qhl f) (cE m Γ a) .b1)))
     |[a,b]=>oif (!(qD a||qD b)) (o2 (qhm f) (o2 (cE m Γ a) (cE m Γ b) Prod.mk) λf p=>.b2 f p.1 p.2)
     |_=>none)
  |.Attribute o x _=>oif (jH o) ((cE m Γ o).map λa=>.fld a x)
  |.Call (.Attribute o x ap) es [] q=>if (jH o&&(ap.endLine == q.line)&&decide (es.length < 30))=true then (o2 (cE m Γ o) (cAs m Γ es) λa l=>.met a x l)
   else match dgE Γ o x es (ap.endLine == q.line) with
    |some t=>o2 (cE m Γ t.1) (cE m Γ t.2.1) (.b2 (.get t.2.2))
    |none=>none
  |.ListComp elt [g] sc _=>oif (decide (g.is_async=0)) (match qW g.target with
   |some own=>oif (jX Γ.sc Γ.N (yF Γ.N sc) sc&&decide (own++(yF Γ.N sc).map λi=>Γ.N.getD i "").Nodup&&JY g.iter)
     (o2 (o2 (cC Γ g.iter (cI m Γ (qbA g.target) g.iter)) (cTg { Γ with N:=own++(yF Γ.N sc).map λi=>Γ.N.getD i "",sc:=sc } g.target) Prod.mk)
      (o2 (cF m { Γ with N:=own++(yF Γ.N sc).map λi=>Γ.N.getD i "",sc:=sc } g.ifs) (cX m { Γ with N:=own++(yF Γ.N sc).map λi=>Γ.N.getD i "",sc:=sc } elt) Prod.mk)
      λp q=>.comp q.2 p.1 p.2 q.1 own.length (yF Γ.N sc))
   |none=>none)
  |_=>none
noncomputable def cX:Nat->Ct->Expr->Option E
 |0,_,_=>none
 | m+1,Γ,e=>match e with
  |.Name x _=>YH Γ x
  |e=>(cE m Γ e).bind Ji
noncomputable def cT:Nat->Ct->Expr->Option T
 |0,_,_=>none
 | m+1,Γ,e=>match e with
  |.UnaryOp .Not a _=>(cT m Γ a).map .not
  |.BoolOp _ [a] _=>(cT m Γ a).map .one
  | .BoolOp .And (a::b::l) p=>o2 (cT m Γ a) (cT m Γ (.BoolOp .And (b::l) p)) .and
  | .BoolOp .Or (a::b::l) p=>o2 (cT m Γ a) (cT m Γ (.BoolOp .Or (b::l) p)) .or
  |.BoolOp _ [] _=>none
  |.IfExp ..=>none
  |.Compare a [op] [b] _=>(match irE Γ op b with
   |some t=>o2 (cE m Γ a) (cE m Γ t) (λx y=>.val (.b2 .inr x y))
   |none=>oif (!behindInMarks op b) (o2 (cE m Γ a) (cE m Γ b) (T.cmp op)))
  |.Compare ..=>none
  |e=>(cE m Γ e).map .val
noncomputable def cEs:Nat->Ct->List Expr->Option Es
 |0,_,_=>none
 | m+1,Γ,es=>match es with
  |[]=>some .nil
  | e::l=>oif (!qD e) (o2 (cX m Γ e) (cEs m Γ l) .cons)
noncomputable def cAs:Nat->Ct->List Expr->Option Es
 |0,_,_=>none
 | m+1,Γ,es=>match es with
  |[]=>some .nil
  | e::l=>oif (!qD e) (o2 (cE m Γ e) (cAs m Γ l) .cons)
noncomputable def cO:Nat->Ct->Option Expr->Option O
 |0,_,_=>none
 | m+1,Γ,o=>match o with
  |none=>some .none
  |some e=>(cE m Γ e).map .some
noncomputable def cF:Nat->Ct->List Expr->Option F
 |0,_,_=>none
 | m+1,Γ,es=>match es with
  |[]=>some .yes
  |[c]=>(cT m Γ c).map .test
  |_=>none
noncomputable def cL:Nat->Ct->Expr->Option E
 |0,_,_=>none
 | m+1,Γ,e=>match e with
  |.Name x _=>(qd2 Γ x).map .var
  |e=>(cE m Γ e).bind Ji
noncomputable def cI:Nat->Ct->Bool->Expr->Option I
 |0,_,_,_=>none
 | m+1,Γ,tb,e=>match e with
  |.Call (.Name f p) es [] q=>if f = "range" || f = "enumerate" || f = "zip" || f = "reversed" then oif (qv f&&glB Γ.sc f&&(Yt Γ.N f).isNone) (match es with
    |[a]=>oif (!qD a) (if f = "range" then (cE m Γ a).map .rng else if f = "enumerate" then oif tb ((cL m Γ a).map .enum) else none)
    |_=>none)
   else (cL m Γ (.Call (.Name f p) es [] q)).map .seq
  |e=>(cL m Γ e).map .seq
end
def cV(m:Nat)(Γ:Ct)(e:Expr):Option E:=match e with
 |.Name x _=>YH Γ x
 |e=>(cE m Γ e).bind Ji
theorem map_some{α β:Type}{o:Option α}{f:α->β}{z:β}(h:o.map f=some z):∃x,o=some x/\f x=z:=Option.map_eq_some_iff.mp h
noncomputable abbrev VE:=(Str×Pos) ⊕ (Expr×List Expr×List Keyword×Pos) ⊕ (Expr×Str×Pos) ⊕ (List Expr×Pos) ⊕ (Expr×Int×Option Expr×Pos) ⊕ (Const×Nat×Pos)
noncomputable def vE:Expr->Option VE
 |.Name x p=>some (.inl (x,p))
 |.Call f l k p=>some (.inr (.inl (f,l,k,p)))
 |.Attribute o a p=>some (.inr (.inr (.inl (o,a,p))))
 |.JoinedStr l p=>some (.inr (.inr (.inr (.inl (l,p)))))
 |.FormattedValue e i f p=>some (.inr (.inr (.inr (.inr (.inl (e,i,f,p))))))
 |.Constant c k p=>some (.inr (.inr (.inr (.inr (.inr (c,k,p))))))
 |_=>none
noncomputable def bE:VE->Expr
 |.inl t=>.Name t.1 t.2
 |.inr (.inl t)=>.Call t.1 t.2.1 t.2.2.1 t.2.2.2
 |.inr (.inr (.inl t))=>.Attribute t.1 t.2.1 t.2.2
 |.inr (.inr (.inr (.inl t)))=>.JoinedStr t.1 t.2
 |.inr (.inr (.inr (.inr (.inl t))))=>.FormattedValue t.1 t.2.1 t.2.2.1 t.2.2.2
 |.inr (.inr (.inr (.inr (.inr t))))=>.Constant t.1 t.2.1 t.2.2
theorem vb(e:Expr):((vE e).elim True λt=>e=bE t):=by cases e<;>first | trivial | rfl
theorem ZI{e:Expr}{t:VE}(h:vE e=some t):e=bE t:=by
 have:=vb e
 rw[h] at this;exact this
noncomputable def vS:Stmt->Option ((List Expr×Expr×Pos) ⊕ (Expr×Pos))
 |.Assign l x p=>some (.inl (l,x,p))
 |.Expr x p=>some (.inr (x,p))
 |_=>none
theorem vsb(s:Stmt):((vS s).elim True λt=>s=t.elim (λt=>.Assign t.1 t.2.1 t.2.2) λt=>.Expr t.1 t.2):=by cases s<;>first | trivial | rfl
theorem bind_some{α β:Type}{x:Option α}{f:α->Option β}{b:β}(h:x.bind f=some b):∃a,x=some a/\f a=some b:=by
 cases x with
 |none=>cases h
 |some a=>exact⟨a,rfl,h⟩
def nmE(e:Expr):Option Str:=(vE e).bind (·.elim (λt=>some t.1) λ_=>none)
theorem zx{e:Expr}{x:Str}(h:nmE e=some x):∃p,e=.Name x p:=by
 obtain⟨t,h1,h2⟩:=bind_some h
 have:=ZI h1
 cases t with
 |inl t=>cases h2;exact⟨_,this⟩
 |inr t=>cases h2
noncomputable def caE(e:Expr):Option (Expr×List Expr×List Keyword×Pos):=(vE e).bind (·.elim (λ_=>none) (·.elim some λ_=>none))
theorem qbE{e:Expr}{t:Expr×List Expr×List Keyword×Pos}(h:caE e=some t):e=.Call t.1 t.2.1 t.2.2.1 t.2.2.2:=by
 obtain⟨u,h1,h2⟩:=bind_some h
 have:=ZI h1
 match u,h2 with
 |.inr (.inl t),h2=>cases h2;exact this
 |.inl _,h2=>cases h2
 |.inr (.inr _),h2=>cases h2
def asS(s:Stmt):Option (List Expr×Expr×Pos):=(vS s).bind (·.elim some λ_=>none)
theorem qeR{s:Stmt}{t:List Expr×Expr×Pos}(h:asS s=some t):s=.Assign t.1 t.2.1 t.2.2:=by
 obtain⟨u,h1,h2⟩:=bind_some h
 have:=vsb s
 rw[h1] at this
 cases u with
 |inl u=>cases h2;exact this
 |inr u=>cases h2
noncomputable def cN(x:Expr):Option (Str×Expr×List Expr):=(caE x).bind λt=>(nmE t.1).bind λn=>match t.2.1 with
 | e::es=>oif t.2.2.1.isEmpty (some (n,e,es))
 |[]=>none
theorem qhn{x:Expr}{t:Str×Expr×List Expr}(h:cN x=some t):∃np cp,x=.Call (.Name t.1 np) (t.2.1::t.2.2) [] cp:=by
 obtain⟨⟨f,l,k,p⟩,h1,h⟩:=bind_some h;obtain⟨n,h2,h⟩:=bind_some h;obtain⟨np,rfl⟩:=zx h2;have h1:=qbE h1
 cases l with
 |nil=>cases h
 |cons e es=>
  obtain⟨hk,h⟩:=qg h
  cases k with
  |nil=>cases h;exact⟨np,p,h1⟩
  |cons _ _=>cases hk
noncomputable def aN(s:Stmt):Option (Expr×Expr):=(asS s).bind λt=>match t.1 with
 |[v]=>some (v,t.2.1)
 |_=>none
theorem qeS{s:Stmt}{t:Expr×Expr}(h:aN s=some t):∃p,s=.Assign [t.1] t.2 p:=by
 obtain⟨⟨l,x,p⟩,h1,h⟩:=bind_some h;have h1:=qeR h1
 match l,h with
 |[v],h=>cases h;exact⟨p,h1⟩
 |[],h=>cases h
 | _::_::_,h=>cases h
noncomputable def cH:ExceptHandler->Option (Str×Str×Str×Str)
 |.ExceptHandler ty nm b _=>ty.bind λte=>nm.bind λn=>match b with
  |[s]=>(nmE te).bind λt=>(aN s).bind λq=>(nmE q.1).bind λv=>(nmE q.2).bind λn2=>some (t,n,v,n2)
  |_=>none
theorem qho{hd:ExceptHandler}{q:Str×Str×Str×Str}(h:cH hd=some q):∃tp vp np ap hp,hd=.ExceptHandler (some (.Name q.1 tp)) (some q.2.1) [.Assign [.Name q.2.2.1 vp] (.Name q.2.2.2 np) ap] hp:=by
 obtain⟨ty,nm,b,hp⟩:=hd;obtain⟨te,rfl,h⟩:=bind_some h;obtain⟨n,rfl,h⟩:=bind_some h
 match b,h with
 |[s],h=>obtain⟨t,h1,h⟩:=bind_some h;obtain⟨⟨v',x'⟩,h2,h⟩:=bind_some h;obtain⟨v,h3,h⟩:=bind_some h;obtain⟨n2,h4,h⟩:=bind_some h;obtain⟨tp,rfl⟩:=zx h1;obtain⟨ap,rfl⟩:=qeS h2;obtain⟨vp,rfl⟩:=zx h3;obtain⟨np,rfl⟩:=zx h4;cases h;exact⟨tp,vp,np,ap,hp,rfl⟩
 |[],h=>cases h
 | _::_::_,h=>cases h
noncomputable def cHs(Γ:Ct):List ExceptHandler->Option (List (Str×Nat×Nat))
 |[]=>some []
 | hd::hs=>(cH hd).bind λq=>oif (decide (q.2.2.2=q.2.1)&&decide (q.2.2.1≠q.2.1)&&decide (q.1≠"ValueError")&&qv q.1&&glB Γ.sc q.1&&qv q.2.1&&(Γ.sc.names.lookup q.2.1 == some .local)) (o2 (o2 (qaj Γ q.2.1) (qaj Γ q.2.2.1) Prod.mk) (cHs Γ hs) λp r=>(q.1,p.1,p.2)::r)
def rtE:Stmt->Option Expr
 |.Return o _=>o
 |_=>none
theorem qji(s:Stmt):(rtE s).elim True λe=>∃p,s=.Return (some e) p:=by
 cases s with
 |Return o p=>cases o with
  |none=>exact True.intro
  |some e=>exact⟨p,rfl⟩
 |_=>exact True.intro
def raE:Stmt->Option (Expr×Expr)
 |.Raise (some x) (some y) _=>some (x,y)
 |_=>none
theorem qjj(s:Stmt):(raE s).elim True λt=>∃p,s=.Raise (some t.1) (some t.2) p:=by
 cases s with
 |Raise x y p=>cases x with
  |none=>exact True.intro
  |some x=>cases y with
   |none=>exact True.intro
   |some y=>exact⟨p,rfl⟩
 |_=>exact True.intro
def nnE(e:Expr):Bool:=match e with
 |.Constant .none _ _=>true
 |_=>false
theorem qjk(e:Expr):cond (nnE e) (∃j p,e=.Constant .none j p) True:=by
 cases e with
 |Constant c j p=>cases c with
  |none=>exact⟨j,p,rfl⟩
  |_=>exact True.intro
 |_=>exact True.intro
noncomputable def hdT:ExceptHandler->Option (Expr×List Stmt)
 |.ExceptHandler (some t) none b _=>some (t,b)
 |_=>none
theorem qjl(h:ExceptHandler):(hdT h).elim True λt=>∃p,h=.ExceptHandler (some t.1) none t.2 p:=by
 obtain⟨ty,nm,b,p⟩:=h
 cases ty with
 |none=>exact True.intro
 |some t=>cases nm with
  |none=>exact⟨p,rfl⟩
  |some _=>exact True.intro
noncomputable def trN(body:List Stmt)(hs:List ExceptHandler):Option ((Str×List Expr)×Str×Str×Str):=(one? body).bind λs=>(rtE s).bind λe=>(caV e).bind λt=>(one? hs).bind λh=>(hdT h).bind λq=>(nmE q.1).bind λc=>(one? q.2).bind λr=>(raE r).bind λu=>oif (nnE u.2) ((caV u.1).bind λy=>(one? y.2).bind λa=>(nmE a).bind λv=>some (t,c,y.1,v))
theorem qeT{body:List Stmt}{hs:List ExceptHandler}{t:(Str×List Expr)×Str×Str×Str}(h:trN body hs=some t):∃fp q rp cp hpos np cpos rpos kp np2 jj,
  body=[.Return (some (.Call (.Name t.1.1 fp) t.1.2 [] q)) rp]/\hs=[.ExceptHandler (some (.Name t.2.1 cp)) none [.Raise (some (.Call (.Name t.2.2.1 np) [.Name t.2.2.2 np2] [] cpos)) (some (.Constant .none jj kp)) rpos] hpos]:=by
 obtain⟨s,a1,h⟩:=bind_some h;have a1:=z7 (qgK body) a1;obtain⟨e,a2,h⟩:=bind_some h;obtain⟨rp,a2⟩:=z7 (qji s) a2;obtain⟨t',a3,h⟩:=bind_some h;obtain⟨fp,q,a3⟩:=ZF a3;obtain⟨hd,a4,h⟩:=bind_some h;have a4:=z7 (qgK hs) a4;obtain⟨qq,a5,h⟩:=bind_some h;obtain⟨hpos,a5⟩:=z7 (qjl hd) a5;obtain⟨c,a6,h⟩:=bind_some h;obtain⟨cp,a6⟩:=zx a6;obtain⟨r,a7,h⟩:=bind_some h;have a7:=z7 (qgK qq.2) a7;obtain⟨u,a8,h⟩:=bind_some h;obtain⟨rpos,a8⟩:=z7 (qjj r) a8;obtain⟨b1,h⟩:=qg h
 obtain⟨jj,kp,b1⟩:∃j p,u.2=.Constant .none j p:=by
  have:=qjk u.2
  rw[b1] at this;exact this
 obtain⟨y,a9,h⟩:=bind_some h;obtain⟨np,cpos,a9⟩:=ZF a9;obtain⟨a,c1,h⟩:=bind_some h;have c1:=z7 (qgK y.2) c1;obtain⟨v,c6,h⟩:=bind_some h;obtain⟨np2,c6⟩:=zx c6;cases h;refine⟨fp,q,rp,cp,hpos,np,cpos,rpos,kp,np2,jj,?_,?_⟩
 ·rw[a1,a2,a3]
 ·rw[a4,a5,a7,a8,a9,a6,b1,c1,c6]
noncomputable def cXa(m:Nat)(Γ:Ct):List Expr->Option Xa
 |[]=>some .nil
 | e::l=>oif (!qD e) (match caV e with
  |some t=>if (qv t.1&&glB Γ.sc t.1&&(Yt Γ.N t.1).isNone&&Γ.tab.contains t.1&&!t.2.isEmpty)=true then o2 (cAs m Γ t.2) (cXa m Γ l) (.call t.1) else o2 (cE m Γ e) (cXa m Γ l) .leaf
  |none=>o2 (cE m Γ e) (cXa m Γ l) .leaf)
noncomputable def cTn(m:Nat)(Γ:Ct)(q:(Str×List Expr)×Str×Str×Str):Option S:=oif (qv q.1.1&&glB Γ.sc q.1.1&&Γ.tab.contains q.1.1&&!q.1.2.isEmpty&&qv q.2.1&&glB Γ.sc q.2.1&&decide (q.2.1≠"ValueError")&&qv q.2.2.1&&glB Γ.sc q.2.2.1&&qv q.2.2.2&&Jg Γ.sc q.2.2.2)
 (o2 (cXa m Γ q.1.2) (Yt Γ.N q.2.2.2) λa i=>.tryN q.1.1 a q.2.1 q.2.2.1 i)
def xnB(Γ:Ct)(f:Str):Bool:=qv f&&glB Γ.sc f
mutual
noncomputable def cS:Nat->Ct->Stmt->Option S
 |0,_,_=>none
 | m+1,Γ,st=>match st with
  |.Pass _=>some .pass
  |.Expr e _=>(match e with
   |.Call (.Attribute (.Name x xp) meth ap) [a] [] cp=>oif (ap.endLine == cp.line&&!qD a) (
     if meth = "append" then o2 (qd2 Γ x) (cX m Γ a) .app
     else (cE m Γ (.Call (.Attribute (.Name x xp) meth ap) [a] [] cp)).map .expr)
   |.Call (.Attribute (.Name x _) meth ap) [] [] cp=>none
   |e=>oif (jx e) ((cE m Γ e).map .expr))
  |.Return (some e) _=>(cV m Γ e).map .ret
  |.Return none _=>some .retN
  |.Assign [tg] e _=>(match tg with
   |.Name x _=>o2 (qaj Γ x) (cV m Γ e) .set
   |.Tuple es j p=>oif (jx e&&ZH e) (o2 (cTg Γ (.Tuple es j p)) (cX m Γ e) .setT)
   |.Subscript ..=>none
   |_=>none)
  |.If c a b _=>o2 (cT m Γ c) (o2 (cSs m Γ a) (cSs m Γ b) Prod.mk) λc p=>.ite c p.1 p.2
  |.For tg it body [] _=>oif (!Γ.z&&JY it) (o2 (o2 (cTg Γ tg) (cI m Γ (qbA tg) it) Prod.mk) (cSs m Γ body) λp b=>.for_ p.1 p.2 b)
  |.Raise ex ca _=>some (match ex.bind cN,ca with
   |some t,none=>if (!Γ.z&&xnB Γ t.1)=true then (match cEs m Γ (t.2.1::t.2.2) with |some l=>.rai t.1 l |none=>.stuck) else .stuck
   |_,_=>.stuck)
  | .Try body (h::hs) [] [] _=>oif (!Γ.z) (match trN body (h::hs) with
   |some q=>cTn m Γ q
   |none=>(cSs m { Γ with z:=true } body).map λb=>.try_ b ((cHs Γ (h::hs)).getD []))
  |_=>none
noncomputable def cSs:Nat->Ct->List Stmt->Option Ss
 |0,_,_=>none
 | m+1,Γ,l=>match l with
  |[]=>some .nil
  | st::l=>o2 (cS m Γ st) (cSs m Γ l) .cons
end
def qjm:E->Bool
 |.var _=>true
 |_=>false
theorem qeU(e:E):(Ji e).elim True λz=>e=z/\qjm z=false:=by cases e<;>first | exact True.intro | exact⟨rfl,rfl⟩
theorem zh{e z:E}(h:Ji e=some z):e=z/\∀i,z≠.var i:=by have b:=qeU e;rw[h] at b;exact⟨b.1,λi q=>by rw[q] at b;cases b.2⟩
theorem qcU{z:E}(h:∀i,z≠.var i)(cl:Cl)(ρ:Env):zR z (iR cl z) ρ=(iR cl z ρ).th qd4:=by cases z<;>first | rfl | exact absurd rfl (h _)
theorem qcV{z:E}(h:∀i,z≠.var i)(cl:Cl)(ρ:Env):JZ z (iR cl z) ρ=(iR cl z ρ).th qif:=by cases z<;>first | rfl | exact absurd rfl (h _)
theorem qcW{z:E}(h:∀i,z≠.var i)(cl:Cl)(ρ:Env):qaL z (iR cl z) ρ=(iR cl z ρ).th λx=>match x.1 with
  |.val d=>.ok (.val d)
  |.tmp l=>.ok (.tmp l)
  |_=>.no:=by
 cases z<;>first | rfl | exact absurd rfl (h _)
theorem qcX{z:E}(h:∀i,z≠.var i)(cl:Cl)(ρ:Env):QS z (iR cl z) ρ=(iR cl z ρ).th λx=>match x.1 with
  |.val d=>.ok (.val d,x.2)
  |.tmp l=>.ok (.own l,x.2)
  |_=>.no:=by
 cases z<;>first | rfl | exact absurd rfl (h _)
end DE
namespace DE
open PySem L2
abbrev XW:=Addr->List (Str×D)->Prop
def X0:XW:=λ_ _=>False
noncomputable def Wx{α:Type}(Ξ:XW)(x:R α)(f:α->Prop):Prop:=match x with
 |.ok a=>f a
 |.exc c l=>Ξ c l
 |.no=>False
section
variable{α β:Type}{Ξ Ξ':XW}
theorem Wx.th{x:R α}{g:α->R β}{f:β->Prop}(h:Wx Ξ (x.th g) f):Wx Ξ x λa=>Wx Ξ (g a) f:=by cases x<;>exact h
theorem Wx.ht{x:R α}{g:α->R β}{f:β->Prop}(h:Wx Ξ x λa=>Wx Ξ (g a) f):Wx Ξ (x.th g) f:=by cases x<;>exact h
theorem Wx.mono{x:R α}{f g:α->Prop}(h:Wx Ξ x f)(i:∀a,f a->g a):Wx Ξ x g:=by
 cases x with
 |ok a=>exact i a h
 |exc c l=>exact h
 |no=>exact h
theorem Wx.mono2{x:R α}{f g:α->Prop}(h:Wx Ξ x f)(j:∀c l,Ξ c l->Ξ' c l)(i:∀a,f a->g a):Wx Ξ' x g:=by
 cases x with
 |ok a=>exact i a h
 |exc c l=>exact j c l h
 |no=>exact h
theorem Wx.of{x:Option α}{f:α->Prop}(h:Wx Ξ (R.of x) f):∃a,x=some a/\f a:=by
 cases x with
 |none=>exact h.elim
 |some a=>exact⟨a,rfl,h⟩
theorem Wx.iff{c:Prop}[Decidable c]{x:R α}{f:α->Prop}(h:Wx Ξ (if c then x else .no) f):c/\Wx Ξ x f:=by
 by_cases hc:c
 ·rw[if_pos hc] at h;exact⟨hc,h⟩
 ·rw[if_neg hc] at h;exact h.elim
theorem Wx.ifx{b:Bool}{x:R α}{f:α->Prop}(h:Wx Ξ (ifX b x) f):Wx Ξ x f:=by
 cases b with
 |true=>exact h
 |false=>
  cases x with
  |ok a=>exact h
  |exc c l=>exact h.elim
  |no=>exact h
theorem Wx.nox{x:R α}{f:α->Prop}(h:Wx Ξ (noX x) f):Wx Ξ' x f:=by
 cases x with
 |ok a=>exact h
 |exc c l=>exact h.elim
 |no=>exact h
end
noncomputable def qhp(κ:KC)(G:Hp)(od:Option Addr)(l:List (Str×D)):Prop:=(od=none/\l=[])\/∃dd xs,od=some dd/\G dd=some (xD dd ((l.map (·.1)).zip xs))/\qm κ G (l.map (·.2)) xs
noncomputable def XP(κ:KC)(Gv Hv:Hp)(ε:XK):XW:=λC l=>∀od G' H',qj Hv H'->qj Gv G'->qj G' H'->(∀a o,G' a=some o->(∃o',Gv a=some o')\/Hv a=none)->qhp κ G' od l->ε (.ref C) od H'
section
variable(κ:KC)(K:Frag)(ε:XK)(Gv Hv:Hp)
noncomputable def tR(f:Env->R (Rv×Env)):TE:=λσ H Q=>∃ρ G,ER κ K Gv Hv G H ρ σ/\Wx (XP κ Gv Hv ε) (f ρ) λx=>∀v G' H',Po κ K Gv Hv σ G H ρ G' H' x.2->RvR κ K Hv H G' H' x.2 σ x.1 v->Q v H'
noncomputable def tE(f:Env->R (D×Env)):TE:=λσ H Q=>∃ρ G,ER κ K Gv Hv G H ρ σ/\Wx (XP κ Gv Hv ε) (f ρ) λx=>∀v G' H',Po κ K Gv Hv σ G H ρ G' H' x.2->Rep κ G' x.1 v->Q v H'
noncomputable def tT(f:Env->R (Bool×Env)):TT:=λσ H Q=>∃ρ G,ER κ K Gv Hv G H ρ σ/\Wx (XP κ Gv Hv ε) (f ρ) λx=>∀G' H',Po κ K Gv Hv σ G H ρ G' H' x.2->Q x.1 H'
noncomputable def tEs(f:Env->R (List D×Env)):TA:=λσ H Q=>∃ρ G,ER κ K Gv Hv G H ρ σ/\Wx (XP κ Gv Hv ε) (f ρ) λx=>∀vs G' H',Po κ K Gv Hv σ G H ρ G' H' x.2->qm κ G' x.1 vs->Q vs H'
noncomputable def ArR(G H:Hp):Ar->V->Prop
 |.val d,v=>Rep κ G d v
 |.bor ds,v=>∃a xs,v=.ref a/\H a=some (.lst xs)/\qm κ G ds xs
 |.scr ds,v=>∃a xs,v=.ref a/\SqL K H a xs/\qm κ G ds xs
 |.obj p c ns l,v=>ObR κ G H (.ins p c ns l) v
noncomputable def Yu(G H:Hp):List Ar->List V->Prop
 |[],vs=>vs=[]
 | a::l,vs=>∃v r,vs=v::r/\ArR κ K G H a v/\Yu G H l r
noncomputable def tAs(f:Env->R (List Ar×Env)):TA:=λσ H Q=>∃ρ G,ER κ K Gv Hv G H ρ σ/\Wx (XP κ Gv Hv ε) (f ρ) λx=>∀vs G' H',Po κ K Gv Hv σ G H ρ G' H' x.2->Yu κ K G' H' x.1 vs->Q vs H'
noncomputable def tO(f:Env->R (Option Int×Env)):TO:=λσ H Q=>∃ρ G,ER κ K Gv Hv G H ρ σ/\Wx (XP κ Gv Hv ε) (f ρ) λx=>∀G' H',Po κ K Gv Hv σ G H ρ G' H' x.2->Q x.1 H'
noncomputable def SrR(G:Hp)(s:Sk×List D)(v:V):Prop:=match s.1 with
 |.str=>∃x,v=.str x/\s.2=qah x
 |.tup=>∃a xs,v=.ref a/\qm κ G s.2 xs/\G a=some (.tup xs)
 |.lst=>∃a xs,v=.ref a/\qm κ G s.2 xs/\(G a=some (.lst xs)\/SqL K Hv a xs)
noncomputable def tL(f:Env->R ((Sk×List D)×Env)):TE:=λσ H Q=>∃ρ G,ER κ K Gv Hv G H ρ σ/\Wx (XP κ Gv Hv ε) (f ρ) λx=>∀v G' H',Po κ K Gv Hv σ G H ρ G' H' x.2->SrR κ K Hv G' x.1 v->Q v H'
noncomputable def ItR(G₁:Hp)(J:It)(l:List D):Prop:=∀(i:Nat) (G H:Hp),qj G₁ G->qj Hv H->qj G H->
 (∀d,l[i]?=some d->J.go i H/\∀x H',J.yld i H x H'->∃G',qj H H'/\qj G G'/\qj G' H'/\(∀a o,G' a=some o->(∃o',G a=some o')\/H a=none)/\Rep κ G' d x)/\(l.length=i->J.stop i H)
noncomputable def tI(f:Env->R (List D×Env)):TI:=λσ H Q=>∃ρ G,ER κ K Gv Hv G H ρ σ/\Wx (XP κ Gv Hv ε) (f ρ) λx=>∀J G' H',Po κ K Gv Hv σ G H ρ G' H' x.2->ItR κ Hv G' J x.1->Q J H'
noncomputable def ReR(G' H' H:Hp):Rv->V->Prop
 |.val d,v=>Rep κ G' d v
 |.tmp ds,v=>∃a xs,v=.ref a/\H' a=some (.lst xs)/\H a=none/\G' a=none/\qm κ G' ds xs
 |_,_=>False
noncomputable def spF(cl:Str->List Ar->R Rv)(f:Str):Sp:=λvs H Q E=>∃G args,qj G H/\Yu κ K G H args vs/\
 Wx (XP κ G H E) (cl f args) λr=>∀v G' H',qj H H'->qj G G'->qj G' H'->(∀a o,G' a=some o->(∃o',G a=some o')\/H a=none)->ReR κ G' H' H r v->Q v H'
end
noncomputable def ZJ:List Str:=["len","list","tuple","int","bool","str","max","min","isinstance","range","enumerate","zip","sorted","sum","reversed","all","any","dict","set"]
structure Gd(κ:KC)(K:Frag)(ε:XK)(k:Nat)(X:Cx)(Γ:Ct):Prop where
 ps:zg (CX1 X.prog X.w) X ε
 hN:X.N=Γ.N
 vis:∀x,Jg Γ.sc x=true->Vis X.env.scope x
 loc:∀x,qai Γ.sc x=true->L2.Loc X.env.scope x/\(X.fn x=true\/X.env.scope.names.lookup x=some .local)
 glo:∀x,glB Γ.sc x=true->Gl X x
 cf:∀x,(Γ.sc.names.lookup x=some .cell\/Γ.sc.names.lookup x=some .free)->X.env.kindOf x=some .cell\/X.env.kindOf x=some .free
 nd:Γ.N.Nodup
 calm:X.calm=true
 hK:X.K=K
 room:Room k X.A
 fns:∀f,Γ.tab.contains f=true->∃fa fd ps,FnOk X.prog X.w X.K X.mg X.base (CX1 X.prog X.w) k fa fd ps (spF κ K Γ.cl f)/\X.mg f=some (.ref fa)/\PySem.W.keepIn X.K (.ref fa)=true/\qx X.K fd ps []
 blt:∀f∈ZJ,X.mg f=none
 gl:∀x d,Γ.gl x=some d->∃v u,X.mg x=some u/\qC v u/\∀G,Rep κ G d v
 cls:∀c C,κ c=some C->Cls X.K C
 flds:∀c x C,Γ.cs.fld c x=true->κ c=some C->zu X.K C x
 mts:∀c x f,Γ.cs.mt c x=some f->∃C fa fd ps,κ c=some C/\Meth X.K C x fa/\FnOk X.prog X.w X.K X.mg X.base (CX1 X.prog X.w) k fa fd ps (spF κ K Γ.cl f)/\qx X.K fd ps []
 mks:∀f,Γ.cs.tab.contains f=true->(Γ.y=false/\∀args,Γ.nw f args=.no)\/∃C fa fd ps sp,Mk X.K C fa/\FnOk X.prog X.w X.K X.mg X.base (CX1 X.prog X.w) (k - 1) fa fd ps sp/\X.mg f=some (.ref C)/\qx X.K fd ps []/\0 < k/\
  ∀vs H Q E,spF κ K Γ.nw f vs H Q E->∀x dx,H x=none->H dx=none->dx≠x->sp (.ref x::vs) (upd (upd H dx (.own x)) x (.ins C dx [])) (λv H2=>v=.non/\Q (.ref x) H2) E
 xsubs:∀C t b,Γ.cs.xs C t=some b->ExcIs X.K C/\((∃T,X.mg t=some (.ref T)/\PySem.W.kitOne X.K (.ref C) (.ref T)=some b)\/(X.mg t=none/\t = "ValueError"/\PySem.W.kitOne X.K (.ref C) (.type "ValueError")=some b))
 xgs:∀C x,Γ.cs.xg C x=true->XcG X.K C x
 subs:∀c t b,Γ.cs.sub c t=some b->∃C T,κ c=some C/\(∀H p dx fs,H p=some (HO.ins C dx fs)->TyOf X.K H (.ref p) (.ref C))/\X.mg t=some (.ref T)/\PySem.W.kitOne X.K (.ref C) (.ref T)=some b
theorem PE.imp{X:Cx}{e:Expr}{t t':TE}(h:PE X e t')(i:∀σ H Q,t σ H Q->t' σ H Q):PE X e t:=λpins s σ H Q I hw=>h pins s σ H Q I (i σ H Q hw)
theorem PT.imp{X:Cx}{e:Expr}{t t':TT}(h:PT X e t')(i:∀σ H Q,t σ H Q->t' σ H Q):PT X e t:=λpins s σ H Q I hw=>h pins s σ H Q I (i σ H Q hw)
theorem PA.imp{X:Cx}{es:List Expr}{t t':TA}(h:PA X es t')(i:∀σ H Q,t σ H Q->t' σ H Q):PA X es t:=λpos pins s σ H Q I hw=>h pos pins s σ H Q I (i σ H Q hw)
theorem PO.imp{X:Cx}{o:Option Expr}{t t':TO}(h:PO X o t')(i:∀σ H Q,t σ H Q->t' σ H Q):PO X o t:=λpins s σ H Q I hw=>h pins s σ H Q I (i σ H Q hw)
theorem PIf.imp{X:Cx}{es:List Expr}{t t':TT}(h:PIf X es t')(i:∀σ H Q,t σ H Q->t' σ H Q):PIf X es t:=λpins s σ H Q I hw=>h pins s σ H Q I (i σ H Q hw)
theorem PI.imp{X:Cx}{tg e:Expr}{t t':TI}(h:PI X tg e t')(i:∀σ H Q,t σ H Q->t' σ H Q):PI X tg e t:=λpins s σ H Q I hw=>h pins s σ H Q I (i σ H Q hw)
theorem yr:∀{N:List Str} {x:Str} {i:Nat},Yt N x=some i->N[i]?=some x
 |[],x,i,h=>by cases h
 | y::r,x,i,h=>by
  unfold Yt at h
  by_cases e:y=x
  ·rw[if_pos e] at h;cases h;rw[e];rfl
  ·rw[if_neg e] at h
   cases q:Yt r x with
   |none=>rw[q] at h;cases h
   |some j=>rw[q] at h;cases h;show(y::r)[j+1]?=some x;rw[List.getElem?_cons_succ];exact yr q
theorem ql{x:Str}(h:qv x=true):(x == ("__debug__" : Str))=false/\(x == ("__classdict__" : Str))=false/\x≠"__name__":=by unfold qv at h;simp only[Bool.and_eq_true,Bool.not_eq_true'] at h;refine⟨h.1.1,h.1.2,λz=>?_⟩;rw[z] at h;exact absurd h.2 (2:)
theorem qbF{sc:Scope}{x:Str}(h:Jg sc x=true):Vis sc x:=by
 unfold Jg at h;unfold Vis
 split at h
 ·rename_i e;exact .inl e
 ·rename_i e;exact .inr (.inl e)
 ·rename_i e;exact .inr (.inr e)
 ·cases h
theorem ZK{sc:Scope}{x:Str}(h:qai sc x=true):L2.Loc sc x:=by
 unfold qai at h;unfold L2.Loc
 split at h
 ·rename_i e;exact .inl e
 ·rename_i e;exact .inr e
 ·cases h
theorem qh{e:Expr}{es:List Expr}{env:PySem.Env}(h:qD e=false):starEach (e::es) env=(false,eval e env)::starEach es env:=by cases e<;>first | rfl | (simp[qD] at h)
section
variable{κ:KC}{ε:XK}{K:Frag}{Gv Hv:Hp}{k:Nat}{X:Cx}{Γ:Ct}
theorem ER.notOwn{G H:Hp}{ρ:Env}{σ:St}(er:ER κ K Gv Hv G H ρ σ){a:Addr}(h:H a=none):¬ zZ ρ σ a:=λ⟨i,l,e,z⟩=>by obtain⟨b,xs,z',h1,_⟩:=er.sl i _ e;rw[z] at z';injection z' with z';injection z' with z';injection z' with z';rw[<-z',h] at h1;cases h1
theorem ER.newList{G H:Hp}{ρ:Env}{σ:St}(er:ER κ K Gv Hv G H ρ σ){a:Addr}{xs:List V}{l:List D}(h:H a=none)(r:qm κ G l xs) :
  Po κ K Gv Hv σ G H ρ G (upd H a (.lst xs)) ρ/\RvR κ K Hv H G (upd H a (.lst xs)) ρ σ (.tmp l) (.ref a):=
 ⟨Po.room er (qj.upd h),a,xs,rfl,qc,h,qj.none er.base h,qj.none er.sub h,er.notOwn h,r⟩
theorem qbG(gd:Gd κ K ε k X Γ){x:Str}{i:Nat}(h:qd2 Γ x=some i)(pos:Pos):PE X (.Name x pos) (qaf i):=by unfold qd2 at h;obtain⟨hc,h⟩:=qg h;rw[Bool.and_eq_true] at hc;obtain⟨n1,n2,n3⟩:=ql hc.1;exact zo (i:=i) (by rw[gd.hN];exact yr h) (gd.vis x hc.2) n1 n2
theorem Jj(gd:Gd κ K ε k X Γ){x:Str}{z:E}(h:YH Γ x=some z)(pos:Pos):(∃i,z=.var i/\PE X (.Name x pos) (qaf i))\/∃d v,z=.con d/\(∀G,Rep κ G d v)/\PE X (.Name x pos) (tC v):=by
 unfold YH at h;obtain⟨hok,h⟩:=qg h;obtain⟨n1,n2,n3⟩:=ql hok
 cases hi:Yt Γ.N x with
 |some i=>rw[hi] at h;obtain⟨hv,h⟩:=qg h;cases h;exact .inl ⟨i,rfl,zo (i:=i) (by rw[gd.hN];exact yr hi) (gd.vis x hv) n1 n2⟩
 |none=>rw[hi] at h;obtain⟨hg,h⟩:=qg h;obtain⟨d,hd,rfl⟩:=map_some h;obtain⟨v,u,e1,e2,e3⟩:=gd.gl x d hd;exact .inr ⟨d,v,rfl,e3,Yw (gd.glo x hg) e1 e2 n1⟩
theorem qaN(gd:Gd κ K ε k X Γ){x:Str}{z:E}(h:YH Γ x=some z)(pos:Pos):PE X (.Name x pos) (tR κ K ε Gv Hv (iR Γ.k z)):=by
 rcases Jj gd h pos with ⟨i,rfl,P⟩ | ⟨d,v,rfl,e3,P⟩
 ·refine PE.imp P λσ H Q hq1=>?_;obtain⟨ρ,G,er,h⟩:=hq1;have h:=Wx.th (x:=slR ρ i) h;unfold slR at h
  cases q:ρ[i]? with
  |none=>rw[q] at h;exact h.elim
  |some s=>
   rw[q] at h;have w:=er.sl i s q
   cases s with
   |no=>exact h.elim
   |val d=>obtain⟨v,z,r⟩:=w;exact⟨v,z,h v G H (Po.refl er) r⟩
   |own l=>obtain⟨a,xs,z,r1,r2,r3,r4⟩:=w;exact⟨_,z,h _ G H (Po.refl er) ⟨a,xs,rfl,r1,r4⟩⟩
   |bor l=>obtain⟨a,xs,z,r1,r4⟩:=w;exact⟨_,z,h _ G H (Po.refl er) ⟨a,xs,rfl,er.base _ _ r1,r4⟩⟩
   |scr l=>obtain⟨a,xs,z,r1,r4⟩:=w;exact⟨_,z,h _ G H (Po.refl er) ⟨a,xs,rfl,er.base.seq r1,r4⟩⟩
   |obj oa c ns os=>obtain⟨v,z,r⟩:=w;exact⟨v,z,h v G H (Po.refl er) (r.same er.base λ_ _ q=>q)⟩
 ·refine PE.imp P λσ H Q hz3=>?_;obtain⟨ρ,G,er,h⟩:=hz3;exact h v G H (Po.refl er) (e3 G)
theorem Qc(gd:Gd κ K ε k X Γ){x:Str}{z:E}(h:YH Γ x=some z)(pos:Pos):PE X (.Name x pos) (tE κ K ε Gv Hv (zR z (iR Γ.k z))):=by
 rcases Jj gd h pos with ⟨i,rfl,P⟩ | ⟨d,v,rfl,e3,P⟩
 ·refine PE.imp P λσ H Q hq1=>?_;obtain⟨ρ,G,er,h⟩:=hq1;have h:Wx _ (slE ρ i) _:=h;unfold slE at h
  cases q:ρ[i]? with
  |none=>rw[q] at h;exact h.elim
  |some s=>
   rw[q] at h;have w:=er.sl i s q
   cases s with
   |val d=>obtain⟨v,z,r⟩:=w;exact⟨v,z,h v G H (Po.refl er) r⟩
   |own l=>obtain⟨a,xs,z,p,r⟩:=er.froze q;exact⟨_,z,h _ _ H p r⟩
   |_=>exact h.elim
 ·refine PE.imp P λσ H Q hz4=>?_;obtain⟨ρ,G,er,h⟩:=hz4;exact h v G H (Po.refl er) (e3 G)
end
end DE
namespace DE
open PySem L2
section
variable{κ:KC}{ε:XK}{Ξ:XW}{K:Frag}{Gv Hv Hb Hc G H:Hp}{ρ:Env}{σ:St}{r s:Rv}{x y:V}
theorem RvR.int{i:Int}(h:RvR κ K Hv Hb G H ρ σ r x)(e:r.int?=some i):x=.int i:=by
 cases r with
 |val d=>cases d<;>simp only[Rv.int?] at e<;>first | (cases e;simpa only[RvR,Rep] using h) | cases e
 |_=>cases e
theorem RvR.str{i:Str}(h:RvR κ K Hv Hb G H ρ σ r x)(e:r.str?=some i):x=.str i:=by
 cases r with
 |val d=>cases d<;>simp only[Rv.str?] at e<;>first | (cases e;simpa only[RvR,Rep] using h) | cases e
 |_=>cases e
theorem RvR.bl{i:Bool}(h:RvR κ K Hv Hb G H ρ σ r x)(e:r.bl?=some i):x=.bl i:=by
 cases r with
 |val d=>cases d<;>simp only[Rv.bl?] at e<;>first | (cases e;simpa only[RvR,Rep] using h) | cases e
 |_=>cases e
theorem RvR.tup{l:List D}(h:RvR κ K Hv Hb G H ρ σ r x)(e:r.tup?=some l):∃a xs,x=.ref a/\G a=some (.tup xs)/\qm κ G l xs:=by
 cases r with
 |val d=>cases d<;>simp only[Rv.tup?] at e<;>first | (cases e;simpa only[RvR,Rep] using h) | cases e
 |_=>cases e
theorem RvR.seq(er:ER κ K Gv Hv G H ρ σ){l:List D}(h:RvR κ K Hv Hb G H ρ σ r x)(e:seqD r=some l):∃a xs,x=.ref a/\(SqL K H a xs\/SqT K H a xs)/\qm κ G l xs:=by
 unfold seqD at e
 cases q:r.tup? with
 | some l'=>rw[q] at e;cases e;obtain⟨a,xs,e1,e2,e3⟩:=h.tup q;exact⟨a,xs,e1,.inr (SqT.of (er.sub _ _ e2)),e3⟩
 |none=>rw[q] at e;obtain⟨a,xs,e1,e2,e3⟩:=h.list er e;exact⟨a,xs,e1,.inl e2,e3⟩
theorem RvR.non(h:RvR κ K Hv Hb G H ρ σ r x):decide (x=.non)=r.non?:=by
 cases r with
 |val d=>
  cases d<;>simp only[RvR,Rep] at h<;>simp only[Rv.non?]
  ·subst h;rfl
  ·subst h;rfl
  ·subst h;rfl
  ·subst h;rfl
  ·obtain⟨a,xs,rfl,_⟩:=h;rfl
  ·obtain⟨a,xs,rfl,_⟩:=h;rfl
  ·obtain⟨p,dx,C,xs,_,rfl,_⟩:=h;rfl
  ·obtain⟨p,od,xs,rfl,_⟩:=h;rfl
  ·obtain⟨p,xs,rfl,_⟩:=h;rfl
 |tmp l=>obtain⟨a,xs,rfl,_⟩:=h;rfl
 |cell l=>obtain⟨a,xs,rfl,_⟩:=h;rfl
 |scr l=>obtain⟨a,xs,rfl,_⟩:=h;rfl
 |obj oa c ns os=>simp only[RvR,ObR] at h;obtain⟨dx,C,xs,_,rfl,_⟩:=h;rfl
mutual
theorem Rep.dv(sub:qj G H):∀{d:D} {v:V} {p:PyData},Rep κ G d v->toP d=some p->DV K H p v
 |.non,v,p,h,e=>by simp only[toP] at e;cases e;simp only[Rep] at h;simp only[DV];exact h
 |.bl b,v,p,h,e=>by simp only[toP] at e;cases e;simp only[Rep] at h;simp only[DV];exact h
 |.int b,v,p,h,e=>by simp only[toP] at e;cases e;simp only[Rep] at h;simp only[DV];exact h
 |.str b,v,p,h,e=>by simp only[toP] at e;cases e;simp only[Rep] at h;simp only[DV];exact h
 |.lst l,v,p,h,e=>by simp only[toP] at e;obtain⟨ps,e1,rfl⟩:=Option.map_eq_some_iff.mp e;simp only[Rep] at h;obtain⟨a,xs,rfl,h1,h2⟩:=h;simp only[DV];exact⟨a,xs,rfl,SqL.of (sub _ _ h1),qm.dvs sub h2 e1⟩
 |.tup l,v,p,h,e=>by simp only[toP] at e;obtain⟨ps,e1,rfl⟩:=Option.map_eq_some_iff.mp e;simp only[Rep] at h;obtain⟨a,xs,rfl,h1,h2⟩:=h;simp only[DV];exact⟨a,xs,rfl,SqT.of (sub _ _ h1),qm.dvs sub h2 e1⟩
 |.ins c ns l,v,p,h,e=>by simp only[toP] at e;cases e
 |.exc c ns l,v,p,h,e=>by simp only[toP] at e;cases e
 |.dct ns l,v,p,h,e=>by simp only[toP] at e;cases e
theorem qm.dvs(sub:qj G H):∀{ds:List D} {vs:List V} {ps:List PyData},qm κ G ds vs->qaI ds=some ps->DVs K H ps vs
 |[],vs,ps,h,e=>by simp only[qaI] at e;cases e;simp only[qm] at h;simp only[DVs];exact h
 | d::ds,vs,ps,h,e=>by simp only[qaI] at e;obtain⟨p,e1,e2⟩:=Option.bind_eq_some_iff.mp e;obtain⟨qs,e3,rfl⟩:=Option.map_eq_some_iff.mp e2;simp only[qm] at h;obtain⟨x,r,rfl,h1,h2⟩:=h;simp only[DVs];exact⟨x,r,rfl,Rep.dv sub h1 e1,qm.dvs sub h2 e3⟩
end
theorem RvR.dv(er:ER κ K Gv Hv G H ρ σ){p:PyData}(h:RvR κ K Hv Hb G H ρ σ r x)(e:toP r.data=some p):DV K H p x:=by
 have lst:∀{l:List D} {a:Addr} {xs:List V},SqL K H a xs->qm κ G l xs->toP (.lst l)=some p->DV K H p (.ref a):=λ{l a xs} hq hr e=>by simp only[toP] at e;obtain⟨ps,e1,rfl⟩:=Option.map_eq_some_iff.mp e;simp only[DV];exact⟨a,xs,rfl,hq,qm.dvs er.sub hr e1⟩
 cases r with
 |val d=>exact Rep.dv er.sub h e
 |tmp l=>obtain⟨a,xs,rfl,h1,_,_,_,_,h6⟩:=h;exact lst (SqL.of h1) h6 e
 |cell l=>obtain⟨a,xs,rfl,h1,h6⟩:=h;exact lst (SqL.of h1) h6 e
 |scr l=>obtain⟨a,xs,rfl,h1,h6⟩:=h;exact lst h1 h6 e
 |obj oa c ns os=>simp only[Rv.data,toP] at e;cases e
theorem Qd{d:D}{v:V}(h:Rep κ G d v)(f:yq d=true):v=flV d/\yf v=true:=by
 cases d<;>simp only[yq] at f<;>try (exact absurd f (2:))
 all_goals (simp only[Rep] at h;subst h;exact⟨rfl,rfl⟩)
theorem J0:∀{l:List D} {vs:List V},qm κ G l vs->l.all yq=true->vs=l.map flV/\vs.all yf=true
 |[],vs,h,f=>by simp only[qm] at h;subst h;exact⟨rfl,rfl⟩
 | d::l,vs,h,f=>by simp only[qm] at h;obtain⟨x,r,rfl,h1,h2⟩:=h;simp only[List.all_cons,Bool.and_eq_true] at f;obtain⟨e1,e2⟩:=Qd h1 f.1;obtain⟨e3,e4⟩:=J0 h2 f.2;subst e1 e3;exact⟨rfl,by simp only[List.all_cons,e2,e4,Bool.and_self]⟩
theorem qcY(h:RvR κ K Hv Hb G H ρ σ r x)(f:yq r.data=true):x=flV r.data/\yf x=true:=by
 cases r with
 |val d=>exact Qd h f
 |_=>simp only[Rv.data,yq] at f;exact absurd f (2:)
theorem ZL{f:Int->Int->R Rv}{F:Rv->Prop}(h:Wx Ξ (int2 r s f) F):∃i j,r.int?=some i/\s.int?=some j/\Wx Ξ (f i j) F:=by
 unfold int2 at h
 cases e1:r.int? with
 |none=>rw[e1] at h;exact h.elim
 |some i=>
  cases e2:s.int? with
  |none=>rw[e1,e2] at h;exact h.elim
  |some j=>rw[e1,e2] at h;exact⟨i,j,rfl,rfl,h⟩
theorem qaO{l:List D}{xs:List V}{i:Int}{d:D}(h:qm κ G l xs)(e:atI l i=some d):∃v,atI xs i=some v/\Rep κ G d v:=by unfold atI at e ⊢;rw[<-h.len];obtain⟨j,e1,e2⟩:=Option.bind_eq_some_iff.mp e;obtain⟨v,e3,e4⟩:=h.atD e2;exact⟨v,by rw[e1];exact e3,e4⟩
theorem qaP{l:List D}{xs:List V}{lo hi:Option Int}(h:qm κ G l xs):qm κ G (ZE l lo hi) (qd1 xs lo hi):=by unfold ZE qd1;rw[h.len];exact(h.drop _).take _
end
section
variable(κ:KC)(K:Frag)(Ξ:XW)(Gv Hv:Hp)
noncomputable def qgO(op:Operator):R2:=λx y H Q=>∃(ρ:Env) (σ:St) (G Hb Hc:Hp) (r s:Rv),ER κ K Gv Hv G H ρ σ/\RvR κ K Hv Hb G H ρ σ r x/\RvR κ K Hv Hc G H ρ σ s y/\
 Wx Ξ (Qb op r s) λz=>∀v G' H',Po κ K Gv Hv σ G H ρ G' H' ρ->RvR κ K Hv H G' H' ρ σ z v->Q v H'
noncomputable def qgP(op:CmpOp):R2:=λx y H Q=>∃(ρ:Env) (σ:St) (G Hb Hc:Hp) (r s:Rv) (b:Bool),ER κ K Gv Hv G H ρ σ/\RvR κ K Hv Hb G H ρ σ r x/\RvR κ K Hv Hc G H ρ σ s y/\yJ op r s=some b/\Q (.bl b) H
noncomputable def qjn:R2:=λx y H Q=>∃(ρ:Env) (σ:St) (G Hb Hc:Hp) (r s:Rv),ER κ K Gv Hv G H ρ σ/\RvR κ K Hv Hb G H ρ σ r x/\RvR κ K Hv Hc G H ρ σ s y/\
 Wx Ξ (idxD r s) λz=>∀v G' H',Po κ K Gv Hv σ G H ρ G' H' ρ->RvR κ K Hv H G' H' ρ σ z v->Q v H'
noncomputable def qjo:V->Option Int->Option Int->Hp->VK->Prop:=λx lo hi H Q=>∃(ρ:Env) (σ:St) (G Hb:Hp) (r:Rv),ER κ K Gv Hv G H ρ σ/\RvR κ K Hv Hb G H ρ σ r x/\
 Wx Ξ (sliceD r lo hi) λz=>∀v G' H',Po κ K Gv Hv σ G H ρ G' H' ρ->RvR κ K Hv H G' H' ρ σ z v->Q v H'
noncomputable def rC1(f:Rv->R Rv):List V->Hp->VK->Prop:=λxs H Q=>∃(ρ:Env) (σ:St) (G Hb:Hp) (r:Rv) (x:V),xs=[x]/\ER κ K Gv Hv G H ρ σ/\RvR κ K Hv Hb G H ρ σ r x/\
 Wx Ξ (f r) λz=>∀v G' H',Po κ K Gv Hv σ G H ρ G' H' ρ->RvR κ K Hv H G' H' ρ σ z v->Q v H'
noncomputable def rC2(f:Rv->Rv->R Rv):List V->Hp->VK->Prop:=λxs H Q=>∃(ρ:Env) (σ:St) (G Hb Hc:Hp) (r s:Rv) (x y:V),xs=[x,y]/\ER κ K Gv Hv G H ρ σ/\RvR κ K Hv Hb G H ρ σ r x/\RvR κ K Hv Hc G H ρ σ s y/\
 Wx Ξ (f r s) λz=>∀v G' H',Po κ K Gv Hv σ G H ρ G' H' ρ->RvR κ K Hv H G' H' ρ σ z v->Q v H'
end
section
variable{κ:KC}{ε:XK}{Ξ:XW}{K:Frag}{Gv Hv:Hp}{k:Nat}{X:Cx}{Γ:Ct}
theorem Jk(op:Operator){f:Int->Int->R Rv}{C:Int->Int->Prop}{g:Int->Int->Int}(hop:OpR X (binaryOp op) (rI C λi j=>.int (g i j)))(hf:∀r s,Qb op r s=int2 r s f)(hw:∀i j F,Wx Ξ (f i j) F->C i j/\F (.val (.int (g i j)))) :
  OpR X (binaryOp op) (qgO κ K Ξ Gv Hv op):=by
 rintro pins st σ' H x y v u Q I rx ry ⟨ρ,σ,G,Hb,Hc,r,s,er,h1,h2,h⟩;rw[hf] at h;obtain⟨i,j,e1,e2,h⟩:=ZL h;obtain⟨hc,h⟩:=hw i j _ h;exact hop pins st σ' H x y v u Q I rx ry ⟨i,j,h1.int e1,h2.int e2,hc,h _ G H (Po.refl er) (by simp only[RvR,Rep])⟩
theorem qhq{f:Value->Value->Sem Value}{g:Int->Int->V}(h:OpR X f (rI0 g)):OpR X f (rI (λ_ _=>True) g):=λpins st σ' H x y v u Q I rx ry ⟨i,j,e1,e2,_,q⟩=>h pins st σ' H x y v u Q I rx ry ⟨i,j,e1,e2,q⟩
theorem qeV:OpR X (binaryOp .Add) (qgO κ K Ξ Gv Hv .Add):=by
 rintro pins st σ' H x y v u Q I rx ry ⟨ρ,σ,G,Hb,Hc,r,s,er,h1,h2,h⟩;have h:Wx Ξ (qhf r s) _:=h;unfold qhf at h
 have cat:Wx Ξ (match r.plain?,s.plain? with
   |some l,some m=>if l.length+m.length<=sizeLine then R.ok (Rv.tmp (l++m)) else .no
   |_,_=>.no) (λz=>∀v G' H',Po κ K Gv Hv σ G H ρ G' H' ρ->RvR κ K Hv H G' H' ρ σ z v->Q v H')->wpAny (model X.prog X.w) X.A (binaryOp .Add v u) (EP X pins σ' Q) X.xe st:=λh=>by
  cases e1:r.plain? with
  |none=>rw[e1] at h;exact h.elim
  |some l=>
   cases e2:s.plain? with
   |none=>rw[e1,e2] at h;exact h.elim
   |some m=>rw[e1,e2] at h;obtain⟨hz,h⟩:=Wx.iff h;obtain⟨a,xs,q1,q2,q3⟩:=h1.plain er e1;obtain⟨b,ys,p1,p2,p3⟩:=h2.plain er e2;refine qeB pins st σ' H x y v u Q I rx ry ⟨a,b,xs,ys,q1,p1,q2,p2,by rw[<-q3.len,<-p3.len];exact hz,λp hp=>?_⟩;obtain⟨z1,z2⟩:=er.newList hp (q3.app p3);exact h _ _ _ z1 z2
 have txt:Wx Ξ (match r.str?,s.str? with
   |some a,some b=>if a.length+b.length<=sizeLine then R.ok (Rv.val (.str (a++b))) else .no
   |_,_=>match r.plain?,s.plain? with
    |some l,some m=>if l.length+m.length<=sizeLine then R.ok (Rv.tmp (l++m)) else .no
    |_,_=>.no) (λz=>∀v G' H',Po κ K Gv Hv σ G H ρ G' H' ρ->RvR κ K Hv H G' H' ρ σ z v->Q v H')->wpAny (model X.prog X.w) X.A (binaryOp .Add v u) (EP X pins σ' Q) X.xe st:=λh=>by
  cases e1:r.str? with
  |none=>rw[e1] at h;exact cat h
  |some l=>
   cases e2:s.str? with
   |none=>rw[e1,e2] at h;exact cat h
   |some m=>rw[e1,e2] at h;obtain⟨hz,h⟩:=Wx.iff h;exact QA pins st σ' H x y v u Q I rx ry ⟨l,m,h1.str e1,h2.str e2,hz,h _ G H (Po.refl er) (by simp only[RvR,Rep])⟩
 cases e1:r.int? with
 |none=>rw[e1] at h;exact txt h
 |some i=>
  cases e2:s.int? with
  |none=>rw[e1,e2] at h;exact txt h
  |some j=>rw[e1,e2] at h;exact qen pins st σ' H x y v u Q I rx ry ⟨i,j,h1.int e1,h2.int e2,h _ G H (Po.refl er) (by simp only[RvR,Rep])⟩
theorem qcZ{i j:Int}(h:YG i j=true):qgH i j:=by unfold YG at h;simp only[Bool.or_eq_true,Bool.and_eq_true,decide_eq_true_eq] at h;exact h
theorem qeW:OpR X (binaryOp .Mult) (qgO κ K Ξ Gv Hv .Mult):=by
 rintro pins st σ' H x y v u Q I rx ry ⟨ρ,σ,G,Hb,Hc,r,s,er,h1,h2,h⟩;have h:Wx Ξ (qhg r s) _:=h;unfold qhg at h
 cases e2:s.int? with
 |none=>cases e1:r.int?<;>rw[e1,e2] at h<;>exact h.elim
 |some j=>
  cases e1:r.int? with
  |some i=>rw[e1,e2] at h;obtain⟨hm,h⟩:=Wx.iff h;exact qep pins st σ' H x y v u Q I rx ry ⟨i,j,h1.int e1,h2.int e2,qcZ hm,h _ G H (Po.refl er) (by simp only[RvR,Rep])⟩
  |none=>rw[e1,e2] at h;exact h.elim
theorem qeX(op:Operator):OpR X (binaryOp op) (qgO κ K Ξ Gv Hv op):=by
 cases op with
 |Add=>exact qeV
 |Sub=>exact Jk .Sub (qhq qeo) (λ_ _=>rfl) λi j F h=>⟨trivial,h⟩
 |Mult=>exact qeW
 |FloorDiv=>
  refine Jk .FloorDiv qar (λ_ _=>rfl) λi j F h=>?_
  by_cases hp:0 < j/\j < 1073741824
  ·rw[if_pos hp] at h;rw[Int.fdiv_eq_ediv_of_nonneg i (by lia)];exact⟨⟨by lia,by lia⟩,h⟩
  ·rw[if_neg hp] at h;obtain⟨hc,h⟩:=Wx.iff h;exact⟨⟨by lia,by lia⟩,h⟩
 |Mod=>
  refine Jk .Mod qca (λ_ _=>rfl) λi j F h=>?_
  by_cases hp:0 < j
  ·rw[if_pos hp] at h;rw[Int.fmod_eq_emod_of_nonneg i (by lia)];exact⟨by lia,h⟩
  ·rw[if_neg hp] at h;obtain⟨hc,h⟩:=Wx.iff h;exact⟨by lia,h⟩
 |Pow=>exact Jk .Pow qeq (λ_ _=>rfl) λi j F h=>⟨(Wx.iff h).1,(Wx.iff h).2⟩
 |_=>exactλ_ _ _ _ _ _ _ _ _ _ _ _ h=>Exists.elim h λ_ h=>Exists.elim h λ_ h=>Exists.elim h λ_ h=>Exists.elim h λ_ h=>Exists.elim h λ_ h=>Exists.elim h λ_ h=>Exists.elim h λ_ h=>h.2.2.2.elim
theorem Jl(op:CmpOp){g:Int->Int->Bool}(hop:OpR X (compareOp op) (rI0 λi j=>.bl (g i j)))(hf:∀r s,yJ op r s=qd3 r s g):OpR X (compareOp op) (qgP κ K Gv Hv op):=by
 rintro pins st σ' H x y v u Q I rx ry ⟨ρ,σ,G,Hb,Hc,r,s,b,er,h1,h2,h,q⟩;rw[hf] at h;unfold qd3 at h
 cases e1:r.int? with
 |none=>rw[e1] at h;cases h
 |some i=>
  cases e2:s.int? with
  |none=>rw[e1,e2] at h;cases h
  |some j=>rw[e1,e2] at h;cases h;exact hop pins st σ' H x y v u Q I rx ry ⟨i,j,h1.int e1,h2.int e2,q⟩
theorem qbH{x y:D}{b:Bool}(h:eqD x y=some b):∃p q,toP x=some p/\toP y=some q/\SeqAt.shaped p=true/\SeqAt.shaped q=true/\b=PyData.eqv p q:=by
 unfold eqD at h
 cases e1:toP x with
 |none=>rw[e1] at h;cases h
 |some p=>
  cases e2:toP y with
  |none=>rw[e1,e2] at h;cases h
  |some q=>
   rw[e1,e2] at h;dsimp only at h
   by_cases hs:(SeqAt.shaped p&&SeqAt.shaped q)=true
   ·rw[if_pos hs] at h;cases h;rw[Bool.and_eq_true] at hs;exact⟨p,q,rfl,rfl,hs.1,hs.2,rfl⟩
   ·rw[if_neg hs] at h;cases h
theorem qbI(gd:Gd κ K ε k X Γ)(neg:Bool)(op:CmpOp)(hs:OpR X (compareOp op) (λx y H Q=>∃i j,x=.str i/\y=.str j/\Q (.bl (if neg then !qaJ i j else qaJ i j)) H))(hl:OpR X (compareOp op) (rIn X.K neg))
  (hf:∀r s,yJ op r s=(qbz r s).map λb=>if neg then !b else b):OpR X (compareOp op) (qgP κ K Gv Hv op):=by
 rintro pins st σ' H x y v u Q I rx ry ⟨ρ,σ,G,Hb,Hc,r,s,b,er,h1,h2,h,q⟩;rw[hf] at h;obtain⟨b',hb',rfl⟩:=Option.map_eq_some_iff.mp h
 replace h:=hb'
 unfold qbz at h
 have sq:(seqD s).bind (inD r.data)=some b'->wpAny (model X.prog X.w) X.A (compareOp op v u) (EP X pins σ' Q) X.xe st:=λh=>by
  obtain⟨l,e1,e2⟩:=Option.bind_eq_some_iff.mp h;unfold inD at e2
  by_cases hc:(yq r.data&&l.all yq)=true
  ·rw[if_pos hc] at e2;cases e2;rw[Bool.and_eq_true] at hc;obtain⟨a,xs,p1,p2,p3⟩:=h2.seq er e1;obtain⟨f1,f2⟩:=qcY h1 hc.1;obtain⟨f3,f4⟩:=J0 p3 hc.2;refine hl pins st σ' H x y v u Q I rx ry ⟨a,xs,p1,by rw[gd.hK];exact p2,f2,f4,?_⟩;rw[f1,f3];exact q
  ·rw[if_neg hc] at e2;cases e2
 cases e1:r.str? with
 |none=>rw[e1] at h;exact sq h
 |some i=>
  cases e2:s.str? with
  |none=>rw[e1,e2] at h;exact sq h
  |some j=>rw[e1,e2] at h;cases h;exact hs pins st σ' H x y v u Q I rx ry ⟨i,j,h1.str e1,h2.str e2,q⟩
theorem Qe(gd:Gd κ K ε k X Γ)(op:CmpOp):OpR X (compareOp op) (qgP κ K Gv Hv op):=by
 have hu:X.A.units+64 < cLine:=by have:=gd.room.un;lia
 cases op with
 |Eq=>rintro pins st σ' H x y v u Q I rx ry ⟨ρ,σ,G,Hb,Hc,r,s,b,er,h1,h2,h,q⟩;obtain⟨p,p',e1,e2,e3,e4,rfl⟩:=qbH h;exact qeE hu pins st σ' H x y v u Q I rx ry ⟨p,p',by rw[gd.hK];exact h1.dv er e1,by rw[gd.hK];exact h2.dv er e2,e3,e4,q⟩
 |NotEq=>rintro pins st σ' H x y v u Q I rx ry ⟨ρ,σ,G,Hb,Hc,r,s,b,er,h1,h2,h,q⟩;obtain⟨b',h',rfl⟩:=Option.map_eq_some_iff.mp h;obtain⟨p,p',e1,e2,e3,e4,rfl⟩:=qbH h';exact qeF hu pins st σ' H x y v u Q I rx ry ⟨p,p',by rw[gd.hK];exact h1.dv er e1,by rw[gd.hK];exact h2.dv er e2,e3,e4,q⟩
 |Lt=>exact Jl .Lt qg3 λ_ _=>rfl
 |LtE=>exact Jl .LtE qg4 λ_ _=>rfl
 |Gt=>exact Jl .Gt qg5 λ_ _=>rfl
 |GtE=>exact Jl .GtE qg6 λ_ _=>rfl
 |Is=>
  rintro pins st σ' H x y v u Q I rx ry ⟨ρ,σ,G,Hb,Hc,r,s,b,er,h1,h2,h,q⟩;have h:(if s.non?=true then some r.non? else none)=some b:=h
  by_cases hn:s.non?=true
  ·rw[if_pos hn] at h;cases h;refine qes pins st σ' H x y v u Q I rx ry ⟨of_decide_eq_true (h2.non.trans hn),?_⟩;rw[h1.non];exact q
  ·rw[if_neg hn] at h;cases h
 |IsNot=>
  rintro pins st σ' H x y v u Q I rx ry ⟨ρ,σ,G,Hb,Hc,r,s,b,er,h1,h2,h,q⟩;have h:(if s.non?=true then some (!r.non?) else none)=some b:=h
  by_cases hn:s.non?=true
  ·rw[if_pos hn] at h;cases h;refine qcb pins st σ' H x y v u Q I rx ry ⟨of_decide_eq_true (h2.non.trans hn),?_⟩;rw[h1.non];exact q
  ·rw[if_neg hn] at h;cases h
 |In=>exact qbI gd false .In QZ Ze λr s=>by show qbz r s=_;cases qbz r s<;>rfl
 |NotIn=>exact qbI gd true .NotIn JI JP λr s=>rfl
theorem Jm{G:Hp}{x:Str}{d:D}:∀{ns:List Str} {ds:List D} {xs:List V},qm κ G ds xs->(ns.zip ds).lookup x=some d->∃v,(ns.zip xs).lookup x=some v/\Rep κ G d v
 |[],_,_,_,h=>by simp at h
 | n::ns,[],_,_,h=>by simp at h
 | n::ns,e::ds,xs,r,h=>by
  simp only[qm] at r;obtain⟨v,us,rfl,r1,r2⟩:=r;rw[List.zip_cons_cons,List.lookup_cons] at h
  cases hx:(x == n) with
  |true=>rw[hx] at h;cases h;exact⟨v,by rw[List.zip_cons_cons,List.lookup_cons,hx],r1⟩
  |false=>rw[hx] at h;obtain⟨u,z1,z2⟩:=Jm r2 h;exact⟨u,by rw[List.zip_cons_cons,List.lookup_cons,hx];exact z1,z2⟩
theorem qeY(gd:Gd κ K ε k X Γ):IxR X (qjn κ K Ξ Gv Hv):=by
 rintro value slice pins st σ' H x y v u Q I rx ry ⟨ρ,σ,G,Hb,Hc,r,s,er,h1,h2,h⟩ hs;unfold idxD at h
 cases e1:s.int? with
 |none=>rw[e1] at h;exact False.elim h
 |some i=>
  rw[e1] at h;dsimp only at h
  cases e2:r.str? with
  |some z=>
   rw[e2] at h;dsimp only at h;obtain⟨hz,h⟩:=Wx.iff h
   cases e3:atI z.cps.toList i with
   |none=>rw[e3] at h;exact h.elim
   |some c=>rw[e3] at h;exact qew value slice pins st σ' H x y v u Q I rx ry ⟨z,i,c,h1.str e2,h2.int e1,hz,e3,h _ G H (Po.refl er) (by simp only[RvR,Rep])⟩ hs
  |none=>
   rw[e2] at h;dsimp only at h
   cases e3:seqD r with
   |none=>rw[e3] at h;exact h.elim
   |some l=>
    rw[e3] at h;dsimp only at h
    cases e4:atI l i with
    |none=>rw[e4] at h;exact h.elim
    |some d=>
     rw[e4] at h;obtain⟨a,xs,p1,p2,p3⟩:=h1.seq er e3;obtain⟨w,p4,p5⟩:=qaO p3 e4;rcases p2 with p2 | p2
     ·exact qcl value slice pins st σ' H x y v u Q I rx ry ⟨a,xs,i,w,p1,h2.int e1,by rw[gd.hK];exact p2,p4,h w G H (Po.refl er) p5⟩ hs
     ·exact qev value slice pins st σ' H x y v u Q I rx ry ⟨a,xs,i,w,p1,h2.int e1,by rw[gd.hK];exact p2,p4,h w G H (Po.refl er) p5⟩ hs
theorem qeZ(gd:Gd κ K ε k X Γ):L2.SlR X (qjo κ K Ξ Gv Hv):=by
 rintro pins st σ' H x v vl vu lo hi sl Q I rx hs pl pu ⟨ρ,σ,G,Hb,r,er,h1,h⟩;unfold sliceD at h
 cases e2:r.str? with
 |some z=>rw[e2] at h;dsimp only at h;obtain⟨hz,h⟩:=Wx.iff h;exact qeI pins st σ' H x v vl vu lo hi sl Q I rx hs pl pu ⟨z,h1.str e2,hz,h _ G H (Po.refl er) (by simp only[RvR,Rep])⟩
 |none=>rw[e2] at h;dsimp only at h;obtain⟨l,e1,h⟩:=Wx.of (Wx.th h);obtain⟨a,xs,p1,p2,p3⟩:=h1.list er e1;refine qcm pins st σ' H x v vl vu lo hi sl Q I rx hs pl pu ⟨a,xs,p1,by rw[gd.hK];exact p2,λp hp=>?_⟩;obtain⟨z1,z2⟩:=er.newList hp (qaP (lo:=lo) (hi:=hi) p3);exact h _ _ _ z1 z2
theorem qe0(gd:Gd κ K ε k X Γ):zW X (.builtin "len") (rC1 κ K Ξ Gv Hv lenD):=by
 rintro pins st σ' H xs us Q I rs ⟨ρ,σ,G,Hb,r,x,hx,er,h1,h⟩;unfold lenD at h
 cases e2:r.str? with
 |some z=>rw[e2] at h;dsimp only at h;obtain⟨hz,h⟩:=Wx.iff h;exact JQ pins st σ' H xs us Q I rs ⟨z,by rw[hx,h1.str e2],hz,h _ G H (Po.refl er) (by simp only[RvR,Rep])⟩
 |none=>
  rw[e2] at h;dsimp only at h
  cases e3:seqD r with
  |none=>rw[e3] at h;exact h.elim
  |some l=>rw[e3] at h;obtain⟨a,ys,p1,p2,p3⟩:=h1.seq er e3;refine jF pins st σ' H xs us Q I rs ⟨a,ys,by rw[hx,p1],by rw[gd.hK];exact p2,?_⟩;rw[<-p3.len];exact h _ G H (Po.refl er) (by simp only[RvR,Rep])
theorem qc0(gd:Gd κ K ε k X Γ):zW X (.type "list") (rC1 κ K Ξ Gv Hv listD):=by
 rintro pins st σ' H xs us Q I rs ⟨ρ,σ,G,Hb,r,x,hx,er,h1,h⟩;unfold listD at h
 cases e3:seqD r with
 |none=>rw[e3] at h;exact h.elim
 |some l=>rw[e3] at h;obtain⟨a,ys,p1,p2,p3⟩:=h1.seq er e3;refine zv pins st σ' H xs us Q I rs ⟨a,ys,by rw[hx,p1],by rw[gd.hK];exact p2,λp hp=>?_⟩;obtain⟨z1,z2⟩:=er.newList hp p3;exact h _ _ _ z1 z2
theorem qe1:zW X (.type "int") (rC1 κ K Ξ Gv Hv intD):=by
 rintro pins st σ' H xs us Q I rs ⟨ρ,σ,G,Hb,r,x,hx,er,h1,h⟩;unfold intD at h
 cases e3:r.int? with
 |some i=>rw[e3] at h;exact JJ pins st σ' H xs us Q I rs (.inl ⟨i,by rw[hx,h1.int e3],h _ G H (Po.refl er) (by simp only[RvR,Rep])⟩)
 |none=>
  rw[e3] at h;dsimp only at h
  cases e4:r.bl? with
  |none=>rw[e4] at h;exact False.elim h
  |some b=>rw[e4] at h;exact JJ pins st σ' H xs us Q I rs (.inr ⟨b,by rw[hx,h1.bl e4],h _ G H (Po.refl er) (by simp only[RvR,Rep])⟩)
theorem qe2(gd:Gd κ K ε k X Γ):zW X (.builtin "min") (rC2 κ K Ξ Gv Hv minD):=by rintro pins st σ' H xs us Q I rs ⟨ρ,σ,G,Hb,Hc,r,s,x,y,hx,er,h1,h2,h⟩;obtain⟨i,j,e1,e2,h⟩:=ZL h;exact Q5 gd.calm pins st σ' H xs us Q I rs ⟨i,j,by rw[hx,h1.int e1,h2.int e2],h _ G H (Po.refl er) (by simp only[RvR,Rep])⟩
theorem qaQ(gd:Gd κ K ε k X Γ){G H Hb:Hp}{ρ:Env}{σ:St}{r:Rv}{x:V}{b:Bool}(er:ER κ K Gv Hv G H ρ σ)(h:RvR κ K Hv Hb G H ρ σ r x)(e:truthD r=some b):qgI X.K x H b:=by
 have sq:∀{r:Rv},RvR κ K Hv Hb G H ρ σ r x->(seqD r).map (λl=>!l.isEmpty)=some b->qgI X.K x H b:=λ{r} h e=>by
  obtain⟨l,e1,rfl⟩:=Option.map_eq_some_iff.mp e;obtain⟨a,xs,rfl,p2,p3⟩:=h.seq er e1
  have hl:(!l.isEmpty) = !xs.isEmpty:=by
   have:=p3.len
   cases l<;>cases xs<;>simp_all
  rw[hl,gd.hK];rcases p2 with p2 | p2
  ·exact .inl ⟨xs,p2,rfl⟩
  ·exact .inr (.inl ⟨xs,p2,rfl⟩)
 cases r with
 |val d=>
  cases d with
  |non=>simp only[RvR,Rep] at h;subst h;simp only[truthD] at e;cases e;exact rfl
  |bl c=>simp only[RvR,Rep] at h;subst h;simp only[truthD] at e;cases e;exact rfl
  |int c=>simp only[RvR,Rep] at h;subst h;simp only[truthD] at e;cases e;exact rfl
  |str c=>
   simp only[RvR,Rep] at h;subst h;simp only[truthD] at e
   by_cases hz:c.length<=sizeLine
   ·rw[if_pos hz] at e;cases e;exact⟨hz,rfl⟩
   ·rw[if_neg hz] at e;cases e
  |lst l=>exact sq h e
  |tup l=>exact sq h e
  |ins c ns l=>exact sq h e
  |exc c ns l=>exact sq h e
  |dct ns l=>exact sq h e
 |tmp l=>exact sq h e
 |cell l=>exact sq h e
 |scr l=>exact sq h e
 |obj oa c ns os=>exact sq h e
end
end DE
namespace DE
open PySem PySem.Spec PyProof.Rows L2
structure All(κ:KC)(K:Frag)(ε:XK)(k:Nat)(X:Cx)(Γ:Ct)(m:Nat):Prop where
 r:∀Gv Hv e x,cE m Γ e=some x->PE X e (tR κ K ε Gv Hv (iR Γ.k x))
 e:∀Gv Hv e x,cX m Γ e=some x->PE X e (tE κ K ε Gv Hv (zR x (iR Γ.k x)))
 t:∀Gv Hv e x,cT m Γ e=some x->PT X e (tT κ K ε Gv Hv (iT Γ.k x))
 es:∀Gv Hv e x,cEs m Γ e=some x->PA X e (tEs κ K ε Gv Hv (iEs Γ.k x))
 as:∀Gv Hv e x,cAs m Γ e=some x->PA X e (tAs κ K ε Gv Hv (iAs Γ.k x))
 o:∀Gv Hv e x,cO m Γ e=some x->PO X e (tO κ K ε Gv Hv (iO Γ.k x))
 f:∀Gv Hv e x,cF m Γ e=some x->PIf X e (tT κ K ε Gv Hv (iF Γ.k x))
 l:∀Gv Hv e x,cL m Γ e=some x->PE X e (tL κ K ε Gv Hv (JZ x (iR Γ.k x)))
 i:∀Gv Hv tg e x,cI m Γ (qbA tg) e=some x->PI X tg e (tI κ K ε Gv Hv (iI Γ.k x))
section
variable{κ:KC}{ε:XK}{K:Frag}{Gv Hv:Hp}{k m:Nat}{X:Cx}{Γ:Ct}{x:E}
theorem qjp:All κ K ε k X Γ 0:={ r:=(λ_ _ _ _ h=>nomatch h),e:=(λ_ _ _ _ h=>nomatch h),t:=(λ_ _ _ _ h=>nomatch h),es:=(λ_ _ _ _ h=>nomatch h),as:=(λ_ _ _ _ h=>nomatch h),o:=(λ_ _ _ _ h=>nomatch h),f:=(λ_ _ _ _ h=>nomatch h),l:=(λ_ _ _ _ h=>nomatch h),i:=(λ_ _ _ _ _ h=>nomatch h) }
theorem qaR(c:Const)(j:Nat)(pos:Pos)(h:qbD c=some x):PE X (.Constant c j pos) (tR κ K ε Gv Hv (iR Γ.k x)):=by
 cases c with
 |none=>cases h;exact PE.imp qef λσ H Q ⟨ρ,G,er,h⟩=>h _ G H (Po.refl er) (by simp only[RvR,Rep])
 |bool b=>cases h;exact PE.imp qee λσ H Q ⟨ρ,G,er,h⟩=>h _ G H (Po.refl er) (by simp only[RvR,Rep])
 |int b=>cases h;exact PE.imp qed λσ H Q ⟨ρ,G,er,h⟩=>h _ G H (Po.refl er) (by simp only[RvR,Rep])
 |str b=>cases h;exact PE.imp qbm λσ H Q ⟨ρ,G,er,h⟩=>h _ G H (Po.refl er) (by simp only[RvR,Rep])
 |_=>cases h
theorem qaS(A:All κ K ε k X Γ m)(a b:Expr)(op:Operator)(pos:Pos)(h:cE (m+1) Γ (.BinOp a op b pos)=some x):PE X (.BinOp a op b pos) (tR κ K ε Gv Hv (iR Γ.k x)):=by obtain⟨a',b',h1,h2,rfl⟩:=qi h;refine PE.imp (qg0 (qeX (Ξ:=XP κ Gv Hv ε) (κ:=κ) (K:=K) (Gv:=Gv) (Hv:=Hv) op) (A.r Gv Hv _ _ h1) (A.r Gv Hv _ _ h2)) λσ H Q hq1=>?_;obtain⟨ρ,G,er,h⟩:=hq1;refine⟨ρ,G,er,Wx.mono (Wx.th (x:=iR Γ.k a' ρ) h) λx h v G1 H1 p1 r1=>⟨x.2,G1,p1.er,Wx.mono (Wx.th (x:=iR Γ.k b' x.2) h) λy h w G2 H2 p2 r2=>?_⟩⟩;exact⟨y.2,σ,G2,H,H1,x.1,y.1,p2.er,r1.keep p2,r2,Wx.mono (Wx.th h) λz h u G3 H3 p3 r3=>h u G3 H3 (p1.trans (p2.trans p3)) (r3.back (p1.trans p2).hs)⟩
theorem qe3(A:All κ K ε k X Γ m)(a:Expr)(pos:Pos)(h:cE (m+1) Γ (.UnaryOp .USub a pos)=some x):PE X (.UnaryOp .USub a pos) (tR κ K ε Gv Hv (iR Γ.k x)):=by
 obtain⟨a',h1,rfl⟩:=map_some h;refine PE.imp (qg1 qer (A.r Gv Hv _ _ h1)) λσ H Q hq1=>?_;obtain⟨ρ,G,er,h⟩:=hq1;refine⟨ρ,G,er,Wx.mono (Wx.th (x:=iR Γ.k a' ρ) h) λx h v G1 H1 p1 r1=>?_⟩;obtain⟨rv,ρ1⟩:=x
 cases rv with
 |val d=>
  cases d with
  |int i=>exact⟨i,by simpa only[RvR,Rep] using r1,h _ G1 H1 p1 (by simp only[RvR,Rep])⟩
  |_=>exact False.elim h
 |_=>exact False.elim h
theorem qc1(A:All κ K ε k X Γ m)(a:Expr)(pos:Pos)(h:cE (m+1) Γ (.UnaryOp .Not a pos)=some x):PE X (.UnaryOp .Not a pos) (tR κ K ε Gv Hv (iR Γ.k x)):=by
 obtain⟨a',h1,rfl⟩:=map_some h;refine PE.imp (qej (A.r Gv Hv _ _ h1)) λσ H Q hq1=>?_;obtain⟨ρ,G,er,h⟩:=hq1;refine⟨ρ,G,er,Wx.mono (Wx.th (x:=iR Γ.k a' ρ) h) λx h v G1 H1 p1 r1=>?_⟩;obtain⟨rv,ρ1⟩:=x
 cases rv with
 |val d=>
  cases d with
  |bl i=>exact⟨i,by simpa only[RvR,Rep] using r1,h _ G1 H1 p1 (by simp only[RvR,Rep])⟩
  |_=>exact False.elim h
 |_=>exact False.elim h
theorem qc2(gd:Gd κ K ε k X Γ)(A:All κ K ε k X Γ m)(a b:Expr)(op:CmpOp)(pos:Pos)(h:cE (m+1) Γ (.Compare a [op] [b] pos)=some x):PE X (.Compare a [op] [b] pos) (tR κ K ε Gv Hv (iR Γ.k x)):=by obtain⟨hm,h⟩:=qg h;obtain⟨a',b',h1,h2,rfl⟩:=qi h;refine PE.imp (Q0 (Qe (Gv:=Gv) (Hv:=Hv) gd op) (A.r Gv Hv _ _ h1) (A.r Gv Hv _ _ h2) (by simpa using hm)) λσ H Q hq1=>?_;obtain⟨ρ,G,er,h⟩:=hq1;refine⟨ρ,G,er,Wx.mono (Wx.th (x:=iR Γ.k a' ρ) h) λx h v G1 H1 p1 r1=>⟨x.2,G1,p1.er,Wx.mono (Wx.th (x:=iR Γ.k b' x.2) h) λy h w G2 H2 p2 r2=>?_⟩⟩;obtain⟨c,e,h⟩:=Wx.of (Wx.th h);exact⟨y.2,σ,G2,H,H1,x.1,y.1,c,p2.er,r1.keep p2,r2,e,h _ G2 H2 (p1.trans p2) (by simp only[RvR,Rep])⟩
theorem qc3(gd:Gd κ K ε k X Γ)(A:All κ K ε k X Γ m)(a b:Expr)(op:CmpOp)(pos:Pos){x:T}(h:cT (m+1) Γ (.Compare a [op] [b] pos)=some x):PT X (.Compare a [op] [b] pos) (tT κ K ε Gv Hv (iT Γ.k x)):=by obtain⟨hm,h⟩:=qg h;obtain⟨a',b',h1,h2,rfl⟩:=qi h;refine PT.imp (Q3 (Qe (Gv:=Gv) (Hv:=Hv) gd op) (A.r Gv Hv _ _ h1) (A.r Gv Hv _ _ h2) (by simpa using hm)) λσ H Q hq1=>?_;obtain⟨ρ,G,er,h⟩:=hq1;refine⟨ρ,G,er,Wx.mono (Wx.th (x:=iR Γ.k a' ρ) h) λx h v G1 H1 p1 r1=>⟨x.2,G1,p1.er,Wx.mono (Wx.th (x:=iR Γ.k b' x.2) h) λy h w G2 H2 p2 r2=>?_⟩⟩;obtain⟨c,e,h⟩:=Wx.of (Wx.th h);exact⟨y.2,σ,G2,H,H1,x.1,y.1,c,p2.er,r1.keep p2,r2,e,c,rfl,h G2 H2 (p1.trans p2)⟩
theorem qe4(A:All κ K ε k X Γ m)(a b:Expr)(l:List Expr)(pos:Pos)(h:cE (m+1) Γ (.BoolOp .And (a::b::l) pos)=some x):PE X (.BoolOp .And (a::b::l) pos) (tR κ K ε Gv Hv (iR Γ.k x)):=by
 obtain⟨a',b',h1,h2,rfl⟩:=qi h;refine PE.imp (qbo (A.r Gv Hv _ _ h1) (A.r Gv Hv _ _ h2)) λσ H Q hq1=>?_;obtain⟨ρ,G,er,h⟩:=hq1;refine⟨ρ,G,er,Wx.mono (Wx.th (x:=iR Γ.k a' ρ) h) λx h v G1 H1 p1 r1=>?_⟩;obtain⟨rv,ρ1⟩:=x
 cases rv with
 |val d=>
  cases d with
  |bl c=>
   refine⟨c,by simpa only[RvR,Rep] using r1,?_⟩
   cases c with
   |true=>rw[if_pos rfl];exact⟨ρ1,G1,p1.er,Wx.mono h λy h w G2 H2 p2 r2=>h w G2 H2 (p1.trans p2) (r2.back p1.hs)⟩
   |false=>rw[if_neg (λz=>by cases z)];exact h _ G1 H1 p1 (by simp only[RvR,Rep])
  |_=>exact False.elim h
 |_=>exact False.elim h
theorem qhr(A:All κ K ε k X Γ m)(a b:Expr)(l:List Expr)(pos:Pos)(h:cE (m+1) Γ (.BoolOp .Or (a::b::l) pos)=some x):PE X (.BoolOp .Or (a::b::l) pos) (tR κ K ε Gv Hv (iR Γ.k x)):=by
 obtain⟨a',b',h1,h2,rfl⟩:=qi h;refine PE.imp (qgU (A.r Gv Hv _ _ h1) (A.r Gv Hv _ _ h2)) λσ H Q hq1=>?_;obtain⟨ρ,G,er,h⟩:=hq1;refine⟨ρ,G,er,Wx.mono (Wx.th (x:=iR Γ.k a' ρ) h) λx h v G1 H1 p1 r1=>?_⟩;obtain⟨rv,ρ1⟩:=x
 cases rv with
 |val d=>
  cases d with
  |bl c=>
   refine⟨c,by simpa only[RvR,Rep] using r1,?_⟩
   cases c with
   |false=>rw[if_neg (λz=>by cases z)];exact⟨ρ1,G1,p1.er,Wx.mono h λy h w G2 H2 p2 r2=>h w G2 H2 (p1.trans p2) (r2.back p1.hs)⟩
   |true=>rw[if_pos rfl];exact h _ G1 H1 p1 (by simp only[RvR,Rep])
  |_=>exact False.elim h
 |_=>exact False.elim h
theorem QM{b:Expr}(h:∀lo hi st p,b≠.Slice lo hi st p):Zd b:=λo i=>by cases b<;>first | rfl | exact absurd rfl (h _ _ _ _)
theorem qe5(gd:Gd κ K ε k X Γ)(A:All κ K ε k X Γ m)(a b:Expr)(pos:Pos)(h:cE (m+1) Γ (.Subscript a b pos)=some x):PE X (.Subscript a b pos) (tR κ K ε Gv Hv (iR Γ.k x)):=by
 have gen:(∀lo hi st p,b≠.Slice lo hi st p)->o2 (cE m Γ a) (cE m Γ b) .idx=some x->PE X (.Subscript a b pos) (tR κ K ε Gv Hv (iR Γ.k x)):=λhb h=>by obtain⟨a',b',h1,h2,rfl⟩:=qi h;refine PE.imp (qg9 (qeY (Ξ:=XP κ Gv Hv ε) (Gv:=Gv) (Hv:=Hv) gd) (A.r Gv Hv _ _ h1) (A.r Gv Hv _ _ h2) (QM hb)) λσ H Q hq1=>?_;obtain⟨ρ,G,er,h⟩:=hq1;refine⟨ρ,G,er,Wx.mono (Wx.th (x:=iR Γ.k a' ρ) h) λx h v G1 H1 p1 r1=>⟨x.2,G1,p1.er,Wx.mono (Wx.th (x:=iR Γ.k b' x.2) h) λy h w G2 H2 p2 r2=>?_⟩⟩;exact⟨y.2,σ,G2,H,H1,x.1,y.1,p2.er,r1.keep p2,r2,Wx.mono (Wx.th h) λz h u G3 H3 p3 r3=>h u G3 H3 (p1.trans (p2.trans p3)) (r3.back (p1.trans p2).hs)⟩
 cases b with
 |Slice lo hi st p=>
  cases st with
  |some st=>cases h
  |none=>obtain⟨a',q,h1,h2,rfl⟩:=qi h;obtain⟨l',u',h3,h4,rfl⟩:=qi h2;refine PE.imp (qay (qeZ (Ξ:=XP κ Gv Hv ε) (Gv:=Gv) (Hv:=Hv) gd) (A.r Gv Hv _ _ h1) (A.o Gv Hv _ _ h3) (A.o Gv Hv _ _ h4)) λσ H Q hq1=>?_;obtain⟨ρ,G,er,h⟩:=hq1;refine⟨ρ,G,er,Wx.mono (Wx.th (x:=iR Γ.k a' ρ) h) λx h v G1 H1 p1 r1=>⟨x.2,G1,p1.er,Wx.mono (Wx.th (x:=iO Γ.k l' x.2) h) λy h G2 H2 p2=>⟨y.2,G2,p2.er,Wx.mono (Wx.th (x:=iO Γ.k u' y.2) h) λz h G3 H3 p3=>?_⟩⟩⟩;exact⟨z.2,σ,G3,H,x.1,p3.er,(r1.keep p2).keep p3,Wx.mono (Wx.th h) λu h w G4 H4 p4 r4=>h w G4 H4 (p1.trans (p2.trans (p3.trans p4))) (r4.back (p1.trans (p2.trans p3)).hs)⟩
 |_=>exact gen (λ_ _ _ _ z=>by cases z) h
theorem qe6(A:All κ K ε k X Γ m)(es:List Expr)(pos:Pos)(h:cE (m+1) Γ (.List es pos)=some x):PE X (.List es pos) (tR κ K ε Gv Hv (iR Γ.k x)):=by obtain⟨l,h1,rfl⟩:=map_some h;refine PE.imp (Q9 (A.es Gv Hv _ _ h1)) λσ H Q hq1=>?_;obtain⟨ρ,G,er,h⟩:=hq1;refine⟨ρ,G,er,Wx.mono (Wx.th (x:=iEs Γ.k l ρ) h) λx h vs G1 H1 p1 r1=>?_⟩;obtain⟨hz,h⟩:=Wx.iff h;refine⟨by rw[<-r1.len];exact hz,λp hp=>?_⟩;obtain⟨z1,z2⟩:=p1.er.newList hp r1;exact h _ _ _ (p1.trans z1) (z2.back p1.hs)
theorem qe7(A:All κ K ε k X Γ m)(es:List Expr)(j:Nat)(pos:Pos)(h:cE (m+1) Γ (.Tuple es j pos)=some x):PE X (.Tuple es j pos) (tR κ K ε Gv Hv (iR Γ.k x)):=by obtain⟨l,h1,rfl⟩:=map_some h;refine PE.imp (qbr (A.es Gv Hv _ _ h1)) λσ H Q hq1=>?_;obtain⟨ρ,G,er,h⟩:=hq1;refine⟨ρ,G,er,Wx.mono (Wx.th (x:=iEs Γ.k l ρ) h) λx h vs G1 H1 p1 r1=>?_⟩;obtain⟨hz,h⟩:=Wx.iff h;refine⟨by rw[<-r1.len];exact hz,λp hp=>?_⟩;have z1:=Po.lay (o:=.tup vs) p1.er hp;refine h _ _ _ (p1.trans z1) ?_;simp only[RvR,Rep];exact⟨p,vs,rfl,qc,r1.same z1.gs⟩
theorem qjq(gd:Gd κ K ε k X Γ)(A:All κ K ε k X Γ m)(e:Expr)(x:E)(h:cX (m+1) Γ e=some x):PE X e (tE κ K ε Gv Hv (zR x (iR Γ.k x))):=by
 have gen:(cE m Γ e).bind Ji=some x->PE X e (tE κ K ε Gv Hv (zR x (iR Γ.k x))):=λh=>by
  obtain⟨y,h1,h2⟩:=Option.bind_eq_some_iff.mp h;obtain⟨rfl,hv⟩:=zh h2;refine PE.imp (A.r Gv Hv _ _ h1) λσ H Q hq1=>?_;obtain⟨ρ,G,er,h⟩:=hq1;rw[qcU hv] at h;refine⟨ρ,G,er,Wx.mono (Wx.th h) λx h v G1 H1 p1 r1=>?_⟩;obtain⟨rv,ρ1⟩:=x
  cases rv with
  |val d=>exact h v G1 H1 p1 r1
  |tmp l=>obtain⟨a,xs,rfl,h1,h2,h3,h4,h5,h6⟩:=r1;have p2:=p1.freeze h1 h2 h3 h4 h5;refine h _ _ H1 p2 ?_;simp only[Rep];exact⟨a,xs,rfl,qc,h6.same (qj.upd h4)⟩
  |_=>exact False.elim h
 cases e with
 |Name x pos=>exact Qc gd h pos
 |_=>exact gen h
theorem qhs(A:All κ K ε k X Γ m):∀es x,cEs (m+1) Γ es=some x->PA X es (tEs κ K ε Gv Hv (iEs Γ.k x))
 |[],_,h=>by cases h;exact PA.imp qz λσ H Q ⟨ρ,G,er,h⟩=>h [] G H (Po.refl er) .nil
 | e::l,_,h=>by obtain⟨hs,h⟩:=qg h;obtain⟨a',l',h1,h2,rfl⟩:=qi h;refine PA.imp (qr (A.e Gv Hv _ _ h1) (A.es Gv Hv _ _ h2) (qh (by simpa using hs))) λσ H Q hq1=>?_;obtain⟨ρ,G,er,h⟩:=hq1;refine⟨ρ,G,er,Wx.mono (Wx.th (x:=zR a' (iR Γ.k a') ρ) h) λx h v G1 H1 p1 r1=>⟨x.2,G1,p1.er,Wx.mono (Wx.th (x:=iEs Γ.k l' x.2) h) λy h vs G2 H2 p2 r2=>?_⟩⟩;exact h _ G2 H2 (p1.trans p2) (.cons (r1.same p2.gs) r2)
theorem qht(A:All κ K ε k X Γ m):∀es x,cAs (m+1) Γ es=some x->PA X es (tAs κ K ε Gv Hv (iAs Γ.k x))
 |[],_,h=>by cases h;exact PA.imp qz λσ H Q ⟨ρ,G,er,h⟩=>h [] G H (Po.refl er) rfl
 | e::l,_,h=>by
  obtain⟨hs,h⟩:=qg h;obtain⟨a',l',h1,h2,rfl⟩:=qi h;refine PA.imp (qr (A.r Gv Hv _ _ h1) (A.as Gv Hv _ _ h2) (qh (by simpa using hs))) λσ H Q hq1=>?_;obtain⟨ρ,G,er,h⟩:=hq1;refine⟨ρ,G,er,Wx.mono (Wx.th (x:=iR Γ.k a' ρ) h) λx h v G1 H1 p1 r1=>?_⟩;have h:=Wx.th (x:=iAs Γ.k l' x.2) h;obtain⟨rv,ρ1⟩:=x
  cases rv with
  |val d=>exact⟨ρ1,G1,p1.er,Wx.mono h λy h vs G2 H2 p2 r2=>h _ G2 H2 (p1.trans p2) ⟨v,vs,rfl,Rep.same p2.gs r1,r2⟩⟩
  |tmp ds=>obtain⟨a,xs,rfl,h1,h2,h3,h4,h5,h6⟩:=r1;have p1':=p1.freeze h1 h2 h3 h4 h5;refine⟨ρ1,_,p1'.er,Wx.mono h λy h vs G2 H2 p2 r2=>h _ G2 H2 (p1'.trans p2) ⟨_,vs,rfl,?_,r2⟩⟩;show Rep κ G2 (.lst ds) (.ref a);simp only[Rep];exact⟨a,xs,rfl,p2.gs _ _ qc,(h6.same (qj.upd h4)).same p2.gs⟩
  |cell ds=>obtain⟨a,xs,rfl,h1,h6⟩:=r1;exact⟨ρ1,G1,p1.er,Wx.mono h λy h vs G2 H2 p2 r2=>h _ G2 H2 (p1.trans p2) ⟨_,vs,rfl,⟨a,xs,rfl,p2.hs _ _ h1,h6.same p2.gs⟩,r2⟩⟩
  |scr ds=>obtain⟨a,xs,rfl,h1,h6⟩:=r1;exact⟨ρ1,G1,p1.er,Wx.mono h λy h vs G2 H2 p2 r2=>h _ G2 H2 (p1.trans p2) ⟨_,vs,rfl,⟨a,xs,rfl,p2.hs.seq h1,h6.same p2.gs⟩,r2⟩⟩
  |obj oa c ns os=>exact⟨ρ1,G1,p1.er,Wx.mono h λy h vs G2 H2 p2 r2=>h _ G2 H2 (p1.trans p2) ⟨v,vs,rfl,ObR.same p2.hs p2.gs r1,r2⟩⟩
theorem qjr(A:All κ K ε k X Γ m):∀o x,cO (m+1) Γ o=some x->PO X o (tO κ K ε Gv Hv (iO Γ.k x))
 |none,_,h=>by cases h;exact PO.imp qci λσ H Q ⟨ρ,G,er,h⟩=>h G H (Po.refl er)
 |some e,_,h=>by
  obtain⟨a',h1,rfl⟩:=map_some h;refine PO.imp (qcj (A.r Gv Hv _ _ h1)) λσ H Q hq1=>?_;obtain⟨ρ,G,er,h⟩:=hq1;refine⟨ρ,G,er,Wx.mono (Wx.th (x:=iR Γ.k a' ρ) h) λx h v G1 H1 p1 r1=>?_⟩;obtain⟨rv,ρ1⟩:=x
  cases rv with
  |val d=>
   cases d with
   |int i=>exact⟨i,by simpa only[RvR,Rep] using r1,h G1 H1 p1⟩
   |_=>exact False.elim h
  |_=>exact False.elim h
theorem qjs(A:All κ K ε k X Γ m):∀es x,cF (m+1) Γ es=some x->PIf X es (tT κ K ε Gv Hv (iF Γ.k x))
 |[],_,h=>by cases h;exact PIf.imp qct λσ H Q ⟨ρ,G,er,h⟩=>h G H (Po.refl er)
 |[c],_,h=>by obtain⟨a',h1,rfl⟩:=map_some h;exact qcu (A.t Gv Hv _ _ h1)
 | _::_::_,_,h=>by cases h
noncomputable def qbJ:Expr->Bool
 |.UnaryOp .Not _ _=>false
 |.BoolOp ..=>false
 |.IfExp ..=>false
 |.Compare ..=>false
 |_=>true
theorem ZM{e:Expr}(h:qbJ e=true)(env:PySem.Env):∀whole,isTrue e env whole=(do let v<-whole;standAt e.pos;holding [v] (truthy v)):=by
 intro whole
 cases e with
 |UnaryOp op a pos=>cases op<;>first | rfl | cases h
 |BoolOp=>cases h
 |IfExp=>cases h
 |Compare=>cases h
 |_=>rfl
theorem qjt(gd:Gd κ K ε k X Γ)(A:All κ K ε k X Γ m)(e:Expr)(x:T)(h:cT (m+1) Γ e=some x):PT X e (tT κ K ε Gv Hv (iT Γ.k x)):=by
 have gen:qbJ e=true->(cE m Γ e).map .val=some x->PT X e (tT κ K ε Gv Hv (iT Γ.k x)):=λhp h=>by obtain⟨a',h1,rfl⟩:=map_some h;refine PT.imp (qas (A.r Gv Hv _ _ h1) (ZM hp X.env)) λσ H Q hq1=>?_;obtain⟨ρ,G,er,h⟩:=hq1;refine⟨ρ,G,er,Wx.mono (Wx.th (x:=iR Γ.k a' ρ) h) λx h v G1 H1 p1 r1=>?_⟩;obtain⟨b,e1,h⟩:=Wx.of (Wx.th h);exact⟨b,qaQ gd p1.er r1 e1,h G1 H1 p1⟩
 cases e with
 |UnaryOp op a pos=>
  cases op with
  |Not=>obtain⟨a',h1,rfl⟩:=map_some h;refine PT.imp (qbn (A.t Gv Hv _ _ h1)) λσ H Q hq1=>?_;obtain⟨ρ,G,er,h⟩:=hq1;exact⟨ρ,G,er,Wx.mono (Wx.th (x:=iT Γ.k a' ρ) h) λx h G1 H1 p1=>h G1 H1 p1⟩
  |_=>exact gen rfl h
 |BoolOp op vs pos=>
  cases vs with
  |nil=>cases op<;>cases h
  |cons a vs=>
   cases vs with
   |nil=>
    cases op with
    |And=>obtain⟨a',h1,rfl⟩:=map_some h;exact PT.imp (PW.pt (qb7 (A.t Gv Hv _ _ h1))) λσ H Q h=>h
    |Or=>obtain⟨a',h1,rfl⟩:=map_some h;exact PT.imp (PW.pt (qeh (A.t Gv Hv _ _ h1))) λσ H Q h=>h
   |cons b l=>
    cases op with
    |And=>
     obtain⟨a',b',h1,h2,rfl⟩:=qi h;intro pins s σ H Q I hw;obtain⟨ρ,G,er,h⟩:=hw;refine isTrue_and (thn (A.t Gv Hv _ _ h1 pins s σ H (λc H1=>if c=true then tT κ K ε Gv Hv (iT Γ.k b') σ H1 Q else Q false H1) I ?_) λc s1 ⟨H1,I1,q1⟩=>?_)
     ·refine⟨ρ,G,er,Wx.mono (Wx.th (x:=iT Γ.k a' ρ) h) λx h G1 H1 p1=>?_⟩;obtain⟨d,ρ1⟩:=x
      cases d with
      |true=>rw[if_pos rfl];exact⟨ρ1,G1,p1.er,Wx.mono h λy h G2 H2 p2=>h G2 H2 (p1.trans p2)⟩
      |false=>rw[if_neg (λz=>by cases z)];exact h G1 H1 p1
     ·cases c with
      |true=>exact A.t Gv Hv _ _ h2 pins s1 σ H1 Q I1 q1
      |false=>exact⟨H1,I1,q1⟩
    |Or=>
     obtain⟨a',b',h1,h2,rfl⟩:=qi h;intro pins s σ H Q I hw;obtain⟨ρ,G,er,h⟩:=hw;refine isTrue_or (thn (A.t Gv Hv _ _ h1 pins s σ H (λc H1=>if c=true then Q true H1 else tT κ K ε Gv Hv (iT Γ.k b') σ H1 Q) I ?_) λc s1 ⟨H1,I1,q1⟩=>?_)
     ·refine⟨ρ,G,er,Wx.mono (Wx.th (x:=iT Γ.k a' ρ) h) λx h G1 H1 p1=>?_⟩;obtain⟨d,ρ1⟩:=x
      cases d with
      |false=>rw[if_neg (λz=>by cases z)];exact⟨ρ1,G1,p1.er,Wx.mono h λy h G2 H2 p2=>h G2 H2 (p1.trans p2)⟩
      |true=>rw[if_pos rfl];exact h G1 H1 p1
     ·cases c with
      |true=>exact⟨H1,I1,q1⟩
      |false=>exact A.t Gv Hv _ _ h2 pins s1 σ H1 Q I1 q1
 |IfExp c a b pos=>cases h
 |Compare a ops bs pos=>
  match ops,bs,h with
  |[op],[b],h=>exact qc3 gd A a b op pos h
  |[_,_],[_,_],h=>cases h
  |[],[],h=>cases h
  | [],_::_,h=>cases h
  |[_],[],h=>cases h
  | [_],_::_::_,h=>cases h
  |[_,_],[],h=>cases h
  |[_,_],[_],h=>cases h
  | [_,_],_::_::_::_,h=>cases h
  | _::_::_::_,_,h=>cases h
 |_=>exact gen rfl h
end
end DE
namespace DE
open PySem PySem.Spec PyProof.Rows L2
section
variable{κ:KC}{ε:XK}{K:Frag}{Gv Hv:Hp}{k m:Nat}{X:Cx}{Γ:Ct}
theorem qe8{tg l:Expr}{tl:TE}(hl:PE X l tl):PI X tg l (λσ H R=>tl σ H λx H1=>(∃a,x=.ref a/\(((∃xs,SqL X.K H1 a xs)/\R (Itl X.K a) H1)\/((∃xs,SqT X.K H1 a xs)/\R (Itt X.K a) H1)))\/∃z,x=.str z/\R (Its z) H1):=by
 intro pins s σ H R I h;refine thn (hl pins s σ H _ I h) λv s1 hq1=>?_;obtain⟨x,H1,I1,r1,q1⟩:=hq1;rcases q1 with ⟨a,e,q⟩ | ⟨x,rfl,q⟩
 ·subst e;cases r1;rcases q with ⟨⟨xs,hq⟩,q⟩ | ⟨⟨xs,hq⟩,q⟩
  ·obtain⟨its,rv,p,hz⟩:=I1.list hq;refine wpAny_pyIter_list p.isList ?_;refine⟨s1.heap.objs.size,[s1.heap.objs.size],_,_,H1,rfl,I1.kept (t':=s1.toks) λb o e=>Heap.get?_push_of_some _ e,QW a _,⟨_,Heap.get?_push_size _ rfl,rfl,rfl⟩,λb hb=>?_,q⟩;have e:b=s1.heap.objs.size:=by simpa using hb
   subst e;exact I1.fpOk (Nat.le_refl _) (I1.hok.fresh (Nat.le_refl _))
  ·obtain⟨its,rv,p,hz⟩:=I1.tuple hq;refine wpAny_pyIter_tuple (show s1.heap.IsTuple a its.toArray from p) ?_;refine⟨s1.heap.objs.size,[s1.heap.objs.size],_,_,H1,rfl,I1.kept (t':=s1.toks) λb o e=>Heap.get?_push_of_some _ e,Qx a _,⟨_,Heap.get?_push_size _ rfl,rfl,rfl⟩,λb hb=>?_,q⟩;have e:b=s1.heap.objs.size:=by simpa using hb
   subst e;exact I1.fpOk (Nat.le_refl _) (I1.hok.fresh (Nat.le_refl _))
 ·obtain⟨t,rfl⟩:=r1
  have fin:∀(T:String) (o:Obj),(T = "str_ascii_iterator"\/T = "str_iterator")->(∀A':Around,A'.handled=none->Walks X.prog X.w A' s1.heap.objs.size [s1.heap.objs.size] [s1.heap.objs.size] x.cps.size (SignAt x) (λi h=>h.IsStrIter s1.heap.objs.size T x t i))->
    (s1.heap.push o).IsStrIter s1.heap.objs.size T x t 0->PIE X pins σ tg R (.ref s1.heap.objs.size) { s1 with heap:=s1.heap.push o }:=λT o hT W st=>by
   refine⟨s1.heap.objs.size,[s1.heap.objs.size],_,_,H1,rfl,I1.kept (t':=s1.toks) λb o e=>Heap.get?_push_of_some _ e,qaD hT W,st,λb hb=>?_,q⟩;have e:b=s1.heap.objs.size:=by simpa using hb
   subst e;exact I1.fpOk (Nat.le_refl _) (I1.hok.fresh (Nat.le_refl _))
  cases ha:x.cps.all (· < 128)
  ·exact wpAny_pyIter_wide ha (fin _ _ (.inr rfl) (λA' hA=>Walks.strWide hA _ x t) ⟨_,Heap.get?_push_size _ rfl,rfl,rfl⟩)
  ·exact wpAny_pyIter_ascii ha (fin _ _ (.inl rfl) (λA' hA=>Walks.strAscii hA _ x t) ⟨_,Heap.get?_push_size _ rfl,rfl,rfl⟩)
theorem qaT(gd:Gd κ K ε k X Γ){x:Str}{i:Nat}(hi:qd2 Γ x=some i)(pos:Pos):PE X (.Name x pos) (tL κ K ε Gv Hv (JZ (.var i) (iR Γ.k (.var i)))):=by
 refine PE.imp (qbG gd hi pos) λσ H Q hq1=>?_;obtain⟨ρ,G,er,h⟩:=hq1;have h:Wx _ (slL ρ i) _:=h;unfold slL at h
 cases q:ρ[i]? with
 |none=>rw[q] at h;exact False.elim h
 |some s=>
  rw[q] at h;have w:=er.sl i s q
  cases s with
  |no=>exact False.elim h
  |val d=>
   obtain⟨v,z,r⟩:=w
   cases d with
   |lst l=>simp only[Rep] at r;obtain⟨a,xs,rfl,r1,r2⟩:=r;exact⟨_,z,h _ G H (Po.refl er) ⟨a,xs,rfl,r2,.inl r1⟩⟩
   |str y=>simp only[Rep] at r;subst r;exact⟨_,z,h _ G H (Po.refl er) ⟨y,rfl,rfl⟩⟩
   |tup l=>simp only[Rep] at r;obtain⟨a,xs,rfl,r1,r2⟩:=r;exact⟨_,z,h _ G H (Po.refl er) ⟨a,xs,rfl,r2,r1⟩⟩
   |_=>exact False.elim h
  |own l=>obtain⟨a,xs,z,p,r⟩:=er.froze q;simp only[Rep] at r;obtain⟨a',xs',e,r1,r2⟩:=r;cases e;exact⟨_,z,h _ _ H p ⟨a,xs',rfl,r2,.inl r1⟩⟩
  |bor l=>obtain⟨a,xs,z,r1,r4⟩:=w;exact⟨_,z,h _ G H (Po.refl er) ⟨a,xs,rfl,r4,.inr (SqL.of r1)⟩⟩
  |scr l=>obtain⟨a,xs,z,r1,r4⟩:=w;exact⟨_,z,h _ G H (Po.refl er) ⟨a,xs,rfl,r4,.inr r1⟩⟩
  |obj oa c ns os=>exact False.elim h
theorem qju(gd:Gd κ K ε k X Γ)(A:All κ K ε k X Γ m)(e:Expr)(x:E)(h:cL (m+1) Γ e=some x):PE X e (tL κ K ε Gv Hv (JZ x (iR Γ.k x))):=by
 have gen:(cE m Γ e).bind Ji=some x->PE X e (tL κ K ε Gv Hv (JZ x (iR Γ.k x))):=λh=>by
  obtain⟨y,h1,h2⟩:=Option.bind_eq_some_iff.mp h;obtain⟨rfl,hv⟩:=zh h2;refine PE.imp (A.r Gv Hv _ _ h1) λσ H Q hq1=>?_;obtain⟨ρ,G,er,h⟩:=hq1;rw[qcV hv] at h;refine⟨ρ,G,er,Wx.mono (Wx.th h) λx h v G1 H1 p1 r1=>?_⟩;obtain⟨rv,ρ1⟩:=x
  cases rv with
  |val d=>
   cases d with
   |lst l=>simp only[RvR,Rep] at r1;obtain⟨a,xs,rfl,q1,q2⟩:=r1;exact h _ G1 H1 p1 ⟨a,xs,rfl,q2,.inl q1⟩
   |str y=>simp only[RvR,Rep] at r1;subst r1;exact h _ G1 H1 p1 ⟨y,rfl,rfl⟩
   |tup l=>simp only[RvR,Rep] at r1;obtain⟨a,xs,rfl,q1,q2⟩:=r1;exact h _ G1 H1 p1 ⟨a,xs,rfl,q2,q1⟩
   |_=>exact False.elim h
  |tmp l=>obtain⟨a,xs,rfl,h1,h2,h3,h4,h5,h6⟩:=r1;exact h _ _ H1 (p1.freeze h1 h2 h3 h4 h5) ⟨a,xs,rfl,h6.same (qj.upd h4),.inl qc⟩
  |_=>exact False.elim h
 cases e with
 |Name x pos=>obtain⟨i,h1,rfl⟩:=map_some h;exact qaT gd h1 pos
 |_=>exact gen h
theorem qe9{G:Hp}{a:Addr}{xs:List V}{l:List D}(h:G a=some (.lst xs)\/SqL K Hv a xs)(r:qm κ G l xs):ItR κ Hv G (Itl K a) l:=by
 intro i G1 H1 s1 s2 s3;have hq:SqL K H1 a xs:=h.elim (λz=>SqL.of (s3 _ _ (s1 _ _ z))) λz=>s2.seq z;refine⟨λd e=>?_,λe=>⟨xs,hq,by rw[<-r.len];omega⟩⟩;obtain⟨v,e1,e2⟩:=r.atD e;refine⟨⟨xs,v,hq,e1⟩,λx H' ⟨z1,z2⟩=>⟨G1,by rw[z1];exactλ_ _ q=>q,λ_ _ q=>q,by rw[z1];exact s3,λ_ o q=>.inl ⟨o,q⟩,?_⟩⟩
 have:=z2 xs hq
 rw[e1] at this;cases this;exact e2.same s1
theorem qfa{G:Hp}{a:Addr}{xs:List V}{l:List D}(h:G a=some (.tup xs))(r:qm κ G l xs):ItR κ Hv G (Itt K a) l:=by
 intro i G1 H1 s1 s2 s3;have hq:SqT K H1 a xs:=SqT.of (s3 _ _ (s1 _ _ h));refine⟨λd e=>?_,λe=>⟨xs,hq,by rw[<-r.len];omega⟩⟩;obtain⟨v,e1,e2⟩:=r.atD e;refine⟨⟨xs,v,hq,e1⟩,λx H' ⟨z1,z2⟩=>⟨G1,by rw[z1];exactλ_ _ q=>q,λ_ _ q=>q,by rw[z1];exact s3,λ_ o q=>.inl ⟨o,q⟩,?_⟩⟩
 have:=z2 xs hq
 rw[e1] at this;cases this;exact e2.same s1
theorem qfb{G:Hp}{x:Str}:ItR κ Hv G (Its x) (qah x):=by
 intro i G1 H1 s1 s2 s3;have hl:(qah x).length=x.cps.size:=by simp[qah]
 refine⟨λd e=>?_,λe=>by rw[<-e,hl];rfl⟩;unfold qah at e;rw[List.getElem?_map] at e;obtain⟨c,e1,rfl⟩:=Option.map_eq_some_iff.mp e;rw[Array.getElem?_toList] at e1;refine⟨(Array.getElem?_eq_some_iff.mp e1).1,λv H' ⟨z1,c',z2,z3⟩=>⟨G1,by rw[z1];exactλ_ _ q=>q,λ_ _ q=>q,by rw[z1];exact s3,λ_ o q=>.inl ⟨o,q⟩,?_⟩⟩;rw[e1] at z2;cases z2;rw[z3];simp only[Rep]
theorem qfc{G:Hp}{lo hi:Int}:ItR κ Hv G (Itr lo (hi - lo).toNat) (qN lo hi):=by
 intro i G1 H1 s1 s2 s3;refine⟨λd e=>?_,λe=>?_⟩
 ·unfold qN at e;rw[List.getElem?_map] at e;obtain⟨j,e1,rfl⟩:=Option.map_eq_some_iff.mp e;obtain⟨h1,h2⟩:=List.getElem?_eq_some_iff.mp e1;have hi':i < (hi - lo).toNat:=by simpa using h1
  have hj:j=i:=by rw[<-h2];simp
  subst hj;refine⟨hi',λx H' ⟨z1,z2⟩=>⟨G1,by rw[z1];exactλ_ _ q=>q,λ_ _ q=>q,by rw[z1];exact s3,λ_ o q=>.inl ⟨o,q⟩,?_⟩⟩;rw[z2];simp only[Rep]
 ·have hl:(qN lo hi).length=(hi - lo).toNat:=by simp only[qN,List.length_map,List.length_range]
  show(hi - lo).toNat<=i;omega
theorem qc4{G H:Hp}{T:Addr}{x y:V}{d e:D}(sub:qj G H)(hT:H T=none)(hx:Rep κ G d x)(hy:Rep κ G e y) :
  ∃G',qj H (upd H T (.tup [x,y]))/\qj G G'/\qj G' (upd H T (.tup [x,y]))/\(∀a o,G' a=some o->(∃o',G a=some o')\/H a=none)/\Rep κ G' (.tup [d,e]) (.ref T):=by
 have gT:G T=none:=qj.none sub hT;have gs:qj G (upd G T (.tup [x,y])):=qj.upd gT;refine⟨upd G T (.tup [x,y]),qj.upd hT,gs,λb u q=>?_,λb u q=>?_,?_⟩
 ·by_cases hb:b=T
  ·subst hb;rw[qc] at q ⊢;exact q
  ·rw[qb hb] at q ⊢;exact sub b u q
 ·by_cases hb:b=T
  ·subst hb;exact .inr hT
  ·rw[qb hb] at q;exact .inl ⟨u,q⟩
 ·simp only[Rep];exact⟨T,_,rfl,qc,.cons (hx.same gs) %[hy.same gs|0]⟩
theorem qfd{G:Hp}{a:Addr}{xs:List V}{l:List D}(h:G a=some (.lst xs)\/SqL K Hv a xs)(r:qm κ G l xs):ItR κ Hv G (Ite K a) (zw l):=by
 intro i G1 H1 s1 s2 s3;have hq:SqL K H1 a xs:=h.elim (λz=>SqL.of (s3 _ _ (s1 _ _ z))) λz=>s2.seq z;have hlen:(zw l).length=l.length:=by simp[zw]
 refine⟨λd e=>?_,λe=>⟨xs,hq,by rw[<-r.len];omega⟩⟩;have hi:i < l.length:=by rw[<-hlen];exact(List.getElem?_eq_some_iff.mp e).1
 have e0:(zw l)[i]?=some (.tup [.int i,l[i]]):=by unfold zw;rw[List.getElem?_zipWith];simp[hi]
 rw[e0] at e;cases e;obtain⟨v,e1,e2⟩:=r.atD (List.getElem?_eq_getElem hi);refine⟨⟨xs,v,hq,e1⟩,λx H' z=>?_⟩;obtain⟨T,x',rfl,hT,rfl,z2⟩:=z
 have:=z2 xs hq
 rw[e1] at this;cases this;exact qc4 s3 hT (by simp only[Rep]) (e2.same s1)
theorem ZN{i:Int}(h:qO i=true):-(2 ^ 62)<=i/\i < 2 ^ 62:=by
 unfold qO at h
 simpa [Bool.and_eq_true] using h
theorem qaU(gd:Gd κ K ε k X Γ)(A:All κ K ε k X Γ m)(tg e:Expr)(x:I)(h:(cL m Γ e).map .seq=some x):PI X tg e (tI κ K ε Gv Hv (iI Γ.k x)):=by
 obtain⟨a',h1,rfl⟩:=map_some h;refine PI.imp (qe8 (A.l Gv Hv _ _ h1)) λσ H Q hq1=>?_;obtain⟨ρ,G,er,h⟩:=hq1;refine⟨ρ,G,er,Wx.mono (Wx.th (x:=JZ a' (iR Γ.k a') ρ) h) λx h v G1 H1 p1 r1=>?_⟩;obtain⟨⟨b,l⟩,ρ1⟩:=x
 cases b with
 |str=>obtain⟨y,rfl,rfl⟩:=r1;exact .inr ⟨y,rfl,h _ G1 H1 p1 qfb⟩
 |tup=>obtain⟨a,xs,rfl,r2,r3⟩:=r1;exact .inl ⟨a,rfl,.inr ⟨⟨xs,SqT.of (p1.er.sub _ _ r3)⟩,h _ G1 H1 p1 (by rw[gd.hK];exact qfa r3 r2)⟩⟩
 |lst=>obtain⟨a,xs,rfl,r2,r3⟩:=r1;refine .inl ⟨a,rfl,.inl ⟨⟨xs,?_⟩,h _ G1 H1 p1 (by rw[gd.hK];exact qe9 r3 r2)⟩⟩;rw[gd.hK];exact r3.elim (λz=>SqL.of (p1.er.sub _ _ z)) λz=>p1.er.base.seq z
theorem qfe{G H:Hp}{ρ:Env}{σ:L2.St}{a:Addr}{xs:List V}(gd:Gd κ K ε k X Γ)(er:ER κ K Gv Hv G H ρ σ)(r:G a=some (.lst xs)\/SqL K Hv a xs):∃xs,SqL X.K H a xs:=by rw[gd.hK];exact⟨xs,r.elim (λz=>SqL.of (er.sub _ _ z)) λz=>er.base.seq z⟩
theorem qc5(gd:Gd κ K ε k X Γ)(A:All κ K ε k X Γ m)(tg a:Expr)(f:Str)(p q:Pos)(x:I)(hg:Gl X f)(h:oif (!qD a) (if f = "range" then (cE m Γ a).map .rng else if f = "enumerate" then oif (qbA tg) ((cL m Γ a).map .enum) else none)=some x) :
  PI X tg (.Call (.Name f p) [a] [] q) (tI κ K ε Gv Hv (iI Γ.k x)):=by
 obtain⟨hs,h⟩:=qg h;have hs:qD a=false:=by simpa using hs
 by_cases h1:f = "range"
 ·subst h1;rw[if_pos rfl] at h;obtain⟨a',h1,rfl⟩:=map_some h;refine PI.imp (QX hg (gd.blt _ (2:)) (qr (A.r Gv Hv _ _ h1) qz (qh hs)) (qh hs)) λσ H Q hq1=>?_;obtain⟨ρ,G,er,h⟩:=hq1;refine⟨ρ,G,er,Wx.mono (Wx.th (x:=iR Γ.k a' ρ) h) λx h v G1 H1 p1 r1=>?_⟩
  cases e1:x.1.int? with
  |none=>rw[e1] at h;exact False.elim h
  |some n=>
   rw[e1] at h;obtain⟨hz,h⟩:=Wx.iff h;obtain⟨z1,z2⟩:=ZN hz;refine⟨n,by rw[r1.int e1],z1,z2,h _ G1 H1 p1 ?_⟩
   have:=qfc (κ:=κ) (Hv:=Hv) (G:=G1) (lo:=0) (hi:=n)
   rw[Int.sub_zero] at this;exact this
 rw[if_neg h1] at h
 by_cases h2:f = "enumerate"
 ·subst h2;rw[if_pos rfl] at h;obtain⟨ht,h⟩:=qg h;obtain⟨a',h1,rfl⟩:=map_some h
  cases tg with
  |Tuple es j tp=>
   refine PI.imp (qcE hg (gd.blt _ (2:)) (qr (A.l Gv Hv _ _ h1) qz (qh hs)) (qh hs)) λσ H Q hq1=>?_;obtain⟨ρ,G,er,h⟩:=hq1;refine⟨ρ,G,er,Wx.mono (Wx.th (x:=JZ a' (iR Γ.k a') ρ) h) λx h v G1 H1 p1 r1=>?_⟩;obtain⟨⟨b,l⟩,ρ1⟩:=x
   cases b with
   |lst=>obtain⟨c,xs,rfl,r2,r3⟩:=r1;exact⟨c,rfl,qfe gd p1.er r3,h _ G1 H1 p1 (by rw[gd.hK];exact qfd r3 r2)⟩
   |_=>exact False.elim h
  |_=>cases ht
 rw[if_neg h2] at h;cases h
theorem qjv(gd:Gd κ K ε k X Γ)(A:All κ K ε k X Γ m)(tg e:Expr)(x:I)(h:cI (m+1) Γ (qbA tg) e=some x):PI X tg e (tI κ K ε Gv Hv (iI Γ.k x)):=by
 cases e with
 |Call fn es kws q=>
  cases fn with
  |Name f p=>
   cases kws with
   |nil=>
    have h:(if (decide (f = "range")||decide (f = "enumerate")||decide (f = "zip")||decide (f = "reversed"))=true then _ else _)=some x:=h
    by_cases hf:(decide (f = "range")||decide (f = "enumerate")||decide (f = "zip")||decide (f = "reversed"))=true
    ·rw[if_pos hf] at h;obtain⟨hn,h⟩:=qg h;simp only[Bool.and_eq_true] at hn;have hg:=gd.glo _ hn.1.2
     match es,h with
     |[a],h=>exact qc5 gd A tg a f p q x hg h
     |[_,_],h=>cases h
     |[_,_,_],h=>cases h
     |[],h=>cases h
     | _::_::_::_::_,h=>cases h
    ·rw[if_neg hf] at h;exact qaU gd A tg _ x h
   |cons kw kws=>exact qaU gd A tg _ x h
  |_=>exact qaU gd A tg _ x h
 |_=>exact qaU gd A tg _ x h
end
end DE
namespace DE
open PySem PySem.Spec PyProof.Rows L2
section
variable{κ:KC}{ε:XK}{K:Frag}{Gv Hv:Hp}{k m:Nat}{X:Cx}{Γ:Ct}{x:E}
theorem yt:∀{m:Nat} {es:List Expr} {l:Es},cAs m Γ es=some l->es.any qD=false
 |0,_,_,h=>nomatch h
 | m+1,[],_,_=>rfl
 | m+1,e::es,_,h=>by
  obtain⟨hs,h⟩:=qg h;obtain⟨a,b,_,h2,_⟩:=qi h;rw[List.any_cons,yt h2,Bool.or_false]
  simpa using hs
theorem YI{m:Nat}{l:Es}(h:cAs m Γ []=some l):l=.nil:=by
 cases m<;>cases h
 rfl
theorem qJ{env:PySem.Env}{pos:Pos}:∀{es:List Expr},es.any qD=false->(backTo pos (starEach es env)).any (·.1)=false
 |[],_=>rfl
 | e::l,h=>by simp only[List.any_cons,Bool.or_eq_false_iff] at h;rw[qh h.1];show(false||(backTo pos (starEach l env)).any (·.1))=false;rw[qJ h.2];rfl
theorem XP.call{G H G1 H1:Hp}{ρ ρ1:Env}{σ:L2.St}(p:Po κ K Gv Hv σ G H ρ G1 H1 ρ1):∀c l,XP κ Gv Hv ε c l->XP κ G1 H1 ε c l:=λc l h od G' H' h1 g1 s n x=>
 h od G' H' (λb o q=>h1 b o (p.er.base b o q)) (λb o q=>g1 b o (p.er.g0 b o q)) s (λa o q=>by
  rcases n a o q with ⟨o',z⟩ | z
  ·exact p.er.fresh a o' z
  ·exact .inr (qj.none p.er.base z)) x
theorem ReR.rv{G H G1 H1 G2 H2:Hp}{ρ ρ1:Env}{σ:L2.St}{r:Rv}{v:V}(p:Po κ K Gv Hv σ G H ρ G1 H1 ρ1)(hs:qj H1 H2)(gs:qj G1 G2)(sub:qj G2 H2)(new:∀a o,G2 a=some o->(∃o',G1 a=some o')\/H1 a=none)(h:ReR κ G2 H2 H1 r v) :
  Po κ K Gv Hv σ G H ρ G2 H2 ρ1/\RvR κ K Hv H G2 H2 ρ1 σ r v:=by
 refine⟨p.trans (Po.more p.er hs gs sub new),?_⟩
 cases r with
 |val d=>exact h
 |tmp ds=>obtain⟨a,xs,rfl,h1,h2,h3,h4⟩:=h;exact⟨a,xs,rfl,h1,qj.none p.hs h2,qj.none p.er.base h2,h3,p.er.notOwn h2,h4⟩
 |cell ds=>exact False.elim h
 |scr ds=>exact False.elim h
 |obj oa c ns os=>exact False.elim h
theorem qaV(gd:Gd κ K ε k X Γ)(A:All κ K ε k X Γ m)(f:Str)(es:List Expr)(p q:Pos)(hok:qv f=true)(hgl:glB Γ.sc f=true)(ht:Γ.tab.contains f=true)(h:(cAs m Γ es).map (.call f)=some x):PE X (.Call (.Name f p) es [] q) (tR κ K ε Gv Hv (iR Γ.k x)):=by
 obtain⟨l',h1,rfl⟩:=map_some h;have hs:=yt h1;obtain⟨fa,fd,ps,F,hm,hk,hb⟩:=gd.fns f ht;obtain⟨n1,n2,n3⟩:=ql hok
 have key:∀σ H Q,tR κ K ε Gv Hv (iR Γ.k (.call f l')) σ H Q->qav (spF κ K Γ.cl f) [] ε (tAs κ K ε Gv Hv (iAs Γ.k l')) σ H Q:=λσ H Q ⟨ρ,G,er,h⟩=>by refine⟨ρ,G,er,Wx.mono (Wx.th (x:=iAs Γ.k l' ρ) h) λx h vs G1 H1 p1 r1=>?_⟩;show spF κ K Γ.cl f (vs++[]) H1 Q ε;rw[List.append_nil];refine⟨G1,x.1,p1.er.sub,r1,Wx.mono2 (Wx.th h) (XP.call p1) λr h v G2 H2 hs gs sub new rr=>?_⟩;obtain⟨z1,z2⟩:=ReR.rv p1 hs gs sub new rr;exact h v G2 H2 z1 z2
 cases es with
 |nil=>obtain rfl:=YI h1;refine PE.imp (qaw F gd.room (gd.glo f hgl) hm hk hb .nil gd.ps n1) λσ H Q h=>?_;obtain⟨ρ,G,er,h⟩:=key σ H Q h;exact h [] G H (Po.refl er) rfl
 |cons e l=>simp only[List.any_cons,Bool.or_eq_false_iff] at hs;exact PE.imp (Yy F gd.room (gd.glo f hgl) hm hk hb .nil gd.ps (A.as Gv Hv _ _ h1) n1 (qh hs.1) (qJ hs.2)) key
theorem ZO:∀{m:Nat} {es:List Expr} {l:Es},cEs m Γ es=some l->es.any qD=false
 |0,_,_,h=>nomatch h
 | m+1,[],_,_=>rfl
 | m+1,e::es,_,h=>by
  obtain⟨hs,h⟩:=qg h;obtain⟨a,b,_,h2,_⟩:=qi h;rw[List.any_cons,ZO h2,Bool.or_false]
  simpa using hs
theorem qaW(gd:Gd κ K ε k X Γ)(A:All κ K ε k X Γ m)(f:Str)(a:Expr)(p q:Pos)(hgl:glB Γ.sc f=true)(h:oif (!qD a) (o2 (qhl f) (cE m Γ a) E.b1)=some x):PE X (.Call (.Name f p) [a] [] q) (tR κ K ε Gv Hv (iR Γ.k x)):=by
 obtain⟨hs,h⟩:=qg h;have s1:qD a=false:=by simpa using hs
 obtain⟨y,a',h1,h2,rfl⟩:=qi h
 have key:∀σ H Q,tR κ K ε Gv Hv (iR Γ.k (.b1 y a')) σ H Q->tCB (rC1 κ K (XP κ Gv Hv ε) Gv Hv y.go) (Q8 (tR κ K ε Gv Hv (iR Γ.k a')) qce) σ H Q:=λσ H Q ⟨ρ,G,er,h⟩=>⟨ρ,G,er,Wx.mono (Wx.th (x:=iR Γ.k a' ρ) h) λx h v G1 H1 p1 r1=>⟨x.2,σ,G1,H,x.1,v,rfl,p1.er,r1,Wx.mono (Wx.th h) λz h u G2 H2 p2 r2=>h u G2 H2 (p1.trans p2) (r2.back p1.hs)⟩⟩
 have pa:=qr (A.r Gv Hv _ _ h2) qz (qh s1);unfold qhl at h1
 split at h1
 ·rename_i e;cases h1;subst e;exact PE.imp (zL (qe0 (Ξ:=XP κ Gv Hv ε) (Gv:=Gv) (Hv:=Hv) gd) (gd.glo _ hgl) (gd.blt _ (2:)) PySem.boot_len pa (2:) (2:) (qh s1) rfl) key
 split at h1
 ·rename_i e;cases h1;subst e;exact PE.imp (jc (qc0 (Ξ:=XP κ Gv Hv ε) (Gv:=Gv) (Hv:=Hv) gd) (gd.glo _ hgl) (gd.blt _ (2:)) PyProof.Rows.boot_list pa (2:) (2:) (qh s1) rfl) key
 split at h1
 ·rename_i e;cases h1;subst e;exact PE.imp (jc (qe1 (Ξ:=XP κ Gv Hv ε) (κ:=κ) (K:=K) (Gv:=Gv) (Hv:=Hv)) (gd.glo _ hgl) (gd.blt _ (2:)) PyProof.Rows.boot_int pa (2:) (2:) (qh s1) rfl) key
 cases h1
theorem qaX(gd:Gd κ K ε k X Γ)(A:All κ K ε k X Γ m)(f:Str)(a b:Expr)(p q:Pos)(hgl:glB Γ.sc f=true)(h:oif (!(qD a||qD b)) (o2 (qhm f) (o2 (cE m Γ a) (cE m Γ b) Prod.mk) λf p=>E.b2 f p.1 p.2)=some x):PE X (.Call (.Name f p) [a,b] [] q) (tR κ K ε Gv Hv (iR Γ.k x)):=by
 obtain⟨hs,h⟩:=qg h;have hs:(qD a||qD b)=false:=by simpa using hs
 rw[Bool.or_eq_false_iff] at hs;obtain⟨s1,s2⟩:=hs;obtain⟨y,z,h1,h2,rfl⟩:=qi h;obtain⟨a',b',h3,h4,rfl⟩:=qi h2
 have key:∀σ H Q,tR κ K ε Gv Hv (iR Γ.k (.b2 y a' b')) σ H Q->tCB (rC2 κ K (XP κ Gv Hv ε) Gv Hv y.go) (Q8 (tR κ K ε Gv Hv (iR Γ.k a')) (Q8 (tR κ K ε Gv Hv (iR Γ.k b')) qce)) σ H Q:=λσ H Q ⟨ρ,G,er,h⟩=>⟨ρ,G,er,Wx.mono (Wx.th (x:=iR Γ.k a' ρ) h) λx h v G1 H1 p1 r1=>⟨x.2,G1,p1.er,Wx.mono (Wx.nox (Wx.th (x:=noX (iR Γ.k b' x.2)) h)) λy h w G2 H2 p2 r2=>⟨y.2,σ,G2,H,H1,x.1,y.1,v,w,rfl,p2.er,r1.keep p2,r2,Wx.mono (Wx.th h) λz h u G3 H3 p3 r3=>h u G3 H3 (p1.trans (p2.trans p3)) (r3.back (p1.trans p2).hs)⟩⟩⟩
 have sa:(backTo q (starEach [b] X.env)).any (·.1)=false:=qJ (by simp[s2]);have pa:=qr (A.r Gv Hv _ _ h3) (qr (A.r Gv Hv _ _ h4) qz (qh s2)) (qh s1);unfold qhm at h1
 split at h1
 ·rename_i e;cases h1;subst e;exact PE.imp (zL (qe2 (Ξ:=XP κ Gv Hv ε) (Gv:=Gv) (Hv:=Hv) gd) (gd.glo _ hgl) (gd.blt _ (2:)) PyProof.Rows.boot_min pa (2:) (2:) (qh s1) sa) key
 cases h1
theorem qc6:bootBuiltins "ValueError" = some (.type "ValueError"):=by decide+kernel
noncomputable def tyN:D->String
 |.non=>"NoneType" |.bl _=>"bool" |.int _=>"int" |.str _=>"str" |.lst _=>"list" |.tup _=>"tuple" |.ins ..=>"object" |.exc ..=>"object" |.dct ..=>"object"
def Ty.nm:Ty->String
 |.int=>"int" |.bool=>"bool" |.str=>"str" |.list=>"list" |.tuple=>"tuple"
theorem qhu{G H Hb:Hp}{ρ:Env}{σ:L2.St}{r:Rv}{x:V}{t:Ty}{b:Bool}(er:ER κ K Gv Hv G H ρ σ)(h:RvR κ K Hv Hb G H ρ σ r x)(e:t.go r=some b):TyOf K H x (.type (tyN r.data)):=by
 cases r with
 |val d=>
  cases d<;>simp only[RvR,Rep] at h
  ·subst h;exact .non
  ·subst h;exact .bl _
  ·subst h;exact .int _
  ·subst h;exact .str _
  ·obtain⟨a,xs,rfl,h1,_⟩:=h;exact .lst (er.sub _ _ h1)
  ·obtain⟨a,xs,rfl,h1,_⟩:=h;exact .tup (er.sub _ _ h1)
  ·cases t<;>cases e
  ·cases t<;>cases e
  ·cases t<;>cases e
 |tmp l=>obtain⟨a,xs,rfl,h1,_⟩:=h;exact .lst h1
 |cell l=>obtain⟨a,xs,rfl,h1,_⟩:=h;exact .lst h1
 |scr l=>cases e
 |obj oa c ns os=>cases t<;>cases e
theorem qff{r:Rv}{t:Ty}{b:Bool}(e:t.go r=some b):PySem.W.kitOne K (.type (tyN r.data)) (.type t.nm)=some b:=by
 have main:∀d:D,t.of d=some b->PySem.W.kitOne K (.type (tyN d)) (.type t.nm)=some b:=λd e=>by
  have q:(t.of d).elim True λb=>PySem.W.kitOne K (.type (tyN d)) (.type t.nm)=some b:=by cases t<;>cases d<;>first | exact True.intro | rfl
  rw[e] at q;exact q
 cases r with
 |val d=>exact main d e
 |tmp l=>exact main (.lst l) e
 |cell l=>exact main (.lst l) e
 |scr l=>cases e
 |obj oa c ns os=>cases t<;>cases e
theorem ZP{X:Cx}:zW X (.builtin "isinstance") (λvs H Q=>∃x c t cv b,vs=[x,c]/\TyOf X.K H x t/\qC c cv/\(∀u,qC c u->u=cv)/\PySem.W.kitOne X.K t cv=some b/\Q (.bl b) H):=by intro pins s σ H xs us Q I r h;obtain⟨x,c,t,cv,b,rfl,ty,rc,uq,e,q⟩:=h;obtain⟨u,v,rfl,ru,rv⟩:=Q4 r;obtain rfl:v=cv:=uq v rv;exact JL I ru ty e λtk=>⟨.bl b,H,I.tok tk,rfl,q⟩
theorem qfg(gd:Gd κ K ε k X Γ)(A:All κ K ε k X Γ m)(a:Expr)(t:Str)(p tp q:Pos)(hgl:glB Γ.sc "isinstance" = true)
  (h:oif (qv t&&glB Γ.sc t&&(Yt Γ.N t).isNone&&!qD a) (match qgN t with |some y=>(cE m Γ a).map (E.isi y) |none=>(cE m Γ a).map (.isc t))=some x):PE X (.Call (.Name "isinstance" p) [a,.Name t tp] [] q) (tR κ K ε Gv Hv (iR Γ.k x)):=by
 obtain⟨hc,h⟩:=qg h;simp only[Bool.and_eq_true,Bool.not_eq_true'] at hc;obtain⟨⟨⟨c1,c2⟩,c3⟩,s1⟩:=hc
 cases hy:qgN t with
 |some y=>
  rw[hy] at h;obtain⟨a',h1,rfl⟩:=map_some h
  have hb:PE X (.Name t tp) (tC (.ty y.nm)):=by
   unfold qgN at hy
   split at hy
   ·rename_i e;cases hy;subst e;exact ju (gd.glo _ c2) (gd.blt _ (2:)) PyProof.Rows.boot_int rfl
   split at hy
   ·rename_i e;cases hy;subst e;exact ju (gd.glo _ c2) (gd.blt _ (2:)) PyProof.Rows.boot_bool rfl
   split at hy
   ·rename_i e;cases hy;subst e;exact ju (gd.glo _ c2) (gd.blt _ (2:)) PyProof.Rows.boot_str rfl
   split at hy
   ·rename_i e;cases hy;subst e;exact ju (gd.glo _ c2) (gd.blt _ (2:)) PyProof.Rows.boot_list rfl
   split at hy
   ·rename_i e;cases hy;subst e;exact ju (gd.glo _ c2) (gd.blt _ (2:)) PyProof.Rows.boot_tuple rfl
   cases hy
  refine PE.imp (zL qaA (gd.glo _ hgl) (gd.blt _ (2:)) PyProof.Rows.boot_isinstance (qr (A.r Gv Hv _ _ h1) (qr hb qz rfl) (qh s1)) (2:) (2:) (qh s1) rfl) λσ H Q hq1=>?_;obtain⟨ρ,G,er,h⟩:=hq1;refine⟨ρ,G,er,Wx.mono (Wx.th (x:=iR Γ.k a' ρ) h) λx h v G1 H1 p1 r1=>?_⟩;obtain⟨b,e1,h⟩:=Wx.of (Wx.th h);exact⟨v,y.nm,_,b,rfl,by rw[gd.hK];exact qhu p1.er r1 e1,by rw[gd.hK];exact qff e1,h _ G1 H1 p1 (by simp only[RvR,Rep])⟩
 |none=>
  rw[hy] at h;obtain⟨a',h1,rfl⟩:=map_some h;rintro pins s σ H Q I ⟨ρ,G,er,h⟩;have h2:=Wx.th (x:=noX (iR Γ.k a' ρ)) h
  cases e1:iR Γ.k a' ρ with
  |exc c l=>rw[e1] at h2;exact False.elim h2
  |no=>rw[e1] at h2;exact False.elim h2
  |ok x=>
   rw[e1] at h2;obtain⟨b,e2,h3⟩:=Wx.of (Wx.th (x:=R.of (qcP Γ.cs x.1 t)) h2)
   have e2:(∃c ns ds,x.1=.val (.ins c ns ds)/\Γ.cs.sub c t=some b)\/∃C ns ds,x.1=.val (.exc C ns ds)/\Γ.cs.xs C t=some b:=by
    obtain⟨r,env⟩:=x
    cases r with
    |val d=>
     cases d with
     |ins c ns ds=>exact .inl ⟨c,ns,ds,rfl,e2⟩
     |exc c ns ds=>exact .inr ⟨c,ns,ds,rfl,e2⟩
     |_=>cases e2
    |_=>cases e2
   rcases e2 with ⟨c,ns,ds,ex,e2⟩ | ⟨C,ns,ds,ex,e2⟩
   case inr=>
    obtain⟨hC,hT⟩:=gd.xsubs C t b e2
    have go:∀(c:V) (cv:Value),PE X (.Name t tp) (tC c)->qC c cv->(∀u,qC c u->u=cv)->PySem.W.kitOne X.K (.ref C) cv=some b->wpAny (model X.prog X.w) X.A (eval (.Call (.Name "isinstance" p) [a,.Name t tp] [] q) X.env) (EP X pins σ Q) X.xe s:=λc cv pc rc uq kt=>by
     refine(zL Zt (gd.glo _ hgl) (gd.blt _ (2:)) PyProof.Rows.boot_isinstance (qr (A.r Gv Hv _ _ h1) (qr pc qz rfl) (qh s1)) (2:) (2:) (qh s1) rfl) pins s σ H Q I ⟨ρ,G,er,?_⟩;rw[e1];intro v G1 H1 p1 r1;rw[ex] at r1;simp only[RvR,Rep] at r1;obtain⟨p',od,xs,rfl,h4,h5,_⟩:=r1;refine⟨p',C,od,c,cv,b,rfl,⟨p1.er.sub _ _ h4,λdd hdd=>?_⟩,hC,rc,uq,kt,h3 _ G1 H1 p1 (by simp only[RvR,Rep])⟩;rcases h5 with ⟨z,_⟩ | ⟨d2,z,z2⟩
     ·rw[z] at hdd;cases hdd
     ·rw[z] at hdd;cases hdd;exact⟨_,p1.er.sub _ _ z2⟩
    rcases hT with ⟨T,hT,kt⟩ | ⟨hT,rfl,kt⟩
    ·exact go (.ref T) (.ref T) (Yw (v:=.ref T) (gd.glo _ c2) hT rfl (ql c1).1) rfl (λu hu=>hu) kt
    ·exact go (.ty "ValueError") (.type "ValueError") (ju (gd.glo _ c2) hT qc6 rfl) rfl (λu hu=>hu) kt
   obtain⟨C,T,hC,hty,hT,kt⟩:=gd.subs c t b e2;refine(zL ZP (gd.glo _ hgl) (gd.blt _ (2:)) PyProof.Rows.boot_isinstance (qr (A.r Gv Hv _ _ h1) (qr (Yw (v:=.ref T) (gd.glo _ c2) hT rfl (ql c1).1) qz rfl) (qh s1)) (2:) (2:) (qh s1) rfl) pins s σ H Q I ⟨ρ,G,er,?_⟩;rw[e1];intro v G1 H1 p1 r1;rw[ex] at r1;simp only[RvR,Rep] at r1;obtain⟨p',dx,C',xs,hc',rfl,h4,hl,h5⟩:=r1;rw[hC] at hc';cases hc';exact⟨.ref p',.ref T,.ref C,.ref T,b,rfl,hty _ _ _ _ (p1.er.sub _ _ h4),rfl,λu hu=>hu,kt,h3 _ G1 H1 p1 (by simp only[RvR,Rep])⟩
theorem Jn{o:Expr}(h:jH o=true)(x:Str)(env:PySem.Env):attributeBase o x env (eval o env)=eval o env:=by
 cases o with
 |Call f as ks p=>cases f with
  |Name g q=>cases as with
   |nil=>cases h
   |cons a l=>rfl
  |_=>cases h
 |_=>first | rfl | cases h
theorem qc7{cs:Cs}{r:Rv}{x:Str}{d:D}(h:qaK cs r x=some d):(∃c ns ds,r=.val (.ins c ns ds)/\cs.fld c x=true/\(ns.zip ds).lookup x=some d)\/∃C ns ds,r=.val (.exc C ns ds)/\cs.xg C x=true/\(ns.zip ds).lookup x=some d:=by
 cases r with
 |val e=>
  cases e with
  |ins c ns ds=>
   have h:(if cs.fld c x=true then (ns.zip ds).lookup x else none)=some d:=h
   by_cases hf:cs.fld c x=true
   ·rw[if_pos hf] at h;exact .inl ⟨c,ns,ds,rfl,hf,h⟩
   ·rw[if_neg hf] at h;cases h
  |exc c ns ds=>
   have h:(if cs.xg c x=true then (ns.zip ds).lookup x else none)=some d:=h
   by_cases hf:cs.xg c x=true
   ·rw[if_pos hf] at h;exact .inr ⟨c,ns,ds,rfl,hf,h⟩
   ·rw[if_neg hf] at h;cases h
  |_=>cases h
 |_=>cases h
theorem qc8{cs:Cs}{c:Str}{ns:List Str}{os:List Ob}{x:Str}{r:Rv}(h:qcQ cs c ns os x=some r):∃b,cs.fld c x=true/\(ns.zip os).lookup x=some b/\r=obV b:=by
 unfold qcQ at h
 by_cases hf:cs.fld c x=true
 ·rw[if_pos hf] at h;obtain⟨b,e,rfl⟩:=Option.map_eq_some_iff.mp h;exact⟨b,hf,e,rfl⟩
 ·rw[if_neg hf] at h;cases h
theorem ObR.rv{Hb G H:Hp}{ρ:Env}{σ:L2.St}{o:Ob}{v:V}(h:ObR κ G H o v):RvR κ K Hv Hb G H ρ σ (obV o) v:=by
 cases o with
 |val d=>simp only[ObR] at h;exact h
 |lst a l=>simp only[ObR] at h;obtain⟨xs,e,h1,h2⟩:=h;exact⟨a,xs,e,h1,h2⟩
 |ins a c ns os=>exact h
theorem qfh{cs:Cs}{r:Rv}{x f:Str}(h:mtD cs r x=some f):∃c ns,ns.contains x=false/\cs.mt c x=some f/\((∃ds,r=.val (.ins c ns ds))\/∃oa os,r=.obj oa c ns os):=by
 cases r with
 |val e=>
  cases e with
  |ins c ns ds=>
   have h:(if ns.contains x=true then none else cs.mt c x)=some f:=h
   by_cases hf:ns.contains x=true
   ·rw[if_pos hf] at h;cases h
   ·rw[if_neg hf] at h;exact⟨c,ns,by simpa using hf,h,.inl ⟨ds,rfl⟩⟩
  |_=>cases h
 |obj oa c ns os=>
  have h:(if ns.contains x=true then none else cs.mt c x)=some f:=h
  by_cases hf:ns.contains x=true
  ·rw[if_pos hf] at h;cases h
  ·rw[if_neg hf] at h;exact⟨c,ns,by simpa using hf,h,.inr ⟨oa,os,rfl⟩⟩
 |_=>cases h
theorem Qf{x:Str}:∀{ns:List Str} {xs:List V},ns.contains x=false->(ns.zip xs).lookup x=none
 |[],_,_=>by simp
 | n::ns,[],_=>by simp
 | n::ns,v::xs,h=>by simp only[List.contains_cons,Bool.or_eq_false_iff] at h;rw[List.zip_cons_cons,List.lookup_cons,h.1];exact Qf h.2
theorem qfi(gd:Gd κ K ε k X Γ)(A:All κ K ε k X Γ m)(o:Expr)(y:Str)(pos:Pos)(h:cE (m+1) Γ (.Attribute o y pos)=some x):PE X (.Attribute o y pos) (tR κ K ε Gv Hv (iR Γ.k x)):=by
 obtain⟨ho,h⟩:=qg h;obtain⟨a',h1,rfl⟩:=map_some h;rintro pins s σ H Q I ⟨ρ,G,er,h⟩;have h2:=Wx.th (x:=noX (iR Γ.k a' ρ)) h
 cases e0:iR Γ.k a' ρ with
 |exc c l=>rw[e0] at h2;exact False.elim h2
 |no=>rw[e0] at h2;exact False.elim h2
 |ok z=>
  rw[e0] at h2;obtain⟨r0,e1,h⟩:=Wx.of (Wx.th (x:=R.of (qgJ Γ.cs z.1 y)) h2)
  by_cases ho':∃oa c ns os,z.1=.obj oa c ns os
  ·obtain⟨oa,c,ns,os,eo⟩:=ho';rw[eo] at e1;obtain⟨b,e3,e4,rfl⟩:=qc8 e1;refine JK (A.r Gv Hv _ _ h1) (Jn ho y X.env) pins s σ H Q I ⟨ρ,G,er,?_⟩;rw[e0];intro v G1 H1 p1 r1;rw[eo] at r1;have r1:ObR κ G1 H1 (.ins oa c ns os) v:=r1;simp only[ObR] at r1;obtain⟨dx,C,xs,hc,rfl,h1,hl,h2⟩:=r1;obtain⟨u,e5,ru⟩:=h2.look e4;exact⟨oa,C,dx,_,u,rfl,h1,gd.cls c C hc,gd.flds c y C e3 hc,e5,h u G1 H1 p1 ru.rv⟩
  obtain⟨d,e1',rfl⟩:∃d,qaK Γ.cs z.1 y=some d/\r0=.val d:=by
   obtain⟨zr,zρ⟩:=z
   cases zr with
   |obj oa c ns os=>exact absurd ⟨oa,c,ns,os,rfl⟩ ho'
   |val d0=>obtain⟨d,q1,q2⟩:=Option.map_eq_some_iff.mp (show(qaK Γ.cs (.val d0) y).map Rv.val=some r0 from e1);exact⟨d,q1,q2.symm⟩
   |_=>exact nomatch (show(none:Option Rv)=some r0 from e1)
  replace e1:=e1'
  rcases qc7 e1 with ⟨c,ns,ds,e2,e3,e4⟩ | ⟨C,ns,ds,e2,e3,e4⟩
  ·refine JK (A.r Gv Hv _ _ h1) (Jn ho y X.env) pins s σ H Q I ⟨ρ,G,er,?_⟩;rw[e0];intro v G1 H1 p1 r1;rw[e2] at r1;simp only[RvR,Rep] at r1;obtain⟨p,dx,C,xs,hc,rfl,h1,hl,h2⟩:=r1;obtain⟨u,e5,ru⟩:=Jm h2 e4;exact⟨p,C,dx,_,u,rfl,p1.er.sub _ _ h1,gd.cls c C hc,gd.flds c y C e3 hc,e5,h u G1 H1 p1 ru⟩
  ·refine qcL (A.r Gv Hv _ _ h1) (Jn ho y X.env) pins s σ H Q I ⟨ρ,G,er,?_⟩;rw[e0];intro v G1 H1 p1 r1;rw[e2] at r1;simp only[RvR,Rep] at r1;obtain⟨p,od,xs,rfl,h1,h3,h2⟩:=r1;obtain⟨u,e5,ru⟩:=Jm h2 e4;rcases h3 with ⟨_,z⟩ | ⟨dd,rfl,h3⟩
   ·rw[z] at e4;simp at e4
   ·exact⟨p,C,dd,_,u,rfl,p1.er.sub _ _ h1,p1.er.sub _ _ h3,gd.xgs C y e3,e5,h u G1 H1 p1 ru⟩
theorem zy{o:Expr}{x:Str}{ap q:Pos}{es:List Expr}{env:PySem.Env}(ho:jH o=true)(hs:es.any qD=false)(hl:es.length < 30)(hp:(ap.endLine == q.line)=true) :
  eval (.Call (.Attribute o x ap) es [] q) env=(do
   let ov<-eval o env
   standAt ap.atName
   let (f,first)<-holding [ov] (getMethod ov x (do return (<-importBound o env).getD true))
   callWith q f first (backTo q (starEach es env)) (backToKw q (keywordEach [] env))):=by
 have hm:methodCallForm (es.length+([]:List Keyword).length) (backTo q (starEach es env)) (backToKw q (keywordEach [] env))=true:=by
  have e:=qJ (pos:=q) (env:=env) hs;unfold methodCallForm;simp only[Bool.and_eq_true,decide_eq_true_eq];refine⟨⟨?_,rfl⟩,?_⟩
  ·rw[List.all_eq_true];intro y hy
   have:=List.any_eq_false.mp e y hy
   simpa using this
  ·show es.length+0+0 < 30;omega
 show(do
  let ov<-attributeBase o x env (eval o env)
  standAt ap.atName
  methodCall o x ap q env ov (es.length+([]:List Keyword).length) (backTo q (starEach es env)) (backToKw q (keywordEach [] env)))=_
 rw[Jn ho];unfold methodCall;simp only[hm,calleeOf,methodCallPos,if_true,hp,Bool.not_true,Bool.false_or];rfl
theorem qaY{pins:PP}{s:Shared}{σ:L2.St}{H G:Hp}{Q:VK}{ρ:Env}{y:Rv×Env}{o:Expr}{ap q:Pos}{es:List Expr}{a':E}{l':Es}(A:All κ K ε k X Γ m)(ho:jH o=true)(hp:(ap.endLine == q.line)=true)(hl:es.length < 30)(h1:cE m Γ o=some a')(h2:cAs m Γ es=some l')
  (er:ER κ K Gv Hv G H ρ σ) (e1:iR Γ.k a' ρ=.ok y) (h:Wx X0 (iAs Γ.k l' y.2) (λz=>Wx X0 ((ixM y.1 z.1).th λr=>R.ok (r,z.2)) (λx=>∀v G' H',Po κ K Gv Hv σ G H ρ G' H' x.2->RvR κ K Hv H G' H' x.2 σ x.1 v->Q v H'))) (I:Inv X pins σ H s) :
  wpAny (model X.prog X.w) X.A (eval (.Call (.Attribute o "index" ap) es [] q) X.env) (EP X pins σ Q) X.xe s:=by
 refine False.elim ?_
 cases e4:iAs Γ.k l' y.2 with
 |ok z=>rw[e4] at h;exact h
 |exc c l=>rw[e4] at h;exact h
 |no=>rw[e4] at h;exact h
theorem qc9{pins:PP}{s:Shared}{σ:L2.St}{H G:Hp}{Q:VK}{ρ ρ1:Env}{a nm:Str}{o:Expr}{ap q:Pos}{es:List Expr}{a':E}{l':Es}(A:All κ K ε k X Γ m)(gd:Gd κ K ε k X Γ)(ho:jH o=true)(hp:(ap.endLine == q.line)=true)(hl:es.length < 30)(h1:cE m Γ o=some a')(h2:cAs m Γ es=some l')
  (er:ER κ K Gv Hv G H ρ σ) (e1:iR Γ.k a' ρ=.ok (.val (.str a),ρ1)) (h:Wx X0 (iAs Γ.k l' ρ1) (λz=>Wx X0 ((bmD nm (.val (.str a)) z.1).th λr=>R.ok (r,z.2)) (λx=>∀v G' H',Po κ K Gv Hv σ G H ρ G' H' x.2->RvR κ K Hv H G' H' x.2 σ x.1 v->Q v H'))) (I:Inv X pins σ H s) :
  wpAny (model X.prog X.w) X.A (eval (.Call (.Attribute o nm ap) es [] q) X.env) (EP X pins σ Q) X.xe s:=by
 have hs:=yt h2
 cases e4:iAs Γ.k l' ρ1 with
 |exc c l=>rw[e4] at h;exact False.elim h
 |no=>rw[e4] at h;exact False.elim h
 |ok z=>
 rw[e4] at h;exact False.elim h
theorem qda(gd:Gd κ K ε k X Γ)(A:All κ K ε k X Γ m)(o:Expr)(y:Str)(ap:Pos)(es:List Expr)(q:Pos)(h:cE (m+1) Γ (.Call (.Attribute o y ap) es [] q)=some x):PE X (.Call (.Attribute o y ap) es [] q) (tR κ K ε Gv Hv (iR Γ.k x)):=by
 have h:(if (jH o&&(ap.endLine == q.line)&&decide (es.length < 30))=true then _ else none)=_:=h
 by_cases hc:(jH o&&(ap.endLine == q.line)&&decide (es.length < 30))=true
 case neg=>rw[if_neg hc] at h;cases h
 rw[if_pos hc] at h;obtain⟨a',l',h1,h2,rfl⟩:=qi h;rintro pins s σ H Q I ⟨ρ,G,er,h⟩;have h:=Wx.th (x:=iR Γ.k a' ρ) h;simp only[Bool.and_eq_true,decide_eq_true_eq] at hc;obtain⟨⟨ho,hp⟩,hl⟩:=hc
 cases e1:iR Γ.k a' ρ with
 |exc c l=>rw[e1] at h;exact PySem.W.methodCall_KW (wpAny_mono (A.r Gv Hv _ _ h1 pins s σ H (λ_ _=>False) I ⟨ρ,G,er,by rw[e1];exact h⟩) (λv s1 z=>by obtain⟨_,_,_,_,q⟩:=z;exact q.elim) λ_ _ x=>x) (zy ho (yt h2) hl hp)
 |no=>rw[e1] at h;exact False.elim h
 |ok w=>
  rw[e1] at h
  have h:Wx _ (match mtD Γ.cs w.1 y with
   |some f=>(iAs Γ.k l' w.2).th λz=>(Γ.cl f (toAr w.1::z.1)).th λr=>R.ok (r,z.2)
   |none=>(noX (iAs Γ.k l' w.2)).th λz=>(noX (bmD y w.1 z.1)).th λr=>R.ok (r,z.2)) _:=h
  cases e2:mtD Γ.cs w.1 y with
  |none=>
   rw[e2] at h;have h0:=Wx.nox (Ξ':=X0) (Wx.th (x:=noX (iAs Γ.k l' w.2)) h);have h:Wx X0 (iAs Γ.k l' w.2) λz=>Wx X0 ((bmD y w.1 z.1).th λr=>R.ok (r,z.2)) λx=>∀v G' H',Po κ K Gv Hv σ G H ρ G' H' x.2->RvR κ K Hv H G' H' x.2 σ x.1 v->Q v H':=Wx.mono h0 λz hz=>Wx.ht (Wx.mono (Wx.nox (Wx.th (x:=noX (bmD y w.1 z.1)) hz)) λr hr=>hr);clear h0;obtain⟨wr,wρ⟩:=w
   by_cases hs:∃a,wr=.val (.str a)
   ·obtain⟨a,rfl⟩:=hs;exact qc9 A gd ho hp hl h1 h2 er e1 h I
   ·have hb:∀as,bmD y wr as=if y = "index" then ixM wr as else .no:=by
     cases wr with
     |val d=>
      cases d with
      |str a=>exact absurd ⟨a,rfl⟩ hs
      |_=>intro as;rfl
     |_=>intro as;rfl
    by_cases hx:y = "index"
    ·subst hx;refine qaY A ho hp hl h1 h2 er e1 (Wx.mono h λz hz=>?_) I;rw[hb,if_pos rfl] at hz;exact hz
    ·refine False.elim ?_
     cases e4:iAs Γ.k l' wρ with
     |ok z=>rw[e4] at h;have h:Wx _ ((bmD y wr z.1).th _) _:=h;rw[hb,if_neg hx] at h;exact h
     |exc c l=>rw[e4] at h;exact h
     |no=>rw[e4] at h;exact h
  |some f=>
  rw[e2] at h;obtain⟨c,ns,e4,e5,e3⟩:=qfh e2;obtain⟨C,fa,fd,ps,hC,M,F,B⟩:=gd.mts c y f e5;have h:=Wx.th (x:=iAs Γ.k l' w.2) h;have hs:=yt h2;have hs0:=hs
  have all:qcf C y (spF κ K Γ.cl f) [] ε (tR κ K ε Gv Hv (iR Γ.k a')) (tAs κ K ε Gv Hv (iAs Γ.k l')) σ H Q:=by
   refine⟨ρ,G,er,?_⟩;rw[e1];intro v G1 H1 p1 r1
   obtain⟨p',dx,xs,rfl,h4⟩:∃p' dx xs,v=V.ref p'/\H1 p'=some (.ins C dx (ns.zip xs)):=by
    rcases e3 with ⟨ds,e3⟩ | ⟨oa,os,e3⟩
    ·have r1':=r1;rw[e3] at r1';simp only[RvR,Rep] at r1';obtain⟨p',dx,C',xs,hc',e,h4,_⟩:=r1';rw[hC] at hc';cases hc';exact⟨p',dx,xs,e,p1.er.sub _ _ h4⟩
    ·have r1':=r1;rw[e3] at r1';have r1':ObR κ G1 H1 (.ins oa c ns os) v:=r1';simp only[ObR] at r1';obtain⟨dx,C',xs,hc',e,h4,_⟩:=r1';rw[hC] at hc';cases hc';exact⟨oa,dx,xs,e,h4⟩
   refine⟨p',dx,_,rfl,h4,Qf e4,w.2,G1,p1.er,Wx.mono h λz h vs G2 H2 p2 r2=>?_⟩;show spF κ K Γ.cl f (V.ref p'::(vs++[])) H2 Q ε;rw[List.append_nil];refine⟨G2,toAr w.1::z.1,p2.er.sub,⟨_,_,rfl,?_,r2⟩,Wx.mono2 (Wx.th h) (XP.call p2) λr h v G3 H3 hs gs sub new rr=>?_⟩
   ·rcases e3 with ⟨ds,e3⟩ | ⟨oa,os,e3⟩
    ·rw[e3] at r1 ⊢;exact Rep.same p2.gs r1
    ·rw[e3] at r1 ⊢;exact ObR.same p2.hs p2.gs r1
   ·obtain⟨z1,z2⟩:=ReR.rv (p1.trans p2) hs gs sub new rr;exact h v G3 H3 z1 z2
  cases es with
  |nil=>obtain rfl:=YI h2;refine YZ (A.r Gv Hv _ _ h1) (gd.cls c C hC) M F gd.room B .nil gd.ps (ht:=zy ho hs0 hl hp) pins s σ H Q I ?_;obtain⟨ρ',G',er',z⟩:=all;refine⟨ρ',G',er',Wx.mono z λx z v G1 H1 p1 r1=>?_⟩;obtain⟨a,dx,fs,z1,z2,z3,ρ2,G2,er2,z⟩:=z v G1 H1 p1 r1;exact⟨a,dx,fs,z1,z2,z3,z [] G2 H1 (Po.refl er2) rfl⟩
  |cons e l=>simp only[List.any_cons,Bool.or_eq_false_iff] at hs;exact Yz (A.r Gv Hv _ _ h1) (gd.cls c C hC) M F gd.room B .nil gd.ps (A.as Gv Hv _ _ h2) (qh hs.1) (qJ hs.2) (ht:=zy ho hs0 hl hp) pins s σ H Q I all
theorem qdb(gd:Gd κ K ε k X Γ)(A:All κ K ε k X Γ m)(f:Str)(es:List Expr)(p q:Pos)(hok:qv f=true)(hgl:glB Γ.sc f=true)(ht:Γ.cs.tab.contains f=true)(h:(cAs m Γ es).map (.new f)=some x):PE X (.Call (.Name f p) es [] q) (tR κ K ε Gv Hv (iR Γ.k x)):=by
 obtain⟨l',h1,rfl⟩:=map_some h;have hs:=yt h1;rcases gd.mks f ht with ⟨hy,hno⟩ | ⟨C,fa,fd,ps,sp,M,F,hm,hb,hk,hsp⟩
 ·rintro pins s σ H Q I ⟨ρ,G,er,h⟩;have h:=Wx.th (x:=ifX Γ.y (iAs Γ.k l' ρ)) h;rw[hy] at h;have h:Wx _ (noX (iAs Γ.k l' ρ)) _:=h
  cases e1:iAs Γ.k l' ρ with
  |ok x=>rw[e1] at h;have h:Wx _ ((Γ.nw f x.1).th _) _:=h;rw[hno] at h;exact False.elim h
  |exc c l=>rw[e1] at h;exact False.elim h
  |no=>rw[e1] at h;exact False.elim h
 obtain⟨n1,n2,n3⟩:=ql hok
 have rm:Room (k - 1+1) X.A:=by rw[show k - 1+1=k by omega];exact gd.room
 have key:∀σ H Q,tR κ K ε Gv Hv (iR Γ.k (.new f l')) σ H Q->qcg C sp [] ε (tAs κ K ε Gv Hv (iAs Γ.k l')) σ H Q:=λσ H Q ⟨ρ,G,er,h⟩=>by refine⟨ρ,G,er,Wx.mono (Wx.ifx (Wx.th (x:=ifX Γ.y (iAs Γ.k l' ρ)) h)) λx h vs G1 H1 p1 r1=>?_⟩;show∀x dx,H1 x=none->H1 dx=none->dx≠x->sp (.ref x::(vs++[])) _ _ ε;rw[List.append_nil];refine hsp vs H1 Q ε ⟨G1,x.1,p1.er.sub,r1,Wx.mono2 (Wx.th h) (XP.call p1) λr h v G2 H2 hs gs sub new rr=>?_⟩;obtain⟨z1,z2⟩:=ReR.rv p1 hs gs sub new rr;exact h v G2 H2 z1 z2
 cases es with
 |nil=>obtain rfl:=YI h1;refine PE.imp (qax M F rm (gd.glo f hgl) hm hb .nil gd.ps n1) λσ H Q h=>?_;obtain⟨ρ,G,er,h⟩:=key σ H Q h;exact h [] G H (Po.refl er) rfl
 |cons e l=>simp only[List.any_cons,Bool.or_eq_false_iff] at hs;exact PE.imp (Za M F rm (gd.glo f hgl) hm hb .nil gd.ps (A.as Gv Hv _ _ h1) n1 (qh hs.1) (qJ hs.2)) key
end
end DE
namespace DE
open PySem PySem.Spec PyProof.Rows L2
noncomputable def gT(κ:KC)(K:Frag)(Ξ:XW)(t:Tg):TG:=λv σ H Q=>∃(Gv Hv:Hp) (ρ:Env) (G:Hp) (d:D),ER κ K Gv Hv G H ρ σ/\Rep κ G d v/\Wx Ξ (t.go d ρ) λρ'=>∀σ',ER κ K Gv Hv G H ρ' σ'->Q σ' H
noncomputable def gNs(κ:KC)(K:Frag)(Ξ:XW)(l:List Nat):TGs:=λvs σ H Q=>∃(Gv Hv:Hp) (ρ:Env) (G:Hp) (ds:List D),ER κ K Gv Hv G H ρ σ/\qm κ G ds vs/\Wx Ξ (Jh l ds ρ) λρ'=>∀σ',ER κ K Gv Hv G H ρ' σ'->Q σ' H
theorem PG.imp{X:Cx}{tg:Expr}{t t':TG}(h:PG X tg t')(i:∀v σ H Q,t v σ H Q->t' v σ H Q):PG X tg t:=λpins s σ H v u Q I r hw=>h pins s σ H v u Q I r (i v σ H Q hw)
theorem PGs.imp{X:Cx}{tg:List Expr}{t t':TGs}(h:PGs X tg t')(i:∀v σ H Q,t v σ H Q->t' v σ H Q):PGs X tg t:=λpins s σ H v u Q I r hw=>h pins s σ H v u Q I r (i v σ H Q hw)
section
variable{κ:KC}{ε:XK}{Ξ:XW}{K:Frag}{Gv Hv:Hp}{k m:Nat}{X:Cx}{Γ:Ct}{x:E}
theorem J1(gd:Gd κ K ε k X Γ){y:Str}{i:Nat}(h:qaj Γ y=some i):L2.Loc X.env.scope y/\(X.fn y=true\/X.env.scope.names.lookup y=some .local)/\X.N.Nodup/\X.N[i]?=some y:=by unfold qaj at h;obtain⟨hc,h⟩:=qg h;rw[Bool.and_eq_true] at hc;obtain⟨l1,l2⟩:=gd.loc y hc.1;exact⟨l1,l2,by rw[gd.hN];exact gd.nd,by rw[gd.hN];exact yr h⟩
theorem qfj(gd:Gd κ K ε k X Γ){y:Str}{i:Nat}(h:qaj Γ y=some i)(pos:Pos):PG X (.Name y pos) (gT κ K Ξ (.one i)):=by obtain⟨l1,l2,l3,l4⟩:=J1 gd h;refine PG.imp (Yx (i:=i) l3 l4 l1 l2) λv σ H Q hq1=>?_;obtain⟨Gv,Hv,ρ,G,d,er,r,h⟩:=hq1;exact h _ (er.setVal r)
theorem Qg{e:Expr}{es:List Expr}{j:Nat}{p:Pos}{xs:List Str}(h:qW (.Tuple (e::es) j p)=some xs):∃x pos r,e=.Name x pos/\xs=x::r/\qW (.Tuple es j p)=some r:=by
 have q0:qW (.Tuple es j p)=(es.foldr (λe r=>match e,r with |.Name x _,some l=>some (x::l) |_,_=>none) (some []):Option (List Str)):=rfl
 cases e with
 |Name x pos=>
  cases q:(es.foldr (λe r=>match e,r with |.Name x _,some l=>some (x::l) |_,_=>none) (some []):Option (List Str)) with
  |none=>have h':(match (Expr.Name x pos:Expr),(es.foldr (λe r=>match e,r with |.Name x _,some l=>some (x::l) |_,_=>none) (some []):Option (List Str)) with |.Name x _,some l=>some (x::l) |_,_=>none)=some xs:=h;rw[q] at h';cases h'
  |some l=>have h':(match (Expr.Name x pos:Expr),(es.foldr (λe r=>match e,r with |.Name x _,some l=>some (x::l) |_,_=>none) (some []):Option (List Str)) with |.Name x _,some l=>some (x::l) |_,_=>none)=some xs:=h;rw[q] at h';cases h';exact⟨x,pos,l,rfl,rfl,q0.trans q⟩
 |_=>cases h
theorem qbK(gd:Gd κ K ε k X Γ){j:Nat}{p:Pos}:∀{es:List Expr} {xs:List Str} {l:List Nat},qW (.Tuple es j p)=some xs->qaM Γ xs=some l->PGs X es (gNs κ K Ξ l)
 | [],xs,l,h,h'=>by
  have e:xs=[]:=by unfold qW at h;cases h;rfl
  subst e;cases h';refine PGs.imp QV λvs σ H Q hq1=>?_;obtain⟨Gv,Hv,ρ,G,ds,er,r,h⟩:=hq1
  cases ds with
  |nil=>simp only[qm] at r;exact⟨r,h σ er⟩
  |cons d ds=>exact False.elim h
 | e::es,xs,l,h,h'=>by
  obtain⟨x,pos,r,rfl,rfl,h0⟩:=Qg h;obtain⟨i,l,h1,h2,rfl⟩:=qi h';refine PGs.imp (Ja (qfj (Ξ:=Ξ) gd h1 pos) (qbK gd h0 h2)) λvs σ H Q hq1=>?_;obtain⟨Gv,Hv,ρ,G,ds,er,rr,h⟩:=hq1
  cases ds with
  |nil=>exact False.elim h
  |cons d ds=>simp only[qm] at rr;obtain⟨v,vr,rfl,r1,r2⟩:=rr;exact⟨v,vr,rfl,Gv,Hv,ρ,G,d,er,r1,λσ1 er1=>⟨Gv,Hv,_,G,ds,er1,r2,h⟩⟩
theorem J2{env:PySem.Env}{j:Nat}{p:Pos}:∀{es:List Expr} {xs:List Str} {l:List Nat},qW (.Tuple es j p)=some xs->qaM Γ xs=some l->(assignEach es env).length=l.length/\(assignEach es env).findIdx? (·.1)=none
 | [],xs,l,h,h'=>by unfold qW at h;cases h;cases h';exact⟨rfl,rfl⟩
 | e::es,xs,l,h,h'=>by obtain⟨x,pos,r,rfl,rfl,h0⟩:=Qg h;obtain⟨i,l,h1,h2,rfl⟩:=qi h';obtain⟨h1,h2⟩:=J2 (env:=env) h0 h2;have e:assignEach (.Name x pos::es) env=(false,assign (.Name x pos) env)::assignEach es env:=rfl;rw[e];refine⟨by simp[h1],?_⟩;rw[List.findIdx?_cons];simp[h2]
theorem J3{Ξ:XW}:∀{l:List Nat} {ds:List D} {ρ:Env} {F:Env->Prop},Wx Ξ (Jh l ds ρ) F->ds.length=l.length
 |[],[],_,_,_=>rfl
 | [],_::_,_,_,h=>False.elim h
 | _::_,[],_,_,h=>False.elim h
 | i::l,d::ds,ρ,F,h=>congrArg (· + 1) (J3 (l:=l) (ds:=ds) (ρ:=ρ.set i (.val d)) h)
theorem ZQ(gd:Gd κ K ε k X Γ)(tg:Expr){t:Tg}(h:cTg Γ tg=some t):PG X tg (gT κ K Ξ t):=by
 cases tg with
 |Name x pos=>obtain⟨i,h1,rfl⟩:=map_some h;exact qfj gd h1 pos
 |Tuple es j p=>
  obtain⟨hs,h⟩:=qg h
  cases hx:qW (.Tuple es j p) with
  |none=>rw[hx] at h;cases h
  |some xs=>
   rw[hx] at h;obtain⟨l,h2,rfl⟩:=map_some h;obtain⟨t1,t2⟩:=J2 (env:=X.env) hx h2;refine PG.imp (qbp (n:=l.length) gd.calm (qbK (Ξ:=Ξ) gd hx h2) t1 t2) λv σ H Q hq1=>?_;obtain⟨Gv,Hv,ρ,G,d,er,r,h⟩:=hq1
   cases d with
   |tup ds=>have h:Wx _ (Jh l ds ρ) _:=h;simp only[Rep] at r;obtain⟨a,ys,rfl,r1,r2⟩:=r;exact⟨a,ys,rfl,SqT.of (er.sub _ _ r1),by rw[<-r2.len];exact J3 h,Gv,Hv,ρ,G,ds,er,r2,h⟩
   |_=>exact False.elim h
 |_=>cases h
theorem qbL{env:PySem.Env}:∀{names:List (Str×NameKind)} {x:Str},names.lookup x=some .globalImplicit->
  (names.map λ(n,k)=>if (k == NameKind.free&&env.scope.kind == .function&&env.kindOf n == some .cell) then (n,NameKind.cell) else (n,k)).lookup x=some .globalImplicit
 |[],_,h=>by simp at h
 | (n,k)::r,x,h=>by
  simp only[List.map_cons]
  by_cases hx:x=n
  ·subst hx;simp[List.lookup_cons] at h;subst h;rw[if_neg (by simp)];simp[List.lookup_cons]
  ·have hb:(x == n)=false:=by simpa using hx
   rw[List.lookup_cons,hb] at h;have ih:=qbL (env:=env) h
   by_cases hc:(k == NameKind.free&&env.scope.kind == .function&&env.kindOf n == some .cell)=true
   ·rw[if_pos hc];simp only[List.lookup_cons,hb];exact ih
   ·rw[if_neg hc];simp only[List.lookup_cons,hb];exact ih
theorem yu(gd:Gd κ K ε k X Γ){own:List Str}{fr:List Nat}{sc:Scope}(h:jX Γ.sc Γ.N fr sc=true):BlkScope X own fr sc:=by
 unfold jX at h;simp only[Bool.and_eq_true,List.all_eq_true] at h;obtain⟨⟨hk,hn⟩,hf⟩:=h;refine⟨by simpa using hk,λx hx=>by simpa using (hn x hx).1.1,λx hx e=>?_,λx hx e=>?_,λi hi=>?_⟩
 ·have:=(hn x hx).1.2
  simpa [e] using this
 ·have:=(hn x hx).2
  exact gd.cf x.1 (by simpa [e] using this)
 ·rw[gd.hN]
  simpa using hf i hi
theorem qfk:zg (CX1 X.prog X.w) X E0:=λpins σ H s e s' I c=>by obtain⟨x,T,C,od,H',_,_,_,_,_,_,_,_,_,_,z⟩:=c;exact False.elim z
theorem ji(gd:Gd κ K ε k X Γ){own:List Str}{fr:List Nat}{sc:Scope}(B:BlkScope X own fr sc)(hnd:(own++fr.map λi=>Γ.N.getD i "").Nodup)(cl:List (Str×Addr))(C:Addr)(fp:List Addr)(s2:Shared)(H2:Hp) :
  Gd κ K E0 k (blk X (jG X own fr) sc cl C fp s2 H2) { Γ with N:=own++fr.map λi=>Γ.N.getD i "",sc:=sc } where
 ps:=qfk
 hN:=by show jG X own fr=_;unfold jG;rw[gd.hN]
 vis:=λx h=>by
  have h:=qbF h;rcases h with h | h | h
  ·exact .inl (lookup_relabel_local h)
  ·exact absurd rfl (B.nocell _ (PySem.mem_of_lookup h))
  ·rcases jW (env:=X.env) h with z | z
   ·exact .inr (.inl z)
   ·exact .inr (.inr z)
 loc:=λx h=>by
  have h:=ZK h;rcases h with h | h
  ·have z:(relabel sc X.env).names.lookup x=some .local:=lookup_relabel_local h;exact⟨.inl z,.inr z⟩
  ·exact absurd rfl (B.nocell _ (PySem.mem_of_lookup h))
 glo:=λx h=>by unfold glB at h;exact qbL (env:=X.env) (by simpa using h)
 cf:=λx h=>by
  rcases h with h | h
  ·exact absurd rfl (B.nocell _ (PySem.mem_of_lookup h))
  ·exact jW (env:=X.env) h
 nd:=hnd
 calm:=gd.calm
 hK:=gd.hK
 room:=gd.room
 fns:=gd.fns
 blt:=gd.blt
 gl:=gd.gl
 cls:=gd.cls
 flds:=gd.flds
 xsubs:=gd.xsubs
 xgs:=gd.xgs
 mts:=gd.mts
 mks:=gd.mks
 subs:=gd.subs
theorem qfl{G H:Hp}{ρ:Env}{σ:L2.St}(er:ER κ K Gv Hv G H ρ σ)(own:List Str)(fr:List Nat):ER κ K G H G H (QL own.length fr ρ) (yH own fr σ):=by
 refine⟨by simp[QL,yH],er.sub,λ_ _ e=>e,λ_ _ e=>e,λa o e=>.inl ⟨o,e⟩,λi s e=>?_,λi j a l n e1=>?_⟩
 ·unfold QL at e;unfold yH
  by_cases hi:i < own.length
  ·rw[List.getElem?_append_left (by simpa using hi)] at e;obtain rfl:=List.eq_of_mem_replicate (List.mem_of_getElem? e);trivial
  ·rw[List.getElem?_append_right (by simpa using hi)] at e ⊢;simp only[List.length_map,List.length_replicate] at e ⊢;rw[List.getElem?_map] at e ⊢;obtain⟨j,e1,rfl⟩:=Option.map_eq_some_iff.mp e;rw[e1];show SlR κ K G H H (qgL (ρ.getD j .no)) (some (σ[j]?).join)
   cases q:ρ[j]? with
   |none=>rw[List.getD_eq_getElem?_getD,q];trivial
   |some s=>
    rw[List.getD_eq_getElem?_getD,q];have w:=er.sl j s q
    cases s with
    |no=>trivial
    |val d=>obtain⟨v,z,r⟩:=w;exact⟨v,by rw[z];rfl,r⟩
    |own l=>obtain⟨a,xs,z,r1,r2,r3,r4⟩:=w;exact⟨a,xs,by rw[z];rfl,r1,r4⟩
    |bor l=>obtain⟨a,xs,z,r1,r4⟩:=w;exact⟨a,xs,by rw[z];rfl,er.base _ _ r1,r4⟩
    |scr l=>obtain⟨a,xs,z,r1,r4⟩:=w;exact⟨a,xs,by rw[z];rfl,er.base.seq r1,r4⟩
    |obj oa c ns os=>obtain⟨v,z,r⟩:=w;exact⟨v,by rw[z];rfl,r.same er.base λ_ _ q=>q⟩
 ·exfalso;unfold QL at e1
  by_cases hi:i < own.length
  ·rw[List.getElem?_append_left (by simpa using hi)] at e1
   cases List.eq_of_mem_replicate (List.mem_of_getElem? e1)
  ·rw[List.getElem?_append_right (by simpa using hi),List.getElem?_map] at e1;obtain⟨j,_,z⟩:=Option.map_eq_some_iff.mp e1
   cases q:ρ.getD j .no<;>rw[q] at z<;>cases z
theorem Jo{it:Expr}(h:JY it=true)(env:PySem.Env):∀x,foldedSetIterable it env x=pure x:=by
 intro x
 cases it<;>first | rfl | (simp[JY] at h)
theorem qdc(A:All κ K ε k X Γ m)(e:Expr){x:E}(hx:cX m Γ e=some x):PE X e (λσ H Q=>∃Gv Hv,tE κ K ε Gv Hv (zR x (iR Γ.k x)) σ H Q):=λpins s σ H Q I ⟨Gv,Hv,h⟩=>A.e Gv Hv e x hx pins s σ H Q I h
theorem ZR(A:All κ K ε k X Γ m)(es:List Expr){x:F}(hx:cF m Γ es=some x):PIf X es (λσ H Q=>∃Gv Hv,tT κ K ε Gv Hv (iF Γ.k x) σ H Q):=λpins s σ H Q I ⟨Gv,Hv,h⟩=>A.f Gv Hv es x hx pins s σ H Q I h
structure CompS(Γ:Ct)(m:Nat)(elt tg it:Expr)(ifs:List Expr)(sc:Scope)(own:List Str)(el:E)(src:I)(t:Tg)(c:F):Prop where
 chk:jX Γ.sc Γ.N (yF Γ.N sc) sc=true
 nd:(own++(yF Γ.N sc).map λi=>Γ.N.getD i "").Nodup
 fold:JY it=true
 src:cC Γ it (cI m Γ (qbA tg) it)=some src
 tg:cTg { Γ with N:=own++(yF Γ.N sc).map λi=>Γ.N.getD i "",sc:=sc } tg=some t
 c:cF m { Γ with N:=own++(yF Γ.N sc).map λi=>Γ.N.getD i "",sc:=sc } ifs=some c
 el:cX m { Γ with N:=own++(yF Γ.N sc).map λi=>Γ.N.getD i "",sc:=sc } elt=some el
theorem qdd{elt:Expr}{gs:List Comprehension}{sc:Scope}{pos:Pos}(h:cE (m+1) Γ (.ListComp elt gs sc pos)=some x):∃tg it ifs own el src t c,gs=[⟨tg,it,ifs,0⟩]/\CompS Γ m elt tg it ifs sc own el src t c/\x=.comp el src t c own.length (yF Γ.N sc):=by
 match gs,h with
 |[⟨tg,it,ifs,as⟩],h=>
  obtain⟨ha,h⟩:=qg h;obtain rfl:as=0:=of_decide_eq_true ha;dsimp only at h
  cases hx:qW tg with
  |none=>rw[hx] at h;cases h
  |some own=>rw[hx] at h;obtain⟨hc,h⟩:=qg h;obtain⟨p1,p2,h1,h2,rfl⟩:=qi h;obtain⟨src,t,h3,h4,rfl⟩:=qi h1;obtain⟨c,el,h5,h6,rfl⟩:=qi h2;simp only[Bool.and_eq_true] at hc;exact⟨tg,it,ifs,own,el,src,t,c,rfl,⟨hc.1.1,of_decide_eq_true hc.1.2,hc.2,h3,h4,h5,h6⟩,rfl⟩
 |[],h=>cases h
 | _::_::_,h=>cases h
noncomputable def tC(κ:KC)(K:Frag)(ε:XK)(Gv Hv:Hp)(f:Env->R (List D×Env)):TI:=λσ H Q=>∃ρ G,ER κ K Gv Hv G H ρ σ/\Wx (XP κ Gv Hv ε) (f ρ) λx=>∀J G' H',Po κ K Gv Hv σ G H ρ G' H' x.2->ItR κ H' G' J x.1->Q J H'
theorem qhv(gd:Gd κ K ε k X Γ)(A:All κ K ε k X Γ m)(tg it:Expr){src:I}(hs:cC Γ it (cI m Γ (qbA tg) it)=some src):PI X tg it (tC κ K ε Gv Hv (iI Γ.k src)):=by rintro pins s σ H Q I ⟨ρ,G,er,h⟩;have hs:cI m Γ (qbA tg) it=some src:=hs;exact A.i Gv Hv tg it src hs pins s σ H Q I ⟨ρ,G,er,Wx.mono h λx h J G' H' p it1=>h J G' H' p λi G2 H2 g hh sub=>it1 i G2 H2 g (λb o e=>hh b o (p.er.base b o e)) sub⟩
theorem Jp{elt tg it:Expr}{ifs:List Expr}{sc:Scope}{own:List Str}{el:E}{src:I}{t:Tg}{c:F}(S:CompS Γ m elt tg it ifs sc own el src t c):∀σ H Q,tR κ K ε Gv Hv (iR Γ.k (.comp el src t c own.length (yF Γ.N sc))) σ H Q->
  qcv own (yF Γ.N sc) (tC κ K ε Gv Hv (iI Γ.k src)) (gT κ K X0 t) (λσ H Q=>∃Gv Hv,tT κ K E0 Gv Hv (iF Γ.k c) σ H Q) (λσ H Q=>∃Gv Hv,tE κ K E0 Gv Hv (zR el (iR Γ.k el)) σ H Q) σ H Q:=λσ H Q ⟨ρ,G,er,h⟩=>by
 refine⟨ρ,G,er,Wx.mono (Wx.th (x:=iI Γ.k src ρ) h) λx h J G1 H1 p1 it1=>?_⟩;obtain⟨hz,h⟩:=Wx.iff h;have h:=Wx.nox (Ξ':=X0) (Wx.th h)
 refine⟨λi mm ys σ' H'=>mm=x.1.length - i/\i<=x.1.length/\∃ρb Gb ds,ER κ K G1 H1 Gb H' ρb σ'/\qm κ Gb ds ys/\ds.length<=i/\
   Wx X0 (ZG t.go (λρ1=>iF Γ.k c ρ1) (zR el (iR Γ.k el)) (x.1.drop i) ρb ds)
    (λl=>∀v G' H',Po κ K Gv Hv σ G H ρ G' H' x.2->RvR κ K Hv H G' H' x.2 σ (.tmp l) v->Q v H'),
  ⟨x.1.length,by simp,Nat.zero_le _,QL own.length (yF Γ.N sc) x.2,G1,[],qfl p1.er own (yF Γ.N sc),.nil,Nat.le_refl _,?_⟩,?_⟩
 ·rw[List.drop_zero];exact h
 rintro i mm ys σ' H' ⟨rfl,hi,ρb,Gb,ds,erb,rds,hdl,hw⟩;have it2:=it1 i Gb H' erb.g0 erb.base erb.sub
 by_cases hlt:i < x.1.length
 ·obtain⟨go,yl⟩:=it2.1 x.1[i] (List.getElem?_eq_getElem hlt);have hyl:=rds.len;refine .inr ⟨go,by lia,_,λys' σ2 H2 w=>⟨x.1.length - (i+1),by lia,w⟩,λv H2 hy=>?_⟩;obtain⟨G',hs,gs,sub,new,rep⟩:=yl v H2 hy;have p2:=Po.more erb hs gs sub new;rw[List.drop_eq_getElem_cons hlt] at hw;refine⟨G1,H1,ρb,G',x.1[i],p2.er,rep,Wx.mono (Wx.th hw) λρ1 hw σ1 er1=>⟨G1,H1,ρ1,G',er1,Wx.mono2 (Wx.th hw) (λ_ _ z=>False.elim z) λbt hw G2 H3 p3=>?_⟩⟩;obtain⟨b,ρ2⟩:=bt
  cases b with
  |true=>rw[if_pos rfl];refine⟨G1,H1,ρ2,G2,p3.er,Wx.mono2 (Wx.th hw) (λ_ _ z=>False.elim z) λy hw w G3 H4 p4 rep4=>⟨rfl,hlt,y.2,G3,ds++[y.1],p4.er,?_,by simp;lia,(Wx.iff hw).2⟩⟩;exact(((rds.same gs).same p3.gs).same p4.gs).snoc rep4
  |false=>rw[if_neg (λz=>by cases z)];exact⟨rfl,hlt,ρ2,G2,ds,p3.er,(rds.same gs).same p3.gs,by lia,hw⟩
 ·have e:i=x.1.length:=by lia
  subst e;refine .inl ⟨it2.2 rfl,λp hp=>?_⟩;rw[List.drop_length] at hw;have p2:=p1.trans (Po.more p1.er erb.base erb.g0 erb.sub erb.fresh);obtain⟨z1,z2⟩:=p2.er.newList hp rds;exact hw _ _ _ (p2.trans z1) (z2.back p2.hs)
theorem qde(gd:Gd κ K ε k X Γ)(A:All κ K ε k X Γ m)(ih:∀ε' X' Γ',Gd κ K ε' k X' Γ'->All κ K ε' k X' Γ' m)(elt:Expr)(gs:List Comprehension)(sc:Scope)(pos:Pos)(h:cE (m+1) Γ (.ListComp elt gs sc pos)=some x):PE X (.ListComp elt gs sc pos) (tR κ K ε Gv Hv (iR Γ.k x)):=by
 obtain⟨tg,it,ifs,own,el,src,t,c,rfl,S,rfl⟩:=qdd h;have B:BlkScope X own (yF Γ.N sc) sc:=yu gd S.chk
 exact PE.imp (qcx own (yF Γ.N sc) gd.calm B (qhv (Gv:=Gv) (Hv:=Hv) gd A tg it S.src) (λcl C fp s2 H2=>ZQ (ji gd B S.nd cl C fp s2 H2) tg S.tg) (λcl C fp s2 H2=>ZR (ih _ _ _ (ji gd B S.nd cl C fp s2 H2)) ifs S.c)
  (λcl C fp s2 H2=>qdc (ih _ _ _ (ji gd B S.nd cl C fp s2 H2)) elt S.el) (Jo S.fold X.env)) (Jp S)
theorem qdf(gd:Gd κ K ε k X Γ)(A:All κ K ε k X Γ m)(f:Str)(es:List Expr)(p q:Pos)(h:cE (m+1) Γ (.Call (.Name f p) es [] q)=some x):PE X (.Call (.Name f p) es [] q) (tR κ K ε Gv Hv (iR Γ.k x)):=by
 obtain⟨hn,h⟩:=qg h;simp only[Bool.and_eq_true] at hn;obtain⟨⟨h1,h2⟩,h3⟩:=hn
 by_cases hi:f = "isinstance"
 ·subst hi;rw[if_pos rfl] at h
  match es,h with
  |[a,b],h=>
   cases b with
   |Name t tp=>exact qfg gd A a t p tp q h2 h
   |_=>cases h
  |[],h=>cases h
  |[_],h=>cases h
  | _::_::_::_,h=>cases h
 rw[if_neg hi] at h
 by_cases ht:Γ.tab.contains f=true
 ·rw[if_pos ht] at h;exact qaV gd A f es p q h1 h2 ht h
 rw[if_neg ht] at h
 by_cases hk:Γ.cs.tab.contains f=true
 ·rw[if_pos hk] at h;exact qdb gd A f es p q h1 h2 hk h
 rw[if_neg hk] at h
 match es,h with
 |[a],h=>exact qaW gd A f a p q h2 h
 |[a,b],h=>exact qaX gd A f a b p q h2 h
 |[],h=>cases h
 | _::_::_::_,h=>cases h
theorem qjw(gd:Gd κ K ε k X Γ)(A:All κ K ε k X Γ m)(ih:∀ε' X' Γ',Gd κ K ε' k X' Γ'->All κ K ε' k X' Γ' m)(e:Expr)(x:E)(h:cE (m+1) Γ e=some x):PE X e (tR κ K ε Gv Hv (iR Γ.k x)):=by
 cases e with
 |Name x pos=>exact qaN gd h pos
 |Constant c j pos=>exact qaR c j pos h
 |BinOp a op b pos=>exact qaS A a b op pos h
 |UnaryOp op a pos=>
  cases op with
  |USub=>exact qe3 A a pos h
  |Not=>exact qc1 A a pos h
  |_=>cases h
 |BoolOp op vs pos=>
  match vs,h with
  |[],h=>cases op<;>cases h
  |[a],h=>cases op<;>(obtain⟨a',h1,rfl⟩:=map_some h;exact PE.imp (qei (A.r Gv Hv _ _ h1)) λσ H Q h=>h)
  | a::b::l,h=>
   cases op with
   |And=>exact qe4 A a b l pos h
   |Or=>exact qhr A a b l pos h
 |Compare a ops bs pos=>
  match ops,bs,h with
  |[op],[b],h=>exact qc2 gd A a b op pos h
  |[],_,h=>cases h
  |[_],[],h=>cases h
  | [_],_::_::_,h=>cases h
  | _::_::_,_,h=>cases h
 |IfExp c a b pos=>cases h
 |Subscript a b pos=>exact qe5 gd A a b pos h
 |List es pos=>exact qe6 A es pos h
 |Tuple es j pos=>exact qe7 A es j pos h
 |Call fn es kws q=>
  cases fn with
  |Name f p=>
   cases kws with
   |nil=>exact qdf gd A f es p q h
   |cons kw kws=>cases h
  |Attribute o x ap=>
   cases kws with
   |nil=>exact qda gd A o x ap es q h
   |cons kw kws=>cases h
  |_=>cases h
 |Attribute o x pos=>exact qfi gd A o x pos h
 |ListComp elt gens sc pos=>exact qde gd A ih elt gens sc pos h
 |_=>cases h
theorem all:∀(m:Nat) (ε:XK) (X:Cx) (Γ:Ct),Gd κ K ε k X Γ->All κ K ε k X Γ m
 |0,_,_,_,_=>qjp
 | m+1,ε,X,Γ,gd=>
  have A:=all m ε X Γ gd
  ⟨λGv Hv=>qjw gd A (all m),λGv Hv=>qjq gd A,λGv Hv=>qjt gd A,λGv Hv=>qhs A,λGv Hv=>qht A,λGv Hv=>qjr A,λGv Hv=>qjs A,λGv Hv=>qju gd A,λGv Hv=>qjv gd A⟩
end
end DE
namespace DE
open PySem PySem.Spec PyProof.Rows L2
section
variable(κ:KC)(K:Frag)(Gv Hv:Hp)
noncomputable def FlP(G:Hp)(D:Ends):Fl->Prop
 | .next ρ'=>∀σ' G' H',ER κ K Gv Hv G' H' ρ' σ'->qj G G'->D.nx σ' H'
 |.ret r=>∀v G' H',qj Hv H'->qj Gv G'->qj G' H'->(∀a o,G' a=some o->(∃o',Gv a=some o')\/Hv a=none)->ReR κ G' H' Hv r v->D.rt v H'
noncomputable def tS(ε:XK)(f:Env->R Fl):TS:=λD σ H=>∃ρ G,ER κ K Gv Hv G H ρ σ/\Wx (XP κ Gv Hv ε) (f ρ) (FlP κ K Gv Hv G D)
end
noncomputable def qdg(C:Addr)(ns:List Str):Sp:=λvs H Q _=>∃x us,vs=.ref x::us/\H x=some (zM x C none)/\us.length=ns.length/\(∀u∈us,Zv u)/\∀dd,H dd=none->dd≠x->Q .non (upd (upd H dd (xD dd (ns.zip us))) x (zM x C (some dd)))
structure Gs(κ:KC)(K:Frag)(ε:XK)(k:Nat)(X:Cx)(Γ:Ct):Prop extends Gd κ K ε k X Γ where
 own:Γ.z=false->PassesOwn (model X.prog X.w) X.A X.env X.xe
 rs:Γ.z=false->zN X ε
 ow:Γ.z=false->∀x:Addr,PassesOwnAt (model X.prog X.w) (X.A.mark (some (.ref x))) X.A X.env X.xe
 pt:Γ.z=false->ZC X ε
 ex:X.ex=[]
 stk:X.stack=X.env::X.outer/\X.env.frame=some X.env.locals
 xn0:∀n,Γ.cs.xn n=some []->X.mg n=some (.ref (Γ.cs.xa n))/\PySem.W.excIn X.K (Γ.cs.xa n) bV "ValueError.__new__" = true
 xn1:Γ.x=true->∀n ns,Γ.cs.xn n=some ns->ns≠[]->∃fI fd j,k=j+1/\X.mg n=some (.ref (Γ.cs.xa n))/\XcC X.K (Γ.cs.xa n) fI/\FnOk X.prog X.w X.K X.mg X.base CX0 j fI fd ("self" :: ns) (qdg (Γ.cs.xa n) ns)/\qx X.K fd ("self" :: ns) []
 xk:Γ.x=true->0 < k
 xn2:Γ.x=true->∀n nf,Γ.cs.xh n=true->Γ.cs.xn n=some [nf]->∃fI fd j,k=j+1/\X.mg n=some (.ref (Γ.cs.xa n))/\XcC X.K (Γ.cs.xa n) fI/\FnOkH X.prog X.w X.K X.mg X.base CX0 j fI fd ["self",nf] (qcN (Γ.cs.xa n) nf)/\qx X.K fd ["self",nf] []
 xhs:∀C (t:Str) b,t≠("ValueError" : Str)->Γ.cs.xs C t=some b->∃D,X.mg t=some (.ref D)/\PySem.W.exmOne X.K (.ref C) (.ref D)=some b
 sceq:X.env.scope=Γ.sc
 fnk:Γ.sc.kind=.function
theorem PS.imp{X:Cx}{st:Stmt}{t t':TS}(h:PS X st t')(i:∀D σ H,t D σ H->t' D σ H):PS X st t:=λpins s σ H D I hw=>h pins s σ H D I (i D σ H hw)
theorem PSs.imp{X:Cx}{st:List Stmt}{t t':TS}(h:PSs X st t')(i:∀D σ H,t D σ H->t' D σ H):PSs X st t:=λpins s σ H D I hw=>h pins s σ H D I (i D σ H hw)
theorem jk{e:Expr}(h:jx e=true)(t:Option Expr)(l:Nat)(env:PySem.Env):swapsWith e t l env=pure false:=by cases e<;>first | rfl | (simp[jx] at h)
section
variable{κ:KC}{ε:XK}{K:Frag}{Gv Hv:Hp}{k m w:Nat}{X:Cx}{Γ:Ct}
theorem YJ{ρ:Env}{i:Nat}{l:List D}(h:yG ρ i=some l):ρ[i]?=some (.own l):=by
 unfold yG at h
 split at h
 ·rename_i e;cases h;exact e
 ·cases h
theorem ER.ownSlot{G H:Hp}{ρ:Env}{σ:L2.St}{i:Nat}{l:List D}(er:ER κ K Gv Hv G H ρ σ)(e:ρ[i]?=some (.own l)):∃a xs,σ[i]?=some (some (.ref a))/\H a=some (.lst xs)/\qm κ G l xs:=by obtain⟨a,xs,z,h1,h2,h3,h4⟩:=er.sl i _ e;exact⟨a,xs,z,h1,h4⟩
theorem ZS(gd:Gd κ K ε k X Γ)(A:All κ K ε k X Γ m)(x:Str)(a:Expr)(xp ap cp p:Pos){i:Nat}{a':E}(hl:(ap.endLine == cp.line)=true)(s1:qD a=false)(hi:qd2 Γ x=some i)(ha:cX m Γ a=some a') :
  PS X (.Expr (.Call (.Attribute (.Name x xp) "append" ap) [a] [] cp) p) (tS κ K Gv Hv ε (iS Γ.k w (.app i a'))):=by
 have few:((backTo cp (starEach [a] X.env)).all (λx=>!x.1)&&(backToKw cp (keywordEach [] X.env)).all (λx=>x.1.isSome)&&decide (([a]:List Expr).length+([]:List Keyword).length+(if ([]:List Keyword).isEmpty then 0 else 1) < 30))=true:=by rw[qh s1];rfl
 refine PS.imp (jv (qez PySem.F.plainAttrs_list PySem.F.slot_list_append PySem.F.type_list_append JR (qbG gd hi xp) (qr (A.e Gv Hv _ _ ha) qz (qh s1)) rfl few hl (qh s1) rfl) rfl) λD σ H hq1=>?_;obtain⟨ρ,G,er,h⟩:=hq1;have h:Wx _ (α:=Fl) (match yG ρ i with |none=>R.no |some _=>(zR a' (iR Γ.k a') ρ).th λy=>match yG y.2 i with |some l=>if l.length < sizeLine then .ok (.next (y.2.set i (.own (l++[y.1])))) else .no |none=>.no) _:=h
 cases e1:yG ρ i with
 |none=>rw[e1] at h;exact False.elim h
 |some l0=>
  rw[e1] at h;obtain⟨b,xs,z,h1,h2⟩:=er.ownSlot (YJ e1);refine⟨_,z,.inl ⟨rfl,xs,SqL.of h1⟩,ρ,G,er,Wx.mono (Wx.th h) λy h v G1 H1 p1 r1=>?_⟩
  cases e2:yG y.2 i with
  |none=>rw[e2] at h;exact False.elim h
  |some l=>rw[e2] at h;obtain⟨hz,h⟩:=Wx.iff h;obtain⟨b',ys,z',h3,h4⟩:=p1.er.ownSlot (YJ e2);rw[z] at z';cases z';refine⟨b,ys,v,rfl,rfl,h3,by rw[<-h4.len];exact hz,?_⟩;exact h σ G1 _ (p1.er.write (YJ e2) z (h4.snoc r1)) p1.gs
theorem qfm(gd:Gd κ K ε k X Γ)(A:All κ K ε k X Γ m)(e:Expr)(p:Pos){z:E}(h:cV m Γ e=some z):PS X (.Return (some e) p) (tS κ K Gv Hv ε (iS Γ.k w (.ret z))):=by
 have gen:(cE m Γ e).bind Ji=some z->PS X (.Return (some e) p) (tS κ K Gv Hv ε (iS Γ.k w (.ret z))):=λh=>by
  obtain⟨y,h1,h2⟩:=Option.bind_eq_some_iff.mp h;obtain⟨rfl,hv⟩:=zh h2;refine PS.imp (jD (A.r Gv Hv _ _ h1)) λD σ H hq1=>?_;obtain⟨ρ,G,er,h⟩:=hq1;have h:=Wx.th (x:=qaL y (iR Γ.k y) ρ) h;rw[qcW hv] at h;refine⟨ρ,G,er,Wx.mono (Wx.th h) λx h v G1 H1 p1 r1=>?_⟩;obtain⟨rv,ρ1⟩:=x
  cases rv with
  |val d=>exact h v G1 H1 p1.er.base p1.er.g0 p1.er.sub p1.er.fresh r1
  |tmp l=>obtain⟨a,xs,rfl,h1,h2,h3,h4,h5,h6⟩:=r1;exact h _ G1 H1 p1.er.base p1.er.g0 p1.er.sub p1.er.fresh ⟨a,xs,rfl,h1,h3,h4,h6⟩
  |_=>exact False.elim h
 cases e with
 |Name x pos=>
  rcases Jj gd h pos with ⟨i,rfl,P⟩ | ⟨d,v,rfl,e3,P⟩
  ·refine PS.imp (jD P) λD σ H hq1=>?_;obtain⟨ρ,G,er,h⟩:=hq1;have h:=Wx.th (x:=slX ρ i) h;unfold slX at h
   cases q:ρ[i]? with
   |none=>rw[q] at h;exact False.elim h
   |some s=>
    rw[q] at h;have w:=er.sl i s q
    cases s with
    |val d=>obtain⟨v,z,r⟩:=w;exact⟨v,z,h v G H er.base er.g0 er.sub er.fresh r⟩
    |own l=>obtain⟨a,xs,z,r1,r2,r3,r4⟩:=w;exact⟨_,z,h _ G H er.base er.g0 er.sub er.fresh ⟨a,xs,rfl,r1,r2,r3,r4⟩⟩
    |_=>exact False.elim h
  ·refine PS.imp (jD P) λD σ H hz7=>?_;obtain⟨ρ,G,er,h⟩:=hz7;exact h v G H er.base er.g0 er.sub er.fresh (e3 G)
 |_=>exact gen h
noncomputable def AsR(κ:KC)(K:Frag)(Hv G H:Hp)(ρ:Env)(σ:L2.St):Sl->V->Prop
 |.val d,v=>Rep κ G d v
 |.own l,v=>∃a xs,v=.ref a/\H a=some (.lst xs)/\Hv a=none/\G a=none/\¬ zZ ρ σ a/\qm κ G l xs
 |_,_=>False
noncomputable def tA(κ:KC)(K:Frag)(ε:XK)(Gv Hv:Hp)(f:Env->R (Sl×Env)):TE:=λσ H Q=>∃ρ G,ER κ K Gv Hv G H ρ σ/\Wx (XP κ Gv Hv ε) (f ρ) λs=>∀v G' H',Po κ K Gv Hv σ G H ρ G' H' s.2->AsR κ K Hv G' H' s.2 σ s.1 v->Q v H'
theorem qdh{G H:Hp}{ρ:Env}{σ:L2.St}{s:Sl}{v:V}{i:Nat}(er:ER κ K Gv Hv G H ρ σ)(h:AsR κ K Hv G H ρ σ s v):ER κ K Gv Hv G H (ρ.set i s) (σ.set i (some v)):=by
 cases s with
 |val d=>exact er.setVal h
 |own l=>obtain⟨a,xs,rfl,h1,h2,h3,h4,h5⟩:=h;exact er.setOwn h1 h2 h3 h4 h5
 |_=>exact False.elim h
theorem qig{z:E}(hv:∀i,z≠.var i)(σ:L2.St)(H:Hp)(Q:VK)(h:tA κ K ε Gv Hv (QS z (iR Γ.k z)) σ H Q):tR κ K ε Gv Hv (iR Γ.k z) σ H Q:=by
 obtain⟨ρ,G,er,h⟩:=h;rw[qcX hv] at h;refine⟨ρ,G,er,Wx.mono (Wx.th h) λx h v G1 H1 p1 r1=>?_⟩;obtain⟨rv,ρ1⟩:=x
 cases rv with
 |val d=>exact h v G1 H1 p1 r1
 |tmp l=>obtain⟨a,xs,rfl,h1,h2,h3,h4,h5,h6⟩:=r1;exact h _ G1 H1 p1 ⟨a,xs,rfl,h1,h3,h4,h5,h6⟩
 |_=>exact False.elim h
theorem qih(gd:Gd κ K ε k X Γ)(A:All κ K ε k X Γ m)(e:Expr){z:E}(h:cV m Γ e=some z):PE X e (tA κ K ε Gv Hv (QS z (iR Γ.k z))):=by
 have gen:(cE m Γ e).bind Ji=some z->PE X e (tA κ K ε Gv Hv (QS z (iR Γ.k z))):=λh=>by obtain⟨y,h1,h2⟩:=Option.bind_eq_some_iff.mp h;obtain⟨rfl,hv⟩:=zh h2;exact PE.imp (A.r Gv Hv _ _ h1) (qig hv)
 cases e with
 |Name x pos=>
  have P:=Qc (Gv:=Gv) (Hv:=Hv) gd h pos;rcases Jj gd h pos with ⟨i,rfl,_⟩ | ⟨d,v,rfl,_,_⟩
  ·refine PE.imp P λσ H Q hq1=>?_;obtain⟨ρ,G,er,h⟩:=hq1;exact⟨ρ,G,er,Wx.mono (Wx.th (x:=slE ρ i) h) λy h v G1 H1 p1 r1=>h v G1 H1 p1 r1⟩
  ·refine PE.imp P λσ H Q hz8=>?_;obtain⟨ρ,G,er,h⟩:=hz8;exact⟨ρ,G,er,h⟩
 |_=>exact gen h
theorem qfn(gs:Gs κ K ε k X Γ)(A:All κ K ε k X Γ m)(x:Str)(e:Expr)(xp p:Pos){i:Nat}{z:E}(hi:qaj Γ x=some i)(hz:cV m Γ e=some z):PS X (.Assign [.Name x xp] e p) (tS κ K Gv Hv ε (iS Γ.k w (.set i z))):=by
 have gd:=gs.toGd;obtain⟨l1,l2,hN,hxi⟩:=J1 gd hi
 have fin:∀(D:Ends) (σ:L2.St) (H:Hp),tS κ K Gv Hv ε (iS Γ.k w (.set i z)) D σ H->tA κ K ε Gv Hv (QS z (iR Γ.k z)) σ H (λy H1=>QU i y σ H1 D.nx):=λD σ H ⟨ρ,G,er,h⟩=>⟨ρ,G,er,Wx.mono (Wx.th (x:=QS z (iR Γ.k z) ρ) h) λs h v G1 H1 p1 r1=>h _ G1 H1 (qdh p1.er r1) p1.gs⟩
 by_cases hn:jx e=true
 ·exact PS.imp (jb (i:=i) hN hxi l1 (qih gd A e hz) (jk hn _ _ _) l2) fin
 cases e with
 |ListComp elt gens sc cp=>
  have hsw:∀b:Bool,(X.env.blockKind == .function&&X.env.kindOf x == some .local&&xp.line == cp.line&&!(sc.names.any λ(n,k)=>n == x&&(k == .local||k == .cell)))=b->swapsWith (.ListComp elt gens sc cp) (some (.Name x xp)) p.line X.env=pure b:=λb hb=>by rw[<-hb];rfl
  cases hb:(X.env.blockKind == .function&&X.env.kindOf x == some .local&&xp.line == cp.line&&!(sc.names.any λ(n,k)=>n == x&&(k == .local||k == .cell))) with
  |false=>exact PS.imp (jb (i:=i) hN hxi l1 (qih gd A _ hz) (hsw false hb) l2) fin
  |true=>
   have hloc:X.env.scope.names.lookup x=some .local:=by
    simp only[Bool.and_eq_true] at hb
    have:=hb.1.1.2
    unfold PySem.Env.kindOf at this
    simpa using this
   obtain⟨y,h1,h2⟩:=Option.bind_eq_some_iff.mp hz;obtain⟨rfl,hv⟩:=zh h2
   cases m with
   |zero=>cases h1
   |succ m=>
    obtain⟨tg,it,ifs,own,el,src,t,c,rfl,S,rfl⟩:=qdd h1;have B:BlkScope X own (yF Γ.N sc) sc:=yu gd S.chk
    exact PS.imp (Zo (i:=i) own (yF Γ.N sc) hN hxi hloc gd.calm B (qhv (Gv:=Gv) (Hv:=Hv) gd (all m _ X Γ gd) tg it S.src) (λcl C fp s2 H2=>ZQ (ji gd B S.nd cl C fp s2 H2) tg S.tg) (λcl C fp s2 H2=>ZR (all m _ _ _ (ji gd B S.nd cl C fp s2 H2)) ifs S.c)
     (λcl C fp s2 H2=>qdc (all m _ _ _ (ji gd B S.nd cl C fp s2 H2)) elt S.el) (hsw true hb) (Jo S.fold X.env)) λD σ H h=>Jp S σ H _ (qig hv σ H _ (fin D σ H h))
 |SetComp=>cases m<;>cases hz
 |DictComp=>cases m<;>cases hz
 |_=>exact absurd rfl hn
end
end DE
namespace DE
open PySem PySem.Spec PyProof.Rows L2
section
variable{κ:KC}{ε:XK}{K:Frag}{Gv Hv:Hp}{k m w:Nat}{X:Cx}{Γ:Ct}
theorem Zv.of{G:Hp}{d:D}{v:V}(h:yK d=true)(r:Rep κ G d v):Zv v:=by
 cases d with
 |int i=>simp only[Rep] at r;subst r;exact of_decide_eq_true (p:=i.natAbs.log2 < 1920) h
 |non=>simp only[Rep] at r;subst r;trivial
 |_=>cases h
theorem ZT{G:Hp}:∀{ds:List D} {vs:List V},ds.all yK=true->qm κ G ds vs->∀u∈vs,Zv u
 |[],vs,_,r=>by simp only[qm] at r;subst r;simp
 | d::ds,vs,h,r=>by
  simp only[qm] at r;obtain⟨v,us,rfl,r1,r2⟩:=r;rw[List.all_cons,Bool.and_eq_true] at h;intro u hu;rcases List.mem_cons.mp hu with rfl | hu
  ·exact Zv.of h.1 r1
  ·exact ZT h.2 r2 u hu
theorem qaZ(gs:Gs κ K ε k X Γ)(A:All κ K ε k X Γ m)(hz:Γ.z=false)(n:Str)(e:Expr)(es:List Expr)(np cp p:Pos){l:Es}(hc:xnB Γ n=true)(h1:cEs m Γ (e::es)=some l) :
  PS X (.Raise (some (.Call (.Name n np) (e::es) [] cp)) none p) (tS κ K Gv Hv ε (iS Γ.k w (.rai n l))):=by
 rw[xnB,Bool.and_eq_true] at hc;obtain⟨n1,n2,n3⟩:=ql hc.1;have gd:=gs.toGd;have hg:Gl X n:=gd.glo n hc.2;have hs:=ZO h1;simp only[List.any_cons,Bool.or_eq_false_iff] at hs;have pa:PA X (e::es) (tEs κ K ε Gv Hv (iEs Γ.k l)):=A.es Gv Hv _ _ h1;intro pins s σ H D I hq;obtain⟨ρ,G,er,hw⟩:=hq;have hw:=Wx.nox (Ξ':=X0) (Wx.th (x:=noX (iEs Γ.k l ρ)) hw)
 have no:(∀v,mkX Γ.x Γ.cs n v=.no)->False:=λq=>by
  cases e1:iEs Γ.k l ρ with
  |ok v=>rw[e1] at hw;have hv:Wx (XP κ Gv Hv ε) (mkX Γ.x Γ.cs n v.1) _:=hw;rw[q] at hv;exact hv
  |exc c l=>rw[e1] at hw;exact hw
  |no=>rw[e1] at hw;exact hw
 cases e0:Γ.cs.xn n with
 |none=>exact(no λv=>by unfold mkX;rw[e0]).elim
 |some ns=>
  cases ns with
  |nil=>
   obtain⟨hm,hk⟩:=gs.xn0 n e0;refine qaC (qaF gs.ex (gs.rs hz)) gd.calm hg hm hk PySem.F.excBase_ValueError pa (qh hs.1) (qJ hs.2) n1 pins s σ H D I ⟨ρ,G,er,Wx.mono2 hw (λ_ _ z=>False.elim z) λv hv vs G1 H1 p1 r1=>?_⟩;have hv:Wx (XP κ Gv Hv ε) (mkX Γ.x Γ.cs n v.1) _:=hv;unfold mkX at hv;rw[e0] at hv;dsimp only at hv
   by_cases hl:v.1.length<=sizeLine
   ·rw[if_pos hl] at hv;exact⟨by rw[<-r1.len];exact hl,hv none G1 H1 p1.er.base p1.er.g0 p1.er.sub p1.er.fresh (.inl ⟨rfl,rfl⟩)⟩
   ·rw[if_neg hl] at hv;exact False.elim hv
  |cons a ns=>
   by_cases gx:Γ.x=true
   case neg=>exact(no λv=>by unfold mkX;rw[e0];exact if_neg λz=>gx (by simp only[Bool.and_eq_true] at z;exact z.1.1.1)).elim
   obtain⟨fI,fd,j,hj,hm,hk,F,hb⟩:=gs.xn1 gx n _ e0 (by simp);subst hj;refine ZB gs.ex (gs.rs hz) gd.calm hg hm hk F gd.room hb pa (qh hs.1) (qJ hs.2) n1 pins s σ H D I ⟨ρ,G,er,Wx.mono2 hw (λ_ _ z=>False.elim z) λv hv vs G1 H1 p1 r1=>?_⟩;have hv:Wx (XP κ Gv Hv ε) (mkX Γ.x Γ.cs n v.1) _:=hv;unfold mkX at hv;rw[e0] at hv;dsimp only at hv
   by_cases hl:(Γ.x&&decide (v.1.length=(a::ns).length)&&decide (v.1.length<=sizeLine)&&v.1.all yK)=true
   case neg=>rw[if_neg hl] at hv;exact False.elim hv
   rw[if_pos hl] at hv;simp only[Bool.and_eq_true,decide_eq_true_eq] at hl;obtain⟨⟨⟨_,l1⟩,l2⟩,l3⟩:=hl;refine⟨by rw[<-r1.len];exact l2,λx hx=>⟨x,vs,rfl,qc,by rw[<-r1.len];exact l1,ZT l3 r1,λdd hd ne=>⟨rfl,some dd,qc,?_⟩⟩⟩;rw[qb ne] at hd;have gdd:G1 dd=none:=qj.none p1.er.sub hd;have gx1:G1 x=none:=qj.none p1.er.sub hx
   have old:∀{b:Addr} {o:HO},H1 b=some o->rem (upd (upd (upd H1 x (zM x (Γ.cs.xa n) none)) dd (xD dd ((a::ns).zip vs))) x (zM x (Γ.cs.xa n) (some dd))) x b=some o:=λ{b o} q=>by
    have b1:b≠x:=λz=>by rw[z,hx] at q;cases q
    have b2:b≠dd:=λz=>by rw[z,hd] at q;cases q
    rw[Y8 b1,qb b1,qb b2,qb b1];exact q
   have fz:((a::ns).zip v.1).map (·.1)=a::ns:=by rw[List.map_fst_zip];lia
   have sz:((a::ns).zip v.1).map (·.2)=v.1:=by rw[List.map_snd_zip];lia
   have gs1:qj G1 (upd G1 dd (xD dd ((a::ns).zip vs))):=qj.upd gdd;refine hv (some dd) (upd G1 dd (xD dd ((a::ns).zip vs))) _ (λb o q=>old (p1.er.base b o q)) (λb o q=>gs1 b o (p1.er.g0 b o q)) (λb o q=>?_) (λb o q=>?_) (.inr ⟨dd,vs,rfl,by rw[fz];exact qc,by rw[sz];exact r1.same gs1⟩)
   ·by_cases hb:b=dd
    ·subst hb;rw[qc] at q;cases q;rw[Y8 ne,qb ne,qc]
    ·rw[qb hb] at q;exact old (p1.er.sub b o q)
   ·by_cases hb:b=dd
    ·subst hb;exact .inr (qj.none p1.er.base hd)
    ·rw[qb hb] at q;exact p1.er.fresh b o q
end
end DE
namespace DE
open PySem PySem.Spec PyProof.Rows L2
structure AllS(κ:KC)(K:Frag)(ε:XK)(X:Cx)(Γ:Ct)(m w:Nat):Prop where
 s:∀Gv Hv st x,cS m Γ st=some x->PS X st (tS κ K Gv Hv ε (iS Γ.k w x))
 ss:∀Gv Hv l x,cSs m Γ l=some x->PSs X l (tS κ K Gv Hv ε (iSs Γ.k w x))
noncomputable abbrev atX(X:Cx)(pins:PP)(E1:PQ):Cx:={ X with pn:=X.pn++pins,xe:=E1 }
section
variable{κ:KC}{ε:XK}{K:Frag}{Gv Hv:Hp}{k m w:Nat}{X:Cx}{Γ:Ct}{pins pins':PP}{E1:PQ}{σ:L2.St}{H:Hp}{s:Shared}
theorem qfo(ok:X.Ok):(atX X pins E1).Ok:=⟨ok.mod,ok.kind,ok.glob,ok.blt,ok.above,ok.inj,ok.has,ok.cab,ok.hd,ok.frames,ok.stk,ok.exf,ok.bs,ok.bsz,ok.noex,ok.exfs,ok.funs,ok.frf⟩
theorem qfp(ok:(atX X pins E1).Ok):X.Ok:=⟨ok.mod,ok.kind,ok.glob,ok.blt,ok.above,ok.inj,ok.has,ok.cab,ok.hd,ok.frames,ok.stk,ok.exf,ok.bs,ok.bsz,ok.noex,ok.exfs,ok.funs,ok.frf⟩
theorem qfq(I:L2.Inv X pins σ H s):L2.Inv (atX X pins E1) [] σ H s:=⟨qfo I.ok,I.os,I.bare,I.base,I.loc,I.cell,I.free,I.freeC,λp hp=>I.pin p (by simpa using hp),I.hok,I.len⟩
theorem J4(I:L2.Inv (atX X pins E1) pins' σ H s):L2.Inv X pins σ H s:=⟨qfp I.ok,I.os,I.bare,I.base,I.loc,I.cell,I.free,I.freeC,λp hp=>I.pin p (List.mem_append_left _ hp),I.hok,I.len⟩
theorem qfr{D:Ends}{f:Flow}(h:SP (atX X pins E1) [] D f s):SP X pins D f s:=by
 cases f with
 |next=>obtain⟨σ',H',I,q⟩:=h;exact⟨σ',H',J4 I,q⟩
 |brk=>obtain⟨σ',H',I,q⟩:=h;exact⟨σ',H',J4 I,q⟩
 |cont=>obtain⟨σ',H',I,q⟩:=h;exact⟨σ',H',J4 I,q⟩
 |ret u=>obtain⟨v,σ',H',I,r,q⟩:=h;exact⟨v,σ',H',J4 I,r,q⟩
theorem qfs{E1:PQ}{ε':XK}(gs:Gs κ K ε k X Γ)(ps:zg (CX1 X.prog X.w) (atX X pins E1) ε'):Gs κ K ε' k (atX X pins E1) { Γ with z:=true }:=
 { ps:=ps,own:=λz=>(by cases z),rs:=λz=>(by cases z),ow:=λz=>(by cases z),pt:=λz=>(by cases z),ex:=gs.ex,stk:=gs.stk,xn0:=gs.xn0,xn1:=gs.xn1,xn2:=gs.xn2,xk:=gs.xk,xhs:=gs.xhs,hN:=gs.hN,vis:=gs.vis,loc:=gs.loc,glo:=gs.glo,cf:=gs.cf,nd:=gs.nd,calm:=gs.calm,hK:=gs.hK,room:=gs.room,fns:=gs.fns,blt:=gs.blt,gl:=gs.gl,cls:=gs.cls,flds:=gs.flds,mts:=gs.mts,mks:=gs.mks,xsubs:=gs.xsubs,xgs:=gs.xgs,subs:=gs.subs,sceq:=gs.sceq,fnk:=gs.fnk }
theorem qhw(gs:Gs κ K ε k X Γ){x T C:Addr}{od:Option Addr}{G2:Hp}{hh:Heap}{l:List (Str×D)}{D:Ends}{G:Hp}{n:Nat}{Ξ:XW}(hn:σ.length=n)(Hd:Held X pins σ H s x T C od hh)
  (h1:qj Hv H) (h2:qj Gv G2) (h3:qj G2 H) (h4:∀a o,G2 a=some o->(∃o',Gv a=some o')\/Hv a=none) (h5:qhp κ G2 od l) (g:qj G G2) :
  ∀(hs:List ExceptHandler) (hs':List (Str×Nat×Nat)),cHs Γ hs=some hs'->Wx Ξ (jg Γ.cs n C l hs') (FlP κ K Gv Hv G D)->wpAny (model X.prog X.w) X.A (handleBy (.ref x) X.env hs) (SP X pins D) X.xe { s with heap:=hh }:=by
 intro hs
 induction hs with
 |nil=>intro hs' hc hw;cases hc;exact False.elim hw
 |cons hd hs ih=>
  intro hs' hc hw
  ·obtain⟨⟨t,n,v,n2⟩,hH,hc⟩:=bind_some hc;obtain⟨tp,vp,np,ap,hp,rfl⟩:=qho hH;obtain⟨hb,hc⟩:=qg hc;obtain⟨q,r',h6,h7,rfl⟩:=qi hc;obtain⟨i,j,h8,h9,rfl⟩:=qi h6;simp only[Bool.and_eq_true,decide_eq_true_eq,beq_iff_eq] at hb;obtain⟨⟨⟨⟨⟨⟨b1,b2⟩,b3⟩,b4⟩,b5⟩,b6⟩,b7⟩:=hb;subst b1;have hg:Gl X t:=gs.glo t b5;obtain⟨n1,n2',n3⟩:=ql b4;obtain⟨m1,m2,m3⟩:=ql b6;have hw:Wx Ξ (match Γ.cs.xs C t with |some true=>R.ok (Fl.next ((List.replicate n Sl.no).set j (.val (.exc C (l.map (·.1)) (l.map (·.2)))))) |some false=>jg Γ.cs n C l r' |none=>.no) (FlP κ K Gv Hv G D):=hw
   cases ex:Γ.cs.xs C t with
   |none=>rw[ex] at hw;exact False.elim hw
   |some b=>
    obtain⟨Dc,hm,hq⟩:=gs.xhs C t b b3 ex
    cases b with
    |false=>rw[ex] at hw;exact yk Hd gs.ex hg hm hq (ih r' h7 hw) n1
    |true=>
     rw[ex] at hw;obtain⟨i1,i2,hN,hxi⟩:=J1 gs.toGd h8;obtain⟨j1,j2,_,hxj⟩:=J1 gs.toGd h9;have hN:X.N.Nodup:=hN;have hxi:X.N[i]?=some n2:=hxi;have hxj:X.N[j]?=some v:=hxj;have hl:X.env.scope.names.lookup n2=some .local:=by rw[show X.env.scope=Γ.sc from gs.sceq];exact b7
     have hij:i≠j:=λz=>by rw[z,hxj] at hxi;exact b2 (Option.some.inj hxi)
     have hlen:X.N.length=n:=by rw[<-hn];exact Hd.inv.len.symm
     have hi:i < n:=by rw[<-hlen];exact(List.getElem?_eq_some_iff.mp hxi).1
     have hj:j < n:=by rw[<-hlen];exact(List.getElem?_eq_some_iff.mp hxj).1
     refine QG Hd gs.ex hg hm hq hN hxi hl (q9 (jb (X:=X.mark (.ref x)) (i:=j) hN hxj j1 (zo (X:=X.mark (.ref x)) (i:=i) hxi (.inl hl) m1 m2) (jk rfl _ _ _) j2)) ⟨.ref x,by rw[List.getElem?_set_self (by rw[hn];exact hi)],?_⟩ n1;have hHx:H x=none:=Hd.mine.hx;have gx2:G2 x=none:=qj.none h3 hHx;have gs2:qj G2 (upd G2 x (qag x C od)):=qj.upd gx2;refine hw _ (upd G2 x (qag x C od)) _ ⟨by simp[hn],λb o q=>?_,λb o q=>?_,λb o q=>gs2 b o (h2 b o q),λb o q=>?_,λi' sl q=>?_,λi1' j1' a l' m' q1=>?_⟩ λb o q=>gs2 b o (g b o q)
     ·by_cases hb:b=x
      ·subst hb;rw[qc] at q ⊢;exact q
      ·rw[qb hb] at q ⊢;exact h3 b o q
     ·rw[qb (λz=>by rw[z] at q;have:=h1 _ _ q;rw[hHx] at this;cases this)];exact h1 b o q
     ·by_cases hb:b=x
      ·subst hb;exact .inr (qj.none h1 hHx)
      ·rw[qb hb] at q;exact h4 b o q
     ·by_cases he:j=i'
      ·subst he;rw[List.getElem?_set_self (by simpa using hj)] at q;cases q;refine⟨.ref x,?_,?_⟩
       ·rw[List.getElem?_set_ne hij,List.getElem?_set_self (by simp[hn];exact hj)]
       ·simp only[Rep];rcases h5 with ⟨z1,z2⟩ | ⟨dd,xs,z1,z2,z3⟩
        ·exact⟨x,od,[],rfl,qc,.inl ⟨z1,by rw[z2];rfl⟩,by rw[z2];exact .nil⟩
        ·exact⟨x,od,xs,rfl,qc,.inr ⟨dd,z1,gs2 _ _ z2⟩,z3.same gs2⟩
      ·rw[List.getElem?_set_ne he] at q
       have:=List.eq_of_mem_replicate (List.mem_of_getElem? q)
       subst this;trivial
     ·exfalso
      by_cases he:j=i1'
      ·subst he;rw[List.getElem?_set_self (by simpa using hj)] at q1;cases q1
      ·rw[List.getElem?_set_ne he] at q1
       have:=List.eq_of_mem_replicate (List.mem_of_getElem? q1)
       cases this
theorem ER.now{G:Hp}{ρ:Env}(er:ER κ K Gv Hv G H ρ σ):ER κ K G Hv G H ρ σ:=⟨er.len,er.sub,er.base,λ_ _ e=>e,λa o e=>.inl ⟨o,e⟩,er.sl,er.ap⟩
theorem ER.thn{G G' H':Hp}{ρ ρ':Env}{σ':L2.St}(er:ER κ K Gv Hv G H ρ σ)(e:ER κ K G Hv G' H' ρ' σ'):ER κ K Gv Hv G' H' ρ' σ':=
 ⟨e.len,e.sub,e.base,λb o q=>e.g0 b o (er.g0 b o q),λa o q=>by
  rcases e.fresh a o q with ⟨o',z⟩ | z
  ·exact er.fresh a o' z
  ·exact .inr z,e.sl,e.ap⟩
theorem qft(gs:Gs κ K ε k X Γ)(S:∀ε' X',Gs κ K ε' k X' { Γ with z:=true }->AllS κ K ε' X' { Γ with z:=true } m w)(body:List Stmt)(h0:ExceptHandler)(hs:List ExceptHandler)(p:Pos){b:Ss}(h1:cSs m { Γ with z:=true } body=some b) :
  PS X (.Try body (h0::hs) [] [] p) (tS κ K Gv Hv ε (iS Γ.k w (.try_ b ((cHs Γ (h0::hs)).getD [])))):=by
 intro pins s σ H D I hq;obtain⟨ρ,G,er,hw⟩:=hq;generalize hg:(cHs Γ (h0::hs)).getD []=hs' at hw;have hw:Wx (XP κ Gv Hv ε) (match iSs Γ.k w b ρ with |.exc C l=>jg Γ.cs ρ.length C l hs' |r=>r) (FlP κ K Gv Hv G D):=hw
 let E':XK:=λcv od H2=>∃C l G2,cv=.ref C/\qj Hv H2/\qj G G2/\qj G2 H2/\(∀a o,G2 a=some o->(∃o',G a=some o')\/Hv a=none)/\qhp κ G2 od l/\Wx (XP κ Gv Hv ε) (jg Γ.cs ρ.length C l hs') (FlP κ K Gv Hv G D)
 let E1:Value->Shared->Prop:=λe s'=>∃pins' σ' H1 s1,L2.Inv (atX X pins (λ_ _=>True)) pins' σ' H1 s1/\CX1 X.prog X.w X.stack H1 s1 E' e s'
 have gs':Gs κ K E' k (atX X pins E1) { Γ with z:=true }:=qfs gs λpins' σ' H1 s1 e s' I' c=>⟨pins',σ',H1,s1,⟨⟨I'.ok.mod,I'.ok.kind,I'.ok.glob,I'.ok.blt,I'.ok.above,I'.ok.inj,I'.ok.has,I'.ok.cab,I'.ok.hd,I'.ok.frames,I'.ok.stk,I'.ok.exf,I'.ok.bs,I'.ok.bsz,I'.ok.noex,I'.ok.exfs,I'.ok.funs,I'.ok.frf⟩,I'.os,I'.bare,I'.base,I'.loc,I'.cell,I'.free,I'.freeC,I'.pin,I'.hok,I'.len⟩,c⟩
 have B:=(S _ _ gs').ss G Hv body b h1 [] s σ H D (qfq I) ⟨ρ,G,er.now,by
  show Wx (XP κ G Hv E') (iSs Γ.k w b ρ) _
  cases e1:iSs Γ.k w b ρ with
  |ok f=>
   rw[e1] at hw
   cases f with
   | next ρ'=>exactλσ' G' H' q g=>hw σ' G' H' (er.thn q) g
   |ret r=>
    refineλv G' H' q1 q2 q3 q4=>hw v G' H' q1 (λb o q=>q2 b o (er.g0 b o q)) q3 λa o q=>?_;rcases q4 a o q with ⟨o',z⟩ | z
    ·exact er.fresh a o' z
    ·exact .inr z
  |no=>rw[e1] at hw;exact hw
  |exc C l=>rw[e1] at hw;exactλod G' H' q1 q2 q3 q4 q5=>⟨C,l,G',rfl,q1,q2,q3,q4,q5,hw⟩⟩
 refine wpAny_Try_except (wpAny_mono B (λf s1 q=>?_) λe s1 hq=>?_)
 ·have q:=qfr q
  cases f with
  |next=>exact wpAny_execs_nil q
  |_=>exact q
 ·obtain⟨pins',σ',H1,s2,I2,c⟩:=hq
  exact qic (D:=D) gs.stk gs.ex (J4 I2) c λx T C od H2 hh q Hd=>by
   obtain⟨C',l,G2,ec,q1,q2,q3,q4,q5,q6⟩:=q;cases ec
   cases h2:cHs Γ (h0::hs) with
   |none=>rw[h2] at hg;subst hg;exact False.elim q6
   |some hs2=>
    rw[h2] at hg;subst hg
    exact qhw gs (by rw[er.len,I.len];exact Hd.inv.len) Hd q1 (λb o q=>q2 b o (er.g0 b o q)) q3 (λa o q=>by
     rcases q4 a o q with ⟨o',z⟩ | z
     ·exact er.fresh a o' z
     ·exact .inr z) q5 q2 (h0::hs) hs2 h2 q6
end
end DE
namespace DE
open PySem PySem.Spec PyProof.Rows L2
section
variable{κ:KC}{ε:XK}{K:Frag}{Gv Hv:Hp}{k m w:Nat}{X:Cx}{Γ:Ct}
theorem qfu(gd:Gd κ K ε k X Γ):Gd κ K E0 k X.nox Γ:=
 {ps:=λ_ _ _ _ _ _ _ c=>(by obtain⟨x,T,C,od,H',_,_,_,_,_,_,_,_,_,_,z⟩:=c;exact z.elim)
  hN:=gd.hN,vis:=gd.vis,loc:=gd.loc,glo:=gd.glo,cf:=gd.cf,nd:=gd.nd,calm:=gd.calm,hK:=gd.hK,room:=gd.room,fns:=gd.fns,blt:=gd.blt,gl:=gd.gl,cls:=gd.cls,flds:=gd.flds,mts:=gd.mts,mks:=gd.mks,xsubs:=gd.xsubs,xgs:=gd.xgs,subs:=gd.subs }
theorem Qh{EX:XK}{r':Xa}{ρ ρ1:Env}{G H G1 H1:Hp}{σ:L2.St}{rv:Rv}{v:V}{Q:List V->Hp->Prop}(p1:Po κ K Gv Hv σ G H ρ G1 H1 ρ1)(r1:RvR κ K Hv H G1 H1 ρ1 σ rv v)
  (h:Wx (XP κ Gv Hv EX) ((iXa Γ.k r' ρ1).th λy=>.ok (toAr rv::y.1,y.2)) λx=>∀vs G' H',Po κ K Gv Hv σ G H ρ G' H' x.2->Yu κ K G' H' x.1 vs->Q vs H'):tAs κ K EX Gv Hv (iXa Γ.k r') σ H1 λvs H2=>Q (v::vs) H2:=by
 have h:=Wx.th h
 cases rv with
 |val d=>exact⟨ρ1,G1,p1.er,Wx.mono h λy h vs G2 H2 p2 r2=>h _ G2 H2 (p1.trans p2) ⟨v,vs,rfl,Rep.same p2.gs r1,r2⟩⟩
 |tmp ds=>obtain⟨a,xs,rfl,h1,h2,h3,h4,h5,h6⟩:=r1;have p1':=p1.freeze h1 h2 h3 h4 h5;refine⟨ρ1,_,p1'.er,Wx.mono h λy h vs G2 H2 p2 r2=>h _ G2 H2 (p1'.trans p2) ⟨_,vs,rfl,?_,r2⟩⟩;show Rep κ G2 (.lst ds) (.ref a);simp only[Rep];exact⟨a,xs,rfl,p2.gs _ _ qc,(h6.same (qj.upd h4)).same p2.gs⟩
 |cell ds=>obtain⟨a,xs,rfl,h1,h6⟩:=r1;exact⟨ρ1,G1,p1.er,Wx.mono h λy h vs G2 H2 p2 r2=>h _ G2 H2 (p1.trans p2) ⟨_,vs,rfl,⟨a,xs,rfl,p2.hs _ _ h1,h6.same p2.gs⟩,r2⟩⟩
 |scr ds=>obtain⟨a,xs,rfl,h1,h6⟩:=r1;exact⟨ρ1,G1,p1.er,Wx.mono h λy h vs G2 H2 p2 r2=>h _ G2 H2 (p1.trans p2) ⟨_,vs,rfl,⟨a,xs,rfl,p2.hs.seq h1,h6.same p2.gs⟩,r2⟩⟩
 |obj oa c ns os=>exact⟨ρ1,G1,p1.er,Wx.mono h λy h vs G2 H2 p2 r2=>h _ G2 H2 (p1.trans p2) ⟨v,vs,rfl,ObR.same p2.hs p2.gs r1,r2⟩⟩
theorem qdi(gd:Gd κ K ε k X Γ)(A0:All κ K E0 k X.nox Γ m):∀es xa,cXa m Γ es=some xa->PAx X es (λEX=>tAs κ K EX Gv Hv (iXa Γ.k xa))
 |[],_,h=>by cases h;refine PAx.imp qcO λEX σ H Q hq=>?_;obtain⟨ρ,G,er,h⟩:=hq;exact h [] G H (Po.refl er) rfl
 | e::l,xa,h=>by
  obtain⟨hs,h⟩:=qg h;have hs:qD e=false:=by simpa using hs
  have lf:o2 (cE m Γ e) (cXa m Γ l) Xa.leaf=some xa->PAx X (e::l) (λEX=>tAs κ K EX Gv Hv (iXa Γ.k xa)):=λh=>by obtain⟨a',l',h1,h2,rfl⟩:=qi h;refine PAx.imp (Qa (qaG (A0.r Gv Hv _ _ h1)) (qdi gd A0 l l' h2) (qh hs)) λEX σ H Q hq1=>?_;obtain⟨ρ,G,er,h⟩:=hq1;exact⟨ρ,G,er,Wx.nox (Wx.mono (Wx.th (x:=noX (iR Γ.k a' ρ)) h) λx h v G1 H1 p1 r1=>Qh p1 r1 h)⟩
  have h:(match caV e with |some t=>_ |none=>_)=_:=h
  cases ec:caV e with
  |none=>rw[ec] at h;exact lf h
  |some t=>
   rw[ec] at h;have h:(if _ then _ else _)=_:=h
   by_cases hc:(qv t.1&&glB Γ.sc t.1&&(Yt Γ.N t.1).isNone&&Γ.tab.contains t.1&&!t.2.isEmpty)=true
   ·rw[if_pos hc] at h;obtain⟨a',l',h1,h2,rfl⟩:=qi h;obtain⟨gp,gq,eg⟩:=ZF ec;obtain⟨g,as⟩:=t;simp only[Bool.and_eq_true] at hc;obtain⟨⟨⟨⟨c1,c2⟩,c3⟩,c4⟩,c5⟩:=hc;obtain⟨n1,n2,n3⟩:=ql c1;obtain⟨fa,fd,ps,F,hm,hk,hb⟩:=gd.fns g c4;have ns:=yt h1
    cases as with
    |nil=>cases c5
    |cons e1 es1=>simp only[List.any_cons,Bool.or_eq_false_iff] at ns;subst eg;have P:=JX (p:=gp) (pos:=gq) F gd.room (gd.glo g c2) hm hk hb .nil (qeP (A0.as Gv Hv _ _ h1)) n1 (qh ns.1) (qJ ns.2);refine PAx.imp (Qa P (qdi gd A0 l l' h2) (qh hs)) λEX σ H Q hq1=>?_;obtain⟨ρ,G,er,h⟩:=hq1;refine⟨ρ,G,er,Wx.nox (Wx.mono (Wx.th (x:=noX (iAs Γ.k a' ρ)) h) λx h vs G1 H1 p1 r1=>?_)⟩;show spF κ K Γ.cl g (vs++[]) H1 _ EX;rw[List.append_nil];refine⟨G1,x.1,p1.er.sub,r1,Wx.mono2 (Wx.th h) (XP.call p1) λr h v G2 H2 hs gs sub new rr=>?_⟩;obtain⟨z1,z2⟩:=ReR.rv p1 hs gs sub new rr;exact Qh z1 z2 h
   ·rw[if_neg hc] at h;exact lf h
theorem ZU:∀{es:List Expr} {xa:Xa},cXa m Γ es=some xa->es.any qD=false
 |[],_,_=>rfl
 | e::l,xa,h=>by
  obtain⟨hs,h⟩:=qg h;have hs:qD e=false:=by simpa using hs
  have h:(match caV e with |some t=>_ |none=>_)=_:=h
  have key:∃x,cXa m Γ l=some x:=by
   cases ec:caV e with
   |none=>rw[ec] at h;obtain⟨_,y,_,h2,_⟩:=qi h;exact⟨y,h2⟩
   |some t=>
    rw[ec] at h;have h:(if _ then _ else _)=_:=h
    by_cases hc:(qv t.1&&glB Γ.sc t.1&&(Yt Γ.N t.1).isNone&&Γ.tab.contains t.1&&!t.2.isEmpty)=true
    ·rw[if_pos hc] at h;obtain⟨_,y,_,h2,_⟩:=qi h;exact⟨y,h2⟩
    ·rw[if_neg hc] at h;obtain⟨_,y,_,h2,_⟩:=qi h;exact⟨y,h2⟩
  obtain⟨y,h2⟩:=key;rw[List.any_cons,hs,ZU h2];rfl
theorem qdj{ρ:Env}{i:Nat}{d:D}(h:slR ρ i=.ok (.val d)):ρ[i]?=some (.val d):=by
 unfold slR at h
 cases e:ρ[i]? with
 |none=>rw[e] at h;cases h
 |some s=>
  rw[e] at h
  cases s<;>cases h
  rfl
theorem J5(gs:Gs κ K ε k X Γ){C:Addr}{l:List (Str×D)}{c n:Str}(hv:c≠("ValueError" : Str)){d:D}{u:V}{G:Hp}(ru:Rep κ G d u)(g0:qj Gv G){F:Fl->Prop}(h:Wx (XP κ Gv Hv ε) (jh Γ.x Γ.cs C l c n d) F)(hf:yK d=true){j:Nat}{nf:Str}
  (hj:∀b,Γ.cs.xs C c=some b->b=true->k=j+1/\Γ.cs.xn n=some [nf]) :
  XP κ Gv Hv (λcv od H2=>∃C b Dc,cv=.ref C/\X.mg c=some (.ref Dc)/\PySem.W.exmOne X.K (.ref C) (.ref Dc)=some b/\(b=true->∃Cn fI fd,X.mg n=some (.ref Cn)/\XcC X.K Cn fI/\FnOkH X.prog X.w X.K X.mg X.base CX0 j fI fd ["self",nf] (qcN Cn nf)/\qx X.K fd ["self",nf] []/\
   ∀dd,H2 dd=none->ε (.ref Cn) (some dd) (upd H2 dd (xD dd [(nf,u)])))/\(b=false->ε (.ref C) od H2)) C l:=by
 intro od G' H' h1 h2 h3 h4 h5;unfold jh at h
 cases e:Γ.cs.xs C c with
 |none=>rw[e] at h;exact False.elim h
 |some b=>
  obtain⟨Dc,m1,m2⟩:=gs.xhs C c b hv e;rw[e] at h;refine⟨C,b,Dc,rfl,m1,m2,λhb=>?_,λhb=>?_⟩
  ·subst hb;obtain⟨hk,e2⟩:=hj true e rfl;have h:Wx (XP κ Gv Hv ε) (match Γ.cs.xn n with |some [nf]=>if (Γ.x&&Γ.cs.xh n&&yK d)=true then R.exc (Γ.cs.xa n) [(nf,d)] else .no |_=>.no) F:=h;rw[e2] at h;obtain⟨hc,h⟩:=Wx.iff h;simp only[Bool.and_eq_true] at hc;obtain⟨fI,fd,j',ej,q1,q2,q3,q4⟩:=gs.xn2 hc.1.1 n nf hc.1.2 e2;obtain rfl:j'=j:=by omega
   refine⟨_,fI,fd,q1,q2,q3,q4,λdd hdd=>?_⟩;have gdd:G' dd=none:=qj.none h3 hdd;have g1:qj G' (upd G' dd (xD dd [(nf,u)])):=qj.upd gdd
   have ru':∀{G2:Hp},Rep κ G2 d u:=λ{G2}=>by
    cases d with
    |int i=>simp only[Rep] at ru ⊢;exact ru
    |non=>simp only[Rep] at ru ⊢;exact ru
    |_=>cases hf
   refine h (some dd) (upd G' dd (xD dd [(nf,u)])) _ (λa o q=>qj.upd hdd a o (h1 a o q)) (λa o q=>g1 a o (h2 a o q)) (λa o q=>?_) (λa o q=>?_) (.inr ⟨dd,[u],rfl,qc,.cons ru' .nil⟩)
   ·by_cases hb:a=dd
    ·subst hb;rw[qc] at q ⊢;exact q
    ·rw[qb hb] at q ⊢;exact h3 a o q
   ·by_cases hb:a=dd
    ·subst hb;exact .inr (qj.none h1 hdd)
    ·rw[qb hb] at q;exact h4 a o q
  ·subst hb;exact h od G' H' h1 h2 h3 h4 h5
theorem qdk(gs:Gs κ K ε k X Γ)(hz:Γ.z=false){body:List Stmt}{hs:List ExceptHandler}{q:(Str×List Expr)×Str×Str×Str}{x:S}{p:Pos}(e:trN body hs=some q)(h:cTn m Γ q=some x):PS X (.Try body hs [] [] p) (tS κ K Gv Hv ε (iS Γ.k w x)):=by
 obtain⟨fp,qp,rp,cp,hpos,np,cpos,rpos,kp,np2,jj,e1,e2⟩:=qeT e;obtain⟨⟨f,es⟩,c,n,v⟩:=q;obtain⟨hc,h⟩:=qg h;obtain⟨a,i,h1,h2,rfl⟩:=qi h;simp only[Bool.and_eq_true,decide_eq_true_eq] at hc;obtain⟨⟨⟨⟨⟨⟨⟨⟨⟨⟨c1,c2⟩,c3⟩,c4⟩,c5⟩,c6⟩,c7⟩,c8⟩,c9⟩,d1⟩,d2⟩:=hc;subst e1 e2;obtain⟨f1,f2,f3⟩:=ql c1;obtain⟨g1,g2,g3⟩:=ql c5;obtain⟨n1,n2,n3⟩:=ql c8;obtain⟨v1,v2,v3⟩:=ql d1;obtain⟨fa,fd,ps,F,hm,hk,hb⟩:=gs.fns f c3;have A0:All κ K E0 k X.nox Γ m:=all m E0 X.nox Γ (qfu gs.toGd);have PX:=qdi (Gv:=Gv) (Hv:=Hv) gs.toGd A0 es a h1;have ns:es.any qD=false:=ZU h1
 have hNi:X.N[i]?=some v:=by
  have:=gs.hN
  rw[this];exact yr h2
 cases es with
 |nil=>cases c4
 |cons e0 es0=>
 simp only[List.any_cons,Bool.or_eq_false_iff] at ns;intro pins s σ H D I hq;obtain⟨ρ,G,er,hw⟩:=hq;obtain⟨d,hd,hw⟩:=Wx.of (Wx.th (x:=R.of (qhk (slR ρ i))) hw);obtain⟨⟨hx0,hf⟩,hw⟩:=Wx.iff hw;have hx0:Γ.x=true:=hx0;have hk0:=gs.xk hx0
 have hd:slR ρ i=.ok (.val d):=by
  cases q:slR ρ i with
  |ok r=>cases r with
   | val d'=>rw[q] at hd;cases hd;rfl
   |_=>rw[q] at hd;cases hd
  |_=>rw[q] at hd;cases hd
 obtain⟨u,hu,ru⟩:=er.sl i _ (qdj hd)
 obtain⟨j,nf,hr,hj⟩:∃j nf,Room (j+1) X.A/\∀C,∀l,Wx (XP κ Gv Hv ε) (jh Γ.x Γ.cs C l c n d) (FlP κ K Gv Hv G D)->∀b,Γ.cs.xs C c=some b->b=true->k=j+1/\Γ.cs.xn n=some [nf]:=by
  by_cases hx:Γ.x=true/\Γ.cs.xh n=true/\∃nf,Γ.cs.xn n=some [nf]
  ·obtain⟨x1,x2,nf,x3⟩:=hx;obtain⟨fI,fd',j,ej,_⟩:=gs.xn2 x1 n nf x2 x3;exact⟨j,nf,by rw[<-ej];exact gs.room,λ_ _ _ _ _ _=>⟨ej,x3⟩⟩
  ·refine⟨k - 1,"",?_,λC l w b e q=>absurd ?_ hx⟩
   ·rw[show k - 1+1=k by omega];exact gs.room
   ·subst q;unfold jh at w;rw[e] at w;have w:Wx (XP κ Gv Hv ε) (match Γ.cs.xn n with |some [nf]=>if (Γ.x&&Γ.cs.xh n&&yK d)=true then R.exc (Γ.cs.xa n) [(nf,d)] else .no |_=>.no) _:=w
    match q2:Γ.cs.xn n with
    |none=>rw[q2] at w;exact False.elim w
    |some []=>rw[q2] at w;exact False.elim w
    | some (_::_::_)=>rw[q2] at w;exact False.elim w
    |some [nf]=>rw[q2] at w;obtain⟨hc,_⟩:=Wx.iff w;simp only[Bool.and_eq_true] at hc;exact⟨hc.1.1,hc.1.2,nf,rfl⟩
 refine(qaH (nf:=nf) (k:=j) (JX (p:=fp) (pos:=qp) F gs.room (gs.glo f c2) hm hk hb .nil PX f1 (qh ns.1) (qJ ns.2)) gs.stk gs.ex hr (gs.glo c c6) (gs.ow hz) (gs.rs hz) (gs.pt hz) (gs.glo n c9) hNi (gs.vis v d2) g1 n1 v1 v2) pins s σ H D I ⟨u,hu,Zv.of hf ru,ρ,G,er,?_⟩
 cases ea:iXa Γ.k a ρ with
 |no=>rw[ea] at hw;exact False.elim hw
 |exc C l=>rw[ea] at hw;exact J5 gs c7 ru er.g0 hw hf (hj C l hw)
 |ok y=>
  rw[ea] at hw;intro vs G1 H1 q1 r1;show spF κ K Γ.cl f (vs++[]) H1 _ _;rw[List.append_nil];refine⟨G1,y.1,q1.er.sub,r1,?_⟩;have hw:Wx (XP κ Gv Hv ε) (match (Γ.cl f y.1).th qcT with |.exc C l=>jh Γ.x Γ.cs C l c n d |r=>r) (FlP κ K Gv Hv G D):=hw
  cases ef:Γ.cl f y.1 with
  |no=>rw[ef] at hw;exact False.elim hw
  |exc C l=>rw[ef] at hw;exact XP.call q1 C l (J5 gs c7 ru er.g0 hw hf (hj C l hw))
  |ok r=>
   rw[ef] at hw;intro v' G2 H2 hs' gs' sub new rr;obtain⟨z1,z2⟩:=ReR.rv q1 hs' gs' sub new rr
   cases r with
   |val d=>exact hw v' G2 H2 z1.er.base z1.er.g0 z1.er.sub z1.er.fresh z2
   |tmp l=>obtain⟨a',xs,rfl,h1,h2,h3,h4,h5,h6⟩:=z2;exact hw _ G2 H2 z1.er.base z1.er.g0 z1.er.sub z1.er.fresh ⟨a',xs,rfl,h1,h3,h4,h6⟩
   |cell l=>exact False.elim hw
   |scr l=>exact False.elim hw
   |obj oa c ns os=>exact False.elim hw
end
end DE
namespace DE
open PySem PySem.Spec PyProof.Rows L2
section
variable{κ:KC}{ε:XK}{K:Frag}{Gv Hv:Hp}{k m w:Nat}{X:Cx}{Γ:Ct}
theorem FlP.back{G G1:Hp}{D:Ends}{f:Fl}(h:FlP κ K Gv Hv G D f)(g:qj G G1):FlP κ K Gv Hv G1 D f:=by
 cases f with
 |next ρ=>exactλσ' G' H' er g'=>h σ' G' H' er λb o e=>g' b o (g b o e)
 |ret r=>exact h
theorem qa0{e:Expr}(h:ZH e=true)(es:List Expr)(j:Nat)(p:Pos)(env:PySem.Env):swappedStores [.Tuple es j p] e env=pure none:=by cases e<;>first | rfl | (simp[ZH] at h)
theorem ZV(gd:Gd κ K ε k X Γ)(A:All κ K ε k X Γ m)(es:List Expr)(j:Nat)(tp:Pos)(e:Expr)(p:Pos){x:S}(h:cS (m+1) Γ (.Assign [.Tuple es j tp] e p)=some x):PS X (.Assign [.Tuple es j tp] e p) (tS κ K Gv Hv ε (iS Γ.k w x)):=by obtain⟨hc,h⟩:=qg h;obtain⟨t,a',h1,h2,rfl⟩:=qi h;rw[Bool.and_eq_true] at hc;refine PS.imp (qem (A.e Gv Hv _ _ h2) (ZQ (Ξ:=XP κ Gv Hv ε) gd (.Tuple es j tp) h1) (show swapsWithSole [.Tuple es j tp] e p.line X.env=pure false from jk hc.1 (some (.Tuple es j tp)) p.line X.env) (qa0 hc.2 es j tp _) rfl) λD σ H hq1=>?_;obtain⟨ρ,G,er,h⟩:=hq1;refine⟨ρ,G,er,Wx.mono (Wx.th (x:=zR a' (iR Γ.k a') ρ) h) λx h v G1 H1 p1 r1=>?_⟩;exact⟨Gv,Hv,x.2,G1,x.1,p1.er,r1,Wx.mono (Wx.th h) λρ1 h σ1 er1=>h σ1 G1 H1 er1 p1.gs⟩
theorem qhx(A:All κ K ε k X Γ m)(S:AllS κ K ε X Γ m w)(c:Expr)(a b:List Stmt)(p:Pos){x:DE.S}(h:cS (m+1) Γ (.If c a b p)=some x):PS X (.If c a b p) (tS κ K Gv Hv ε (iS Γ.k w x)):=by
 obtain⟨c',q,h1,h2,rfl⟩:=qi h;obtain⟨a',b',h3,h4,rfl⟩:=qi h2;refine PS.imp (qan (A.t Gv Hv _ _ h1) (S.ss Gv Hv _ _ h3) (S.ss Gv Hv _ _ h4)) λD σ H hq1=>?_;obtain⟨ρ,G,er,h⟩:=hq1;refine⟨ρ,G,er,Wx.mono (Wx.th (x:=iT Γ.k c' ρ) h) λt h G1 H1 p1=>?_⟩;obtain⟨d,ρ1⟩:=t
 cases d with
 |true=>rw[if_pos rfl];exact⟨ρ1,G1,p1.er,Wx.mono h λf hf=>hf.back p1.gs⟩
 |false=>rw[if_neg (λz=>by cases z)];exact⟨ρ1,G1,p1.er,Wx.mono h λf hf=>hf.back p1.gs⟩
theorem qfv(gs:Gs κ K ε k X Γ)(A:All κ K ε k X Γ m)(S:AllS κ K ε X Γ m w)(tg it:Expr)(body:List Stmt)(p:Pos){x:DE.S}(h:cS (m+1) Γ (.For tg it body [] p)=some x):PS X (.For tg it body [] p) (tS κ K Gv Hv ε (iS Γ.k w x)):=by
 obtain⟨hf,h⟩:=qg h;rw[Bool.and_eq_true] at hf;obtain⟨hz,hf⟩:=hf;have hz:Γ.z=false:=by simpa using hz
 obtain⟨q,b',h1,h2,rfl⟩:=qi h;obtain⟨t,src,h3,h4,rfl⟩:=qi h1;refine PS.imp (qbq (gs.own hz) gs.calm (A.i Gv Hv _ _ _ h4) (ZQ (Ξ:=XP κ Gv Hv ε) gs.toGd tg h3) (S.ss Gv Hv _ _ h2) (Jo hf X.env)) λD σ H hq1=>?_;obtain⟨ρ,G,er,h⟩:=hq1;refine⟨ρ,G,er,Wx.mono (Wx.th (x:=iI Γ.k src ρ) h) λx h J G1 H1 p1 it1=>?_⟩
 refine⟨λi mm σ' H'=>mm=x.1.length - i/\i<=x.1.length/\∃ρb Gb,ER κ K Gv Hv Gb H' ρb σ'/\qj G1 Gb/\Wx (XP κ Gv Hv ε) (qgM (λd ρ1=>(t.go d ρ1).th λρ2=>iSs Γ.k w b' ρ2) (x.1.drop i) ρb) (FlP κ K Gv Hv G D),
  ⟨x.1.length,by simp,Nat.zero_le _,x.2,G1,p1.er,λ_ _ e=>e,by rw[List.drop_zero];exact h⟩,?_⟩
 rintro i mm σ' H' ⟨rfl,hi,ρb,Gb,erb,g1,hw⟩;have it2:=it1 i Gb H' g1 erb.base erb.sub
 by_cases hlt:i < x.1.length
 ·obtain⟨go,yl⟩:=it2.1 x.1[i] (List.getElem?_eq_getElem hlt);refine .inr ⟨go,_,λσ2 H2 w=>⟨x.1.length - (i+1),by omega,w⟩,λv H2 hy=>?_⟩;obtain⟨G',hs,gss,sub,new,rep⟩:=yl v H2 hy;have p2:=Po.more erb hs gss sub new;rw[List.drop_eq_getElem_cons hlt] at hw;refine⟨Gv,Hv,ρb,G',x.1[i],p2.er,rep,Wx.mono (Wx.th (Wx.th hw)) λρ2 hw σ2 er2=>⟨ρ2,G',er2,Wx.mono hw λf hf=>?_⟩⟩
  cases f with
  |next ρ3=>exactλσ3 G3 H3 er3 g3=>⟨rfl,hlt,ρ3,G3,er3,λb o e=>g3 b o (gss b o (g1 b o e)),hf⟩
  |ret r=>exact hf
 ·have e:i=x.1.length:=by omega
  subst e;rw[List.drop_length] at hw;exact .inl ⟨it2.2 rfl,hw σ' Gb H' erb λb o e=>g1 b o (p1.gs b o e)⟩
theorem qdl(gd:Gd κ K ε k X Γ)(A:All κ K ε k X Γ m)(e:Expr)(p:Pos){x:S}(h:cS (m+1) Γ (.Expr e p)=some x):PS X (.Expr e p) (tS κ K Gv Hv ε (iS Γ.k w x)):=by
 have gen:oif (jx e) ((cE m Γ e).map .expr)=some x->PS X (.Expr e p) (tS κ K Gv Hv ε (iS Γ.k w x)):=λh=>by obtain⟨hn,h⟩:=qg h;obtain⟨a',h1,rfl⟩:=map_some h;refine PS.imp (jv (A.r Gv Hv _ _ h1) (jk hn _ _ _)) λD σ H hq1=>?_;obtain⟨ρ,G,er,h⟩:=hq1;exact⟨ρ,G,er,Wx.mono (Wx.th (x:=iR Γ.k a' ρ) h) λx h v G1 H1 p1 r1=>h σ G1 H1 p1.er p1.gs⟩
 cases e with
 |Call fn es kws cp=>
  cases fn with
  |Attribute o meth ap=>
   cases o with
   |Name y yp=>
    cases kws with
    |cons kw kws=>exact match es,h,gen with |[],h,gen=>gen h |[_],h,gen=>gen h | _::_::_,h,gen=>gen h
    |nil=>
     match es,h,gen with
     |[a],h,gen=>
      obtain⟨hc,h⟩:=qg h;rw[Bool.and_eq_true] at hc;have hs:qD a=false:=by simpa using hc.2
      by_cases h1:meth = "append"
      ·subst h1;rw[if_pos rfl] at h;obtain⟨i,a',h2,h3,rfl⟩:=qi h;exact ZS gd A y a yp ap cp p hc.1 hs h2 h3
      rw[if_neg h1] at h;exact gen h
     |[],h,gen=>cases h
     | _::_::_,h,gen=>exact gen h
   |_=>exact gen h
  |_=>exact gen h
 |_=>exact gen h
theorem qjx(gs:Gs κ K ε k X Γ)(A:All κ K ε k X Γ m)(S:AllS κ K ε X Γ m w)(Sz:∀ε' X',Gs κ K ε' k X' { Γ with z:=true }->AllS κ K ε' X' { Γ with z:=true } m w)(st:Stmt)(x:DE.S)(h:cS (m+1) Γ st=some x):PS X st (tS κ K Gv Hv ε (iS Γ.k w x)):=by
 cases st with
 |Pass p=>cases h;exact PS.imp qb8 λD σ H ⟨ρ,G,er,h⟩=>h σ G H er λ_ _ e=>e
 |Raise ex ca p=>
  have stuck:∀{y:DE.S},y=.stuck->PS X (.Raise ex ca p) (tS κ K Gv Hv ε (iS Γ.k w y)):=λ{y} e=>by subst e;refineλpins s σ H D I hz1=>?_;obtain⟨ρ,G,er,h⟩:=hz1;exact False.elim h
  replace h:=(Option.some.inj h).symm
  cases e:ex.bind cN with
  |none=>rw[e] at h;exact stuck h
  |some t=>
   rw[e] at h
   cases ca with
   |some _=>exact stuck h
   |none=>
    dsimp only at h
    by_cases hc:(!Γ.z&&xnB Γ t.1)=true
    case neg=>rw[if_neg hc] at h;exact stuck h
    rw[if_pos hc] at h;simp only[Bool.and_eq_true,Bool.not_eq_true'] at hc
    cases e2:cEs m Γ (t.2.1::t.2.2) with
    |none=>rw[e2] at h;exact stuck h
    |some l=>rw[e2] at h;subst h;obtain⟨y,rfl,e⟩:=bind_some e;obtain⟨np,cp,rfl⟩:=qhn e;exact qaZ gs A hc.1 t.1 t.2.1 t.2.2 np cp p hc.2 e2
 |Expr e p=>exact qdl gs.toGd A e p h
 |Return o p=>
  cases o with
  |some e=>obtain⟨y,h1,rfl⟩:=map_some h;exact qfm gs.toGd A e p h1
  |none=>cases h;exact PS.imp qb9 λD σ H ⟨ρ,G,er,h⟩=>h .non G H er.base er.g0 er.sub er.fresh (by simp only[ReR,Rep])
 |Assign tgs e p=>
  match tgs,h with
  |[],h=>cases h
  | _::_::_,h=>cases h
  |[tg],h=>
   cases tg with
   |Name x xp=>obtain⟨i,z,h1,h2,rfl⟩:=qi h;exact qfn gs A x e xp p h1 h2
   |Tuple es j tp=>exact ZV gs.toGd A es j tp e p h
   |Subscript o i sp=>cases h
   |_=>cases h
 |If c a b p=>exact qhx A S c a b p h
 |Try body hs orelse fin p=>
  cases hs with
  |nil=>cases h
  |cons h0 hs=>
   cases orelse with
   |cons _ _=>cases h
   |nil=>
    cases fin with
    |cons _ _=>cases h
    |nil=>
     obtain⟨hz,h⟩:=qg h;have h:(match trN body (h0::hs) with |some q=>_ |none=>_)=_:=h
     cases e':trN body (h0::hs) with
     |some q=>rw[e'] at h;exact qdk gs (by simpa using hz) e' h
     |none=>
     rw[e'] at h;obtain⟨b,h1,rfl⟩:=map_some h;exact qft gs Sz body h0 hs p h1
 |For tg it body orelse p=>
  cases orelse with
  |nil=>exact qfv gs A S tg it body p h
  |cons s l=>cases h
 |While c body orelse p=>cases h
 |_=>cases h
theorem qhy(S:AllS κ K ε X Γ m w):∀l x,cSs (m+1) Γ l=some x->PSs X l (tS κ K Gv Hv ε (iSs Γ.k w x))
 |[],_,h=>by cases h;exact PSs.imp j9 λD σ H ⟨ρ,G,er,h⟩=>h σ G H er λ_ _ e=>e
 | st::l,_,h=>by
  obtain⟨s',l',h1,h2,rfl⟩:=qi h;refine PSs.imp (qo (S.s Gv Hv _ _ h1) (S.ss Gv Hv _ _ h2)) λD σ H hq1=>?_;obtain⟨ρ,G,er,h⟩:=hq1;refine⟨ρ,G,er,Wx.mono (Wx.th (x:=iS Γ.k w s' ρ) h) λf hf=>?_⟩
  cases f with
  |next ρ1=>exactλσ1 G1 H1 er1 g1=>⟨ρ1,G1,er1,Wx.mono hf λf hf=>hf.back g1⟩
  |ret r=>exact hf
theorem qfw:∀(m:Nat) (ε:XK) (X:Cx) (Γ:Ct),Gs κ K ε k X Γ->AllS κ K ε X Γ m w
 |0,_,_,_,_=>⟨(λ_ _ _ _ h=>nomatch h),(λ_ _ _ _ h=>nomatch h)⟩
 | m+1,ε,X,Γ,gs=>
  have S:=qfw m ε X Γ gs
  ⟨λGv Hv=>qjx gs (all m _ X Γ gs.toGd) S λε' X' g=>qfw m ε' X' _ g,λGv Hv=>qhy S⟩
end
end DE
namespace DE
open PySem PySem.Spec PyProof.Rows L2
def zz(st:Stmt):List Str:=(qP st).args.map (·.arg)
noncomputable def fnN(st:Stmt):List Str:=zz st++(qe st).names.filterMap λx=>if ((x.2 == .local||x.2 == .cell)&&!(zz st).contains x.1)=true then some x.1 else none
noncomputable def qQ(st:Stmt):Bool:=(qe st).kind == .function&&!(qe st).isCoroutine&&!(qe st).isGenerator&&decide (fnN st).Nodup&&(zz st).all (qai (qe st))&&(qe st).names.all λy=>y.2 != .free
def toSl:Ar->Sl
 |.val d=>.val d
 |.bor l=>.bor l
 |.scr l=>.scr l
 |.obj a c ns l=>.obj a c ns l
def qX(N:List Str)(args:List Ar):Env:=args.map toSl++List.replicate (N.length - args.length) .no
structure Pg where
 defs:List (Str×Stmt)
 gl:Str->Option D
 m:Nat
 w:Nat
 meths:List (Str×Stmt):=[]
 cs:Cs:=Cs.non
 nw:Nat->Str->List Ar->R Rv:=λ_ _ _=>.no
 xx:Xs:={}
noncomputable def Pg.ct(pg:Pg)(k:Nat)(cl:Str->List Ar->R Rv)(st:Stmt):Ct:=⟨fnN st,qe st,pg.defs.map (·.1),pg.gl,cl,pg.cs,pg.nw k,false,decide (2<=k),decide (12<=k)⟩
def flR:Fl->R Rv
 |.next _=>.ok (.val .non)
 |.ret r=>.ok r
noncomputable def evF(pg:Pg)(k:Nat)(cl:Str->List Ar->R Rv)(st:Stmt)(args:List Ar):R Rv:=
 if (qQ st&&args.length == (zz st).length)=true then (match cSs pg.m (pg.ct k cl st) (qk st) with
  |some b=>(iSs (pg.ct k cl st).k pg.w b (qX (fnN st) args)).th flR
  |none=>.no) else .no
noncomputable def clK(pg:Pg):Nat->Str->List Ar->R Rv
 |0,_,_=>.no
 | k+1,f,args=>match (pg.defs++pg.meths).lookup f with
  |some st=>evF pg k (clK pg k) st args
  |none=>.no
noncomputable def FnF(K:Frag)(mg:PR)(f:Str)(st:Stmt):Prop:=∃fa fd,Fun K f f st fa fd/\mg f=some (.ref fa)/\qx K fd (zz st) []
inductive AllF(K:Frag)(mg:PR):List (Str×Stmt)->Prop where
 | nil:AllF K mg []
 | cons {f:Str} {st:Stmt} {l:List (Str×Stmt)} (h:FnF K mg f st) (t:AllF K mg l):AllF K mg ((f,st)::l)
theorem AllF.mem{K:Frag}{mg:PR}:∀{l:List (Str×Stmt)} {f:Str} {st:Stmt},AllF K mg l->(f,st)∈l->FnF K mg f st
 |_,_,_,.nil,h=>by cases h
 |_,_,_,.cons h t,m=>by
  cases m with
  |head=>exact h
  |tail _ m=>exact t.mem m
noncomputable def qak(P:Program)(wd:World)(κ:KC)(K:Frag)(mg:PR)(base:Heap)(pg:Pg)(k:Nat):Prop:=
 (∀(f:Str) (st:Stmt),pg.defs.lookup f=some st->∃fa fd,FnOk P wd K mg base (CX1 P wd) k fa fd (zz st) (spF κ K (clK pg k) f)/\mg f=some (.ref fa)/\PySem.W.keepIn K (.ref fa)=true/\qx K fd (zz st) [])/\
 (∀(f:Str) (st:Stmt),pg.meths.lookup f=some st->pg.defs.lookup f=none->∀nm fa fd,Fun K nm f st fa fd->FnOk P wd K mg base (CX1 P wd) k fa fd (zz st) (spF κ K (clK pg k) f))
structure PgOk(κ:KC)(K:Frag)(mg:PR)(pg:Pg):Prop where
 fn:AllF K mg pg.defs
 blt:∀f∈ZJ,mg f=none
 gl:∀x d,pg.gl x=some d->∃v u,mg x=some u/\qC v u/\∀G,Rep κ G d v
 cls:∀c C,κ c=some C->Cls K C
 flds:∀c x C,pg.cs.fld c x=true->κ c=some C->zu K C x
 mts:∀c x f,pg.cs.mt c x=some f->∃C fa fd st nm,κ c=some C/\Meth K C x fa/\pg.meths.lookup f=some st/\pg.defs.lookup f=none/\Fun K nm f st fa fd/\qx K fd (zz st) []
 mks:∀P wd base k,(∀j,j < k->qak P wd κ K mg base pg j)->∀f,pg.cs.tab.contains f=true->(¬ 12<=k/\∀args,pg.nw k f args=.no)\/∃C fa fd ps sp,Mk K C fa/\FnOk P wd K mg base (CX1 P wd) (k - 1) fa fd ps sp/\mg f=some (.ref C)/\qx K fd ps []/\0 < k/\
  ∀vs H Q E,spF κ K (pg.nw k) f vs H Q E->∀x dx,H x=none->H dx=none->dx≠x->sp (.ref x::vs) (upd (upd H dx (.own x)) x (.ins C dx [])) (λv H2=>v=.non/\Q (.ref x) H2) E
 xsubs:∀C t b,pg.cs.xs C t=some b->ExcIs K C/\((∃T,mg t=some (.ref T)/\PySem.W.kitOne K (.ref C) (.ref T)=some b)\/(mg t=none/\t = "ValueError"/\PySem.W.kitOne K (.ref C) (.type "ValueError")=some b)):=by exactλ_ _ _ h=>by cases h
 xgs:∀C x,pg.cs.xg C x=true->XcG K C x:=by exactλ_ _ h=>by cases h
 xn0:∀n,pg.cs.xn n=some []->mg n=some (.ref (pg.cs.xa n))/\PySem.W.excIn K (pg.cs.xa n) bV "ValueError.__new__" = true:=by exactλ_ h=>by cases h
 xn1:∀n ns,pg.cs.xn n=some ns->ns≠[]->∀P wd base j,∃fI fd,mg n=some (.ref (pg.cs.xa n))/\XcC K (pg.cs.xa n) fI/\FnOk P wd K mg base CX0 (j+1) fI fd ("self" :: ns) (qdg (pg.cs.xa n) ns)/\qx K fd ("self" :: ns) []:=by exactλ_ _ h=>by cases h
 xn2:∀n nf,pg.cs.xh n=true->pg.cs.xn n=some [nf]->∀P wd base j,∃fI fd,mg n=some (.ref (pg.cs.xa n))/\XcC K (pg.cs.xa n) fI/\FnOkH P wd K mg base CX0 (j+1) fI fd ["self",nf] (qcN (pg.cs.xa n) nf)/\qx K fd ["self",nf] []:=by exactλ_ _ h=>by cases h
 xhs:∀C (t:Str) b,t≠("ValueError" : Str)->pg.cs.xs C t=some b->∃D,mg t=some (.ref D)/\PySem.W.exmOne K (.ref C) (.ref D)=some b:=by exactλ_ _ _ _ h=>by cases h
 subs:∀c t b,pg.cs.sub c t=some b->∃C T,κ c=some C/\(∀H p dx fs,H p=some (HO.ins C dx fs)->TyOf K H (.ref p) (.ref C))/\mg t=some (.ref T)/\PySem.W.kitOne K (.ref C) (.ref T)=some b
section
variable{P:Program}{wd:World}{κ:KC}{K:Frag}{mg:PR}{base:Heap}{pg:Pg}
theorem Yu.len{G H:Hp}:∀{args:List Ar} {vs:List V},Yu κ K G H args vs->args.length=vs.length
 |[],vs,h=>by simp only[Yu] at h;subst h;rfl
 | a::l,vs,h=>by simp only[Yu] at h;obtain⟨v,r,rfl,_,h2⟩:=h;simp[Yu.len h2]
theorem Yu.at{G H:Hp}:∀{args:List Ar} {vs:List V} {i:Nat} {a:Ar},Yu κ K G H args vs->args[i]?=some a->∃v,vs[i]?=some v/\ArR κ K G H a v
 |[],vs,i,a,h,e=>by simp at e
 | b::l,vs,0,a,h,e=>by simp only[Yu] at h;obtain⟨v,r,rfl,h1,h2⟩:=h;simp at e;subst e;exact⟨v,rfl,h1⟩
 | b::l,vs,i+1,a,h,e=>by simp only[Yu] at h;obtain⟨v,r,rfl,h1,h2⟩:=h;obtain⟨v',e1,e2⟩:=Yu.at (i:=i) h2 (by simpa using e);exact⟨v',by simpa using e1,e2⟩
theorem zO{G H:Hp}{args:List Ar}{vs:List V}{N:List Str}(sub:qj G H)(h:Yu κ K G H args vs):ER κ K G H G H (qX N args) (L2.qE N vs):=by
 have hl:=h.len;refine⟨by simp[qX,L2.qE,hl],sub,λ_ _ e=>e,λ_ _ e=>e,λa o e=>.inl ⟨o,e⟩,λi s e=>?_,λi j a l n e1=>?_⟩
 ·unfold qX at e;unfold L2.qE
  by_cases hi:i < args.length
  ·rw[List.getElem?_append_left (by simpa using hi),List.getElem?_map] at e;obtain⟨b,e1,rfl⟩:=Option.map_eq_some_iff.mp e;obtain⟨v,e2,e3⟩:=h.at e1;rw[List.getElem?_append_left (by rw[List.length_map,<-hl];exact hi),List.getElem?_map,e2]
   cases b with
   |val d=>exact⟨v,rfl,e3⟩
   |bor l=>obtain⟨a,xs,rfl,h1,h2⟩:=e3;exact⟨a,xs,rfl,h1,h2⟩
   |scr l=>obtain⟨a,xs,rfl,h1,h2⟩:=e3;exact⟨a,xs,rfl,h1,h2⟩
   |obj oa c ns os=>exact⟨v,rfl,e3⟩
  ·rw[List.getElem?_append_right (by simpa using hi)] at e
   have:s=.no:=by
    have:=List.mem_of_getElem? e
    exact List.eq_of_mem_replicate this
   subst this;trivial
 ·exfalso;unfold qX at e1
  by_cases hi:i < args.length
  ·rw[List.getElem?_append_left (by simpa using hi),List.getElem?_map] at e1;obtain⟨b,_,z⟩:=Option.map_eq_some_iff.mp e1
   cases b<;>cases z
  ·rw[List.getElem?_append_right (by simpa using hi)] at e1
   have:=List.eq_of_mem_replicate (List.mem_of_getElem? e1)
   cases this
theorem qt{st:Stmt}(h:qQ st=true):FnScope (fnN st) (zz st) (qe st):=by unfold qQ at h;simp only[Bool.and_eq_true,Bool.not_eq_true',List.all_eq_true] at h;obtain⟨⟨⟨⟨⟨h1,h2⟩,h3⟩,h4⟩,h5⟩,h6⟩:=h;refine⟨by simpa using h1,h2,h3,of_decide_eq_true h4,by simp[fnN],λx hx=>ZK (h5 x hx),λy hy=>by simpa using h6 y hy⟩
theorem jZ{k:Nat}{f:Str}{st:Stmt}{args:List Ar}(h:(pg.defs++pg.meths).lookup f=some st):clK pg (k+1) f args=evF pg k (clK pg k) st args:=by show(match (pg.defs++pg.meths).lookup f with |some st=>_ |none=>R.no)=_;rw[h]
theorem qbM{f:Str}{st:Stmt}:∀{l m:List (Str×Stmt)},l.lookup f=some st->(l++m).lookup f=some st
 |[],m,h=>by cases h
 | (g,s)::l,m,h=>by
  rw[List.lookup_cons] at h;rw[List.cons_append,List.lookup_cons]
  cases e:(f == g) with
  |true=>rw[e] at h;exact h
  |false=>rw[e] at h;exact qbM h
theorem qbN{f:Str}:∀{l m:List (Str×Stmt)},l.lookup f=none->(l++m).lookup f=m.lookup f
 |[],m,h=>rfl
 | (g,s)::l,m,h=>by
  rw[List.lookup_cons] at h;rw[List.cons_append,List.lookup_cons]
  cases e:(f == g) with
  |true=>rw[e] at h;cases h
  |false=>rw[e] at h;exact qbN h
theorem J6{f:Str}:∀{l:List (Str×Stmt)},(l.map (·.1)).contains f=true->∃st,l.lookup f=some st
 |[],h=>by simp at h
 | (g,st)::l,h=>by
  by_cases e:f=g
  ·subst e;exact⟨st,by simp[List.lookup_cons]⟩
  ·have hb:(f == g)=false:=by simpa using e
   obtain⟨s,hs⟩:=J6 (l:=l) (f:=f) (by simp only[List.map_cons,List.contains_cons,hb,Bool.false_or] at h;exact h)
   exact⟨s,by rw[List.lookup_cons,hb];exact hs⟩
theorem QN(ok:PgOk κ K mg pg){k:Nat}(ih:∀j,j<=k->qak P wd κ K mg base pg j){f:Str}{st:Stmt}{fa:Addr}{cdv:Value}{A:Around}{outer:List PySem.Env}{s:Shared}{H:Hp}{E:XK}(S:FnScope (fnN st) (zz st) (qe st))(hr:Room k (A.deeper (envOfC f (qe st) s.heap.objs.size fa cdv))) :
  Gs κ K E k (yV (CX1 P wd) P wd K mg base (fnN st) f (qe st) fa cdv A outer s H E) (pg.ct k (clK pg k) st):=
 {ps:=qcB λ_ _ _ q=>q
  hN:=rfl
  vis:=λx h=>qbF h
  loc:=λx h=>⟨ZK h,.inl rfl⟩
  glo:=λx h=>by have h:((qe st).names.lookup x == some NameKind.globalImplicit)=true:=h;exact(by simpa using h:(qe st).names.lookup x=some .globalImplicit)
  cf:=λx h=>h
  nd:=S.nd
  calm:=rfl
  hK:=rfl
  room:=hr
  fns:=λg hg=>by obtain⟨st',hl⟩:=J6 (l:=pg.defs) hg;obtain⟨ga,gd,G1,G2,G3,G4⟩:=(ih k (Nat.le_refl k)).1 g st' hl;exact⟨ga,gd,zz st',G1,G2,G3,G4⟩
  blt:=ok.blt
  gl:=ok.gl
  cls:=ok.cls
  flds:=ok.flds
  mts:=λc x f h=>by obtain⟨C,fa,fd,st',nm,m1,m2,m3,m4,m5,m6⟩:=ok.mts c x f h;exact⟨C,fa,fd,_,m1,m2,(ih k (Nat.le_refl k)).2 f st' m3 m4 nm fa fd m5,m6⟩
  mks:=λf hf=>(ok.mks P wd base k (λj hj=>ih j (Nat.le_of_lt hj)) f hf).imp (λz=>⟨decide_eq_false z.1,z.2⟩) id
  xsubs:=ok.xsubs
  xgs:=ok.xgs
  subs:=ok.subs
  own:=λ_=>PassesOwn.leaving
  rs:=λ_=>ZA
  ow:=λ_ _=>PassesOwnAt.leaving
  pt:=λ_=>ZD
  ex:=rfl
  stk:=⟨rfl,rfl⟩
  xn0:=ok.xn0
  xn1:=λhk n ns e1 e2=>by have hk:2<=k:=of_decide_eq_true hk;obtain⟨j,rfl⟩:∃j,k=j+2:=⟨k - 2,by omega⟩;obtain⟨fI,fd,q1,q2,q3,q4⟩:=ok.xn1 n ns e1 e2 P wd base j;exact⟨fI,fd,j+1,rfl,q1,q2,q3,q4⟩
  xn2:=λhk n nf e1 e2=>by have hk:2<=k:=of_decide_eq_true hk;obtain⟨j,rfl⟩:∃j,k=j+2:=⟨k - 2,by omega⟩;obtain⟨fI,fd,q1,q2,q3,q4⟩:=ok.xn2 n nf e1 e2 P wd base j;exact⟨fI,fd,j+1,rfl,q1,q2,q3,q4⟩
  xk:=λhk=>by have hk:2<=k:=of_decide_eq_true hk;omega
  xhs:=ok.xhs
  sceq:=rfl
  fnk:=S.kind }
theorem Qi{k:Nat}{fa:Addr}{fd:FuncData}{ps:List Str}{sp sp':Sp}(F:FnOk P wd K mg base (CX1 P wd) k fa fd ps sp)(h:∀vs H Q E,sp' vs H Q E->sp vs H Q E0):FnOk P wd K mg base CX0 k fa fd ps sp':=
 ⟨λvs H Q E q=>F.len vs H Q E0 (h vs H Q E q),λA outer s H args us vs Q E hr he hb hv hs=>codeAny_mono (F.run A outer s H args us vs Q E0 hr he hb hv (h vs H Q E hs)) λr s' q=>by
  cases r with
  |error e=>obtain⟨x,T,C,od,H',_,_,_,_,_,_,_,_,_,_,z⟩:=(show CX1 P wd outer H s E0 e s' from q);exact z.elim
  |ok fl=>cases fl<;>exact q⟩
theorem ZW{k:Nat}{st:Stmt}{args:List Ar}{cl:Str->List Ar->R Rv}{Ξ:XW}{g:Rv->Prop}(z:Wx Ξ (evF pg k cl st args) g):(qQ st=true/\args.length=(zz st).length)/\
  Wx Ξ (match cSs pg.m (pg.ct k cl st) (qk st) with |some b=>(iSs (pg.ct k cl st).k pg.w b (qX (fnN st) args)).th flR |none=>.no) g:=by
 unfold evF at z;obtain⟨hc,z⟩:=Wx.iff z;simp only[Bool.and_eq_true,beq_iff_eq] at hc;exact⟨hc,z⟩
theorem ZX(ok:PgOk κ K mg pg){k:Nat}(ih:∀j,j<=k->qak P wd κ K mg base pg j){nm f:Str}{st:Stmt}{fa:Addr}{fd:FuncData}(F:Fun K nm f st fa fd)(h:(pg.defs++pg.meths).lookup f=some st):FnOk P wd K mg base (CX1 P wd) (k+1) fa fd (zz st) (spF κ K (clK pg (k+1)) f):=by
 by_cases hc:qQ st=true
 case neg=>
  have no:∀{vs:List V} {H:Hp} {Q:VK} {E:XK},spF κ K (clK pg (k+1)) f vs H Q E->False:=λ{vs H Q E} ⟨G,args,_,_,z⟩=>by rw[jZ h] at z;exact hc (ZW z).1.1
  exact⟨λvs H Q E z=>(no z).elim,λA outer s H args us vs Q E _ _ _ _ z=>(no z).elim⟩
 refine F.okx (qt hc) (λvs H Q E z=>?_) (λcdv A outer s H vs Q E hr z=>?_)
 ·obtain⟨G,args,_,ha,z⟩:=z;rw[jZ h] at z;rw[<-ha.len];exact(ZW z).1.2
 ·obtain⟨G,args,sub,ha,z⟩:=z;rw[jZ h] at z;have z:=(ZW z).2;have gs:Gs κ K E k (yV (CX1 P wd) P wd K mg base (fnN st) f (qe st) fa cdv A outer s H E) (pg.ct k (clK pg k) st):=QN ok ih (qt hc) hr
  cases hb:cSs pg.m (pg.ct k (clK pg k) st) (qk st) with
  |none=>rw[hb] at z;exact z.elim
  |some b=>
   rw[hb] at z;refine⟨_,(qfw (w:=pg.w) pg.m _ _ _ gs).ss G H (qk st) b hb,qX (fnN st) args,G,zO sub ha,Wx.mono (Wx.th z) λfl hf=>?_⟩
   cases fl with
   |next ρ=>exactλσ' G' H' er g'=>hf .non G' H' er.base er.g0 er.sub er.fresh (by simp only[ReR,Rep])
   |ret r=>exact hf
theorem J7(ok:PgOk κ K mg pg):∀k j:Nat,j<=k->qak P wd κ K mg base pg j:=by
 have zero:qak P wd κ K mg base pg 0:=by
  refine⟨λf st h=>?_,λf st h _ nm fa fd F=>⟨λvs H Q E ⟨G,args,_,_,z⟩=>False.elim z,λA outer s H args us vs Q E _ _ _ _ ⟨G,args',_,_,z⟩=>False.elim z⟩⟩
  ·obtain⟨fa,fd,F,hm,hb⟩:=ok.fn.mem (PySem.mem_of_lookup h);refine⟨fa,fd,⟨λvs H Q E hz2=>?_,λA outer s H args us vs Q E _ _ _ _ ⟨G,args',_,_,z⟩=>False.elim z⟩,hm,F.kp,hb⟩;obtain⟨G,args,_,_,z⟩:=hz2;exact False.elim z
 intro k
 induction k with
 |zero=>intro j hj;rw[Nat.le_zero.mp hj];exact zero
 |succ k ih=>
  intro j hj;rcases Nat.lt_or_ge j (k+1) with h | h
  ·exact ih j (Nat.le_of_lt_succ h)
  ·obtain rfl:j=k+1:=Nat.le_antisymm hj h;refine⟨λf st h=>?_,λf st h h0 nm fa fd F=>?_⟩
   ·obtain⟨fa,fd,F,hm,hb⟩:=ok.fn.mem (PySem.mem_of_lookup h);exact⟨fa,fd,ZX ok ih F (qbM h),hm,F.kp,hb⟩
   ·exact ZX ok ih F ((qbN h0).trans h)
theorem J8(G:Hp):∀ns:List Int,qm κ G (ns.map D.int) (ns.map V.int)
 |[]=>.nil
 | n::ns=>.cons (by simp only[Rep]) (J8 G ns)
end
noncomputable def qjy(pg:Pg)(k:Nat)(cl:Str->List Ar->R Rv)(st:Stmt):Option (Nat×Nat×Ss):=oif (qQ st) ((cSs pg.m (pg.ct k cl st) (qk st)).map λb=>((zz st).length,(fnN st).length,b))
def slN(n:Nat)(args:List Ar):Env:=args.map toSl++List.replicate (n - args.length) .no
noncomputable def runD(cl:Cl)(w:Nat)(c:Nat×Nat×Ss)(args:List Ar):R Rv:=if args.length=c.1 then (iSs cl w c.2.2 (slN c.2.1 args)).th flR else .no
def Pg.kk(pg:Pg)(k:Nat):Cl:=⟨clK pg k,pg.cs,pg.nw k,decide (2<=k),decide (12<=k)⟩
@[simp] theorem qhz{pg:Pg}{k:Nat}:(pg.kk (k+2)).x=true:=decide_eq_true (Nat.le_add_left 2 k)
theorem qA{pg:Pg}{f:Str}{st:Stmt}{c:Nat×Nat×Ss}(hl:(pg.defs++pg.meths).lookup f=some st)(hc:∀k cl,qjy pg k cl st=some c)(k:Nat)(args:List Ar):clK pg (k+1) f args=runD (pg.kk k) pg.w c args:=by
 obtain⟨h1,h2⟩:=qg (hc k (clK pg k));obtain⟨b,h3,rfl⟩:=map_some h2;rw[jZ hl];unfold evF runD
 by_cases hn:args.length=(zz st).length
 ·rw[if_pos (by rw[h1,hn];simp),if_pos hn];rw[h3];rfl
 ·rw[if_neg (by simp[hn]),if_neg hn]
end DE
namespace DE
open PySem L2
variable{cl:Cl}{w:Nat}
theorem th_ok{α β:Type}(a:α)(f:α->R β):(R.ok a).th f=f a:=(rfl)
theorem of_some{α:Type}(a:α):R.of (some a)=.ok a:=(rfl)
noncomputable def J9(cl:Cl)(w:Nat)(tg:Tg)(b:Ss)(l:List D)(ρ:Env):R Fl:=qgM (λd ρ1=>(tg.go d ρ1).th λρ2=>iSs cl w b ρ2) l ρ
noncomputable def jl(cl:Cl)(e:E)(tg:Tg)(c:F)(l:List D)(ρ:Env)(acc:List D):R (List D):=ZG tg.go (λρ1=>iF cl c ρ1) (zR e (iR cl e)) l ρ acc
def qa1(f:Fl)(g:Env->R Fl):R Fl:=match f with
 |.next ρ1=>g ρ1
 |.ret r=>.ok (.ret r)
section
variable(cl:Cl)(w:Nat)(ρ:Env)
theorem qa2(tg:Tg)(b:Ss):J9 cl w tg b [] ρ=.ok (.next ρ):=(rfl)
theorem ZY(tg:Tg)(b:Ss)(d:D)(l:List D):J9 cl w tg b (d::l) ρ=((tg.go d ρ).th λρ2=>iSs cl w b ρ2).th λf=>qa1 f λρ1=>J9 cl w tg b l ρ1:=(rfl)
theorem yv(e:E)(tg:Tg)(c:F)(acc:List D):jl cl e tg c [] ρ acc=.ok acc:=(rfl)
theorem QO(e:E)(tg:Tg)(c:F)(d:D)(l acc:List D):jl cl e tg c (d::l) ρ acc=(tg.go d ρ).th λρ1=>(iF cl c ρ1).th λbt=>if bt.1=true then (zR e (iR cl e) bt.2).th λx=>if acc.length < sizeLine then jl cl e tg c l x.2 (acc++[x.1]) else .no else jl cl e tg c l bt.2 acc:=(rfl)
theorem qdm(e:E):iS cl w (.expr e) ρ=(iR cl e ρ).th λx=>.ok (.next x.2):=(rfl)
theorem qfx(i:Nat)(e:E):iS cl w (.app i e) ρ=(match yG ρ i with
  |none=>.no
  |some _=>(zR e (iR cl e) ρ).th λy=>(match yG y.2 i with
   |some l=>if l.length < sizeLine then .ok (.next (y.2.set i (.own (l++[y.1])))) else .no
   |none=>.no)):=(rfl)
theorem qfy(e:E):iS cl w (.ret e) ρ=(qaL e (iR cl e) ρ).th λr=>.ok (.ret r):=(rfl)
theorem qfz(i:Nat)(e:E):iS cl w (.set i e) ρ=(QS e (iR cl e) ρ).th λs=>.ok (.next (s.2.set i s.1)):=(rfl)
theorem qdn(tg:Tg)(e:E):iS cl w (.setT tg e) ρ=(zR e (iR cl e) ρ).th λx=>(tg.go x.1 x.2).th λρ1=>.ok (.next ρ1):=(rfl)
theorem qfA(c:T)(a b:Ss):iS cl w (.ite c a b) ρ=(iT cl c ρ).th λt=>if t.1=true then iSs cl w a t.2 else iSs cl w b t.2:=(rfl)
theorem qfB(tg:Tg)(src:I)(b:Ss):iS cl w (.for_ tg src b) ρ=(iI cl src ρ).th λx=>J9 cl w tg b x.1 x.2:=(rfl)
noncomputable def qhA(cl:Cl)(hs:List (Str×Nat×Nat))(n:Nat)(r:R Fl):R Fl:=match r with
 |.exc C l=>jg cl.cs n C l hs
 |r=>r
theorem qfC(n:Str)(l:Es):iS cl w (.rai n l) ρ=(noX (iEs cl l ρ)).th λx=>mkX cl.x cl.cs n x.1:=(rfl)
theorem qfD(b:Ss)(hs:List (Str×Nat×Nat)):iS cl w (.try_ b hs) ρ=qhA cl hs ρ.length (iSs cl w b ρ):=by
 show(match iSs cl w b ρ with |.exc C l=>_ |r=>r)=_
 cases iSs cl w b ρ<;>rfl
theorem qa3(s:S)(l:Ss):iSs cl w (.cons s l) ρ=(iS cl w s ρ).th λf=>qa1 f λρ1=>iSs cl w l ρ1:=(rfl)
theorem qfE(op:Operator)(a b:E):iR cl (.bin op a b) ρ=(iR cl a ρ).th λx=>(iR cl b x.2).th λy=>(Qb op x.1 y.1).th λr=>.ok (r,y.2):=(rfl)
theorem qfF(a:E):iR cl (.neg a) ρ=(iR cl a ρ).th λx=>match x.1 with
  |.val (.int i)=>.ok (.val (.int (-i)),x.2)
  |_=>.no:=(rfl)
theorem qfG(a:E):iR cl (.not a) ρ=(iR cl a ρ).th λx=>match x.1 with
  |.val (.bl b)=>.ok (.val (.bl (!b)),x.2)
  |_=>.no:=(rfl)
theorem qfH(a b:E):iR cl (.and a b) ρ=(iR cl a ρ).th λx=>match x.1 with
  |.val (.bl true)=>iR cl b x.2
  |.val (.bl false)=>.ok (.val (.bl false),x.2)
  |_=>.no:=(rfl)
theorem qhB(a b:E):iR cl (.or a b) ρ=(iR cl a ρ).th λx=>match x.1 with
  |.val (.bl false)=>iR cl b x.2
  |.val (.bl true)=>.ok (.val (.bl true),x.2)
  |_=>.no:=(rfl)
theorem qfI(op:CmpOp)(a b:E):iR cl (.cmp op a b) ρ=(iR cl a ρ).th λx=>(iR cl b x.2).th λy=>(R.of (yJ op x.1 y.1)).th λr=>.ok (.val (.bl r),y.2):=(rfl)
theorem qfJ(a i:E):iR cl (.idx a i) ρ=(iR cl a ρ).th λx=>(iR cl i x.2).th λy=>(idxD x.1 y.1).th λr=>.ok (r,y.2):=(rfl)
theorem qfK(a:E)(lo hi:O):iR cl (.sli a lo hi) ρ=(iR cl a ρ).th λx=>(iO cl lo x.2).th λl=>(iO cl hi l.2).th λh=>(sliceD x.1 l.1 h.1).th λr=>.ok (r,h.2):=(rfl)
theorem qfL(l:Es):iR cl (.lst l) ρ=(iEs cl l ρ).th λx=>if x.1.length<=sizeLine then .ok (.tmp x.1,x.2) else .no:=(rfl)
theorem qfM(l:Es):iR cl (.tup l) ρ=(iEs cl l ρ).th λx=>if x.1.length<=sizeLine then .ok (.val (.tup x.1),x.2) else .no:=(rfl)
theorem qdo(f:Str)(l:Es):iR cl (.call f l) ρ=(iAs cl l ρ).th λx=>(cl f x.1).th λr=>.ok (r,x.2):=(rfl)
theorem qhC(f:B1)(a:E):iR cl (.b1 f a) ρ=(iR cl a ρ).th λx=>(f.go x.1).th λr=>.ok (r,x.2):=(rfl)
theorem qfN(t:Ty)(a:E):iR cl (.isi t a) ρ=(iR cl a ρ).th λx=>(R.of (t.go x.1)).th λb=>.ok (.val (.bl b),x.2):=(rfl)
theorem qfO(t:Str)(a:E):iR cl (.isc t a) ρ=(noX (iR cl a ρ)).th λx=>(R.of (qcP cl.cs x.1 t)).th λb=>.ok (.val (.bl b),x.2):=(rfl)
theorem qfP(a:E)(x:Str):iR cl (.fld a x) ρ=(noX (iR cl a ρ)).th λy=>(R.of (qgJ cl.cs y.1 x)).th λd=>.ok (d,y.2):=(rfl)
noncomputable def goM(cl:Cl)(x:Str)(l:Es)(v:Rv)(ρ:Env):Option Str->R (Rv×Env)
 |some f=>(iAs cl l ρ).th λz=>(cl f (toAr v::z.1)).th λr=>.ok (r,z.2)
 |none=>(noX (iAs cl l ρ)).th λz=>(noX (bmD x v z.1)).th λr=>.ok (r,z.2)
theorem qfQ(a:E)(x:Str)(l:Es):iR cl (.met a x l) ρ=(iR cl a ρ).th λy=>goM cl x l y.1 y.2 (mtD cl.cs y.1 x):=by
 show(iR cl a ρ).th _=_
 congr 1
theorem qdp(e:E)(src:I)(tg:Tg)(c:F)(n:Nat)(fr:List Nat):iR cl (.comp e src tg c n fr) ρ=(iI cl src ρ).th λx=>if x.1.length<=sizeLine then (noX (jl cl e tg c x.1 (QL n fr x.2) [])).th λl=>.ok (.tmp l,x.2) else .no:=(rfl)
theorem qfR(a:T):iT cl (.not a) ρ=(iT cl a ρ).th λt=>.ok (!t.1,t.2):=(rfl)
theorem qfS(a b:T):iT cl (.and a b) ρ=(iT cl a ρ).th λt=>if t.1=true then iT cl b t.2 else .ok (false,t.2):=(rfl)
theorem qhD(a b:T):iT cl (.or a b) ρ=(iT cl a ρ).th λt=>if t.1=true then .ok (true,t.2) else iT cl b t.2:=(rfl)
theorem qfT(op:CmpOp)(a b:E):iT cl (.cmp op a b) ρ=(iR cl a ρ).th λx=>(iR cl b x.2).th λy=>(R.of (yJ op x.1 y.1)).th λr=>.ok (r,y.2):=(rfl)
theorem qfU(a:E):iT cl (.val a) ρ=(iR cl a ρ).th λx=>(R.of (truthD x.1)).th λb=>.ok (b,x.2):=(rfl)
theorem qa4(e:E)(l:Es):iEs cl (.cons e l) ρ=(zR e (iR cl e) ρ).th λx=>(iEs cl l x.2).th λy=>.ok (x.1::y.1,y.2):=(rfl)
theorem qa5(e:E)(l:Es):iAs cl (.cons e l) ρ=(iR cl e ρ).th λx=>(iAs cl l x.2).th λy=>.ok (toAr x.1::y.1,y.2):=(rfl)
theorem qdq(e:E):iO cl (.some e) ρ=(iR cl e ρ).th λx=>match x.1 with
  |.val (.int i)=>.ok (some i,x.2)
  |_=>.no:=(rfl)
theorem qfV(a:E):iI cl (.seq a) ρ=(JZ a (iR cl a) ρ).th λx=>.ok (x.1.2,x.2):=(rfl)
theorem qfW(a:E):iI cl (.rng a) ρ=(iR cl a ρ).th λx=>(match x.1.int? with
  |some n=>if qO n=true then .ok (qN 0 n,x.2) else .no
  |none=>.no):=(rfl)
theorem qdr(a:E):iI cl (.enum a) ρ=(JZ a (iR cl a) ρ).th λx=>match x.1.1 with |.lst=>.ok (zw x.1.2,x.2) |_=>.no:=(rfl)
variable(s:Sl)(i:Nat)(d:D)(l:List D)
theorem slR_s:slR (s::ρ) (i+1)=slR ρ i:=(rfl)
theorem slR_v:slR (.val d::ρ) 0=.ok (.val d):=(rfl)
theorem slR_o:slR (.own l::ρ) 0=.ok (.cell l):=(rfl)
theorem slR_b:slR (.bor l::ρ) 0=.ok (.cell l):=(rfl)
theorem slR_c:slR (.scr l::ρ) 0=.ok (.scr l):=(rfl)
theorem slR_j(a:Addr)(c:Str)(ns:List Str)(l:List Ob):slR (.obj a c ns l::ρ) 0=.ok (.obj a c ns l):=(rfl)
theorem slX_s:slX (s::ρ) (i+1)=slX ρ i:=(rfl)
theorem slX_o:slX (.own l::ρ) 0=.ok (.tmp l):=(rfl)
theorem qhE:slE (s::ρ) (i+1)=(slE ρ i).th λx=>.ok (x.1,s::x.2):=by
 show(match ρ[i]? with |some (.val d)=>_ |some (.own l)=>_ |_=>_)=R.th (match ρ[i]? with |some (.val d)=>_ |some (.own l)=>_ |_=>_) _
 cases ρ[i]? with
 |none=>rfl
 |some z=>cases z<;>rfl
theorem ownI_s:yG (s::ρ) (i+1)=yG ρ i:=(rfl)
theorem ownI_o:yG (.own l::ρ) 0=some l:=(rfl)
end
mutual
noncomputable def okD:D->Bool
 |.str s=>PyData.strOk s
 |.lst l=>qbO l
 |.tup l=>qbO l
 |.ins ..=>false
 |.exc ..=>false
 |.dct ..=>false
 |.non=>true
 |.bl _=>true
 |.int _=>true
noncomputable def qbO:List D->Bool
 |[]=>true
 | d::l=>okD d&&qbO l
end
mutual
noncomputable def dpD:D->Nat
 |.lst l=>ZZ l+1
 |.tup l=>ZZ l+1
 |.str _=>0
 |.ins ..=>0
 |.exc ..=>0
 |.dct ..=>0
 |.non=>0
 |.bl _=>0
 |.int _=>0
noncomputable def ZZ:List D->Nat
 |[]=>0
 | d::l=>max (dpD d) (ZZ l)
end
mutual
theorem qbP:∀d:D,okD d=true->∃p,toP d=some p/\p.canLay0=true/\p.depth=dpD d/\PyData.eqv p p=true
 |.non,_=>⟨_,by rw[toP],by rw[PyData.canLay0],by rw[PyData.depth,dpD],by rw[PyData.eqv]⟩
 |.bl b,_=>⟨_,by rw[toP],by rw[PyData.canLay0],by rw[PyData.depth,dpD],by rw[PyData.eqv];simp⟩
 |.int n,_=>⟨_,by rw[toP],by rw[PyData.canLay0],by rw[PyData.depth,dpD],by rw[PyData.eqv];simp⟩
 |.str s,h=>⟨_,by rw[toP],by rw[PyData.canLay0];rw[okD] at h;exact h,by rw[PyData.depth,dpD],by rw[PyData.eqv];simp⟩
 |.lst l,h=>by rw[okD] at h;obtain⟨p,h1,h2,h3,h4⟩:=YK l h;exact⟨.list p,by rw[toP,h1];rfl,by rw[PyData.canLay0];exact h2,by rw[PyData.depth,dpD,h3],by rw[PyData.eqv];exact h4⟩
 |.tup l,h=>by rw[okD] at h;obtain⟨p,h1,h2,h3,h4⟩:=YK l h;exact⟨.tuple p,by rw[toP,h1];rfl,by rw[PyData.canLay0];exact h2,by rw[PyData.depth,dpD,h3],by rw[PyData.eqv];exact h4⟩
 |.ins ..,h=>by rw[okD] at h;cases h
 |.exc ..,h=>by rw[okD] at h;cases h
 |.dct ..,h=>by rw[okD] at h;cases h
theorem YK:∀l:List D,qbO l=true->∃p,qaI l=some p/\PyData.canLayAll0 p=true/\PyData.depthAll p=ZZ l/\PyData.eqvAll p p=true
 |[],_=>⟨[],by rw[qaI],by rw[PyData.canLayAll0],by rw[PyData.depthAll,ZZ],by rw[PyData.eqvAll]⟩
 | d::l,h=>by rw[qbO,Bool.and_eq_true] at h;obtain⟨p,h1,h2,h3,h4⟩:=qbP d h.1;obtain⟨q,h5,h6,h7,h8⟩:=YK l h.2;exact⟨p::q,by rw[qaI,h1,h5];rfl,by rw[PyData.canLayAll0,h2,h6];rfl,by rw[PyData.depthAll,ZZ,h3,h7],by rw[PyData.eqvAll,h4,h8];rfl⟩
end
theorem qfX{d:D}(h:okD d=true)(hd:dpD d<=64):∃p,toP d=some p/\SeqAt.shaped p=true/\PyData.eqv p p=true:=by obtain⟨p,h1,h2,h3,h4⟩:=qbP d h;exact⟨p,h1,by unfold SeqAt.shaped;rw[h2,h3];simpa using hd,h4⟩
theorem Jq{d:D}(h:okD d=true)(hd:dpD d<=64):eqD d d=some true:=by obtain⟨p,h1,h2,h3⟩:=qfX h hd;unfold eqD;rw[h1];dsimp only;rw[h2,h3];rfl
theorem qfY(n:Int):SeqAt.shaped (.int n)=true:=by unfold SeqAt.shaped;simp[PyData.canLay0,PyData.depth]
theorem zm(a b:Int):eqD (.int a) (.int b)=some (a == b):=by unfold eqD;simp only[toP,qfY,Bool.and_self,if_true,PyData.eqv]
theorem jw{α:Type}{l:List α}{i:Int}{j:Nat}(h:i=(j:Int))(hj:j < l.length):atI l i=some l[j]:=by subst h;unfold atI ixN;rw[if_pos (by lia),if_pos (by lia)];simp[hj]
theorem kk_f(pg:Pg)(k:Nat)(f:Str)(args:List Ar):(pg.kk k).f f args=clK pg k f args:=(rfl)
theorem kk_x2(pg:Pg)(k:Nat):(pg.kk (k+2)).x=true:=qhz
theorem kk_cs(pg:Pg)(k:Nat):(pg.kk k).cs=pg.cs:=(rfl)
end DE
namespace DE
open PySem L2
theorem at_1{α:Type}(a b:α)(l:List α):atI (a::b::l) 1=some b:=by exact jw (i:=1) (j:=1) rfl (by simp)
theorem at_2{α:Type}(a b c:α)(l:List α):atI (a::b::c::l) 2=some c:=by exact jw (i:=2) (j:=2) rfl (by simp)
theorem qjz{α:Type}{l:List α}{j:Nat}{x:α}(h:l[j]?=some x):atI l (j:Int)=some x:=by obtain⟨h1,h2⟩:=List.getElem?_eq_some_iff.mp h;rw[jw rfl h1,h2]
def enF(i:Nat):List D->List D
 |[]=>[]
 | d::l=>.tup [.int i,d]::enF (i+1) l
theorem qbQ:∀(l:List D) (i:Nat),(List.range' i l.length).zipWith (λ(i:Nat) d=>D.tup [.int i,d]) l=enF i l
 |[],i=>rfl
 | d::l,i=>by rw[List.length_cons,List.range'_succ,List.zipWith_cons_cons,qbQ l (i+1)];rfl
theorem Jr(l:List D):zw l=enF 0 l:=by unfold zw;rw[List.range_eq_range',qbQ]
def rgF(i:Int):Nat->List D
 |0=>[]
 | n+1=>.int i::rgF (i+1) n
theorem qbR:∀(n:Nat) (lo:Int) (s:Nat),(List.range' s n).map (λi:Nat=>D.int (lo+i))=rgF (lo+s) n
 |0,_,_=>rfl
 | n+1,lo,s=>by rw[List.range'_succ,List.map_cons,qbR n lo (s+1)];show _=D.int (lo+s)::rgF (lo+s+1) n;rw[show lo+((s+1:Nat):Int)=lo+s+1 by lia]
theorem Yb(lo hi:Int):qN lo hi=rgF lo (hi - lo).toNat:=by
 unfold qN;rw[List.range_eq_range',qbR]
 congr 1
 lia
end DE
namespace DE
open PySem L2
theorem qf{α β γ:Type}(x:R α)(f:α->R β)(g:β->R γ):(x.th f).th g=x.th λa=>(f a).th g:=by cases x<;>rfl
theorem qu{α:Type}(x:R α):x.th R.ok=x:=by cases x<;>rfl
section
variable{β:Type}(cl:Cl)(w:Nat)
def Js(ρ:Env)(K:Rv×Env->R β)(r:Rv):R β:=K (r,ρ)
def kBl(ρ:Env)(K:Rv×Env->R β)(b:Bool):R β:=K (.val (.bl b),ρ)
def kBo(ρ:Env)(K:Bool×Env->R β)(b:Bool):R β:=K (b,ρ)
def qhF(ρ:Env)(K:Rv×Env->R β)(l:List D):R β:=K (.tmp l,ρ)
def kB2(op:Operator)(u:Rv)(K:Rv×Env->R β)(y:Rv×Env):R β:=(Qb op u y.1).th (Js y.2 K)
def kB1(op:Operator)(b:E)(K:Rv×Env->R β)(x:Rv×Env):R β:=(iR cl b x.2).th (kB2 op x.1 K)
noncomputable def qii(K:Rv×Env->R β)(x:Rv×Env):R β:=R.th (match x.1 with
  |.val (.int i)=>.ok (.val (.int (-i)),x.2)
  |_=>.no) K
noncomputable def qij(K:Rv×Env->R β)(x:Rv×Env):R β:=R.th (match x.1 with
  |.val (.bl b)=>.ok (.val (.bl (!b)),x.2)
  |_=>.no) K
noncomputable def qik(b:E)(K:Rv×Env->R β)(x:Rv×Env):R β:=R.th (match x.1 with
  |.val (.bl true)=>iR cl b x.2
  |.val (.bl false)=>.ok (.val (.bl false),x.2)
  |_=>.no) K
noncomputable def kOr(b:E)(K:Rv×Env->R β)(x:Rv×Env):R β:=R.th (match x.1 with
  |.val (.bl false)=>iR cl b x.2
  |.val (.bl true)=>.ok (.val (.bl true),x.2)
  |_=>.no) K
def kC2(op:CmpOp)(u:Rv)(K:Rv×Env->R β)(y:Rv×Env):R β:=(R.of (yJ op u y.1)).th (kBl y.2 K)
def kC1(op:CmpOp)(b:E)(K:Rv×Env->R β)(x:Rv×Env):R β:=(iR cl b x.2).th (kC2 op x.1 K)
def kI2(u:Rv)(K:Rv×Env->R β)(y:Rv×Env):R β:=(idxD u y.1).th (Js y.2 K)
def kI1(b:E)(K:Rv×Env->R β)(x:Rv×Env):R β:=(iR cl b x.2).th (kI2 x.1 K)
noncomputable def kS3(v:Rv)(l:Option Int)(K:Rv×Env->R β)(h:Option Int×Env):R β:=(sliceD v l h.1).th (Js h.2 K)
def kS2(v:Rv)(hi:O)(K:Rv×Env->R β)(l:Option Int×Env):R β:=(iO cl hi l.2).th (kS3 v l.1 K)
def kS1(lo hi:O)(K:Rv×Env->R β)(x:Rv×Env):R β:=(iO cl lo x.2).th (kS2 cl x.1 hi K)
def qil(K:Rv×Env->R β)(x:List D×Env):R β:=if x.1.length<=sizeLine then K (.tmp x.1,x.2) else .no
noncomputable def qim(K:Rv×Env->R β)(x:List D×Env):R β:=if x.1.length<=sizeLine then K (.val (.tup x.1),x.2) else .no
def qfZ(f:Str)(K:Rv×Env->R β)(x:List Ar×Env):R β:=(cl f x.1).th (Js x.2 K)
def kF1(f:B1)(K:Rv×Env->R β)(x:Rv×Env):R β:=(f.go x.1).th (Js x.2 K)
def qin(t:Str)(K:Rv×Env->R β)(x:Rv×Env):R β:=(R.of (qcP cl.cs x.1 t)).th (kBl x.2 K)
def qio(ρ:Env)(K:Rv×Env->R β)(d:D):R β:=K (.val d,ρ)
def qhG(x:Str)(K:Rv×Env->R β)(y:Rv×Env):R β:=(R.of (qgJ cl.cs y.1 x)).th (Js y.2 K)
def qhH(f:Str)(v:Rv)(K:Rv×Env->R β)(z:List Ar×Env):R β:=(cl f (toAr v::z.1)).th (Js z.2 K)
def qhI(v:Rv)(l:Es)(ρ:Env)(K:Rv×Env->R β)(f:Str):R β:=(iAs cl l ρ).th (qhH cl f v K)
def qjA(x:Str)(v:Rv)(K:Rv×Env->R β)(z:List Ar×Env):R β:=(noX (bmD x v z.1)).th (Js z.2 K)
noncomputable def qhJ(x:Str)(v:Rv)(l:Es)(ρ:Env)(K:Rv×Env->R β)(o:Option Str):R β:=match o with
 |some f=>qhI cl v l ρ K f
 |none=>(noX (iAs cl l ρ)).th (qjA x v K)
def qhK(x:Str)(l:Es)(K:Rv×Env->R β)(y:Rv×Env):R β:=qhJ cl x y.1 l y.2 K (mtD cl.cs y.1 x)
def qip(t:Ty)(K:Rv×Env->R β)(x:Rv×Env):R β:=(R.of (t.go x.1)).th (kBl x.2 K)
noncomputable def qf0(e:E)(tg:Tg)(c:F)(n:Nat)(fr:List Nat)(K:Rv×Env->R β)(x:List D×Env):R β:=if x.1.length<=sizeLine then (noX (jl cl e tg c x.1 (QL n fr x.2) [])).th (qhF x.2 K) else .no
def kTn(K:Bool×Env->R β)(t:Bool×Env):R β:=K (!t.1,t.2)
noncomputable def kTa(b:T)(K:Bool×Env->R β)(t:Bool×Env):R β:=if t.1=true then (iT cl b t.2).th K else K (false,t.2)
noncomputable def kTo(b:T)(K:Bool×Env->R β)(t:Bool×Env):R β:=if t.1=true then K (true,t.2) else (iT cl b t.2).th K
def kD2(op:CmpOp)(u:Rv)(K:Bool×Env->R β)(y:Rv×Env):R β:=(R.of (yJ op u y.1)).th (kBo y.2 K)
def kD1(op:CmpOp)(b:E)(K:Bool×Env->R β)(x:Rv×Env):R β:=(iR cl b x.2).th (kD2 op x.1 K)
def kTv(K:Bool×Env->R β)(x:Rv×Env):R β:=(R.of (truthD x.1)).th (kBo x.2 K)
def kE2(d:D)(K:List D×Env->R β)(y:List D×Env):R β:=K (d::y.1,y.2)
def kE1(l:Es)(K:List D×Env->R β)(x:D×Env):R β:=(iEs cl l x.2).th (kE2 x.1 K)
def kA2(v:Rv)(K:List Ar×Env->R β)(y:List Ar×Env):R β:=K (toAr v::y.1,y.2)
def kA1(l:Es)(K:List Ar×Env->R β)(x:Rv×Env):R β:=(iAs cl l x.2).th (kA2 x.1 K)
noncomputable def kO(K:Option Int×Env->R β)(x:Rv×Env):R β:=R.th (match x.1 with
  |.val (.int i)=>.ok (some i,x.2)
  |_=>.no) K
def qiq(K:List D×Env->R β)(x:(Sk×List D)×Env):R β:=K (x.1.2,x.2)
noncomputable def qir(K:List D×Env->R β)(x:Rv×Env):R β:=R.th (match x.1.int? with
  |some n=>if qO n=true then .ok (qN 0 n,x.2) else .no
  |none=>.no) K
noncomputable def qf1(K:List D×Env->R β)(x:(Sk×List D)×Env):R β:=R.th (match x.1.1 with |.lst=>.ok (zw x.1.2,x.2) |_=>.no) K
def qhL(K:D×Env->R β)(x:Rv×Env):R β:=(qd4 x).th K
noncomputable def kX(K:Rv->R β)(x:Rv×Env):R β:=R.th (match x.1 with
  |.val d=>.ok (.val d)
  |.tmp l=>.ok (.tmp l)
  |_=>.no) K
noncomputable def kAx(K:Sl×Env->R β)(x:Rv×Env):R β:=R.th (match x.1 with
  |.val d=>.ok (.val d,x.2)
  |.tmp l=>.ok (.own l,x.2)
  |_=>.no) K
def qf2{α:Type}(s:Sl)(K:α×Env->R β)(x:α×Env):R β:=K (x.1,s::x.2)
def qhM(K:Fl->R β)(x:Rv×Env):R β:=K (.next x.2)
def oGo(o:Option (List D))(x:R β):R β:=match o with
 |none=>.no
 |some _=>x
noncomputable def qds(i:Nat)(d:D)(ρ:Env)(K:Fl->R β)(o:Option (List D)):R β:=R.th (match o with
   |some l=>if l.length < sizeLine then .ok (.next (ρ.set i (.own (l++[d])))) else .no
   |none=>.no) K
def qis(i:Nat)(K:Fl->R β)(y:D×Env):R β:=qds i y.1 y.2 K (yG y.2 i)
def kRt(K:Fl->R β)(r:Rv):R β:=K (.ret r)
def qit(i:Nat)(K:Fl->R β)(s:Sl×Env):R β:=K (.next (s.2.set i s.1))
def kNx(K:Fl->R β)(ρ:Env):R β:=K (.next ρ)
def kST(tg:Tg)(K:Fl->R β)(x:D×Env):R β:=(tg.go x.1 x.2).th (kNx K)
noncomputable def qiu(a b:Ss)(K:Fl->R β)(t:Bool×Env):R β:=if t.1=true then (iSs cl w a t.2).th K else (iSs cl w b t.2).th K
def qiv(tg:Tg)(b:Ss)(K:Fl->R β)(x:List D×Env):R β:=(J9 cl w tg b x.1 x.2).th K
def qdt(l:Ss)(K:Fl->R β)(f:Fl):R β:=(qa1 f λρ1=>iSs cl w l ρ1).th K
def qgQ(tg:Tg)(b:Ss)(l:List D)(K:Fl->R β)(f:Fl):R β:=(qa1 f λρ1=>J9 cl w tg b l ρ1).th K
def qiw(tg:Tg)(b:Ss)(l:List D)(K:Fl->R β)(ρ:Env):R β:=(iSs cl w b ρ).th (qgQ cl w tg b l K)
noncomputable def kP3(e:E)(tg:Tg)(c:F)(l acc:List D)(K:List D->R β)(x:D×Env):R β:=if acc.length < sizeLine then (jl cl e tg c l x.2 (acc++[x.1])).th K else .no
noncomputable def kP2(e:E)(tg:Tg)(c:F)(l acc:List D)(K:List D->R β)(t:Bool×Env):R β:=if t.1=true then (zR e (iR cl e) t.2).th (kP3 cl e tg c l acc K) else (jl cl e tg c l t.2 acc).th K
noncomputable def kP1(e:E)(tg:Tg)(c:F)(l acc:List D)(K:List D->R β)(ρ:Env):R β:=(iF cl c ρ).th (kP2 cl e tg c l acc K)
theorem zS{α:Type}{c:Prop}[Decidable c](x y:R α)(K:α->R β):(if c then x else y).th K=if c then x.th K else y.th K:=by split<;>rfl
theorem qB{α:Type}(x:R α){f g:α->R β}(h:∀a,f a=g a):x.th f=x.th g:=by cases x<;>first | rfl | exact h _
section
variable(ρ:Env)(K:Rv×Env->R β)
theorem xR_var(i:Nat):(iR cl (.var i) ρ).th K=(slR ρ i).th (Js ρ K):=(qf (slR ρ i) _ _)
theorem xR_con(d:D):(iR cl (.con d) ρ).th K=K (.val d,ρ):=(rfl)
theorem xR_bin(op:Operator)(a b:E):(iR cl (.bin op a b) ρ).th K=(iR cl a ρ).th (kB1 cl op b K):=by rw[qfE,qf];refine qB _ λx=>?_;rw[qf];refine qB _ λy=>?_;rw[qf];rfl
theorem xR_neg(a:E):(iR cl (.neg a) ρ).th K=(iR cl a ρ).th (qii K):=by rw[qfF,qf];rfl
theorem xR_not(a:E):(iR cl (.not a) ρ).th K=(iR cl a ρ).th (qij K):=by rw[qfG,qf];rfl
theorem xR_one(a:E):(iR cl (.one a) ρ).th K=(iR cl a ρ).th K:=(rfl)
theorem xR_and(a b:E):(iR cl (.and a b) ρ).th K=(iR cl a ρ).th (qik cl b K):=by rw[qfH,qf];rfl
theorem xR_or(a b:E):(iR cl (.or a b) ρ).th K=(iR cl a ρ).th (kOr cl b K):=by rw[qhB,qf];rfl
theorem xR_cmp(op:CmpOp)(a b:E):(iR cl (.cmp op a b) ρ).th K=(iR cl a ρ).th (kC1 cl op b K):=by rw[qfI,qf];refine qB _ λx=>?_;rw[qf];refine qB _ λy=>?_;rw[qf];rfl
theorem xR_idx(a b:E):(iR cl (.idx a b) ρ).th K=(iR cl a ρ).th (kI1 cl b K):=by rw[qfJ,qf];refine qB _ λx=>?_;rw[qf];refine qB _ λy=>?_;rw[qf];rfl
theorem xR_sli(a:E)(lo hi:O):(iR cl (.sli a lo hi) ρ).th K=(iR cl a ρ).th (kS1 cl lo hi K):=by rw[qfK,qf];refine qB _ λx=>?_;rw[qf];refine qB _ λy=>?_;rw[qf];refine qB _ λz=>?_;rw[qf];rfl
theorem xR_lst(l:Es):(iR cl (.lst l) ρ).th K=(iEs cl l ρ).th (qil K):=by rw[qfL,qf];refine qB _ λx=>?_;rw[zS];rfl
theorem xR_tup(l:Es):(iR cl (.tup l) ρ).th K=(iEs cl l ρ).th (qim K):=by rw[qfM,qf];refine qB _ λx=>?_;rw[zS];rfl
theorem xR_call(f:Str)(l:Es):(iR cl (.call f l) ρ).th K=(iAs cl l ρ).th (qfZ cl f K):=by rw[qdo,qf];refine qB _ λx=>?_;rw[qf];rfl
theorem xR_b1(f:B1)(a:E):(iR cl (.b1 f a) ρ).th K=(iR cl a ρ).th (kF1 f K):=by rw[qhC,qf];refine qB _ λx=>?_;rw[qf];rfl
theorem xR_isc(t:Str)(a:E):(iR cl (.isc t a) ρ).th K=(noX (iR cl a ρ)).th (qin cl t K):=by rw[qfO,qf];refine qB _ λx=>?_;rw[qf];rfl
theorem xR_fld(a:E)(x:Str):(iR cl (.fld a x) ρ).th K=(noX (iR cl a ρ)).th (qhG cl x K):=by rw[qfP,qf];refine qB _ λy=>?_;rw[qf];rfl
theorem xR_met(a:E)(x:Str)(l:Es):(iR cl (.met a x l) ρ).th K=(iR cl a ρ).th (qhK cl x l K):=by
 rw[qfQ,qf];refine qB _ λy=>?_;unfold qhK
 cases mtD cl.cs y.1 x with
 |some f=>unfold goM;rw[qf];refine qB _ λz=>?_;rw[qf];rfl
 |none=>unfold goM;rw[qf];refine qB _ λz=>?_;rw[qf];rfl
theorem xR_isi(t:Ty)(a:E):(iR cl (.isi t a) ρ).th K=(iR cl a ρ).th (qip t K):=by rw[qfN,qf];refine qB _ λx=>?_;rw[qf];rfl
theorem xR_comp(e:E)(src:I)(tg:Tg)(c:F)(n:Nat)(fr:List Nat):(iR cl (.comp e src tg c n fr) ρ).th K=(iI cl src ρ).th (qf0 cl e tg c n fr K):=by rw[qdp,qf];refine qB _ λx=>?_;rw[zS,qf];rfl
end
section
variable(ρ:Env)(K:Rv×Env->R β)
theorem n_ok{α:Type}(a:α):noX (R.ok a)=.ok a:=(rfl)
theorem n_Es(l:Es):noX (iEs cl l ρ)=noX ((iEs cl l ρ).th R.ok):=by rw[qu]
theorem n_var(i:Nat):(noX (iR cl (.var i) ρ)).th K=(slR ρ i).th (Js ρ K):=by
 show(noX ((slR ρ i).th _)).th K=_
 cases e:slR ρ i with
 |ok r=>rfl
 |no=>rfl
 |exc c l=>unfold slR at e;split at e<;>cases e
end
section
variable(ρ:Env)(K:Rv×Env->R β)(v u:Rv)
theorem yRet:Js ρ K v=K (v,ρ):=(rfl)
theorem yBl(b:Bool):kBl ρ K b=K (.val (.bl b),ρ):=(rfl)
theorem yTmp(l:List D):qhF ρ K l=K (.tmp l,ρ):=(rfl)
theorem yB1(op:Operator)(b:E):kB1 cl op b K (v,ρ)=(iR cl b ρ).th (kB2 op v K):=(rfl)
theorem yB2(op:Operator):kB2 op u K (v,ρ)=(Qb op u v).th (Js ρ K):=(rfl)
theorem yNeg(i:Int):qii K (.val (.int i),ρ)=K (.val (.int (-i)),ρ):=(rfl)
theorem yNot(b:Bool):qij K (.val (.bl b),ρ)=K (.val (.bl (!b)),ρ):=(rfl)
theorem yAnd(b:E)(t:Bool):qik cl b K (.val (.bl t),ρ)=if t=true then (iR cl b ρ).th K else K (.val (.bl false),ρ):=by cases t<;>rfl
theorem yOr(b:E)(t:Bool):kOr cl b K (.val (.bl t),ρ)=if t=true then K (.val (.bl true),ρ) else (iR cl b ρ).th K:=by cases t<;>rfl
theorem yC1(op:CmpOp)(b:E):kC1 cl op b K (v,ρ)=(iR cl b ρ).th (kC2 op v K):=(rfl)
theorem yC2(op:CmpOp):kC2 op u K (v,ρ)=(R.of (yJ op u v)).th (kBl ρ K):=(rfl)
theorem yI1(b:E):kI1 cl b K (v,ρ)=(iR cl b ρ).th (kI2 v K):=(rfl)
theorem yI2:kI2 u K (v,ρ)=(idxD u v).th (Js ρ K):=(rfl)
theorem yS1(lo hi:O):kS1 cl lo hi K (v,ρ)=(iO cl lo ρ).th (kS2 cl v hi K):=(rfl)
theorem yS2(hi:O)(l:Option Int):kS2 cl v hi K (l,ρ)=(iO cl hi ρ).th (kS3 v l K):=(rfl)
theorem yS3(l h:Option Int):kS3 v l K (h,ρ)=(sliceD v l h).th (Js ρ K):=(rfl)
theorem yLst(l:List D):qil K (l,ρ)=if l.length<=sizeLine then K (.tmp l,ρ) else .no:=(rfl)
theorem yTup(l:List D):qim K (l,ρ)=if l.length<=sizeLine then K (.val (.tup l),ρ) else .no:=(rfl)
theorem yCall(f:Str)(l:List Ar):qfZ cl f K (l,ρ)=(cl f l).th (Js ρ K):=(rfl)
theorem yF1(f:B1):kF1 f K (v,ρ)=(f.go v).th (Js ρ K):=(rfl)
theorem yIsc(t:Str):qin cl t K (v,ρ)=(R.of (qcP cl.cs v t)).th (kBl ρ K):=(rfl)
theorem yDat(d:D):qio ρ K d=K (.val d,ρ):=(rfl)
theorem yFld(x:Str)(d:D):qhG cl x K (.val d,ρ)=(R.of (qaK cl.cs (.val d) x)).th (qio ρ K):=by
 show(R.of ((qaK cl.cs (.val d) x).map Rv.val)).th (Js ρ K)=_
 cases qaK cl.cs (.val d) x<;>rfl
theorem yFlo(x c:Str)(a:Addr)(ns:List Str)(l:List Ob):qhG cl x K (.obj a c ns l,ρ)=(R.of (qcQ cl.cs c ns l x)).th (Js ρ K):=(rfl)
theorem yMt3(f:Str)(l:List Ar):qhH cl f v K (l,ρ)=(cl f (toAr v::l)).th (Js ρ K):=(rfl)
theorem yMt2(f:Str)(l:Es):qhI cl v l ρ K f=(iAs cl l ρ).th (qhH cl f v K):=(rfl)
theorem yMt1(x:Str)(l:Es):qhK cl x l K (v,ρ)=qhJ cl x v l ρ K (mtD cl.cs v x):=(rfl)
theorem yMtO(x:Str)(l:Es)(f:Str):qhJ cl x v l ρ K (some f)=qhI cl v l ρ K f:=(rfl)
theorem yIsi(t:Ty):qip t K (v,ρ)=(R.of (t.go v)).th (kBl ρ K):=(rfl)
theorem yComp(e:E)(tg:Tg)(c:F)(n:Nat)(fr:List Nat)(l:List D):qf0 cl e tg c n fr K (l,ρ)=if l.length<=sizeLine then (noX (jl cl e tg c l (QL n fr ρ) [])).th (qhF ρ K) else .no:=(rfl)
end
section
variable(ρ:Env)(K:Bool×Env->R β)(v u:Rv)(t:Bool)
theorem xT_not(a:T):(iT cl (.not a) ρ).th K=(iT cl a ρ).th (kTn K):=by rw[qfR,qf];rfl
theorem xT_one(a:T):(iT cl (.one a) ρ).th K=(iT cl a ρ).th K:=(rfl)
theorem xT_and(a b:T):(iT cl (.and a b) ρ).th K=(iT cl a ρ).th (kTa cl b K):=by rw[qfS,qf];refine qB _ λt=>?_;rw[zS];rfl
theorem xT_or(a b:T):(iT cl (.or a b) ρ).th K=(iT cl a ρ).th (kTo cl b K):=by rw[qhD,qf];refine qB _ λt=>?_;rw[zS];rfl
theorem xT_cmp(op:CmpOp)(a b:E):(iT cl (.cmp op a b) ρ).th K=(iR cl a ρ).th (kD1 cl op b K):=by rw[qfT,qf];refine qB _ λx=>?_;rw[qf];refine qB _ λy=>?_;rw[qf];rfl
theorem xT_val(a:E):(iT cl (.val a) ρ).th K=(iR cl a ρ).th (kTv K):=by rw[qfU,qf];refine qB _ λx=>?_;rw[qf];rfl
theorem yBo:kBo ρ K t=K (t,ρ):=(rfl)
theorem yTn:kTn K (t,ρ)=K (!t,ρ):=(rfl)
theorem yTa(b:T):kTa cl b K (t,ρ)=if t=true then (iT cl b ρ).th K else K (false,ρ):=(rfl)
theorem yTo(b:T):kTo cl b K (t,ρ)=if t=true then K (true,ρ) else (iT cl b ρ).th K:=(rfl)
theorem yD1(op:CmpOp)(b:E):kD1 cl op b K (v,ρ)=(iR cl b ρ).th (kD2 op v K):=(rfl)
theorem yD2(op:CmpOp):kD2 op u K (v,ρ)=(R.of (yJ op u v)).th (kBo ρ K):=(rfl)
theorem yTv:kTv K (v,ρ)=(R.of (truthD v)).th (kBo ρ K):=(rfl)
theorem xF_yes:(iF cl .yes ρ).th K=K (true,ρ):=(rfl)
theorem xF_test(c:T):(iF cl (.test c) ρ).th K=(iT cl c ρ).th K:=(rfl)
end
section
variable(ρ:Env)
theorem xEs_nil(K:List D×Env->R β):(iEs cl .nil ρ).th K=K ([],ρ):=(rfl)
theorem xEs_cons(K:List D×Env->R β)(e:E)(l:Es):(iEs cl (.cons e l) ρ).th K=(zR e (iR cl e) ρ).th (kE1 cl l K):=by rw[qa4,qf];refine qB _ λx=>?_;rw[qf];rfl
theorem yE1(K:List D×Env->R β)(l:Es)(d:D):kE1 cl l K (d,ρ)=(iEs cl l ρ).th (kE2 d K):=(rfl)
theorem yE2(K:List D×Env->R β)(d:D)(ds:List D):kE2 d K (ds,ρ)=K (d::ds,ρ):=(rfl)
theorem xAs_nil(K:List Ar×Env->R β):(iAs cl .nil ρ).th K=K ([],ρ):=(rfl)
theorem xAs_cons(K:List Ar×Env->R β)(e:E)(l:Es):(iAs cl (.cons e l) ρ).th K=(iR cl e ρ).th (kA1 cl l K):=by rw[qa5,qf];refine qB _ λx=>?_;rw[qf];rfl
theorem yA1(K:List Ar×Env->R β)(l:Es)(v:Rv):kA1 cl l K (v,ρ)=(iAs cl l ρ).th (kA2 v K):=(rfl)
theorem yA2(K:List Ar×Env->R β)(v:Rv)(l:List Ar):kA2 v K (l,ρ)=K (toAr v::l,ρ):=(rfl)
theorem xO_none(K:Option Int×Env->R β):(iO cl .none ρ).th K=K (none,ρ):=(rfl)
theorem xO_some(K:Option Int×Env->R β)(e:E):(iO cl (.some e) ρ).th K=(iR cl e ρ).th (kO K):=by rw[qdq,qf];rfl
theorem yO(K:Option Int×Env->R β)(i:Int):kO K (.val (.int i),ρ)=K (some i,ρ):=(rfl)
variable(K:List D×Env->R β)
theorem xI_seq(a:E):(iI cl (.seq a) ρ).th K=(JZ a (iR cl a) ρ).th (qiq K):=by rw[qfV,qf];rfl
theorem xI_rng(a:E):(iI cl (.rng a) ρ).th K=(iR cl a ρ).th (qir K):=by rw[qfW,qf];rfl
theorem xI_enum(a:E):(iI cl (.enum a) ρ).th K=(JZ a (iR cl a) ρ).th (qf1 K):=by rw[qdr,qf];rfl
theorem ySeq(s:Sk)(l:List D):qiq K ((s,l),ρ)=K (l,ρ):=(rfl)
theorem yRng(n:Int):qir K (.val (.int n),ρ)=if qO n=true then K (qN 0 n,ρ) else .no:=by show R.th (if qO n=true then _ else _) K=_;rw[zS];rfl
theorem yEnum(l:List D):qf1 K ((.lst,l),ρ)=K (zw l,ρ):=(rfl)
end
section
variable(ρ:Env)(s:Sl)(i:Nat)(d:D)(l:List D)
theorem yVal(K:D×Env->R β):qhL K (.val d,ρ)=K (d,ρ):=(rfl)
theorem yValt(K:D×Env->R β):qhL K (.tmp l,ρ)=K (.lst l,ρ):=(rfl)
theorem yX(K:Rv->R β):kX K (.val d,ρ)=K (.val d):=(rfl)
theorem yXt(K:Rv->R β):kX K (.tmp l,ρ)=K (.tmp l):=(rfl)
theorem yAx(K:Sl×Env->R β):kAx K (.val d,ρ)=K (.val d,ρ):=(rfl)
theorem yAxt(K:Sl×Env->R β):kAx K (.tmp l,ρ)=K (.own l,ρ):=(rfl)
theorem yCons{α:Type}(K:α×Env->R β)(x:α):qf2 s K (x,ρ)=K (x,s::ρ):=(rfl)
theorem xE_s(K:D×Env->R β):(slE (s::ρ) (i+1)).th K=(slE ρ i).th (qf2 s K):=by rw[qhE,qf];rfl
theorem xE_v(K:D×Env->R β):(slE (.val d::ρ) 0).th K=K (d,.val d::ρ):=(rfl)
variable(K:(Sk×List D)×Env->R β)
theorem xL_l:(slL (.val (.lst l)::ρ) 0).th K=K ((.lst,l),.val (.lst l)::ρ):=(rfl)
theorem xL_z(z:Str):(slL (.val (.str z)::ρ) 0).th K=K ((.str,qah z),.val (.str z)::ρ):=(rfl)
end
section
variable(ρ:Env)(K:Fl->R β)(i:Nat)
theorem xS_expr(e:E):(iS cl w (.expr e) ρ).th K=(iR cl e ρ).th (qhM K):=by rw[qdm,qf];rfl
theorem oGo_some(l:List D)(x:R β):oGo (some l) x=x:=(rfl)
theorem xS_app(e:E):(iS cl w (.app i e) ρ).th K=oGo (yG ρ i) ((zR e (iR cl e) ρ).th (qis i K)):=by
 rw[qfx]
 cases yG ρ i with
 |none=>rfl
 |some l=>show R.th (R.th (zR e (iR cl e) ρ) _) K=_;rw[qf];rfl
theorem yApp(d:D):qis i K (d,ρ)=qds i d ρ K (yG ρ i):=(rfl)
theorem yApp2(d:D)(l:List D):qds i d ρ K (some l)=if l.length < sizeLine then K (.next (ρ.set i (.own (l++[d])))) else .no:=by show R.th (if l.length < sizeLine then _ else _) K=_;rw[zS];rfl
theorem xS_ret(e:E):(iS cl w (.ret e) ρ).th K=(qaL e (iR cl e) ρ).th (kRt K):=by rw[qfy,qf];rfl
theorem yRt(r:Rv):kRt K r=K (.ret r):=(rfl)
theorem xS_set(e:E):(iS cl w (.set i e) ρ).th K=(QS e (iR cl e) ρ).th (qit i K):=by rw[qfz,qf];rfl
theorem ySet(s:Sl):qit i K (s,ρ)=K (.next (ρ.set i s)):=(rfl)
theorem xS_setT(tg:Tg)(e:E):(iS cl w (.setT tg e) ρ).th K=(zR e (iR cl e) ρ).th (kST tg K):=by rw[qdn,qf];refine qB _ λx=>?_;rw[qf];rfl
theorem yST(tg:Tg)(d:D):kST tg K (d,ρ)=(tg.go d ρ).th (kNx K):=(rfl)
theorem yNx:kNx K ρ=K (.next ρ):=(rfl)
theorem xS_ite(c:T)(a b:Ss):(iS cl w (.ite c a b) ρ).th K=(iT cl c ρ).th (qiu cl w a b K):=by rw[qfA,qf];refine qB _ λt=>?_;rw[zS];rfl
theorem yIte(a b:Ss)(t:Bool):qiu cl w a b K (t,ρ)=if t=true then (iSs cl w a ρ).th K else (iSs cl w b ρ).th K:=(rfl)
theorem xS_for(tg:Tg)(src:I)(b:Ss):(iS cl w (.for_ tg src b) ρ).th K=(iI cl src ρ).th (qiv cl w tg b K):=by rw[qfB,qf];rfl
theorem yFor(tg:Tg)(b:Ss)(l:List D):qiv cl w tg b K (l,ρ)=(J9 cl w tg b l ρ).th K:=(rfl)
def qix(n:Str)(K:Fl->R β)(x:List D×Env):R β:=(mkX cl.x cl.cs n x.1).th K
theorem xS_rai(n:Str)(l:Es):(iS cl w (.rai n l) ρ).th K=(noX (iEs cl l ρ)).th (qix cl n K):=by rw[qfC,qf];rfl
theorem yRai(n:Str)(l:List D):qix cl n K (l,ρ)=(mkX cl.x cl.cs n l).th K:=(rfl)
theorem xS_try(b:Ss)(hs:List (Str×Nat×Nat)):(iS cl w (.try_ b hs) ρ).th K=(qhA cl hs ρ.length ((iSs cl w b ρ).th R.ok)).th K:=by rw[qfD,qu]
theorem yTry_exc(hs:List (Str×Nat×Nat))(n:Nat)(C:Addr)(l:List (Str×D)):qhA cl hs n (.exc C l)=jg cl.cs n C l hs:=(rfl)
theorem th_exc{α:Type}(c:Addr)(l:List (Str×D))(K:α->R β):(R.exc c l:R α).th K=.exc c l:=(rfl)
theorem xSs_nil:(iSs cl w .nil ρ).th K=K (.next ρ):=(rfl)
theorem xSs_cons(s:S)(l:Ss):(iSs cl w (.cons s l) ρ).th K=(iS cl w s ρ).th (qdt cl w l K):=by rw[qa3,qf];rfl
theorem yNext(l:Ss):qdt cl w l K (.next ρ)=(iSs cl w l ρ).th K:=(rfl)
theorem yNextr(l:Ss)(r:Rv):qdt cl w l K (.ret r)=K (.ret r):=(rfl)
theorem xFo_nil(tg:Tg)(b:Ss):(J9 cl w tg b [] ρ).th K=K (.next ρ):=(rfl)
theorem xFo_cons(tg:Tg)(b:Ss)(d:D)(l:List D):(J9 cl w tg b (d::l) ρ).th K=(tg.go d ρ).th (qiw cl w tg b l K):=by rw[ZY,qf,qf];refine qB _ λρ2=>?_;rfl
theorem yFo1(tg:Tg)(b:Ss)(l:List D):qiw cl w tg b l K ρ=(iSs cl w b ρ).th (qgQ cl w tg b l K):=(rfl)
theorem yFo2(tg:Tg)(b:Ss)(l:List D):qgQ cl w tg b l K (.next ρ)=(J9 cl w tg b l ρ).th K:=(rfl)
theorem yFo2r(tg:Tg)(b:Ss)(l:List D)(r:Rv):qgQ cl w tg b l K (.ret r)=K (.ret r):=(rfl)
end
section
variable(ρ:Env)(K:List D->R β)(e:E)(tg:Tg)(c:F)(l acc:List D)(d:D)
theorem xP_cons:(jl cl e tg c (d::l) ρ acc).th K=(tg.go d ρ).th (kP1 cl e tg c l acc K):=by
 rw[QO,qf];refine qB _ λρ1=>?_;rw[qf];refine qB _ λbt=>?_;rw[zS,qf];show(if bt.1=true then _ else _)=(if bt.1=true then _ else _)
 by_cases h:bt.1=true
 ·rw[if_pos h,if_pos h];refine qB _ λx=>?_;rw[zS];rfl
 ·rw[if_neg h,if_neg h]
theorem yP1:kP1 cl e tg c l acc K ρ=(iF cl c ρ).th (kP2 cl e tg c l acc K):=(rfl)
theorem yP2(t:Bool):kP2 cl e tg c l acc K (t,ρ)=if t=true then (zR e (iR cl e) ρ).th (kP3 cl e tg c l acc K) else (jl cl e tg c l ρ acc).th K:=(rfl)
theorem yP3:kP3 cl e tg c l acc K (d,ρ)=if acc.length < sizeLine then (jl cl e tg c l ρ (acc++[d])).th K else .no:=(rfl)
end
end
def vc:E->Bool
 |.var _=>true
 |.con _=>true
 |_=>false
theorem vc_bin(op:Operator)(a b:E):vc (.bin op a b)=false:=(rfl)
theorem vc_neg(a:E):vc (.neg a)=false:=(rfl)
theorem vc_and(a b:E):vc (.and a b)=false:=(rfl)
theorem vc_or(a b:E):vc (.or a b)=false:=(rfl)
theorem vc_idx(a b:E):vc (.idx a b)=false:=(rfl)
theorem vc_lst(l:Es):vc (.lst l)=false:=(rfl)
theorem vc_tup(l:Es):vc (.tup l)=false:=(rfl)
theorem vc_call(f:Str)(l:Es):vc (.call f l)=false:=(rfl)
theorem vc_b1(f:B1)(a:E):vc (.b1 f a)=false:=(rfl)
theorem vc_fld(a:E)(x:Str):vc (.fld a x)=false:=(rfl)
theorem vc_met(a:E)(x:Str)(l:Es):vc (.met a x l)=false:=(rfl)
theorem vc_comp(e:E)(src:I)(tg:Tg)(c:F)(n:Nat)(fr:List Nat):vc (.comp e src tg c n fr)=false:=(rfl)
section
variable{β:Type}(r:Env->R (Rv×Env))(ρ:Env)
theorem eE_g{e:E}(h:vc e=false)(K:D×Env->R β):(zR e r ρ).th K=(r ρ).th (qhL K):=by rw[show zR e r ρ=(r ρ).th qd4 from(by cases e<;>first | rfl | (cases h)),qf];rfl
theorem eX_g{e:E}(h:vc e=false)(K:Rv->R β):(qaL e r ρ).th K=(r ρ).th (kX K):=by rw[show qaL e r ρ=(r ρ).th λx=>match x.1 with |.val d=>R.ok (.val d) |.tmp l=>.ok (.tmp l) |_=>.no from(by cases e<;>first | rfl | (cases h)),qf];rfl
theorem eA_g{e:E}(h:vc e=false)(K:Sl×Env->R β):(QS e r ρ).th K=(r ρ).th (kAx K):=by rw[show QS e r ρ=(r ρ).th λx=>match x.1 with |.val d=>R.ok (.val d,x.2) |.tmp l=>.ok (.own l,x.2) |_=>.no from(by cases e<;>first | rfl | (cases h)),qf];rfl
theorem eE_var(K:D×Env->R β)(i:Nat):(zR (.var i) r ρ).th K=(slE ρ i).th K:=(rfl)
theorem eE_con(K:D×Env->R β)(d:D):(zR (.con d) r ρ).th K=K (d,ρ):=(rfl)
theorem eL_var(K:(Sk×List D)×Env->R β)(i:Nat):(JZ (.var i) r ρ).th K=(slL ρ i).th K:=(rfl)
theorem eX_var(K:Rv->R β)(i:Nat):(qaL (.var i) r ρ).th K=(slX ρ i).th K:=(rfl)
theorem eX_con(K:Rv->R β)(d:D):(qaL (.con d) r ρ).th K=K (.val d):=(rfl)
theorem eA_con(K:Sl×Env->R β)(d:D):(QS (.con d) r ρ).th K=K (.val d,ρ):=(rfl)
end
theorem bAdd(a b:Int):Qb .Add (.val (.int a)) (.val (.int b))=.ok (.val (.int (a+b))):=(rfl)
theorem bAdds(a b:Str):Qb .Add (.val (.str a)) (.val (.str b))=if a.length+b.length<=sizeLine then .ok (.val (.str (a++b))) else .no:=(rfl)
theorem bAddtt(a b:List D):Qb .Add (.tmp a) (.tmp b)=if a.length+b.length<=sizeLine then .ok (.tmp (a++b)) else .no:=(rfl)
theorem bSub(a b:Int):Qb .Sub (.val (.int a)) (.val (.int b))=.ok (.val (.int (a - b))):=(rfl)
theorem bMult(a b:Int):Qb .Mult (.val (.int a)) (.val (.int b))=if YG a b=true then .ok (.val (.int (a * b))) else .no:=(rfl)
theorem bDiv(a b:Int):Qb .FloorDiv (.val (.int a)) (.val (.int b))=if 0 < b/\b < 1073741824 then .ok (.val (.int (a / b))) else if b < 0/\-1073741824 < b then .ok (.val (.int (a.fdiv b))) else .no:=(rfl)
theorem bMod(a b:Int):Qb .Mod (.val (.int a)) (.val (.int b))=if 0 < b then .ok (.val (.int (a % b))) else if b < 0 then .ok (.val (.int (a.fmod b))) else .no:=(rfl)
theorem bPow(a b:Int):Qb .Pow (.val (.int a)) (.val (.int b))=if 0<=b/\b<=1000000/\a.natAbs < 2 ^ 64 then .ok (.val (.int (a ^ b.toNat))) else .no:=(rfl)
theorem cEq(x y:Rv):yJ .Eq x y=eqD x.data y.data:=(rfl)
theorem cNe(x y:Rv):yJ .NotEq x y=(eqD x.data y.data).map (!·):=(rfl)
theorem cLt(a b:Int):yJ .Lt (.val (.int a)) (.val (.int b))=some (decide (a < b)):=(rfl)
theorem cLe(a b:Int):yJ .LtE (.val (.int a)) (.val (.int b))=some (decide (a<=b)):=(rfl)
theorem cGt(a b:Int):yJ .Gt (.val (.int a)) (.val (.int b))=some (decide (b < a)):=(rfl)
theorem cNi(x y:Rv):yJ .NotIn x y=(qbz x y).map (!·):=(rfl)
theorem mIn(a b:Str):qbz (.val (.str a)) (.val (.str b))=some (qaJ a b):=(rfl)
theorem rgoV(i:Nat)(d:D)(ρ:Env):Tg.go (.one i) d ρ=.ok (ρ.set i (.val d)):=(rfl)
theorem rgoT(l:List Nat)(ds:List D)(ρ:Env):Tg.go (.many l) (.tup ds) ρ=Jh l ds ρ:=(rfl)
theorem setIs_nil(ρ:Env):Jh [] [] ρ=.ok ρ:=(rfl)
theorem setIs_cons(i:Nat)(l:List Nat)(d:D)(ds:List D)(ρ:Env):Jh (i::l) (d::ds) ρ=Jh l ds (ρ.set i (.val d)):=(rfl)
end DE
namespace DE
open PySem L2
section
variable{α β:Type}(f:α->β)(a b:α)(l m:List α)(n:Nat)
theorem g_mapc:List.map f (a::l)=f a::List.map f l:=(rfl)
theorem g_mapn:List.map f []=[]:=(rfl)
theorem g_lenc:(a::l).length=l.length+1:=(rfl)
theorem g_lenn:([]:List α).length=0:=(rfl)
theorem g_rep0:List.replicate 0 a=[]:=(rfl)
theorem g_reps:List.replicate (n+1) a=a::List.replicate n a:=(rfl)
theorem g_appc:(a::l)++m=a::(l++m):=(rfl)
theorem g_appn:[]++m=m:=(rfl)
theorem g_set0:(a::l).set 0 b=b::l:=(rfl)
theorem g_sets:(a::l).set (n+1) b=a::l.set n b:=(rfl)
theorem g_nott:(!true)=false:=(rfl)
theorem g_notf:(!false)=true:=(rfl)
theorem g_omap:Option.map f (some a)=some (f a):=(rfl)
theorem g_fe:(false=true)=False:=Bool.false_eq_true
theorem g_and(p:Prop):(p/\p)=p:=and_self p
theorem g_dt(h:Decidable True):@decide True h=true:=decide_true ..
theorem g_df(h:Decidable False):@decide False h=false:=decide_false ..
end
def aL(b:Bool)(l:List D):Ar:=match b with
 |true=>.bor l
 |false=>.val (.lst l)
def rA(b:Bool)(l:List D):Rv:=match b with
 |true=>.cell l
 |false=>.val (.lst l)
def pS(b:Bool)(l:List D):Sl:=match b with
 |true=>.bor l
 |false=>.val (.lst l)
section
variable{β:Type}(b:Bool)(l:List D)(ρ:DE.Env)
theorem lend_v(d:D):qgL (.val d)=.val d:=(rfl)
theorem lend_o:qgL (.own l)=.bor l:=(rfl)
theorem qjB:aL true l=.bor l:=rfl
theorem qjC:aL false l=.val (.lst l):=rfl
theorem sA_p:toSl (aL b l)=pS b l:=by cases b<;>rfl
theorem sA_R:slR (pS b l::ρ) 0=.ok (rA b l):=by cases b<;>rfl
theorem sA_L(K:(Sk×List D)×DE.Env->R β):(slL (pS b l::ρ) 0).th K=K ((.lst,l),pS b l::ρ):=by cases b<;>rfl
theorem rA_l:(rA b l).list?=some l:=by cases b<;>rfl
theorem rA_s:(rA b l).str?=none:=by cases b<;>rfl
theorem rA_t:(rA b l).tup?=none:=by cases b<;>rfl
theorem rA_y:Ty.list.go (rA b l)=some true:=by cases b<;>rfl
end
noncomputable abbrev RW(pg:Pg)(f:Str)(c:Nat×Nat×Ss):Prop:=∀(k:Nat) (args:List Ar),clK pg (k+1) f args=runD (pg.kk k) 1000 c args
noncomputable abbrev USs(b c:Ss):Prop:=∀{β:Type} (cl:Cl) (w:Nat) (ρ:DE.Env) (K:Fl->R β),(iSs cl w b ρ).th K=(iSs cl w c ρ).th K
noncomputable abbrev UE(b c:E):Prop:=∀{β:Type} (cl:Cl) (ρ:DE.Env) (K:D×DE.Env->R β),(zR b (iR cl b) ρ).th K=(zR c (iR cl c) ρ).th K
end DE
namespace DG
open PySem L2 DE
noncomputable def yZ:Nat×Nat×Ss:=(1,1,%[.ret (.and (.isi Ty.int (.var 0)) (.one (.not (.isi Ty.bool (.var 0)))))|0])
noncomputable def qY:Nat×Nat×Ss:=(3,3,%[.ret (.and (.call "is_whole" %[0|0]) (.and (.cmp .LtE (.var 1) (.var 0)) (.one (.cmp .LtE (.var 0) (.var 2)))))|0])
noncomputable def zi:Nat×Nat×Ss:=(2,2,%[.ret (.and (.call "is_between" %[0,.con (.int 0),.con (.int 1000000000)|0]) (.and (.call "is_between" %[1,.con (.int 0),.con (.int 1000000000)|0]) (.one (.cmp .LtE (.var 0) (.var 1)))))|0])
noncomputable abbrev zA:Ss:=%[.ite (.cmp .NotIn (.var 2) (.var 1)) %[.ret (.con (.bl false))|0] .nil|0]
def qK:Ss:=zA
theorem qR:USs qK zA:=λ_ _ _ _=>(rfl)
noncomputable def zB:Nat×Nat×Ss:=(2,3,%[.for_ (.one 2) (.seq (.var 0)) qK,.ret (.con (.bl true))|0])
noncomputable def zC:Nat×Nat×Ss:=(1,1,%[.ite (.not (.val (.isi Ty.str (.var 0)))) %[.ret (.con (.bl false))|0] .nil,.ret (.and (.cmp .LtE (.con (.int 1)) (.b1 .len (.var 0))) (.and (.cmp .LtE (.b1 .len (.var 0)) (.con (.int 8))) (.one (.call "is_made_of" %[0,.con (.str "abcdefghijklmnopqrstuvwxyz")|0]))))|0])
class CH(pg:Pg):Prop where
 r_is_whole:RW pg "is_whole" yZ
 r_is_between:RW pg "is_between" qY
 r_are_days:RW pg "are_days" zi
 r_is_made_of:RW pg "is_made_of" zB
 r_is_name:RW pg "is_name" zC
noncomputable def jm:Nat×Nat×Ss:=(1,1,%[.ite (.or (.not (.val (.isi Ty.tuple (.var 0)))) (.one (.cmp .NotEq (.b1 .len (.var 0)) (.con (.int 3))))) %[.ret (.con (.bl false))|0] .nil,.ret (.and (.call "is_name" %[.idx (.var 0) (.con (.int 0))|0]) (.one (.call "are_days" %[.idx (.var 0) (.con (.int 1)),.idx (.var 0) (.con (.int 2))|0])))|0])
noncomputable abbrev jo:Ss:=%[.ite (.or (.not (.val (.call "is_stay" %[3|0]))) (.one (.cmp .LtE (.idx (.var 3) (.con (.int 1))) (.var 1)))) %[.rai "NoStay" %[2|0]|0] .nil,.set 1 (.idx (.var 3) (.con (.int 2)))|0]
def qZ:Ss:=jo
theorem qL:USs qZ jo:=λ_ _ _ _=>(rfl)
noncomputable def zP:Nat×Nat×Ss:=(1,4,%[.ite (.not (.val (.isi Ty.list (.var 0)))) %[.rai "NoStay" %[.con .non|0]|0] .nil,.set 1 (.neg (.con (.int 1))),.for_ (.many [2,3]) (.enum (.var 0)) qZ,.ite (.cmp .Gt (.b1 .len (.var 0)) (.con (.int 60))) %[.rai "NoStay" %[.con .non|0]|0] .nil,.ret (.b1 .list (.var 0))|0])
class ST(pg:Pg):Prop where
 r_is_stay:RW pg "is_stay" jm
 r_stays_of:RW pg "stays_of" zP
end DG
namespace FA
open PySem L2 DE DG
noncomputable def zb:Nat×Nat×Ss:=(2,2,%[.ite (.cmp .Lt (.var 1) (.b1 .len (.var 0))) %[.ret (.idx (.var 0) (.var 1))|0] .nil,.ret (.con (.int 0))|0])
class LC(pg:Pg):Prop where
 r__law_cell_at:RW pg "_law_cell_at" zb
noncomputable abbrev zD:Ss:=%[.set 9 (.bin .Add (.bin .Add (.bin .FloorDiv (.var 0) (.con (.int 64))) (.bin .Mult (.bin .Mult (.con (.int 5)) (.var 8)) (.var 8))) (.bin .Mult (.bin .Mult (.con (.int 3)) (.var 6)) (.b1 .int (.cmp .Eq (.var 8) (.var 4))))),.set 7 (.bin .Add (.var 7) (.idx (.var 2) (.bin .Mod (.var 9) (.con (.int 26)))))|0]
def qM:Ss:=zD
theorem jQ:USs qM zD:=λ_ _ _ _=>(rfl)
noncomputable abbrev zE:Ss:=%[.set 7 (.con (.str "")),.for_ (.one 8) (.rng (.var 3)) qM,.app 5 (.var 7)|0]
def zc:Ss:=zE
theorem jR:USs zc zE:=λ_ _ _ _=>(rfl)
noncomputable def jI:Nat×Nat×Ss:=(2,10,%[.set 2 (.con (.str "abcdefghijklmnopqrstuvwxyz")),.set 3 (.bin .Add (.con (.int 1)) (.bin .Mod (.var 0) (.con (.int 8)))),.set 4 (.bin .Mod (.bin .FloorDiv (.var 0) (.con (.int 8))) (.var 3)),.set 5 (.lst .nil),.for_ (.one 6) (.rng (.var 1)) zc,.ret (.var 5)|0])
class LN(pg:Pg):Prop where
 r__law_lands:RW pg "_law_lands" jI
end FA
namespace DG
open PySem L2 DE
open CH ST
section
variable{pg:Pg}[CH pg]
theorem Jt(k:Nat)(n:Int):clK pg (k+1) "is_whole" [.val (.int n)]=.ok (.val (.bl true)):=by rw[r_is_whole];simp? only[yZ]
theorem qV(k:Nat)(n a b:Int)(h1:a<=n)(h2:n<=b):clK pg (k+2) "is_between" [.val (.int n),.val (.int a),.val (.int b)]=.ok (.val (.bl true)):=by rw[r_is_between];simp? only[qY,Jt,h1,h2,decide_true]
theorem qdu(k:Nat)(a b:Int)(h0:0<=a)(h1:a<=b)(h2:b<=1000000000):clK pg (k+3) "are_days" [.val (.int a),.val (.int b)]=.ok (.val (.bl true)):=by
 have h3:a<=1000000000:=by lia
 have h4:0<=b:=by lia
 rw[r_are_days];simp? only[zi,qV k a 0 1000000000 h0 h3,qV k b 0 1000000000 h4 h2,h1,decide_true]
def yw(c:Nat):Prop:=97<=c/\c < 123
theorem qdv(c:Nat)(h:yw c):qaJ ⟨#[c]⟩ "abcdefghijklmnopqrstuvwxyz" = true:=by
 have key:∀j:Fin 26,qaJ ⟨#[97+j.val]⟩ "abcdefghijklmnopqrstuvwxyz" = true:=by decide+kernel
 have:=key ⟨c - 97,by unfold yw at h;lia⟩
 rw[show 97+(c - 97)=c by unfold yw at h;lia] at this;exact this
theorem Yc(k:Nat)(z:Str):∀(l:List Nat) (s:Sl),(∀c∈l,yw c)->∃s',J9 (pg.kk k) 1000 (.one 2) qK (l.map λc=>D.str ⟨#[c]⟩) [.val (.str z),.val (.str "abcdefghijklmnopqrstuvwxyz"),s]=.ok (.next [.val (.str z),.val (.str "abcdefghijklmnopqrstuvwxyz"),s'])
 |[],s,_=>⟨s,by rw[List.map_nil,qa2]⟩
 | c::l,s,h=>by obtain⟨s',e⟩:=Yc k z l (.val (.str ⟨#[c]⟩)) λx hx=>h x (by simp[hx]);refine⟨s',?_⟩;refine(qu _).symm.trans ?_;rw[List.map_cons];simp? only[qR,qdv c (h c (by simp)),e]
theorem qdw(k:Nat)(z:Str)(h:∀c∈z.cps.toList,yw c):clK pg (k+1) "is_made_of" [.val (.str z),.val (.str "abcdefghijklmnopqrstuvwxyz")]=.ok (.val (.bl true)):=by rw[r_is_made_of];obtain⟨s',e⟩:=Yc (pg:=pg) k z z.cps.toList .no h;simp? only[zB,Nat.reduceAdd,Nat.reduceSub,qah,e]
structure NameOk(z:Str):Prop where
 one:1<=z.cps.size
 eight:z.cps.size<=8
 lets:∀c∈z.cps.toList,yw c
theorem Z0(k:Nat)(z:Str)(h:NameOk z):clK pg (k+2) "is_name" [.val (.str z)]=.ok (.val (.bl true)):=by
 have hz:z.length<=sizeLine:=by
  have:=h.eight
  show z.cps.size<=2 ^ 24
  lia
 have h1:(1:Int)<=(z.length:Int):=by
  have:=h.one
  show(1:Int)<=(z.cps.size:Int)
  lia
 have h8:(z.length:Int)<=8:=by
  have:=h.eight
  show(z.cps.size:Int)<=8
  lia
 rw[r_is_name];simp? only[zC,hz,h1,h8,decide_true,qdw k z h.lets]
def stD(s:Str×Int×Int):D:=.tup [.str s.1,.int s.2.1,.int s.2.2]
theorem qF(s:Str×Int×Int):stD s=.tup [.str s.1,.int s.2.1,.int s.2.2]:=rfl
structure StOk(e:Int)(s:Str×Int×Int):Prop where
 nm:NameOk s.1
 lo:e < s.2.1
 ab:s.2.1<=s.2.2
 hi:s.2.2<=1000000000
end
section
variable{pg:Pg}[CH pg][ST pg]
theorem YL(k:Nat)(e:Int)(s:Str×Int×Int)(he:-1<=e)(h:StOk e s):clK pg (k+4) "is_stay" [.val (stD s)]=.ok (.val (.bl true)):=by
 have hlo:=h.lo;have hab:=h.ab;rw[r_is_stay];have e0:atI [D.str s.1,D.int s.2.1,D.int s.2.2] 0=some (.str s.1):=by rfl
 have e1:atI [D.str s.1,D.int s.2.1,D.int s.2.2] 1=some (.int s.2.1):=by rfl
 have e2:atI [D.str s.1,D.int s.2.1,D.int s.2.2] 2=some (.int s.2.2):=by rfl
 simp? only[jm,stD,e0,e1,e2,zm,Z0 (k+1) s.1 h.nm,qdu k s.2.1 s.2.2 (by lia) h.ab h.hi,show((((0+1+1+1:Nat):Int) == 3)=true) from rfl]
def Ch:Int->List (Str×Int×Int)->Prop
 |_,[]=>True
 | e,s::l=>StOk e s/\Ch s.2.2 l
theorem jy(k:Nat)(v:Sl):∀(l:List (Str×Int×Int)) (i:Nat) (e:Int) (s2 s3:Sl),-1<=e->Ch e l->∃e' s2' s3',J9 (pg.kk (k+4)) 1000 (.many [2,3]) qZ (enF i (l.map stD)) [v,.val (.int e),s2,s3]=.ok (.next [v,.val (.int e'),s2',s3'])
 |[],i,e,s2,s3,_,_=>⟨e,s2,s3,rfl⟩
 | s::l,i,e,s2,s3,he,h=>by
  have h1:=h.1.lo;have h2:=h.1.ab;obtain⟨e',s2',s3',ih⟩:=jy k v l (i+1) s.2.2 (.val (.int i)) (.val (stD s)) (by lia) h.2;refine⟨e',s2',s3',?_⟩;have hn:¬ s.2.1<=e:=by lia
  have st:=YL (pg:=pg) k e s he h.1;simp only[qF] at st ih;refine(qu _).symm.trans ?_;rw[List.map_cons,enF];simp? only[qL,qF,st,hn,ih]
theorem qa6(k:Nat)(b:Bool)(l:List (Str×Int×Int))(h:Ch (-1) l)(hl:l.length<=60):clK pg (k+5) "stays_of" [aL b (l.map stD)]=.ok (.tmp (l.map stD)):=by
 have h6:¬ (60:Int) < ((l.map stD).length:Int):=by rw[List.length_map];lia
 obtain⟨e',s2',s3',ih⟩:=jy (pg:=pg) k (pS b (l.map stD)) l 0 (-1) .no .no (by lia) h;rw[r_stays_of];simp? only[zP,Nat.reduceAdd,Nat.reduceSub,Jr,ih,h6,decide_false]
end
end DG
namespace FA
open PySem L2 DE DG
open LC LN
theorem Z1{i j:Int}(h1:-(2 ^ 64) < j)(h2:j < 2 ^ 64):YG i j=true:=by unfold YG;rw[decide_eq_true h1,decide_eq_true h2];simp
theorem Qj{i j:Int}(h1:-(2 ^ 64) < i)(h2:i < 2 ^ 64):YG i j=true:=by unfold YG;rw[decide_eq_true h1,decide_eq_true h2];simp
def zj(ns:List Int)(i:Nat):Int:=ns.getD i 0
section
variable{pg:Pg}[LC pg]
theorem YM(k:Nat)(ns:List Int)(i:Nat):clK pg (k+1) "_law_cell_at" [.scr (ns.map D.int),.val (.int (i:Int))]=.ok (.val (.int (zj ns i))):=by
 rw[r__law_cell_at]
 by_cases h:i < ns.length
 ·have h1:(i:Int) < ((ns.map D.int).length:Int):=by rw[List.length_map];lia
  have h2:atI (ns.map D.int) (i:Int)=some (.int (zj ns i)):=qjz (by simp[h,zj]);simp? only[zb,Nat.reduceAdd,Nat.reduceSub,h1,h2,decide_true]
 ·have h1:¬ (i:Int) < ((ns.map D.int).length:Int):=by rw[List.length_map];lia
  have h2:zj ns i=0:=by simp[zj,h]
  simp? only[zb,Nat.reduceAdd,Nat.reduceSub,h1,h2,decide_false]
end
theorem qf3(i:Int)(h0:0<=i)(h1:i < 26):atI (Str.cps "abcdefghijklmnopqrstuvwxyz").toList i=some (97+i.toNat)/\yw (97+i.toNat):=by
 have key:∀j:Fin 26,atI (Str.cps "abcdefghijklmnopqrstuvwxyz").toList (j.val:Int)=some (97+j.val):=by decide+kernel
 obtain⟨j,rfl⟩:=Int.eq_ofNat_of_zero_le h0;exact⟨key ⟨j,by lia⟩,by unfold yw;simp;lia⟩
theorem qa7(z:Str)(c:Nat):(z++(⟨#[c]⟩:Str)).cps.toList=z.cps.toList++[c]:=by show(z.cps ++ #[c]).toList=_;simp
noncomputable def ltr(cell at' k:Int)(j:Nat):Nat:=97+((cell / 64+5 * (j:Int) * (j:Int)+3 * k * (if ((j:Int) == at')=true then 1 else 0)) % 26).toNat
theorem qdx(cell at' k:Int)(j:Nat):yw (ltr cell at' k j):=by
 unfold yw ltr
 lia
def Nm(cell at' k:Int)(j:Nat)(z:Str):Prop:=z.cps.toList=(List.range j).map (ltr cell at' k)
theorem Nm.ok{cell at' k:Int}{m:Nat}{z:Str}(h:Nm cell at' k m z)(h1:1<=m)(h8:m<=8):NameOk z:=by
 have e:z.cps.size=m:=by rw[<-Array.length_toList,h];simp
 refine⟨by lia,by lia,λc hc=>?_⟩;rw[h] at hc;obtain⟨j,_,rfl⟩:=List.mem_map.mp hc;exact qdx ..
theorem Nm.ne{cell at' k k':Int}{m:Nat}{z z':Str}(h:Nm cell at' k m z)(h':Nm cell at' k' m z')(h0:0<=at')(h1:at' < m)(hk:0<=k/\k < 4)(hk':0<=k'/\k' < 4)(ne:k≠k'):z≠z':=by
 rintro rfl;have e:(List.range m).map (ltr cell at' k)=(List.range m).map (ltr cell at' k'):=h.symm.trans h';have e2:=congrArg (λl=>l[at'.toNat]?) e;simp only[List.getElem?_map] at e2;rw[List.getElem?_range (by lia)] at e2;simp only[Option.map_some,Option.some.injEq] at e2;unfold ltr at e2;have ea:((at'.toNat:Nat):Int)=at':=by lia
 rw[ea,beq_self_eq_true,if_pos rfl] at e2
 lia
theorem QP(cl:Cl)(v1 v3 v5 s9:Sl)(cell at' k:Int)(j:Nat)(z:Str)(hj:j < 8)(hz:z.cps.size < 8) :
  ∃s9',iSs cl 1000 qM [.val (.int cell),v1,.val (.str "abcdefghijklmnopqrstuvwxyz"),v3,.val (.int at'),v5,.val (.int k),.val (.str z),.val (.int j),s9]=.ok (.next [.val (.int cell),v1,.val (.str "abcdefghijklmnopqrstuvwxyz"),v3,.val (.int at'),v5,.val (.int k),.val (.str (z++(⟨#[ltr cell at' k j]⟩:Str))),.val (.int j),s9']):=by
 have m1:YG 5 (j:Int)=true:=Qj (2:) (2:);have m2:YG (5 * (j:Int)) (j:Int)=true:=Z1 (by lia) (by lia);have m3:YG 3 k=true:=Qj (2:) (2:);have m4:YG (3 * k) (if ((j:Int) == at')=true then 1 else 0)=true:=Z1 (by split<;>decide) (by split<;>decide);have h1:=(qf3 ((cell / 64+5 * j * j+3 * k * (if ((j:Int) == at')=true then 1 else 0)) % 26) (Int.emod_nonneg _ (2:)) (Int.emod_lt_of_pos _ (2:))).1
 have hl:z.length+(⟨#[ltr cell at' k j]⟩:Str).length<=sizeLine:=by
  show z.cps.size+1<=2 ^ 24
  lia
 have h26:("abcdefghijklmnopqrstuvwxyz" : Str).length<=sizeLine:=by decide+kernel
 refine⟨.val (.int (cell / 64+5 * j * j+3 * k * (if ((j:Int) == at')=true then 1 else 0))),?_⟩;unfold ltr at hl ⊢;refine(qu _).symm.trans ?_;simp? only[jQ,m1,m2,m3,m4,zm,h1,hl,h26]
theorem qa8(cl:Cl)(v1 v3 v5:Sl)(cell at' k:Int)(n:Nat):∀(j:Nat) (z:Str) (s8 s9:Sl),j+n<=8->Nm cell at' k j z->
  ∃z' s8' s9',J9 cl 1000 (.one 8) qM (rgF (j:Int) n) [.val (.int cell),v1,.val (.str "abcdefghijklmnopqrstuvwxyz"),v3,.val (.int at'),v5,.val (.int k),.val (.str z),s8,s9]=.ok (.next [.val (.int cell),v1,.val (.str "abcdefghijklmnopqrstuvwxyz"),v3,.val (.int at'),v5,.val (.int k),.val (.str z'),s8',s9'])/\Nm cell at' k (j+n) z':=by
 induction n with
 |zero=>exactλj z s8 s9 _ hz=>⟨z,s8,s9,rfl,hz⟩
 |succ n ih=>
  intro j z s8 s9 hn hz;have sz:z.cps.size=j:=by rw[<-Array.length_toList,hz];simp
  obtain⟨t9,st⟩:=QP cl v1 v3 v5 s9 cell at' k j z (by lia) (by lia)
  obtain⟨z',s8',s9',ih,e1⟩:=ih (j+1) (z++(⟨#[ltr cell at' k j]⟩:Str)) (.val (.int j)) t9 (by lia) (by
   unfold Nm at hz ⊢;rw[qa7,hz,List.range_succ,List.map_append]
   rfl)
  refine⟨z',s8',s9',?_,by rw[show j+(n+1)=j+1+n by lia];exact e1⟩;rw[show((j+1:Nat):Int)=(j:Int)+1 from by lia] at ih;refine(qu _).symm.trans ?_;rw[rgF];simp only[xFo_cons,rgoV,List.set_cons_succ,List.set_cons_zero,th_ok,yFo1,st,yFo2,ih]
noncomputable def Nms(cell at':Int)(m:Nat)(zs:List Str):Prop:=∀(i:Nat) (z:Str),zs[i]?=some z->Nm cell at' (i:Int) m z
theorem Yd(cl:Cl)(v1:Sl)(cell at':Int)(m:Nat)(hm:1<=m/\m<=8):∀(n:Nat) (zs:List Str) (s6 s7 s8 s9:Sl),zs.length+n < 1000->Nms cell at' m zs->
  ∃(zs':List Str) (s6' s7' s8' s9':Sl),J9 cl 1000 (.one 6) zc (rgF (zs.length:Int) n) [.val (.int cell),v1,.val (.str "abcdefghijklmnopqrstuvwxyz"),.val (.int (m:Int)),.val (.int at'),.own (zs.map D.str),s6,s7,s8,s9]=.ok (.next [.val (.int cell),v1,.val (.str "abcdefghijklmnopqrstuvwxyz"),.val (.int (m:Int)),.val (.int at'),.own (zs'.map D.str),s6',s7',s8',s9'])/\zs'.length=zs.length+n/\Nms cell at' m zs'
 |0,zs,s6,s7,s8,s9,_,hz=>⟨zs,s6,s7,s8,s9,rfl,rfl,hz⟩
 | n+1,zs,s6,s7,s8,s9,hl,hz=>by
  obtain⟨z,s8',s9',e,h1⟩:=qa8 cl v1 (.val (.int (m:Int))) (.own (zs.map D.str)) cell at' (zs.length:Int) m 0 "" s8 s9 (by lia) rfl;rw[Nat.zero_add] at h1
  obtain⟨zs',t6,t7,t8,t9,ih,h3,h4⟩:=Yd cl v1 cell at' m hm n (zs++[z]) (.val (.int (zs.length:Int))) (.val (.str z)) s8' s9' (by simp;lia) (λi x hx=>by
   by_cases q:i < zs.length
   ·rw[List.getElem?_append_left q] at hx;exact hz i x hx
   ·rw[List.getElem?_append_right (by lia)] at hx
    have:i - zs.length=0:=by
     have:=(List.getElem?_eq_some_iff.mp hx).1
     simp at this
     lia
    rw[this] at hx;simp at hx;subst hx
    have:i=zs.length:=by lia
    subst this;exact h1)
  refine⟨zs',t6,t7,t8,t9,?_,by rw[h3];simp;lia,h4⟩
  have hs:qO (m:Int)=true:=by
   unfold qO;simp
   lia
  have hz':(zs.map D.str).length < sizeLine:=by
   rw[List.length_map];show _ < 2 ^ 24
   lia
  rw[List.length_append,List.length_singleton,show((zs.length+1:Nat):Int)=(zs.length:Int)+1 from by lia] at ih;refine(qu _).symm.trans ?_;rw[rgF];rw[show((0:Nat):Int)=0 from rfl] at e;simp only[List.map_append,List.map_cons,List.map_nil] at ih;simp? only[jR,hs,Yb,Int.sub_zero,Int.toNat_natCast,e,hz',ih]
structure NamesOk(zs:List Str):Prop where
 two:2<=zs.length
 four:zs.length<=4
 ok:∀z∈zs,NameOk z
 once:∀(i j:Nat) (z:Str),zs[i]?=some z->zs[j]?=some z->i=j
section
variable{pg:Pg}[LN pg]
theorem qa9(k:Nat)(cell:Int)(n:Nat)(hn:2<=n/\n<=4):∃zs:List Str,clK pg (k+1) "_law_lands" [.val (.int cell),.val (.int (n:Int))]=.ok (.tmp (zs.map D.str))/\zs.length=n/\NamesOk zs:=by
 have hm:∃m:Nat,(1+cell % 8:Int)=(m:Int)/\1<=m/\m<=8:=⟨(1+cell % 8).toNat,by lia,by lia,by lia⟩;obtain⟨m,e,h1,h2⟩:=hm;have a0:0<=cell / 8 % (m:Int):=Int.emod_nonneg _ (by lia);have a1:cell / 8 % (m:Int) < m:=Int.emod_lt_of_pos _ (by lia);obtain⟨zs,s6,s7,s8,s9,h,h3,h4⟩:=Yd (pg.kk k) (.val (.int (n:Int))) cell (cell / 8 % (m:Int)) m ⟨h1,h2⟩ n [] .no .no .no .no (by simp;lia) (λi z hz=>by simp at hz);simp at h3;refine⟨zs,?_,h3,⟨by lia,by lia,λz hz=>?_,λi j z hi hj=>?_⟩⟩
 ·rw[List.map_nil] at h;have hp:(0:Int) < (m:Int):=by lia
  have hs:qO (n:Int)=true:=by
   unfold qO;simp
   lia
  rw[show((([]:List Str).length:Nat):Int)=0 from rfl] at h;rw[r__law_lands];simp? only[jI,Nat.reduceAdd,Nat.reduceSub,e,hp,show(0:Nat)<=sizeLine by decide+kernel,hs,Yb,Int.sub_zero,Int.toNat_natCast,h]
 ·obtain⟨i,hi⟩:=List.getElem?_of_mem hz;exact(h4 i z hi).ok h1 h2
 ·by_cases q:i=j
  ·exact q
  ·have li:=(List.getElem?_eq_some_iff.mp hi).1;have lj:=(List.getElem?_eq_some_iff.mp hj).1;exact absurd rfl (Nm.ne (h4 i z hi) (h4 j z hj) a0 a1 ⟨by lia,by lia⟩ ⟨by lia,by lia⟩ (by lia))
end
end FA
namespace DE
open PySem PySem.Spec PyProof.Rows L2
abbrev sf:Str:="self"
noncomputable def atE(e:Expr):Option (Expr×Str×Pos):=(vE e).bind (·.elim (λ_=>none) (·.elim (λ_=>none) (·.elim some λ_=>none)))
theorem qbS{e:Expr}{t:Expr×Str×Pos}(h:atE e=some t):e=.Attribute t.1 t.2.1 t.2.2:=by
 obtain⟨u,h1,h2⟩:=bind_some h
 have:=ZI h1
 match u,h2 with
 |.inr (.inr (.inl t)),h2=>cases h2;exact this
 |.inl _,h2=>cases h2
 |.inr (.inl _),h2=>cases h2
 |.inr (.inr (.inr _)),h2=>cases h2
noncomputable def jsE(e:Expr):Option (List Expr×Pos):=(vE e).bind (·.elim (λ_=>none) (·.elim (λ_=>none) (·.elim (λ_=>none) (·.elim some λ_=>none))))
theorem qf4{e:Expr}{t:List Expr×Pos}(h:jsE e=some t):e=.JoinedStr t.1 t.2:=by
 obtain⟨u,h1,h2⟩:=bind_some h
 have:=ZI h1
 match u,h2 with
 |.inr (.inr (.inr (.inl t))),h2=>cases h2;exact this
 |.inl _,h2=>cases h2
 |.inr (.inl _),h2=>cases h2
 |.inr (.inr (.inl _)),h2=>cases h2
 |.inr (.inr (.inr (.inr _))),h2=>cases h2
noncomputable def inA(st:Stmt):Option (Str×Str×Str):=(aN st).bind λq=>(atE q.1).bind λa=>(nmE a.1).bind λs=>(nmE q.2).bind λb=>some (s,a.2.1,b)
theorem Z2{st:Stmt}{t:Str×Str×Str}(h:inA st=some t):∃sp ap bp p,st=.Assign [.Attribute (.Name t.1 sp) t.2.1 ap] (.Name t.2.2 bp) p:=by obtain⟨q,h1,h2⟩:=bind_some h;clear h;obtain⟨a,h3,h4⟩:=bind_some h2;clear h2;obtain⟨s,h5,h6⟩:=bind_some h4;clear h4;obtain⟨b,h7,h8⟩:=bind_some h6;clear h6;obtain⟨p,e1⟩:=qeS h1;have e2:=qbS h3;obtain⟨sp,e3⟩:=zx h5;obtain⟨bp,e4⟩:=zx h7;clear h1 h3 h5 h7;cases h8;exact⟨sp,a.2.2,bp,p,by rw[e1,e2,e3,e4]⟩
noncomputable def qd5:List Stmt->Option (List Str)
 |[]=>some []
 | st::l=>(inA st).bind λt=>if t.1=sf/\t.2.2=t.2.1 then (qd5 l).map (t.2.1 :: ·) else none
noncomputable def pkE(e:Expr):Option (Str ⊕ Str):=(vE e).bind (·.elim (λ_=>none) (·.elim (λ_=>none) (·.elim (λ_=>none) (·.elim (λ_=>none) (·.elim (λt=>oif (decide (t.2.1 = -1)&&t.2.2.1.isNone) ((nmE t.1).map .inr)) λt=>(match t.1 with |.str z=>some (.inl z) |_=>none))))))
theorem qf5{e:Expr}{t:Str ⊕ Str}(h:pkE e=some t):t.elim (λz=>∃j p,e=.Constant (.str z) j p) λx=>∃np p,e=.FormattedValue (.Name x np) (-1) none p:=by
 obtain⟨u,h1,h2⟩:=bind_some h
 have:=ZI h1
 clear h h1
 match u,h2 with
 |.inl _,h2=>cases h2
 |.inr (.inl _),h2=>cases h2
 |.inr (.inr (.inl _)),h2=>cases h2
 |.inr (.inr (.inr (.inl _))),h2=>cases h2
 |.inr (.inr (.inr (.inr (.inl (y,i,f,p))))),h2=>obtain⟨hc,h2⟩:=qg h2;obtain⟨x,h3,rfl⟩:=map_some h2;obtain⟨np,e1⟩:=zx h3;rw[Bool.and_eq_true,decide_eq_true_eq] at hc;have e2:f=none:=Option.isNone_iff_eq_none.mp hc.2;have e3:i = -1:=hc.1;exact⟨np,p,by rw[this,<-e1,<-e3,<-e2];rfl⟩
 |.inr (.inr (.inr (.inr (.inr (c,j,p))))),h2=>cases c<;>first | (cases h2;exact⟨j,p,this⟩) | cases h2
noncomputable def Ju(ns:List Str):List Expr->Bool
 |[]=>true
 | e::l=>(pkE e).elim false λt=>t.elim (λz=>decide (z.length<=3000)) (λx=>ns.contains x&&qv x)&&Ju ns l
def exS(s:Stmt):Option Expr:=(vS s).bind (·.elim (λ_=>none) λt=>some t.1)
theorem qf6{s:Stmt}{x:Expr}(h:exS s=some x):∃p,s=.Expr x p:=by
 obtain⟨u,h1,h2⟩:=bind_some h
 have:=vsb s
 rw[h1] at this
 cases u with
 |inl u=>cases h2
 |inr u=>cases h2;exact⟨_,this⟩
noncomputable def inX(st:Stmt):Option (Str×Str×Str×List Expr×Bool):=(exS st).bind λx=>(caE x).bind λt=>(atE t.1).bind λa=>(nmE a.1).bind λd=>oif (t.2.2.1.isEmpty&&decide (t.2.1.length=2)) (t.2.1[0]?.bind λs0=>t.2.1[1]?.bind λj=>(nmE s0).bind λs=>(jsE j).bind λq=>some (d,a.2.1,s,q.1,a.2.2.endLine == t.2.2.2.line))
theorem qf7{α:Type}{l:List α}{a b:α}(h:l.length=2)(h0:l[0]?=some a)(h1:l[1]?=some b):l=[a,b]:=by
 match l,h with
 |[x,y],_=>cases h0;cases h1;rfl
theorem qbT{st:Stmt}{t:Str×Str×Str×List Expr×Bool}(h:inX st=some t):∃dp ap sp jp cp ep,st=.Expr (.Call (.Attribute (.Name t.1 dp) t.2.1 ap) [.Name t.2.2.1 sp,.JoinedStr t.2.2.2.1 jp] [] cp) ep/\t.2.2.2.2=(ap.endLine == cp.line):=by obtain⟨x,h1,h2⟩:=bind_some h;clear h;obtain⟨c,h3,h4⟩:=bind_some h2;clear h2;obtain⟨a,h5,h6⟩:=bind_some h4;clear h4;obtain⟨d,h7,h8⟩:=bind_some h6;clear h6;obtain⟨hc,h9⟩:=qg h8;clear h8;obtain⟨s0,g1,g2⟩:=bind_some h9;clear h9;obtain⟨j,g3,g4⟩:=bind_some g2;clear g2;obtain⟨s,g5,g6⟩:=bind_some g4;clear g4;obtain⟨q,g7,g8⟩:=bind_some g6;clear g6;rw[Bool.and_eq_true,decide_eq_true_eq] at hc;obtain⟨ep,e1⟩:=qf6 h1;have e2:=qbE h3;have e3:=qbS h5;obtain⟨dp,e4⟩:=zx h7;obtain⟨sp,e5⟩:=zx g5;have e6:=qf4 g7;have e7:=qf7 hc.2 g1 g3;have e8:=List.isEmpty_iff.mp hc.1;clear h1 h3 h5 h7 g1 g3 g5 g7 hc;cases g8;exact⟨dp,a.2.2,sp,q.2,c.2.2.2,ep,by rw[e1,e2,e3,e4,e7,e5,e6,e8],rfl⟩
noncomputable def qgR(D:Str)(ns:List Str)(st:Stmt):Bool:=match qk st with
 |[]=>false
 | s0::l=>(inX s0).elim false λt=>decide (t.1=D)&&decide (t.2.1 = "__init__")&&decide (t.2.2.1=sf)&&t.2.2.2.2&&Ju ns t.2.2.2.1&&decide (2<=t.2.2.2.1.length)&&decide (t.2.2.2.1.length<=22)&&decide (qd5 l=some ns)&&decide (zz st=sf::ns)&&decide (fnN st=sf::ns)&&qQ st&&qv D&&glB (qe st) D&&decide ns.Nodup&&ns.all qv&&!ns.contains sf&&decide (ns.length<=10)
theorem Qk{f:Str}{y:V}:∀{fs:List (Str×V)},f∉fs.map (·.1)->jE f y fs=fs++[(f,y)]
 |[],_=>rfl
 | (g,x)::r,h=>by have h1:g≠f:=λz=>h (by simp[z]);have h2:f∉r.map (·.1):=λz=>h (by simp[z]);show(if g=f then (g,y)::r else (g,x)::jE f y r)=_;rw[if_neg h1,Qk h2];rfl
section
variable{X:Cx}{C:Addr}
theorem yx(vis:∀y,y∈X.N->Vis X.env.scope y)(h0:X.N[0]?=some sf)(hc:∀n,n∈X.N->n≠sf->XcS X.K C n/\qv n=true):∀(l:List Stmt) (ns:List Str),qd5 l=some ns->∀(j:Nat) (fs:List (Str×V)) (us:List V),(∀(i:Nat) (n:Str),ns[i]?=some n->X.N[j+i]?=some n/\n≠sf)->us.length=ns.length->(fs.map (·.1)++ns).Nodup->fs.length+ns.length < 1000->
  ∃t,PSs X l t/\∀(x dd:Addr) (D:Ends) (σ:L2.St) (H:Hp),σ[0]?=some (some (.ref x))->(∀(i:Nat) (u:V),us[i]?=some u->σ[j+i]?=some (some u))->H x=some (zM x C (some dd))->H dd=some (xD dd fs)->dd≠x->D.nx σ (upd H dd (xD dd (fs++ns.zip us)))->t D σ H
 |[],ns,h=>by cases h;intro j fs us _ hl _ _;refine⟨_,j9,λx dd D σ H _ _ _ hd _ q=>?_⟩;rw[List.zip_nil_left,List.append_nil,Y4 hd] at q;exact q
 | st::l,ns,h=>by
  ·obtain⟨⟨s,a,b⟩,hA,h'⟩:=bind_some h;clear h;obtain⟨sp,ap,bp,p,rfl⟩:=Z2 hA;have h:(if s=sf/\b=a then (qd5 l).map (a :: ·) else none)=some ns:=h';clear h' hA;dsimp only
   by_cases hq:s=sf/\b=a
   case neg=>rw[if_neg hq] at h;cases h
   rw[if_pos hq] at h;obtain⟨ns,h1,rfl⟩:=map_some h;obtain⟨rfl,rfl⟩:=hq;intro j fs us hN hl nd hz
   match us,hl with
   | u::us,hl=>
    obtain⟨n0,n1⟩:=hN 0 b rfl;rw[Nat.add_zero] at n0;obtain⟨cS,nok⟩:=hc b (List.mem_of_getElem? n0) n1;obtain⟨m1,m2,m3⟩:=ql nok
    have nb:b∉fs.map (·.1):=λz=>by
     have:=(List.nodup_append.mp nd).2.2 b z b (by simp)
     exact this rfl
    obtain⟨t,ht,hr⟩:=yx vis h0 hc l ns h1 (j+1) (fs++[(b,u)]) us (λi n e=>by
     have:=hN (i+1) n (by simpa using e)
     rw[show j+1+i=j+(i+1) by lia];exact this) (by simpa using hl) (by rw[List.map_append,List.append_assoc];exact nd) (by simp only[List.length_append,List.length_cons,List.length_nil] at hz ⊢;lia)
    refine⟨_,qo (qcH (zo (i:=0) h0 (vis _ (List.mem_of_getElem? h0))) (zo (i:=j) n0 (vis _ (List.mem_of_getElem? n0)) m1 m2) (jk rfl _ _ _)) ht,λx dd D σ H s0 su hx hd ne q=>?_⟩;refine⟨u,by have:=su 0 u rfl;rwa[Nat.add_zero] at this,.ref x,s0,x,C,dd,fs,rfl,hx,hd,by lia,cS,?_⟩;refine hr x dd D σ _ s0 (λi v e=>by rw[show j+1+i=j+(i+1) by lia];exact su (i+1) v (by simpa using e)) (by rw[qb (Ne.symm ne)];exact hx) (by rw[Qk nb,qc]) ne ?_;rw[qb5,List.append_assoc];exact q
theorem j0{ns:List Str}(hN:X.N=sf::ns)(vis:∀y,y∈X.N->Vis X.env.scope y):∀es:List Expr,Ju ns es=true->PJ X es (λσ=>∀i,i < ns.length->∃v,σ[i+1]?=some (some v)/\Zv v)
 |[],_=>λpins s σ H acc I _ h=>qeJ pins s σ H acc I trivial h
 | e::l,h=>by
  replace h:((pkE e).elim false λt=>t.elim (λz=>decide (z.length<=3000)) (λx=>ns.contains x&&qv x)&&Ju ns l)=true:=h
  cases hc:pkE e with
  |none=>rw[hc] at h;cases h
  |some t=>
   rw[hc] at h
   replace h:=Bool.and_eq_true_iff.mp h
   have q:=qf5 hc;clear hc
   cases t with
   |inl z=>obtain⟨j,p,rfl⟩:=q;exact qeK (of_decide_eq_true h.1) (j0 hN vis l h.2)
   |inr y=>
    obtain⟨np,p,rfl⟩:=q;obtain⟨h,hr⟩:=h
    replace h:=Bool.and_eq_true_iff.mp h
    obtain⟨hy,hn⟩:=h;obtain⟨m1,m2,m3⟩:=ql hn;obtain⟨i,hi,e⟩:=List.getElem_of_mem (by simpa using hy:y∈ns);have hx:X.N[i+1]?=some y:=by rw[hN,List.getElem?_cons_succ,List.getElem?_eq_getElem hi,e]
    exactλpins s σ H acc I ht hl=>qeL (zo (i:=i+1) hx (vis _ (List.mem_of_getElem? hx)) m1 m2) (j0 hN vis l hr) pins s σ H acc I ⟨ht i hi,ht⟩ hl
end
section
variable{P:Program}{wd:World}{K:Frag}{mg:PR}{base:Heap}
theorem qf8{D nm f:Str}{ns:List Str}{st:Stmt}{fI C aD:Addr}{fd:FuncData}(hb:qgR D ns st=true)(hne:ns≠[])(F:Fun K nm f st fI fd)(hD:ClsIni K aD)(mD:mg D=some (.ref aD))(ok:ym K C fI bV "ValueError.__new__" = true)(hs:∀n∈ns,XcS K C n)(j:Nat) :
  FnOk P wd K mg base CX0 (j+1) fI fd (sf::ns) (qdg C ns):=by
 unfold qgR at hb
 cases hbody:qk st with
 |nil=>rw[hbody] at hb;cases hb
 |cons s0 l=>
 rw[hbody] at hb;dsimp only at hb
 cases hX:inX s0 with
 |none=>rw[hX] at hb;cases hb
 |some t=>
 rw[hX] at hb;dsimp only[Option.elim] at hb;obtain⟨d,i,s,vs0,b0⟩:=t;obtain⟨dp,ap,sp,jp,cp,ep,rfl,hl0⟩:=qbT hX;clear hX;simp only[Bool.and_eq_true,decide_eq_true_eq,Bool.not_eq_true',List.all_eq_true] at hb;obtain⟨⟨⟨⟨⟨⟨⟨⟨⟨⟨⟨⟨⟨⟨⟨⟨rfl,rfl⟩,rfl⟩,hl⟩,hp⟩,hr2⟩,hr⟩,hS⟩,hpar⟩,hfn⟩,hc⟩,dok⟩,dgl⟩,nd⟩,nok⟩,nos⟩,nl⟩:=hb
 obtain⟨v1,v2,rest,rfl⟩:∃v1 v2 rest,vs0=v1::v2::rest:=by
  match vs0,hr2 with
  | v1::v2::rest,_=>exact⟨v1,v2,rest,rfl⟩
 have hl:(ap.endLine == cp.line)=true:=by rw[<-hl0];exact hl
 have hr:rest.length<=20:=by simp only[List.length_cons] at hr;lia
 have S:=qt hc;rw[hpar,hfn] at S;obtain⟨n1,n2,n3⟩:=ql dok;refine F.ok S (λvs H Q E z=>?_) (λcdv A outer s H vs Q E hrm z=>?_)
 ·obtain⟨x,us,rfl,_,h1,_⟩:=z;simp[h1]
 ·obtain⟨x,us,rfl,hx,h1,hf,q⟩:=z
  have vis:∀y,y∈(sf::ns:List Str)->Vis (qe st) y:=λy hy=>by
   rcases S.par y hy with k | k
   ·exact .inl k
   ·exact .inr (.inl k)
  have hg:Gl (yV CX0 P wd K mg base (sf::ns) f (qe st) fI cdv A outer s H E).nox d:=by
   have:((qe st).names.lookup d == some NameKind.globalImplicit)=true:=dgl
   exact(by simpa using this:(qe st).names.lookup d=some .globalImplicit)
  have hN0:(yV CX0 P wd K mg base (sf::ns) f (qe st) fI cdv A outer s H E).nox.N=sf::ns:=rfl
  obtain⟨a,ns',rfl⟩:∃a ns',ns=a::ns':=by
   cases ns with
   |nil=>exact absurd rfl hne
   |cons a l=>exact⟨a,l,rfl⟩
  match us,h1 with
  | u::us,h1=>
   match l,hS,hbody with
   |[],hS,_=>cases hS
   | st1::l,hS,hbody=>
    obtain⟨⟨s2,a2,b2⟩,hA,h'⟩:=bind_some hS;clear hS;obtain⟨sp2,ap2,bp2,p2,rfl⟩:=Z2 hA;have hS:(if s2=sf/\b2=a2 then (qd5 l).map (a2 :: ·) else none)=_:=h';clear h' hA;dsimp only at hbody
    by_cases hq:s2=sf/\b2=a2
    case neg=>rw[if_neg hq] at hS;cases hS
    rw[if_pos hq] at hS;obtain⟨ns2,hS2,e3⟩:=map_some hS;injection e3 with e3 e4;subst e3 e4;obtain⟨rfl,rfl⟩:=hq
    have an:b2≠sf:=λz=>by rw[z] at nos;simp at nos
    obtain⟨m1,m2,m3⟩:=ql (nok b2 (by simp))
    have hne2:∀n∈ns2,n≠sf:=λn hn z=>by
     rw[z] at hn
     have:(b2::ns2).contains sf=true:=by simp[hn]
     rw[nos] at this;cases this
    rw[hbody];have c0:(sf::b2::ns2:List Str)[0]?=some sf:=rfl;have c1:(sf::b2::ns2:List Str)[1]?=some b2:=rfl;have pv0:∀pos,PE (yV CX0 P wd K mg base (sf::b2::ns2) f (qe st) fI cdv A outer s H E).nox (.Name sf pos) (qaf 0):=λpos=>zo (i:=0) c0 (vis _ (by simp));have pv1:∀pos,PE (yV CX0 P wd K mg base (sf::b2::ns2) f (qe st) fI cdv A outer s H E).nox (.Name b2 pos) (qaf 1):=λpos=>zo (i:=1) c1 (vis _ (by simp)) m1 m2;have js:=JV (pos:=jp) (j0 (X:=(yV CX0 P wd K mg base (sf::b2::ns2) f (qe st) fI cdv A outer s H E).nox) rfl vis _ hp) hr;have pa:=qr (pv0 sp) (qr js qz rfl) rfl;have hN1:∀(i:Nat) (n:Str),ns2[i]?=some n->(sf::b2::ns2:List Str)[2+i]?=some n/\n≠sf:=λi n e=>⟨by rw[show 2+i=i+2 by lia];exact e,hne2 n (List.mem_of_getElem? e)⟩;have hlen:us.length=ns2.length:=by simpa using h1
    obtain⟨t,ht,hst⟩:=yx (X:=(yV CX0 P wd K mg base (sf::b2::ns2) f (qe st) fI cdv A outer s H E).nox) (C:=C) vis c0 (λn hn e=>⟨hs n (by
     rcases List.mem_cons.mp hn with z | z
     ·exact absurd z e
     ·exact z),nok n (by
     rcases List.mem_cons.mp hn with z | z
     ·exact absurd z e
     ·exact z)⟩) l ns2 hS2 2 [(b2,u)] us hN1 hlen nd (by simp only[List.length_cons,List.length_nil] at nl ⊢;lia)
    refine⟨_,qo (jv (Y5 hD hg mD pa n1 rfl rfl (zy (o:=.Name d dp) (x:="__init__") (es:=[.Name sf sp,.JoinedStr (v1::v2::rest) jp]) rfl rfl (by show(2:Nat) < 30;decide) hl)) (jk rfl _ _ _)) (qo (Zz (pv0 sp2) (pv1 bp2) (jk rfl _ _ _)) ht),?_⟩;have g0:(L2.qE (sf::b2::ns2) (.ref x::u::us))[0]?=some (some (.ref x)):=rfl;have g1:(L2.qE (sf::b2::ns2) (.ref x::u::us))[1]?=some (some u):=rfl
    have g2:∀(i:Nat) (v:V),us[i]?=some v->(L2.qE (sf::b2::ns2) (.ref x::u::us))[2+i]?=some (some v):=λi v e=>by rw[show 2+i=i+2 by lia];show(us.map some++_)[i]?=_;have hi:i < us.length:=(List.getElem?_eq_some_iff.mp e).1;rw[List.getElem?_append_left (by simpa using hi),List.getElem?_map,e];rfl
    refine⟨.ref x,g0,⟨λi hi=>?_,λz=>⟨x,C,fI,z,rfl,hx,ok,u,g1,.ref x,g0,x,C,rfl,hx,hs b2 (by simp),λdd hd=>?_⟩⟩⟩
    ·cases i with
     |zero=>exact⟨u,g1,hf u (by simp)⟩
     |succ i=>
      have hi2:i < us.length:=by simp only[List.length_cons] at hi;lia
      exact⟨us[i],by have:=g2 i us[i] (List.getElem?_eq_getElem hi2);rwa[show 2+i=i+1+1 by lia] at this,hf _ (by simp)⟩
    ·have ne:dd≠x:=λz=>by rw[z,hx] at hd;cases hd
     refine hst x dd _ _ _ g0 g2 qc (by rw[qb ne,qc]) ne ?_
     have e:upd (upd (upd H dd (xD dd [(b2,u)])) x (zM x C (some dd))) dd (xD dd ([(b2,u)]++ns2.zip us))=upd (upd H dd (xD dd ((b2::ns2).zip (u::us)))) x (zM x C (some dd)):=by
      funext b;unfold upd
      by_cases h1:b=dd
      ·subst h1;rw[if_pos rfl,if_neg ne,if_pos rfl];rfl
      ·rw[if_neg h1]
       by_cases h2:b=x
       ·rw[if_pos h2,if_pos h2]
       ·rw[if_neg h2,if_neg h2,if_neg h1,if_neg h1]
     rw[e];exact q dd hd ne
end
end DE
namespace DE
open PySem L2
def isX(n t:Str):Bool:=t == n||t == "DayError"
noncomputable def Ql(l:List (Str×Addr×List Str))(er:List (Str×Addr)):Xs where
 xa n:=((l.lookup n).map (·.1)).getD 0
 xn n:=(l.lookup n).map (·.2)
 xs C t:=(l.find? λe=>e.2.1 == C).bind λe=>if t == "ValueError" then some true else (er.lookup t).map λ_=>isX e.1 t
 xg C x:=l.any λe=>e.2.1 == C&&e.2.2.contains x
end DE
namespace K64
open PySem L2 DE DG FA
noncomputable def top(i:Nat):Stmt:=PySem.Challenge.pw_daysgate_k64_diary_refused.main.body.getD i (.Pass ⟨0,0,0,0⟩)
def mem(i j:Nat):Stmt:=(qcp (top i)).getD j (.Pass ⟨0,0,0,0⟩)
def xE:List (Str×Addr×List Str):=[("NoStay",138,["number"]),("NoDeed",181,[])]
noncomputable def xR:List (Str×Addr):=[("DayError",87),("NoRule",100),("NoPaper",119),("NoStay",138),("NotLet",157),("NoWish",169),("NoDeed",181),("NoText",193),("NoRow",205)]
noncomputable def Z3:Cs:={ tab:=["Book"],fld:=λc x=>(c == "Book" && (x == "kept_rules" || x == "kept_papers"))||(c == "Diary" && (x == "book" || x == "kept_stays" || x == "earlier")),mt:=λc x=>if c == "Book" && x == "rules" then some "Book.rules" else if c == "Diary" then if x == "stays" then some "Diary.stays" else if x == "changes" then some "Diary.changes" else if x == "do" then some "Diary.do" else if x == "others" then some "Diary.others" else if x == "put" then some "Diary.put" else if x == "take" then some "Diary.take" else if x == "move" then some "Diary.move" else if x == "undo" then some "Diary.undo" else none else none,sub:=λ_ _=>none,xh:=λn=>n == "NoStay",toXs:=Ql xE xR }
def bk0:D:=.ins "Book" ["kept_rules","kept_papers"] [.lst [],.lst []]
def isE:Ar->Bool
 |.val (.lst [])=>true
 |_=>false
noncomputable def qd6(k:Nat)(f:Str)(args:List Ar):R Rv:=if 12<=k/\f = "Book"/\args.length=2/\args.all isE=true then .ok (.val bk0) else .no
noncomputable def pg:Pg:={ defs:=[(("is_whole" : Str),top 4),(("is_between" : Str),top 5),(("are_days" : Str),top 6),(("is_made_of" : Str),top 7),(("is_name" : Str),top 8),(("is_stay" : Str),top 35),(("stays_of" : Str),top 36),(("changed_days" : Str),top 49),(("place_of" : Str),top 50),(("stays_with" : Str),top 51),(("are_rules" : Str),top 56),(("is_paper" : Str),top 57),(("check_papers" : Str),top 58),(("_law_cell_at" : Str),top 61),(("_law_lands" : Str),top 62),(("_law_place" : Str),top 63),(("_law_refusal" : Str),top 64),(("_law_days" : Str),top 65),(("law" : Str),top 66)],gl:=λx=>if x = "GREATEST" then some (.int 1000000000) else if x = "LETTERS" then some (.str "abcdefghijklmnopqrstuvwxyz") else if x = "LONGEST_NAME" then some (.int 8) else if x = "MOST_STAYS" then some (.int 60) else if x = "MOST_RULES" then some (.int 8) else if x = "MOST_PAPERS" then some (.int 12) else none,m:=40,w:=1000,meths:=[("Diary.stays",mem 52 1),("Diary.changes",mem 52 2),("Diary.do",mem 52 3),("Diary.others",mem 52 4),("Diary.put",mem 52 5),("Diary.take",mem 52 6),("Diary.move",mem 52 7),("Diary.undo",mem 52 8),("Book.rules",mem 59 1)],cs:=Z3,nw:=qd6 }
instance:DG.CH pg:=⟨%[4|1],%[5|1],%[6|1],%[7|1],%[8|1]⟩
instance:DG.ST pg:=⟨%[35|1],%[36|1]⟩
instance:FA.LC pg:=⟨%[61|1]⟩
instance:FA.LN pg:=⟨%[62|1]⟩
abbrev jq:E:=(.var 0)
def zF:E:=jq
theorem yL:UE zF jq:=λ_ _ _=>(rfl)
noncomputable def y0:Nat×Nat×Ss:=(2,2,%[.ret (.b1 .len (.comp zF (.seq (.var 0)) (.one 0) (.test (.cmp .LtE (.idx (.var 0) (.con (.int 1))) (.var 1))) 1 [1]))|0])
theorem QQ:RW pg "place_of" y0:=%[50|1]
noncomputable def jJ:Nat×Nat×Ss:=(3,3,%[.tryN "stays_of" (Xa.leaf (.bin .Add (.bin .Add (.sli (.var 0) .none (.some (.var 2))) (.lst %[1|0])) (.sli (.var 0) (.some (.var 2)) .none)) Xa.nil) "NoStay" "NoStay" 2|0])
theorem Ye:RW pg "stays_with" jJ:=%[51|1]
noncomputable abbrev yM:Ss:=%[.ite (.and (.not (.val (.isc "Within" (.var 1)))) (.one (.not (.val (.isc "Since" (.var 1)))))) %[.ret (.con (.bl false))|0] .nil|0]
def Jv:Ss:=yM
noncomputable def yy:Nat×Nat×Ss:=(1,2,%[.ite (.or (.not (.val (.isi Ty.list (.var 0)))) (.one (.cmp .Gt (.b1 .len (.var 0)) (.con (.int 8))))) %[.ret (.con (.bl false))|0] .nil,.for_ (.one 1) (.seq (.var 0)) Jv,.ret (.con (.bl true))|0])
theorem YN:RW pg "are_rules" yy:=%[56|1]
noncomputable abbrev jz:Ss:=%[.ite (.not (.val (.call "is_paper" %[3,1|0]))) %[.rai "NoPaper" %[2|0]|0] .nil|0]
def jS:Ss:=jz
noncomputable def zT:Nat×Nat×Ss:=(2,4,%[.ite (.not (.val (.isi Ty.list (.var 0)))) %[.rai "NoPaper" %[.con .non|0]|0] .nil,.for_ (.many [2,3]) (.enum (.var 0)) jS,.ite (.cmp .Gt (.b1 .len (.var 0)) (.con (.int 12))) %[.rai "NoPaper" %[.con .non|0]|0] .nil|0])
theorem yN:RW pg "check_papers" zT:=%[58|1]
abbrev zG:E:=(.var 0)
def zd:E:=zG
theorem jT:UE zd zG:=λ_ _ _=>(rfl)
noncomputable def jK:Nat×Nat×Ss:=(2,2,%[.ret (.b1 .len (.comp zd (.seq (.var 0)) (.one 0) (.test (.cmp .LtE (.idx (.var 0) (.con (.int 1))) (.var 1))) 1 [1]))|0])
theorem Yg:RW pg "_law_place" jK:=%[63|1]
noncomputable def zU:Nat×Nat×Ss:=(2,6,%[.set 2 (.con .non),.try_ %[.ite (.cmp .Eq (.idx (.var 1) (.con (.int 0))) (.con (.str "put"))) %[.expr (.met (.var 0) "put" %[.idx (.var 1) (.con (.int 1)),.idx (.var 1) (.con (.int 2)),.idx (.var 1) (.con (.int 3))|0])|0] %[.ite (.cmp .Eq (.idx (.var 1) (.con (.int 0))) (.con (.str "take"))) %[.expr (.met (.var 0) "take" %[.idx (.var 1) (.con (.int 1))|0])|0] %[.expr (.met (.var 0) "move" %[.idx (.var 1) (.con (.int 1)),.idx (.var 1) (.con (.int 2)),.idx (.var 1) (.con (.int 3))|0])|0]|0]|0] [("NoStay",3,2)],.ite (.or (.not (.val (.isc "DayError" (.var 2)))) (.one (.not (.val (.isc "ValueError" (.var 2)))))) %[.ret (.con (.str "none"))|0] .nil,.set 4 (.or (.isc "NoPaper" (.var 2)) (.or (.isc "NoRule" (.var 2)) (.one (.isc "NotLet" (.var 2))))),.set 5 (.or (.isc "NoWish" (.var 2)) (.or (.isc "NoDeed" (.var 2)) (.one (.isc "NoText" (.var 2))))),.ite (.or (.val (.var 4)) (.or (.val (.var 5)) (.or (.val (.isc "NoRow" (.var 2))) (.one (.val (.isi Ty.bool (.fld (.var 2) "number"))))))) %[.ret (.con (.str "others"))|0] .nil,.ret (.fld (.var 2) "number")|0])
theorem yP:RW pg "_law_refusal" zU:=%[64|1]
noncomputable def yz:Nat×Nat×Ss:=(3,4,%[.set 3 (.lst %[.tup %[0,0|0],.tup %[.bin .Sub (.var 0) (.con (.int 1)),.bin .Add (.var 0) (.con (.int 1))|0],.tup %[.bin .Sub (.var 0) (.con (.int 2)),0|0],.tup %[.bin .Sub (.neg (.con (.int 1))) (.var 1),0|0],.tup %[0,.bin .Add (.bin .Add (.bin .Pow (.con (.int 10)) (.con (.int 9))) (.con (.int 1))) (.var 1)|0],.tup %[.bin .Add (.var 0) (.con (.int 1)),0|0]|0]),.ret (.idx (.var 3) (.var 2))|0])
theorem YO:RW pg "_law_days" yz:=%[65|1]
def jr:Nat×Nat×Ss:=(1,1,%[.ret (.b1 .list (.fld (.var 0) "kept_stays"))|0])
theorem Jw:RW pg "Diary.stays" jr:=qA (pg:=pg) (st:=mem 52 1) (by kernel_rfl) (λk cl=>by kernel_rfl)
noncomputable abbrev jt:E:=(.call "changed_days" %[.fld (.var 1) "book",0,.fld (.var 1) "kept_stays",2|0])
def jA:E:=jt
noncomputable def zH:Nat×Nat×Ss:=(2,3,%[.set 2 (.b1 .len (.met (.fld (.var 0) "book") "rules" .nil)),.ret (.comp jA (.rng (.var 2)) (.one 0) .yes 1 [0,1])|0])
theorem yA:RW pg "Diary.changes" zH:=qA (pg:=pg) (st:=mem 52 2) (by kernel_rfl) (λk cl=>by kernel_rfl)
noncomputable def ze:Nat×Nat×Ss:=(2,2,%[.ite (.not (.val (.call "is_between" %[1,.con (.int 0),.bin .Sub (.b1 .len (.fld (.var 0) "kept_stays")) (.con (.int 1))|0]))) %[.rai "NoStay" %[1|0]|0] .nil,.ret (.bin .Add (.sli (.fld (.var 0) "kept_stays") .none (.some (.var 1))) (.sli (.fld (.var 0) "kept_stays") (.some (.bin .Add (.var 1) (.con (.int 1)))) .none))|0])
theorem zV:RW pg "Diary.others" ze:=qA (pg:=pg) (st:=mem 52 4) (by kernel_rfl) (λk cl=>by kernel_rfl)
noncomputable def yB:Nat×Nat×Ss:=(4,5,%[.set 4 (.call "place_of" %[.fld (.var 0) "kept_stays",2|0]),.ret (.tup %[4,.met (.var 0) "do" %[.call "stays_with" %[.fld (.var 0) "kept_stays",.tup %[1,2,3|0],4|0]|0]|0])|0])
theorem YQ:RW pg "Diary.put" yB:=qA (pg:=pg) (st:=mem 52 5) (by kernel_rfl) (λk cl=>by kernel_rfl)
noncomputable def jL:Nat×Nat×Ss:=(2,2,%[.ret (.met (.var 0) "do" %[.met (.var 0) "others" %[1|0]|0])|0])
theorem Yh:RW pg "Diary.take" jL:=qA (pg:=pg) (st:=mem 52 6) (by kernel_rfl) (λk cl=>by kernel_rfl)
noncomputable def zI:Nat×Nat×Ss:=(4,6,%[.set 4 (.met (.var 0) "others" %[1|0]),.set 5 (.tup %[.idx (.idx (.fld (.var 0) "kept_stays") (.var 1)) (.con (.int 0)),2,3|0]),.ret (.met (.var 0) "do" %[.call "stays_with" %[4,5,.call "place_of" %[4,2|0]|0]|0])|0])
theorem jM:RW pg "Diary.move" zI:=qA (pg:=pg) (st:=mem 52 7) (by kernel_rfl) (λk cl=>by kernel_rfl)
def jN:Nat×Nat×Ss:=(1,1,%[.ret (.b1 .list (.fld (.var 0) "kept_rules"))|0])
theorem Yi:RW pg "Book.rules" jN:=qA (pg:=pg) (st:=mem 59 1) (by kernel_rfl) (λk cl=>by kernel_rfl)
end K64
namespace K64
open PySem DE DG FA
open L2 hiding St
open CH ST
abbrev SY:=Str×Int×Int
def aX:Addr:=pg.cs.xa "NoStay"
abbrev nsX(n:Int):R Rv:=.exc aX [("number",.int n)]
theorem Yj{i:Int}(h0:-(2 ^ 62) < i)(h1:i < 2 ^ 62):yK (.int i)=true:=by
 refine decide_eq_true ?_
 have:i.natAbs < 2 ^ 62:=by lia
 by_cases hz:i.natAbs=0
 ·rw[hz];decide
 ·have:=(Nat.log2_lt hz).mpr this
  lia
theorem jB(k:Nat)(n a b:Int)(h:¬ (a<=n/\n<=b)):clK pg (k+2) "is_between" [.val (.int n),.val (.int a),.val (.int b)]=.ok (.val (.bl false)):=by
 rw[r_is_between]
 by_cases h1:a<=n
 ·have h2:¬ n<=b:=λz=>h ⟨h1,z⟩;simp? only[qY,Jt,h1,h2,decide_true,decide_false]
 ·simp? only[qY,Jt,h1,decide_false]
theorem qdy(k:Nat)(n m:Int)(h:¬ (0<=n/\n<=m/\m<=1000000000)):clK pg (k+3) "are_days" [.val (.int n),.val (.int m)]=.ok (.val (.bl false)):=by
 rw[r_are_days]
 by_cases h1:0<=n/\n<=1000000000
 ·by_cases h2:0<=m/\m<=1000000000
  ·have h3:¬ n<=m:=λz=>h ⟨h1.1,z,h2.2⟩;simp? only[zi,qV k n 0 1000000000 h1.1 h1.2,qV k m 0 1000000000 h2.1 h2.2,h3,decide_false]
  ·simp? only[zi,qV k n 0 1000000000 h1.1 h1.2,jB k m 0 1000000000 h2]
 ·simp? only[zi,jB k n 0 1000000000 h1]
def qbU(c:Nat):Bool:=!qaJ ⟨#[c]⟩ "abcdefghijklmnopqrstuvwxyz"
theorem Qm(k:Nat)(v w:Sl):∀(l:List Nat) (s:Sl),(∀c∈l,qbU c=false\/qbU c=true)->(l.any qbU)=true->J9 (pg.kk k) 1000 (.one 2) qK (l.map λc=>D.str ⟨#[c]⟩) [v,.val (.str "abcdefghijklmnopqrstuvwxyz"),s]=.ok (.ret (.val (.bl false)))
 |[],s,_,h=>by cases h
 | c::l,s,h0,h=>by
  rw[List.map_cons];refine(qu _).symm.trans ?_
  cases e:qbU c with
  |true=>
   have o:qaJ ⟨#[c]⟩ "abcdefghijklmnopqrstuvwxyz" = false:=by unfold qbU at e;simpa using e
   simp? only[qR,o]
  |false=>
   have o:qaJ ⟨#[c]⟩ "abcdefghijklmnopqrstuvwxyz" = true:=by unfold qbU at e;simpa using e
   have ih:=Qm k v w l (.val (.str ⟨#[c]⟩)) (λc hc=>h0 c (List.mem_cons_of_mem _ hc)) (by rw[List.any_cons,e] at h;simpa using h);simp? only[qR,o,ih]
noncomputable def y1(z:Str):Prop:=z.cps.size=0\/(z.cps.size<=100/\8 < z.cps.size)\/(1<=z.cps.size/\z.cps.size<=8/\z.cps.toList.any qbU=true)
theorem qdz(k:Nat)(z:Str)(h:y1 z):clK pg (k+2) "is_name" [.val (.str z)]=.ok (.val (.bl false)):=by
 have hz:z.length<=sizeLine:=by
  show z.cps.size<=2 ^ 24;unfold y1 at h
  lia
 have hl:(z.length:Int)=(z.cps.size:Int):=rfl;rw[r_is_name];rcases h with h | h | h
 ·have h1:¬ (1:Int)<=(z.length:Int):=by rw[hl];lia
  simp? only[zC,hz,h1,decide_false]
 ·have h1:(1:Int)<=(z.length:Int):=by rw[hl];lia
  have h2:¬ (z.length:Int)<=8:=by rw[hl];lia
  simp? only[zC,hz,h1,h2,decide_true,decide_false]
 ·have h1:(1:Int)<=(z.length:Int):=by rw[hl];lia
  have h2:(z.length:Int)<=8:=by rw[hl];lia
  have m:clK pg (k+1) "is_made_of" [.val (.str z),.val (.str "abcdefghijklmnopqrstuvwxyz")]=.ok (.val (.bl false)):=by have e:=Qm k (.val (.str z)) .no z.cps.toList .no (λc _=>by cases qbU c<;>simp) h.2.2;rw[r_is_made_of];simp? only[zB,qah,e]
  simp? only[zC,hz,h1,h2,decide_true,m]
def Bad(s:SY):Prop:=y1 s.1\/(NameOk s.1/\¬ (0<=s.2.1/\s.2.1<=s.2.2/\s.2.2<=1000000000))
theorem qf9(k:Nat)(s:SY)(h:Bad s):clK pg (k+4) "is_stay" [.val (stD s)]=.ok (.val (.bl false)):=by
 rw[r_is_stay];have n3:(((0+1+1+1:Nat):Int) == 3)=true:=rfl;have e0:atI [D.str s.1,D.int s.2.1,D.int s.2.2] 0=some (.str s.1):=by rfl
 have e1:atI [D.str s.1,D.int s.2.1,D.int s.2.2] 1=some (.int s.2.1):=by rfl
 have e2:atI [D.str s.1,D.int s.2.1,D.int s.2.2] 2=some (.int s.2.2):=by rfl
 rcases h with h | ⟨h,h'⟩
 ·simp? only[jm,qF,zm,n3,e0,qdz (k+1) s.1 h]
 ·simp? only[jm,qF,zm,n3,e0,e1,e2,Z0 (k+1) s.1 h,qdy k s.2.1 s.2.2 h']
theorem qdA(d:D)(h:yK d=true):mkX true pg.cs "NoStay" [d]=.exc aX [("number",d)]:=by
 show(if (true&&decide (([d]:List D).length=(["number"]:List Str).length)&&decide (([d]:List D).length<=sizeLine)&&([d]:List D).all yK)=true then R.exc aX ((["number"]:List Str).zip [d]) else .no)=_;rw[if_pos]
 ·rfl
 ·simp only[List.all_cons,List.all_nil,h];rfl
def jO:Int->List SY->Int
 |e,[]=>e
 | _,s::l=>jO s.2.2 l
def Brk(e:Int)(s:SY):Prop:=Bad s\/(StOk (-1) s/\s.2.1<=e)
theorem Qn(k:Nat)(v:Sl)(d:SY)(r:List D):∀(l:List SY) (i:Nat) (e:Int) (s2 s3:Sl),-1<=e->Ch e l->Brk (jO e l) d->i+l.length < 1000->
  J9 (pg.kk (k+4)) 1000 (.many [2,3]) qZ (enF i (l.map stD++stD d::r)) [v,.val (.int e),s2,s3]=.exc aX [("number",.int ((i+l.length:Nat):Int))]
 |[],i,e,s2,s3,he,_,hb,hi=>by
  have mk:=qdA (.int (i:Int)) (Yj (by lia) (by simp only[List.length_nil] at hi;lia));have hx:decide (2<=k+4)=true:=decide_eq_true (by lia);refine(qu _).symm.trans ?_;rw[List.map_nil,List.nil_append,enF];rcases hb with hb | ⟨h1,h2⟩
  ·have st:=qf9 k d hb;simp only[qF] at st;simp? only[qL,qF,st,mk];rfl
  ·have st:=YL (pg:=pg) k (-1) d (by lia) h1;have hle:d.2.1<=e:=h2;simp only[qF] at st;have e1:atI [D.str d.1,D.int d.2.1,D.int d.2.2] 1=some (.int d.2.1):=by rfl
   simp? only[qL,qF,st,e1,hle,decide_true,mk];rfl
 | s::l,i,e,s2,s3,he,hc,hb,hi=>by
  have h1:=hc.1.lo;have h2:=hc.1.ab;have ih:=Qn k v d r l (i+1) s.2.2 (.val (.int i)) (.val (stD s)) (by lia) hc.2 hb (by simp only[List.length_cons] at hi;lia);rw[show i+1+l.length=i+(s::l).length by simp only[List.length_cons];lia] at ih;have hn:¬ s.2.1<=e:=by lia
  have st:=YL (pg:=pg) k e s he hc.1;have e1:atI [D.str s.1,D.int s.2.1,D.int s.2.2] 1=some (.int s.2.1):=by rfl
  have e2:atI [D.str s.1,D.int s.2.1,D.int s.2.2] 2=some (.int s.2.2):=by rfl
  rw[List.map_cons,List.cons_append];generalize l.map stD++stD d::r=m at ih ⊢;generalize i+(s::l).length=N at ih ⊢;simp only[qF] at st ih;refine(qu _).symm.trans ?_;rw[enF];simp? only[qL,qF,st,hn,decide_false,ih]
theorem qga(k:Nat)(b:Bool)(l:List SY)(d:SY)(r:List D)(hc:Ch (-1) l)(hb:Brk (jO (-1) l) d)(hl:l.length < 1000):clK pg (k+5) "stays_of" [aL b (l.map stD++stD d::r)]=nsX (l.length:Int):=by have w:=Qn k (pS b (l.map stD++stD d::r)) d r l 0 (-1) .no .no (by lia) hc hb (by lia);rw[Nat.zero_add] at w;generalize l.map stD++stD d::r=m at w ⊢;rw[r_stays_of];simp? only[zP,Jr,w]
theorem qdB(k:Nat)(b:Bool)(l:List SY)(hc:Ch (-1) l)(h6:60 < l.length)(hl:l.length < 1000):clK pg (k+5) "stays_of" [aL b (l.map stD)]=.exc aX [("number",.non)]:=by
 have h6:(60:Int) < ((l.map stD).length:Int):=by rw[List.length_map];lia
 obtain⟨e',s2',s3',ih⟩:=jy (pg:=pg) k (pS b (l.map stD)) l 0 (-1) .no .no (by lia) hc;have mk:=qdA .non rfl;have hx:decide (2<=k+4)=true:=decide_eq_true (by lia);rw[r_stays_of];simp? only[zP,Jr,ih,h6,decide_true,mk]
end K64
namespace K64
open PySem DE DG FA
open L2 hiding St
open CH ST
theorem zf{n:Nat}(h:n < 1000):n < sizeLine:=Nat.lt_of_lt_of_le h (by decide+kernel)
theorem j8(l:List D)(i:Nat):ZE l none (some (i:Int))=l.take i:=by
 unfold ZE;rw[HT.Zc,HT.Y1,Nat.sub_zero,List.drop_zero];rcases Nat.le_total i l.length with h | h
 ·rw[Nat.min_eq_left h]
 ·rw[Nat.min_eq_right h,List.take_of_length_le (Nat.le_refl _),List.take_of_length_le h]
theorem Jx(l:List D)(i:Nat)(h:i<=l.length):ZE l (some (i:Int)) none=l.drop i:=by unfold ZE;rw[HT.Zc,HT.Y1];simp[List.take_of_length_le,Nat.min_eq_left h]
def plc(l:List SY)(f:Int):Nat:=(l.filter λs=>decide (s.2.1<=f)).length
theorem qbV(l:List SY)(f:Int):plc l f<=l.length:=List.length_filter_le ..
abbrev tPl:F:=F.test (T.cmp CmpOp.LtE (E.idx (E.var 0) (E.con (D.int 1))) (E.var 1))
theorem Jy(k:Nat)(e:E)(he:UE e (E.var 0))(f:Int):∀(l acc:List SY) (s0:Sl),acc.length+l.length < 1000->jl (pg.kk k) e (.one 0) tPl (l.map stD) [s0,.val (.int f)] (acc.map stD)=.ok ((acc++l.filter λs=>decide (s.2.1<=f)).map stD)
 |[],acc,s0,_=>by simp[yv]
 | s::l,acc,s0,hl=>by
  rw[List.length_cons] at hl;have hs:(acc.map stD).length < sizeLine:=by rw[List.length_map];exact zf (by lia)
  have a1:∀x y z:D,atI [x,y,z] 1=some y:=λ_ _ _=>rfl
  by_cases c:s.2.1<=f
  ·have ih:=Jy k e he f l (acc++[s]) (.val (stD s)) (by simp;lia);rw[List.filter_cons_of_pos (by simpa using c)];simp only[List.map_append,List.map_cons,List.map_nil,List.append_assoc,List.cons_append,List.nil_append,qF] at ih ⊢;refine(qu _).symm.trans ?_;simp? only[he,a1,c,hs,ih]
  ·have ih:=Jy k e he f l acc (.val (stD s)) (by lia);rw[List.filter_cons_of_neg (by simpa using c)];simp only[qF] at ih;refine(qu _).symm.trans ?_;rw[List.map_cons];simp? only[qF,a1,c,ih]
theorem Jz(k:Nat)(b:Bool)(l:List SY)(f:Int)(hl:l.length < 1000):clK pg (k+1) "place_of" [aL b (l.map stD),.val (.int f)]=.ok (.val (.int (plc l f:Int))):=by
 have hz:(l.map stD).length<=sizeLine:=by rw[List.length_map];exact Nat.le_of_lt (zf hl)
 have c:=Jy k zF yL f l [] .no (by simpa using hl);rw[List.map_nil,List.nil_append] at c;have e:(((l.filter λs=>decide (s.2.1<=f)).map stD).length:Int)=(plc l f:Int):=by rw[List.length_map];rfl
 rw[QQ];generalize (l.filter λs=>decide (s.2.1<=f)).map stD=m at c e;simp? only[y0,hz,QL,List.getD_cons_succ,List.getD_cons_zero,c,e]
theorem Yk(k:Nat)(b:Bool)(l:List SY)(f:Int)(hl:l.length < 1000):clK pg (k+1) "_law_place" [aL b (l.map stD),.val (.int f)]=.ok (.val (.int (plc l f:Int))):=by
 have hz:(l.map stD).length<=sizeLine:=by rw[List.length_map];exact Nat.le_of_lt (zf hl)
 have c:=Jy k zd jT f l [] .no (by simpa using hl);rw[List.map_nil,List.nil_append] at c;have e:(((l.filter λs=>decide (s.2.1<=f)).map stD).length:Int)=(plc l f:Int):=by rw[List.length_map];rfl
 rw[Yg];generalize (l.filter λs=>decide (s.2.1<=f)).map stD=m at c e;simp? only[jK,hz,QL,List.getD_cons_succ,List.getD_cons_zero,c,e]
def ins(l:List SY)(p:Nat)(x:SY):List SY:=l.take p++x::l.drop p
theorem Z4(l:List SY)(p:Nat)(x:SY):(ins l p x).length=l.length+1:=by
 unfold ins;rw[List.length_append,List.length_cons,List.length_take,List.length_drop]
 lia
noncomputable def kTN(cl:Cl)(c n:Str)(d:D)(r:R Fl):R Fl:=match r with
 |.exc C l=>jh cl.x cl.cs C l c n d
 |r=>r
theorem qdC(cl:Cl)(w:Nat)(ρ:DE.Env)(f c n:Str)(a:Xa)(i:Nat):iS cl w (.tryN f a c n i) ρ=(R.of (qhk (slR ρ i))).th λd=>if cl.x=true/\yK d=true then kTN cl c n d ((iXa cl a ρ).th λx=>(cl f x.1).th qcT) else .no:=by rw[iS];rfl
theorem qdD(d n:D)(h:yK n=true):jh true pg.cs aX [("number",d)] "NoStay" "NoStay" n=.exc aX [("number",n)]:=by show(if (true&&true&&yK n)=true then R.exc aX [("number",n)] else .no)=_;rw[h];rfl
noncomputable abbrev eSw:E:=(.bin .Add (.bin .Add (.sli (.var 0) .none (.some (.var 2))) (.lst %[1|0])) (.sli (.var 0) (.some (.var 2)) .none))
theorem qbW(k:Nat)(b:Bool)(l:List SY)(p:Nat)(x:SY)(hp:p<=l.length)(hl:l.length < 500){V:R Rv}(hV:clK pg (k+5) "stays_of" [.val (.lst ((ins l p x).map stD))]=V) :
  clK pg (k+6) "stays_with" [aL b (l.map stD),.val (stD x),.val (.int (p:Int))]=((kTN (pg.kk (k+5)) "NoStay" "NoStay" (.int (p:Int)) (V.th qcT)).th flR):=by
 have t1:=j8 (l.map stD) p;have t2:=Jx (l.map stD) p (by rw[List.length_map];exact hp);have z0:1<=sizeLine:=by decide+kernel
 have z1:((l.map stD).take p).length+1<=sizeLine:=Nat.le_of_lt (zf (by rw[List.length_take,List.length_map];lia));have z2:((l.map stD).take p++[stD x]).length+((l.map stD).drop p).length<=sizeLine:=Nat.le_of_lt (zf (by rw[List.length_append,List.length_take,List.length_drop,List.length_map,List.length_singleton];lia))
 have e:(l.map stD).take p++[stD x]++(l.map stD).drop p=(ins l p x).map stD:=by unfold ins;rw[List.map_append,List.map_cons,List.map_take,List.map_drop,List.append_assoc];rfl
 have E0:noX (iR (pg.kk (k+5)) eSw [pS b (l.map stD),.val (stD x),.val (.int (p:Int))])=.ok (.tmp ((ins l p x).map stD),[pS b (l.map stD),.val (stD x),.val (.int (p:Int))]):=by
  rw[<-e];generalize stD x=X at *;generalize l.map stD=L at *;generalize List.take p L=A at *;generalize List.drop p L=B at *
  have E1:iR (pg.kk (k+5)) eSw [pS b L,.val X,.val (.int (p:Int))]=.ok (.tmp (A++[X]++B),[pS b L,.val X,.val (.int (p:Int))]):=by refine(qu _).symm.trans ?_;simp? only[t1,t2,z0,z1,z2]
  rw[E1];rfl
 have F0:iXa (pg.kk (k+5)) (Xa.leaf eSw Xa.nil) [pS b (l.map stD),.val (stD x),.val (.int (p:Int))]=.ok ([.val (.lst ((ins l p x).map stD))],[pS b (l.map stD),.val (stD x),.val (.int (p:Int))]):=by rw[iXa,E0];rfl
 have fm:yK (.int (p:Int))=true:=Yj (by lia) (by lia)
 have X0:iS (pg.kk (k+5)) 1000 (S.tryN "stays_of" (Xa.leaf eSw Xa.nil) "NoStay" "NoStay" 2) [pS b (l.map stD),.val (stD x),.val (.int (p:Int))]=kTN (pg.kk (k+5)) "NoStay" "NoStay" (.int (p:Int)) (V.th qcT):=by rw[qdC,F0];show(if (pg.kk (k+5)).x=true/\yK (.int (p:Int))=true then kTN (pg.kk (k+5)) "NoStay" "NoStay" (.int (p:Int)) ((clK pg (k+5) "stays_of" [.val (.lst ((ins l p x).map stD))]).th qcT) else .no)=_;rw[if_pos ⟨qhz (k:=k+3),fm⟩,hV]
 rw[Ye];unfold runD jJ;dsimp only;rw[if_pos (by simp)];rw[show slN 3 [aL b (l.map stD),.val (stD x),.val (.int (p:Int))]=[pS b (l.map stD),.val (stD x),.val (.int (p:Int))] from by cases b<;>rfl];rw[iSs,X0]
 cases kTN (pg.kk (k+5)) "NoStay" "NoStay" (.int (p:Int)) (V.th qcT) with
 |ok f=>cases f<;>rfl
 |exc _ _=>rfl
 |no=>rfl
theorem qhN(k:Nat)(b:Bool)(l:List SY)(p:Nat)(x:SY)(hp:p<=l.length)(hl:l.length < 500)(hc:Ch (-1) (ins l p x))(h6:l.length < 60) :
  clK pg (k+6) "stays_with" [aL b (l.map stD),.val (stD x),.val (.int (p:Int))]=.ok (.tmp ((ins l p x).map stD)):=
 (qbW k b l p x hp hl (qa6 k false (ins l p x) hc (by rw[Z4];lia))).trans rfl
theorem qhO(k:Nat)(b:Bool)(l:List SY)(p:Nat)(x:SY)(hp:p<=l.length)(hl:l.length < 500){d:D}(h:clK pg (k+5) "stays_of" [aL false ((ins l p x).map stD)]=.exc aX [("number",d)]) :
  clK pg (k+6) "stays_with" [aL b (l.map stD),.val (stD x),.val (.int (p:Int))]=nsX (p:Int):=by
 refine(qbW k b l p x hp hl h).trans ?_;show(jh (pg.kk (k+5)).x pg.cs aX [("number",d)] "NoStay" "NoStay" (.int (p:Int))).th flR=_;rw[show(pg.kk (k+5)).x=true from qhz (k:=k+3),qdD d _ (Yj (by lia) (by lia))];rfl
end K64
namespace K64
open PySem DE DG FA
open L2 hiding St
open CH ST
theorem zQ(s:SY)(l:List SY)(f:Int):plc (s::l) f=if s.2.1<=f then plc l f+1 else plc l f:=by
 unfold plc
 by_cases c:s.2.1<=f
 ·rw[if_pos c,List.filter_cons_of_pos (by simpa using c),List.length_cons]
 ·rw[if_neg c,List.filter_cons_of_neg (by simpa using c)]
theorem JA(f:Int):∀{l:List SY} {e:Int},Ch e l->f<=e->plc l f=0
 |[],_,_,_=>rfl
 | s::l,e,h,hf=>by have h1:=h.1.lo;have h2:=h.1.ab;rw[zQ,if_neg (by lia),JA f h.2 (by lia)]
theorem qdE(p:Nat):∀{l:List SY} {e:Int},Ch e l->Ch e (l.take p):=by
 induction p with
 |zero=>intro l e _;exact trivial
 |succ p ih=>
  intro l e h
  cases l with
  |nil=>exact trivial
  |cons s l=>exact⟨h.1,ih h.2⟩
theorem JB(l:List SY)(x:SY):ins l 0 x=x::l:=rfl
theorem Qo(s:SY)(l:List SY)(p:Nat)(x:SY):ins (s::l) (p+1) x=s::ins l p x:=rfl
theorem Qp:∀{l:List SY} {e:Int} {y:SY},Ch e l->y∈l->e < y.2.1
 | s::l,e,y,h,hy=>by
  have h1:=h.1.lo;have h2:=h.1.ab;rcases List.mem_cons.mp hy with rfl | hy
  ·exact h1
  ·have:=Qp h.2 hy;lia
theorem StOk.low{e e':Int}{s:SY}(h:StOk e s)(he:e'<=e):StOk e' s:=⟨h.nm,by have:=h.lo;lia,h.ab,h.hi⟩
theorem Z5(x:SY)(hx:StOk (-1) x)(y:SY)(h1:y.2.1<=x.2.2)(h2:x.2.1<=y.2.2):∀{O:List SY} {e:Int},-1<=e->Ch e O->y∈O->
  ∃l d r,ins O (plc O x.2.1) x=l++d::r/\Ch e l/\Brk (jO e l) d
 | s::O,e,he,hc,hy=>by
  have q1:=hc.1.lo;have q2:=hc.1.ab
  by_cases c:s.2.1<=x.2.1
  ·rw[zQ,if_pos c,Qo];rcases List.mem_cons.mp hy with rfl | hy
   ·rw[JA x.2.1 hc.2 h2,JB];exact⟨[y],x,O,rfl,⟨hc.1,trivial⟩,.inr ⟨hx,h2⟩⟩
   ·obtain⟨l,d,r,e1,e2,e3⟩:=Z5 x hx y h1 h2 (by lia) hc.2 hy;exact⟨s::l,d,r,by rw[e1];rfl,⟨hc.1,e2⟩,e3⟩
  ·have hle:s.2.1<=y.2.1:=by
    rcases List.mem_cons.mp hy with rfl | hy
    ·exact Int.le_refl _
    ·have:=Qp hc.2 hy;lia
   rw[zQ,if_neg c,JA x.2.1 hc.2 (by lia),JB]
   by_cases c2:e < x.2.1
   ·exact⟨[x],s,O,rfl,⟨⟨hx.nm,c2,hx.ab,hx.hi⟩,trivial⟩,.inr ⟨StOk.low hc.1 he,by show s.2.1<=x.2.2;lia⟩⟩
   ·exact⟨[],x,s::O,rfl,trivial,.inr ⟨hx,by show x.2.1<=e;lia⟩⟩
noncomputable def Ref(O:List SY)(x:SY):Prop:=∀k,∃d,clK pg (k+5) "stays_of" [aL false ((ins O (plc O x.2.1) x).map stD)]=.exc aX [("number",d)]
theorem qbX{O:List SY}{x:SY}(hl:O.length < 500){l:List SY}{d:SY}{r:List SY}(e:ins O (plc O x.2.1) x=l++d::r)(hc:Ch (-1) l)(hb:Brk (jO (-1) l) d):Ref O x:=λk=>by
 have hz:=Z4 O (plc O x.2.1) x;have hz2:(l++d::r).length=O.length+1:=by rw[<-e];exact hz
 rw[List.length_append,List.length_cons] at hz2;rw[e,List.map_append,List.map_cons];exact⟨_,qga k false l d (r.map stD) hc hb (by lia)⟩
theorem JC{O:List SY}{x:SY}(hl:O.length < 500)(hc:Ch (-1) O)(h:Bad x):Ref O x:=qbX hl (l:=O.take (plc O x.2.1)) (d:=x) (r:=O.drop (plc O x.2.1)) rfl (qdE _ hc) (.inl h)
theorem YR{O:List SY}{x:SY}(hl:O.length < 500)(hc:Ch (-1) O)(hx:StOk (-1) x){y:SY}(hy:y∈O)(h1:y.2.1<=x.2.2)(h2:x.2.1<=y.2.2):Ref O x:=by obtain⟨l,d,r,e1,e2,e3⟩:=Z5 x hx y h1 h2 (by lia) hc hy;exact qbX hl e1 e2 e3
theorem qbY(k:Nat)(b:Bool){O:List SY}{x:SY}(hl:O.length < 500)(h:Ref O x):clK pg (k+6) "stays_with" [aL b (O.map stD),.val (stD x),.val (.int (plc O x.2.1:Int))]=nsX (plc O x.2.1:Int):=by obtain⟨d,e⟩:=h k;exact qhO k b O _ x (qbV _ _) hl e
end K64
namespace K64
open PySem DE DG FA
open L2 hiding St
open CH ST
abbrev dN:List Str:=["book","kept_stays","earlier"]
def dF(e:Addr)(L:List D)(E:List D):List Ob:=[.val bk0,.val (.lst L),.lst e E]
abbrev dA(p e:Addr)(L:List D)(E:List D):Ar:=.obj p "Diary" dN (dF e L E)
abbrev dS(p e:Addr)(L:List D)(E:List D):Sl:=.obj p "Diary" dN (dF e L E)
abbrev dR(p e:Addr)(L:List D)(E:List D):Rv:=.obj p "Diary" dN (dF e L E)
section
variable{p e:Addr}{L E:List D}
theorem qgb:qcQ pg.cs "Diary" dN (dF e L E) "book" = some (.val bk0):=rfl
theorem y3:qcQ pg.cs "Diary" dN (dF e L E) "kept_stays" = some (.val (.lst L)):=rfl
theorem qgc:qcQ pg.cs "Diary" dN (dF e L E) "earlier" = some (.cell E):=rfl
theorem Z6:mtD pg.cs (dR p e L E) "stays" = some ("Diary.stays" : Str):=rfl
theorem Yl:mtD pg.cs (dR p e L E) "changes" = some ("Diary.changes" : Str):=rfl
theorem qhP:mtD pg.cs (dR p e L E) "do" = some ("Diary.do" : Str):=rfl
theorem JD:mtD pg.cs (dR p e L E) "others" = some ("Diary.others" : Str):=rfl
theorem qhQ:mtD pg.cs (dR p e L E) "put" = some ("Diary.put" : Str):=rfl
theorem qgd:mtD pg.cs (dR p e L E) "take" = some ("Diary.take" : Str):=rfl
theorem qge:mtD pg.cs (dR p e L E) "move" = some ("Diary.move" : Str):=rfl
end
theorem qdF:mtD pg.cs (.val bk0) "rules" = some ("Book.rules" : Str):=rfl
theorem qdG:qaK pg.cs (.val bk0) "kept_rules" = some (.lst []):=rfl
theorem qgf(k:Nat):clK pg (k+1) "Book.rules" [.val bk0]=.ok (.tmp []):=by have f:=qdG;generalize bk0=B at f ⊢;rw[Yi];simp? only[jN,f]
section
variable(k:Nat)(p e:Addr)(L:List SY)(E:List D)
theorem qbZ:clK pg (k+1) "Diary.stays" [dA p e (L.map stD) E]=.ok (.tmp (L.map stD)):=by have f:=y3 (e:=e) (L:=L.map stD) (E:=E);rw[Jw];simp? only[jr,f]
theorem Qq(l:List D)(K:List D):clK pg (k+2) "Diary.changes" [dA p e K E,.val (.lst l)]=.ok (.tmp []):=by have f:=qgb (e:=e) (L:=K) (E:=E);have m:=qdF;have r:=qgf k;have z:0<=sizeLine:=Nat.zero_le _;have rg:qN 0 ((0:Nat):Int)=[]:=rfl;have sm:qO ((0:Nat):Int)=true:=rfl;generalize bk0=B at f m r ⊢;rw[yA];simp? only[zH,f,m,r,List.length_nil,sm,rg,z,QL,yv]
theorem Z7(b:Nat)(hb:b < L.length)(hl:L.length < 500):clK pg (k+3) "Diary.others" [dA p e (L.map stD) E,.val (.int (b:Int))]=.ok (.tmp ((L.eraseIdx b).map stD)):=by
 have f:=y3 (e:=e) (L:=L.map stD) (E:=E);have c1:=j8 (L.map stD) b;have c2:ZE (L.map stD) (some ((b:Int)+1)) none=(L.map stD).drop (b+1):=Jx (L.map stD) (b+1) (by rw[List.length_map];lia);have z2:((L.map stD).take b).length+((L.map stD).drop (b+1)).length<=sizeLine:=Nat.le_of_lt (zf (by rw[List.length_take,List.length_drop,List.length_map];lia))
 have er:(L.map stD).take b++(L.map stD).drop (b+1)=(L.eraseIdx b).map stD:=by rw[List.eraseIdx_eq_take_drop_succ,List.map_append,List.map_take,List.map_drop]
 have bw:=qV (pg:=pg) k (b:Int) 0 (((L.map stD).length:Int) - 1) (by lia) (by rw[List.length_map];lia);rw[<-er];generalize L.map stD=M at *;rw[zV];simp? only[ze,f,bw,c1,c2,z2]
theorem Ym(n:Int)(h:¬ (0<=n/\n<=(L.length:Int) - 1))(hn:yK (.int n)=true):clK pg (k+3) "Diary.others" [dA p e (L.map stD) E,.val (.int n)]=nsX n:=by have f:=y3 (e:=e) (L:=L.map stD) (E:=E);have bw:=jB k n 0 (((L.map stD).length:Int) - 1) (by rw[List.length_map];exact h);have mk:=qdA (.int n) hn;have hx:decide (2<=k+2)=true:=decide_eq_true (by lia);generalize L.map stD=M at *;rw[zV];simp? only[ze,f,bw,mk]
theorem qgg(x:SY)(hl:L.length < 500)(h:Ref L x):clK pg (k+7) "Diary.put" [dA p e (L.map stD) E,.val (.str x.1),.val (.int x.2.1),.val (.int x.2.2)]=nsX (plc L x.2.1:Int):=by
 have f:=y3 (e:=e) (L:=L.map stD) (E:=E);have m:=qhP (p:=p) (e:=e) (L:=L.map stD) (E:=E);have z3:0+1+1+1<=sizeLine:=by decide+kernel
 have pl:=Jz (k+5) false L x.2.1 (by lia);have sw:=qbY k false hl h;rw[qjC] at pl sw;rw[qF] at sw;generalize L.map stD=M at *;rw[YQ];simp? only[yB,f,pl,m,z3,sw]
theorem qdH(n:Int)(h:¬ (0<=n/\n<=(L.length:Int) - 1))(hn:yK (.int n)=true):clK pg (k+4) "Diary.take" [dA p e (L.map stD) E,.val (.int n)]=nsX n:=by have m:=qhP (p:=p) (e:=e) (L:=L.map stD) (E:=E);have m2:=JD (p:=p) (e:=e) (L:=L.map stD) (E:=E);have o:=Ym k p e L E n h hn;rw[Yh];simp? only[jL,m,m2,o]
theorem qba(n a b:Int)(h:¬ (0<=n/\n<=(L.length:Int) - 1))(hn:yK (.int n)=true):clK pg (k+4) "Diary.move" [dA p e (L.map stD) E,.val (.int n),.val (.int a),.val (.int b)]=nsX n:=by have m2:=JD (p:=p) (e:=e) (L:=L.map stD) (E:=E);have o:=Ym k p e L E n h hn;rw[jM];simp? only[zI,m2,o]
theorem qbb(n:Nat)(s:SY)(a b:Int)(hs:L[n]?=some s)(hl:L.length < 500)(h:Ref (L.eraseIdx n) (s.1,a,b)):clK pg (k+7) "Diary.move" [dA p e (L.map stD) E,.val (.int (n:Int)),.val (.int a),.val (.int b)]=nsX (plc (L.eraseIdx n) a:Int):=by
 have hn:n < L.length:=(List.getElem?_eq_some_iff.mp hs).1;have hle:(L.eraseIdx n).length<=L.length:=by rw[List.length_eraseIdx];split<;>lia
 have f:=y3 (e:=e) (L:=L.map stD) (E:=E);have m:=qhP (p:=p) (e:=e) (L:=L.map stD) (E:=E);have m2:=JD (p:=p) (e:=e) (L:=L.map stD) (E:=E);have z3:0+1+1+1<=sizeLine:=by decide+kernel
 have o:=Z7 (k+3) p e L E n hn hl;have pl:=Jz (k+5) true (L.eraseIdx n) a (by lia);have sw:=qbY k true (O:=L.eraseIdx n) (x:=(s.1,a,b)) (by lia) h;have at1:atI (L.map stD) (n:Int)=some (stD s):=L2.jw (by rw[List.getElem?_map,hs];rfl);have at0:atI [D.str s.1,D.int s.2.1,D.int s.2.2] 0=some (.str s.1):=by rfl
 rw[qjB] at pl sw;rw[qF] at sw at1;dsimp only at sw;generalize (L.eraseIdx n).map stD=M at *;generalize L.map stD=M' at *;rw[jM];simp? only[zI,f,m,m2,o,at1,at0,pl,z3,sw]
end
end K64
namespace K64
open PySem DE DG FA
open L2 hiding St
open CH ST
abbrev xD(n:Int):D:=.exc aX ["number"] [.int n]
theorem qiy(n:Int)(t:Str)(h:t = "DayError"\/t = "ValueError"):qcP pg.cs (.val (xD n)) t=some true:=by rcases h with rfl | rfl<;>rfl
theorem qdI(n:Int)(t:Str)(h:t∈(["NoPaper","NoRule","NotLet","NoWish","NoDeed","NoText","NoRow"]:List Str)):qcP pg.cs (.val (xD n)) t=some false:=by simp only[List.mem_cons,List.not_mem_nil,or_false] at h;rcases h with rfl | rfl | rfl | rfl | rfl | rfl | rfl<;>rfl
theorem qjD(n:Int):qaK pg.cs (.val (xD n)) "number" = some (.int n):=rfl
theorem qgh(n:Int):jg pg.cs 6 aX [("number",.int n)] [("NoStay",3,2)]=.ok (.next [.no,.no,.val (xD n),.no,.no,.no]):=rfl
noncomputable abbrev qiz:Ss:=%[.ite (.cmp .Eq (.idx (.var 1) (.con (.int 0))) (.con (.str "put"))) %[.expr (.met (.var 0) "put" %[.idx (.var 1) (.con (.int 1)),.idx (.var 1) (.con (.int 2)),.idx (.var 1) (.con (.int 3))|0])|0] %[.ite (.cmp .Eq (.idx (.var 1) (.con (.int 0))) (.con (.str "take"))) %[.expr (.met (.var 0) "take" %[.idx (.var 1) (.con (.int 1))|0])|0] %[.expr (.met (.var 0) "move" %[.idx (.var 1) (.con (.int 1)),.idx (.var 1) (.con (.int 2)),.idx (.var 1) (.con (.int 3))|0])|0]|0]|0]
theorem jC(k:Nat)(p e:Addr)(L E:List D)(deed:D)(n:Int)(h:iSs (pg.kk k) 1000 qiz [dS p e L E,.val deed,.val .non,.no,.no,.no]=.exc aX [("number",.int n)]) :
  clK pg (k+1) "_law_refusal" [dA p e L E,.val deed]=.ok (.val (.int n)):=by
 have i1:=qiy n "DayError" (.inl rfl);have i2:=qiy n "ValueError" (.inr rfl);have j1:=qdI n "NoPaper" (2:);have j2:=qdI n "NoRule" (2:);have j3:=qdI n "NotLet" (2:);have j4:=qdI n "NoWish" (2:);have j5:=qdI n "NoDeed" (2:);have j6:=qdI n "NoText" (2:);have j7:=qdI n "NoRow" (2:);have fl:=qjD n;have ct:=qgh n;have h:∀{β:Type} (K:Fl->R β),(iSs (pg.kk k) 1000 qiz [dS p e L E,.val deed,.val .non,.no,.no,.no]).th K=.exc aX [("number",.int n)]:=λK=>by rw[h];rfl
 generalize xD n=X at *;rw[yP];simp? only[zU,h,List.length_cons,List.length_nil,ct,i1,i2,j1,j2,j3,j4,j5,j6,j7,fl]
section
variable(k:Nat)(p e:Addr)(L:List SY)(E:List D)
abbrev pD(x:SY):D:=.tup [.str "put",.str x.1,.int x.2.1,.int x.2.2]
theorem YS(x:SY)(hl:L.length < 500)(h:Ref L x):clK pg (k+8) "_law_refusal" [dA p e (L.map stD) E,.val (pD x)]=.ok (.val (.int (plc L x.2.1:Int))):=by
 refine jC (k+7) p e _ E _ _ ?_;have q:=qgg k p e L E x hl h;have m:=qhQ (p:=p) (e:=e) (L:=L.map stD) (E:=E);have e0:eqD (.str "put") (.str "put")=some true:=by decide+kernel
 have a0:∀a b c d:D,atI [a,b,c,d] 0=some a:=λ_ _ _ _=>rfl;have a1:∀a b c d:D,atI [a,b,c,d] 1=some b:=λ_ _ _ _=>rfl;have a2:∀a b c d:D,atI [a,b,c,d] 2=some c:=λ_ _ _ _=>rfl;have a3:∀a b c d:D,atI [a,b,c,d] 3=some d:=λ_ _ _ _=>rfl;refine(qu _).symm.trans ?_;simp? only[a0,a1,a2,a3,e0,m,q]
theorem qbc(n:Int)(h:¬ (0<=n/\n<=(L.length:Int) - 1))(hn:yK (.int n)=true):clK pg (k+5) "_law_refusal" [dA p e (L.map stD) E,.val (.tup [.str "take",.int n])]=.ok (.val (.int n)):=by
 refine jC (k+4) p e _ E _ _ ?_;have q:=qdH k p e L E n h hn;have m:=qgd (p:=p) (e:=e) (L:=L.map stD) (E:=E);have e0:eqD (.str "take") (.str "put")=some false:=by decide+kernel
 have e1:eqD (.str "take") (.str "take")=some true:=by decide+kernel
 have a0:∀a b:D,atI [a,b] 0=some a:=λ_ _=>rfl;have a1:∀a b:D,atI [a,b] 1=some b:=λ_ _=>rfl;refine(qu _).symm.trans ?_;simp? only[a0,a1,e0,e1,m,q]
theorem Qr(n:Int)(a b r:Int)(h:clK pg (k+7) "Diary.move" [dA p e (L.map stD) E,.val (.int n),.val (.int a),.val (.int b)]=nsX r):clK pg (k+8) "_law_refusal" [dA p e (L.map stD) E,.val (.tup [.str "move",.int n,.int a,.int b])]=.ok (.val (.int r)):=by
 refine jC (k+7) p e _ E _ _ ?_;have m:=qge (p:=p) (e:=e) (L:=L.map stD) (E:=E);have e0:eqD (.str "move") (.str "put")=some false:=by decide+kernel
 have e1:eqD (.str "move") (.str "take")=some false:=by decide+kernel
 have a0:∀a b c d:D,atI [a,b,c,d] 0=some a:=λ_ _ _ _=>rfl;have a1:∀a b c d:D,atI [a,b,c,d] 1=some b:=λ_ _ _ _=>rfl;have a2:∀a b c d:D,atI [a,b,c,d] 2=some c:=λ_ _ _ _=>rfl;have a3:∀a b c d:D,atI [a,b,c,d] 3=some d:=λ_ _ _ _=>rfl;refine(qu _).symm.trans ?_;simp? only[a0,a1,a2,a3,e0,e1,m,h]
end
end K64
namespace K64
open PySem L2 DE DG FA
noncomputable def qgi:Ss:=%[.set 1 (.call "_law_lands" %[.call "_law_cell_at" %[0,.con (.int 0)|0],.con (.int 2)|0]),.set 2 (.bin .Add (.con (.int 9)) (.bin .Mod (.call "_law_cell_at" %[0,.con (.int 1)|0]) (.bin .Pow (.con (.int 10)) (.con (.int 6))))),.set 3 (.bin .Add (.con (.int 2)) (.bin .Mod (.bin .FloorDiv (.call "_law_cell_at" %[0,.con (.int 0)|0]) (.con (.int 512))) (.con (.int 8)))),.ite (.cmp .Eq (.bin .Mod (.bin .FloorDiv (.call "_law_cell_at" %[0,.con (.int 0)|0]) (.con (.int 4096))) (.con (.int 3))) (.con (.int 1))) %[.set 3 (.con (.int 60))|0] .nil|0]
noncomputable abbrev yC:E:=(.tup %[.idx (.var 1) (.bin .Mod (.var 0) (.con (.int 2))),.bin .Add (.var 2) (.bin .Mult (.con (.int 3)) (.var 0)),.bin .Add (.var 2) (.bin .Mult (.con (.int 3)) (.var 0))|0])
def zk:E:=yC
theorem Yn:UE zk yC:=λ_ _ _=>(rfl)
noncomputable abbrev yD:Ss:=%[.set 8 (.bin .Mod (.bin .Mult (.bin .Add (.call "_law_cell_at" %[0,.bin .Add (.con (.int 2)) (.var 5)|0]) (.bin .Mult (.con (.int 7)) (.var 5))) (.con (.int 48271))) (.con (.int 2147483647))),.set 9 (.bin .Mod (.bin .FloorDiv (.var 8) (.con (.int 64))) (.bin .Pow (.con (.int 10)) (.con (.int 9)))),.set 10 (.idx (.lst %[.bin .Add (.var 3) (.var 9),.bin .Sub (.neg (.con (.int 1))) (.var 9)|0]) (.bin .Mod (.var 8) (.con (.int 2)))),.setT (.many [11,12]) (.call "_law_days" %[.idx (.idx (.var 6) (.bin .Mod (.bin .FloorDiv (.var 8) (.con (.int 8))) (.var 3))) (.con (.int 1)),9,.bin .Mod (.bin .FloorDiv (.var 8) (.con (.int 2))) (.con (.int 6))|0]),.ite (.or (.cmp .NotEq (.call "_law_refusal" %[4,.tup %[.con (.str "take"),10|0]|0]) (.var 10)) (.one (.cmp .NotEq (.call "_law_refusal" %[4,.tup %[.con (.str "move"),10,11,12|0]|0]) (.var 10)))) %[.ret (.con (.bl false))|0] .nil,.ite (.cmp .NotEq (.call "_law_refusal" %[4,.tup %[.con (.str "put"),.idx (.var 1) (.con (.int 0)),11,12|0]|0]) (.call "_law_place" %[6,11|0])) %[.ret (.con (.bl false))|0] .nil,.set 13 (.bin .Mod (.bin .Add (.bin .FloorDiv (.var 8) (.con (.int 8))) (.con (.int 1))) (.var 3)),.set 14 (.bin .Add (.sli (.var 6) .none (.some (.var 13))) (.sli (.var 6) (.some (.bin .Add (.var 13) (.con (.int 1)))) .none)),.ite (.cmp .NotEq (.call "_law_refusal" %[4,.tup %[.con (.str "move"),13,11,12|0]|0]) (.call "_law_place" %[14,11|0])) %[.ret (.con (.bl false))|0] .nil,.set 15 (.idx (.lst %[.con (.str ""),.con (.str "A"),.bin .Add (.idx (.var 1) (.con (.int 0))) (.con (.str "abcdefgh")),.con (.str "a b")|0]) (.bin .Mod (.bin .FloorDiv (.var 8) (.con (.int 16))) (.con (.int 4)))),.ite (.or (.cmp .NotEq (.call "_law_refusal" %[4,.tup %[.con (.str "put"),15,.bin .Add (.var 2) (.con (.int 1)),.bin .Add (.var 2) (.con (.int 1))|0]|0]) (.con (.int 1))) (.one (.cmp .NotEq (.met (.var 4) "stays" .nil) (.var 6)))) %[.ret (.con (.bl false))|0] .nil|0]
def zl:Ss:=yD
theorem Yo:USs zl yD:=λ_ _ _ _=>(rfl)
noncomputable def qgj:Ss:=%[.for_ (.one 5) (.rng (.con (.int 4))) zl,.ite (.and (.cmp .Eq (.var 3) (.con (.int 60))) (.one (.cmp .NotEq (.call "_law_refusal" %[4,.tup %[.con (.str "put"),.idx (.var 1) (.con (.int 0)),.bin .Add (.var 2) (.con (.int 1)),.bin .Add (.var 2) (.con (.int 1))|0]|0]) (.con (.int 1))))) %[.ret (.con (.bl false))|0] .nil|0]
end K64
namespace K64
open PySem DE DG FA
open L2 hiding St
open CH ST LC LN
def hk(a b:Str)(s:Int)(k:Nat):SY:=(if k % 2=0 then a else b,s+3 * (k:Int),s+3 * (k:Int))
def hel(a b:Str)(s:Int)(n:Nat):List SY:=(List.range n).map (hk a b s)
section
variable{a b:Str}{s:Int}
theorem zn(n:Nat):(hel a b s n).length=n:=by simp[hel]
theorem JE(n:Nat):hel a b s (n+1)=hel a b s n++[hk a b s n]:=by simp[hel,List.range_succ]
theorem Yp{n j:Nat}(h:j < n):(hel a b s n)[j]?=some (hk a b s j):=by simp[hel,h]
theorem qdJ{n:Nat}{y:SY}(h:y∈hel a b s n):∃j,j < n/\y=hk a b s j:=by simp only[hel,List.mem_map,List.mem_range] at h;obtain⟨j,h1,h2⟩:=h;exact⟨j,h1,h2.symm⟩
theorem qhR(ha:NameOk a)(hb:NameOk b)(h0:0<=s)(h1:s<=1000009){k:Nat}(hk':k < 100){e:Int}(he:e < s+3 * (k:Int)):StOk e (hk a b s k):=
 ⟨by show NameOk (if k % 2=0 then a else b);split<;>assumption,he,Int.le_refl _,by show s+3 * (k:Int)<=1000000000;lia⟩
theorem qb0:∀{l m:List SY} {e:Int},Ch e (l++m)↔Ch e l/\Ch (jO e l) m
 |[],m,e=>⟨λh=>⟨trivial,h⟩,λh=>h.2⟩
 | x::l,m,e=>by have ih:=qb0 (l:=l) (m:=m) (e:=x.2.2);exact⟨λh=>⟨⟨h.1,(ih.mp h.2).1⟩,(ih.mp h.2).2⟩,λh=>⟨h.1.1,ih.mpr ⟨h.1.2,h.2⟩⟩⟩
theorem y4(e:Int)(x:SY):∀l:List SY,jO e (l++[x])=x.2.2
 |[]=>rfl
 | y::l=>y4 y.2.2 x l
theorem Yq(ha:NameOk a)(hb:NameOk b)(h0:0<=s)(h1:s<=1000009):∀n:Nat,n<=100->Ch (-1) (hel a b s n)/\jO (-1) (hel a b s n)=if n=0 then -1 else s+3 * (n:Int) - 3
 |0,_=>⟨trivial,rfl⟩
 | n+1,hn=>by
  obtain⟨i1,i2⟩:=Yq ha hb h0 h1 n (by lia);rw[JE];refine⟨qb0.mpr ⟨i1,qhR ha hb h0 h1 (by lia) ?_,trivial⟩,?_⟩
  ·rw[i2];split<;>lia
  ·rw[y4,if_neg (by lia)];show s+3 * (n:Int)=_
   lia
end
theorem Ch.low:∀{l:List SY} {e e':Int},Ch e l->e'<=e->Ch e' l
 |[],_,_,_,_=>trivial
 | x::l,e,e',h,he=>⟨StOk.low h.1 he,h.2⟩
theorem Qs:∀{l:List SY} {e:Int} (i:Nat),Ch e l->Ch e (l.eraseIdx i)
 |[],_,_,_=>trivial
 | x::l,e,0,h=>by have h1:=h.1.lo;have h2:=h.1.ab;exact Ch.low h.2 (by lia)
 | x::l,e,i+1,h=>⟨h.1,Qs i h.2⟩
theorem Qt(f:Int):∀{l:List SY},(∀y∈l,f < y.2.1)->plc l f=0
 |[],_=>rfl
 | y::l,h=>by
  have:=h y (by simp)
  rw[zQ,if_neg (by lia),Qt f λz hz=>h z (List.mem_cons_of_mem _ hz)]
theorem Z8(f:Int):∀{l:List SY},(∀y∈l,y.2.1<=f)->plc l f=l.length
 |[],_=>rfl
 | y::l,h=>by rw[zQ,if_pos (h y (by simp)),Z8 f λz hz=>h z (List.mem_cons_of_mem _ hz)];rfl
theorem qdK(l:List SY)(x:SY):ins l l.length x=l++[x]:=by unfold ins;rw[List.take_length,List.drop_length]
theorem YT{a b:Str}{s:Int}(n:Nat):plc (hel a b s (n+1)) (s+1)=1:=by
 have e:hel a b s (n+1)=hk a b s 0::(List.range n).map λk=>hk a b s (k+1):=by unfold hel;rw[List.range_succ_eq_map,List.map_cons,List.map_map];rfl
 have h0:(hk a b s 0).2.1<=s+1:=by show s+3 * ((0:Nat):Int)<=s+1;lia
 rw[e,zQ,if_pos h0,Qt];intro y hy;simp only[List.mem_map,List.mem_range] at hy;obtain⟨k,_,rfl⟩:=hy;show s+1 < s+3 * ((k+1:Nat):Int)
 lia
noncomputable def dys(d far:Int)(w:Nat):Int×Int:=match w with
 |0=>(d,d)
 |1=>(d - 1,d+1)
 |2=>(d - 2,d)
 |3=>(-1 - far,d)
 |4=>(d,1000000000+1+far)
 |_=>(d+1,d)
noncomputable def qgk(w:Nat)(x0 x1 x2 x3 x4 x5:D):D:=match w with |0=>x0 |1=>x1 |2=>x2 |3=>x3 |4=>x4 |_=>x5
theorem qdL(k:Nat)(d far:Int)(w:Nat)(hw:w < 6):clK pg (k+1) "_law_days" [.val (.int d),.val (.int far),.val (.int (w:Int))]=.ok (.val (.tup [.int (dys d far w).1,.int (dys d far w).2])):=by
 have c9:(0:Int)<=9/\(9:Int)<=1000000/\(10:Int).natAbs < 2 ^ 64:=by decide
 have p9:(10:Int) ^ (9:Int).toNat=1000000000:=by decide
 have z2:0+1+1<=sizeLine:=by decide+kernel
 have z6:0+1+1+1+1+1+1<=sizeLine:=by decide+kernel
 have at6:∀x0 x1 x2 x3 x4 x5:D,atI [x0,x1,x2,x3,x4,x5] (w:Int)=some (qgk w x0 x1 x2 x3 x4 x5):=λx0 x1 x2 x3 x4 x5=>by
  match w,hw with
  |0,_=>rfl
  |1,_=>rfl
  |2,_=>rfl
  |3,_=>rfl
  |4,_=>rfl
  |5,_=>rfl
 have r:qgk w (D.tup [.int d,.int d]) (.tup [.int (d - 1),.int (d+1)]) (.tup [.int (d - 2),.int d]) (.tup [.int (-1 - far),.int d]) (.tup [.int d,.int (1000000000+1+far)]) (.tup [.int (d+1),.int d])=.tup [.int (dys d far w).1,.int (dys d far w).2]:=by
  match w,hw with
  |0,_=>rfl
  |1,_=>rfl
  |2,_=>rfl
  |3,_=>rfl
  |4,_=>rfl
  |5,_=>rfl
 rw[<-r,YO];simp? only[yz,c9,p9,z2,z6,at6]
theorem Qu{O:List SY}(hl:O.length < 500)(hc:Ch (-1) O){nm:Str}(hn:NameOk nm){y:SY}(hy:y∈O){d:Int}(h1:y.2.1=d)(h2:y.2.2=d)(d0:5<=d)(d1:d<=900000000){far:Int}(f0:0<=far)(w:Nat)(hw:w < 6) :
  Ref O (nm,dys d far w):=by
 match w,hw with
 |0,_=>exact YR hl hc ⟨hn,by show -1 < d;lia,Int.le_refl _,by show d<=_;lia⟩ hy (by show y.2.1<=d;lia) (by show d<=y.2.2;lia)
 |1,_=>exact YR hl hc ⟨hn,by show -1 < d - 1;lia,by show d - 1<=d+1;lia,by show d+1<=_;lia⟩ hy (by show y.2.1<=d+1;lia) (by show d - 1<=y.2.2;lia)
 |2,_=>exact YR hl hc ⟨hn,by show -1 < d - 2;lia,by show d - 2<=d;lia,by show d<=_;lia⟩ hy (by show y.2.1<=d;lia) (by show d - 2<=y.2.2;lia)
 |3,_=>exact JC hl hc (.inr ⟨hn,λz=>by have:0<=-1 - far:=z.1;lia⟩)
 |4,_=>exact JC hl hc (.inr ⟨hn,λz=>by have:1000000000+1+far<=1000000000:=z.2.2;lia⟩)
 |5,_=>exact JC hl hc (.inr ⟨hn,λz=>by have:d+1<=d:=z.2.1;lia⟩)
end K64
namespace K64
open PySem DE DG FA
open L2 hiding St
open CH ST LC LN
theorem qbd{z:Str}(h:NameOk z):PyData.strOk z=true:=by
 unfold PyData.strOk;rw[<-Array.all_toList,List.all_eq_true];intro c hc
 have:=h.lets c hc
 unfold yw at this;rw[decide_eq_true_eq]
 lia
theorem qb1:∀(st:List SY),(∀s∈st,NameOk s.1)->qbO (st.map stD)=true/\ZZ (st.map stD)<=63
 |[],_=>by simp[qbO,ZZ]
 | s::l,h=>by
  obtain⟨a,b⟩:=qb1 l λt ht=>h t (by simp[ht]);have n:=qbd (h s (by simp));rw[List.map_cons,qF];refine⟨by simp[qbO,okD,n,a],?_⟩;simp only[ZZ,dpD]
  lia
theorem qgl:∀{l:List SY} {e:Int},Ch e l->∀s∈l,NameOk s.1
 |[],_,_,s,hs=>by cases hs
 | t::l,e,h,s,hs=>by
  rcases List.mem_cons.mp hs with rfl | hs
  ·exact h.1.nm
  ·exact qgl h.2 s hs
theorem qgm{l:List SY}{e:Int}(h:Ch e l):eqD (.lst (l.map stD)) (.lst (l.map stD))=some true:=by obtain⟨a,b⟩:=qb1 l (qgl h);exact Jq (by simp only[okD];exact a) (by simp only[dpD];lia)
theorem qgn(ns:List Int):∃(a b:Str) (s:Int) (n:Nat),NameOk a/\NameOk b/\(9<=s/\s<=1000008)/\(2<=n/\n<=60)/\
  iSs (pg.kk 19) 1000 qgi [.scr (ns.map D.int),.no,.no,.no,.no,.no,.no,.no,.no,.no,.no,.no,.no,.no,.no,.no]=.ok (.next [.scr (ns.map D.int),.own [.str a,.str b],.val (.int s),.val (.int (n:Int)),.no,.no,.no,.no,.no,.no,.no,.no,.no,.no,.no,.no]):=by
 have c0:clK pg 19 "_law_cell_at" [.scr (ns.map D.int),.val (.int 0)]=.ok (.val (.int (zj ns 0))):=YM 18 ns 0;have c1:clK pg 19 "_law_cell_at" [.scr (ns.map D.int),.val (.int 1)]=.ok (.val (.int (zj ns 1))):=YM 18 ns 1;obtain⟨zs,ez,lz,hz⟩:=qa9 (pg:=pg) 18 (zj ns 0) 2 (2:);have ez:clK pg 19 "_law_lands" [.val (.int (zj ns 0)),.val (.int 2)]=.ok (.tmp (zs.map D.str)):=ez;generalize zj ns 0=x at *;generalize zj ns 1=y at *
 match zs,lz with
 |[a,b],_=>
  have c9:(0:Int)<=6/\(6:Int)<=1000000/\(10:Int).natAbs < 2 ^ 64:=by decide
  have p9:(10:Int) ^ (6:Int).toNat=1000000:=by decide
  have d1:(0:Int) < 512/\(512:Int) < 1073741824:=by decide
  have d2:(0:Int) < 4096/\(4096:Int) < 1073741824:=by decide
  have g0:0<=x / 512 % 8:=Int.emod_nonneg _ (2:);have g1:x / 512 % 8 < 8:=Int.emod_lt_of_pos _ (2:);have h0:0<=y % 1000000:=Int.emod_nonneg _ (2:);have h1:y % 1000000 < 1000000:=Int.emod_lt_of_pos _ (2:);generalize y % 1000000=s at h0 h1;obtain⟨g,hg⟩:∃g,x / 512 % 8=g:=⟨_,rfl⟩;have hz1:=hz.ok a (by simp);have hz2:=hz.ok b (by simp)
  by_cases c:x / 4096 % 3=1
  ·refine⟨a,b,9+y % 1000000,60,hz1,hz2,by lia,by lia,?_⟩;have e1:((x / 4096 % 3) == (1:Int))=true:=by simpa using c
   refine(qu _).symm.trans ?_;simp? only[qgi,c0,c1,ez,List.map_cons,List.map_nil,c9,p9,d1,d2,zm,e1];rfl
  ·refine⟨a,b,9+y % 1000000,(2+x / 512 % 8).toNat,hz1,hz2,by lia,by lia,?_⟩;have e1:((x / 4096 % 3) == (1:Int))=false:=by simpa using c
   have e2:(((2+x / 512 % 8).toNat:Nat):Int)=2+x / 512 % 8:=by lia
   rw[e2];refine(qu _).symm.trans ?_;simp? only[qgi,c0,c1,ez,List.map_cons,List.map_nil,c9,p9,d1,d2,zm,e1]
theorem Qv(a b:Str)(s:Int):∀(ks:List Nat) (acc:List SY) (s0:Sl),acc.length+ks.length < 1000->
  jl (pg.kk 19) zk (.one 0) .yes (ks.map λi:Nat=>D.int (0+(i:Int))) [s0,.bor [.str a,.str b],.val (.int s)] (acc.map stD)=.ok ((acc++ks.map (hk a b s)).map stD)
 |[],acc,s0,_=>by simp[yv]
 | i::ks,acc,s0,h=>by
  rw[List.length_cons] at h;have hs:(acc.map stD).length < sizeLine:=by rw[List.length_map];exact zf (by lia)
  have ih:=Qv a b s ks (acc++[hk a b s i]) (.val (.int (0+(i:Int)))) (by simp;lia);have m3:YG 3 (0+(i:Int))=true:=Qj (2:) (2:);have z3:0+1+1+1<=sizeLine:=by decide+kernel
  have at2:atI [D.str a,D.str b] ((0+(i:Int)) % 2)=some (.str (hk a b s i).1):=by
   show _=some (D.str (if i % 2=0 then a else b))
   by_cases c:i % 2=0
   ·rw[if_pos c,show(0+(i:Int)) % 2=0 by lia];rfl
   ·rw[if_neg c,show(0+(i:Int)) % 2=1 by lia];rfl
  have e1:s+3 * (0+(i:Int))=(hk a b s i).2.1:=by show _=s+3 * (i:Int);lia
  have e2:(hk a b s i).2.2=(hk a b s i).2.1:=rfl;rw[List.append_assoc,List.singleton_append,<-List.map_cons (f:=hk a b s)] at ih;generalize (acc++List.map (hk a b s) (i::ks)).map stD=M at ih ⊢;rw[List.map_append,List.map_cons,List.map_nil,qF,e2] at ih;generalize hk a b s i=y at *;refine(qu _).symm.trans ?_;rw[List.map_cons];simp? only[Yn,m3,z3,at2,e1,hs,ih]
theorem qgo(a b:Str)(s:Int)(n:Nat)(hn:n<=60)(v0 v4 v5 v6 v7:Sl)(r:DE.Env):iR (pg.kk 19) (E.comp zk (I.rng (E.var 3)) (Tg.one 0) F.yes 1 [1,2]) (v0::.own [.str a,.str b]::.val (.int s)::.val (.int (n:Int))::r)=.ok (.tmp ((hel a b s n).map stD),v0::.own [.str a,.str b]::.val (.int s)::.val (.int (n:Int))::r):=by
 have c:=Qv a b s (List.range n) [] .no (by simp;lia)
 have e:qN 0 (n:Int)=(List.range n).map λi:Nat=>D.int (0+(i:Int)):=by unfold qN;rw[show((n:Int) - 0).toNat=n by lia]
 rw[<-e,List.map_nil,List.nil_append] at c
 have sm:qO (n:Int)=true:=by unfold qO;rw[Bool.and_eq_true];exact⟨decide_eq_true (by lia),decide_eq_true (by lia)⟩
 have hz:(qN 0 (n:Int)).length<=sizeLine:=by rw[e,List.length_map,List.length_range];exact Nat.le_of_lt (zf (by lia))
 show _=R.ok (Rv.tmp (((List.range n).map (hk a b s)).map stD),_);generalize ((List.range n).map (hk a b s)).map stD=M at c ⊢;refine(qu _).symm.trans ?_;simp? only[sm,hz,QL,List.getD_cons_succ,List.getD_cons_zero,c]
def qdM(a:Str)(w:Nat):Str:=match w with |0=>"" |1=>"A" |2=>a++("abcdefgh" : Str) |_=>"a b"
theorem qgp{a:Str}(ha:NameOk a)(w:Nat)(hw:w < 4):y1 (qdM a w):=by
 have h1:=ha.one;have h8:=ha.eight
 have sz:(a++("abcdefgh" : Str)).cps.size=a.cps.size+8:=by show(a.cps++Str.cps "abcdefgh").size=_;rw[Array.size_append];rfl
 match w,hw with
 |0,_=>exact .inl rfl
 |1,_=>show y1 ("A" : Str);exact .inr (.inr ⟨by decide,by decide,by decide+kernel⟩)
 |2,_=>exact .inr (.inl ⟨by show(a++("abcdefgh" : Str)).cps.size<=100;lia,by show 8 < (a++("abcdefgh" : Str)).cps.size;lia⟩)
 |3,_=>show y1 ("a b" : Str);exact .inr (.inr ⟨by decide,by decide,by decide+kernel⟩)
theorem qbe{a b:Str}{s:Int}(ha:NameOk a)(hb:NameOk b)(h0:9<=s)(h1:s<=1000008):Ref (hel a b s 60) (a,s+1,s+1):=λk=>by
 have hp:plc (hel a b s 60) (s+1)=1:=YT 59
 have e:ins (hel a b s 60) (plc (hel a b s 60) (s+1)) (a,s+1,s+1)=hk a b s 0::(a,s+1,s+1)::(List.range 59).map λk=>hk a b s (k+1):=by rw[hp];unfold hel;rw[List.range_succ_eq_map,List.map_cons,List.map_map,Qo,JB];rfl
 obtain⟨c1,_⟩:=Yq (s:=s) ha hb (by lia) (by lia) 60 (by lia)
 have e2:hel a b s 60=hk a b s 0::(List.range 59).map λk=>hk a b s (k+1):=by unfold hel;rw[List.range_succ_eq_map,List.map_cons,List.map_map];rfl
 rw[e2] at c1
 have c3:Ch (s+1) ((List.range 59).map λk=>hk a b s (k+1)):=by have c4:=c1.2;rw[List.range_succ_eq_map,List.map_cons] at c4 ⊢;exact⟨⟨c4.1.nm,by show s+1 < s+3 * ((0+1:Nat):Int);lia,c4.1.ab,c4.1.hi⟩,c4.2⟩
 have q0:(hk a b s 0).2.2=s:=by show s+3 * ((0:Nat):Int)=s;lia
 have c5:Ch (-1) (hk a b s 0::(a,s+1,s+1)::(List.range 59).map λk=>hk a b s (k+1)):=⟨c1.1,⟨ha,by rw[q0];show s < s+1;lia,Int.le_refl _,by show s+1<=_;lia⟩,c3⟩;show∃d,clK pg (k+5) "stays_of" [aL false ((ins (hel a b s 60) (plc (hel a b s 60) (s+1)) (a,s+1,s+1)).map stD)]=_;rw[e];exact⟨_,qdB k false _ c5 (by simp) (by simp)⟩
end K64
namespace K64
open PySem DE DG FA
open L2 hiding St
open CH ST LC LN
section
variable(ns:List Int)(a b:Str)(s:Int)(n:Nat)(p e:Addr)(E:List D)
noncomputable abbrev fr(x5 x7 x8 x9 x10 x11 x12 x13 x14 x15:Sl):DE.Env:=[.scr (ns.map D.int),.own [.str a,.str b],.val (.int s),.val (.int (n:Int)),dS p e ((hel a b s n).map stD) E,x5,.val (.lst ((hel a b s n).map stD)),x7,x8,x9,x10,x11,x12,x13,x14,x15]
theorem qdN(ha:NameOk a)(hb:NameOk b)(h0:9<=s)(h1:s<=1000008)(n2:2<=n)(n60:n<=60)(i:Nat)(hi:i < 4)(x7 x8 x9 x10 x11 x12 x13 x14 x15:Sl) :
  ∃y8 y9 y10 y11 y12 y13 y14 y15,iSs (pg.kk 19) 1000 zl (fr ns a b s n p e E (.val (.int (i:Int))) x7 x8 x9 x10 x11 x12 x13 x14 x15)=.ok (.next (fr ns a b s n p e E (.val (.int (i:Int))) x7 y8 y9 y10 y11 y12 y13 y14 y15)):=by
 have cl:clK pg 19 "_law_cell_at" [.scr (ns.map D.int),.val (.int (2+(i:Int)))]=.ok (.val (.int (zj ns (2+i)))):=by
  have:=YM (pg:=pg) 18 ns (2+i)
  rwa[show(((2+i:Nat)):Int)=2+(i:Int) by lia] at this
 generalize zj ns (2+i)=x at cl;have m7:YG 7 (i:Int)=true:=Qj (2:) (2:);have m4:YG (x+7 * (i:Int)) 48271=true:=Z1 (2:) (2:);obtain⟨c,hc⟩:∃c,(x+7 * (i:Int)) * 48271 % 2147483647=c:=⟨_,rfl⟩;have c0:0<=c:=by rw[<-hc];exact Int.emod_nonneg _ (2:)
 have c1:c < 2147483647:=by rw[<-hc];exact Int.emod_lt_of_pos _ (2:)
 have d64:(0:Int) < 64/\(64:Int) < 1073741824:=by decide
 have c9:(0:Int)<=9/\(9:Int)<=1000000/\(10:Int).natAbs < 2 ^ 64:=by decide
 have p9:(10:Int) ^ (9:Int).toNat=1000000000:=by decide
 obtain⟨far,hf⟩:∃f,c / 64 % 1000000000=f:=⟨_,rfl⟩;have f0:0<=far:=by rw[<-hf];exact Int.emod_nonneg _ (2:)
 have f1:far < 1000000000:=by rw[<-hf];exact Int.emod_lt_of_pos _ (2:)
 obtain⟨no,hno,bad⟩:∃no:Int,atI [D.int ((n:Int)+far),D.int (-1 - far)] (c % 2)=some (.int no)/\(¬ (0<=no/\no<=(n:Int) - 1)/\-(2 ^ 62) < no/\no < 2 ^ 62):=by
  by_cases q:c % 2=0
  ·exact⟨n+far,by rw[q];rfl,by lia,by lia,by lia⟩
  ·exact⟨-1 - far,by rw[show c % 2=1 by lia];rfl,by lia,by lia,by lia⟩
 have z2:0+1+1<=sizeLine:=by decide+kernel
 have z4:0+1+1+1+1<=sizeLine:=by decide+kernel
 have nz:(0:Int) < (n:Int):=by lia
 obtain⟨j,hj⟩:∃j:Nat,c / 8 % (n:Int)=(j:Int):=⟨(c / 8 % (n:Int)).toNat,by have:=Int.emod_nonneg (c / 8) (show(n:Int)≠0 by lia);lia⟩;have jn:j < n:=by have:=Int.emod_lt_of_pos (c / 8) nz;lia
 have d8:(0:Int) < 8/\(8:Int) < 1073741824:=by decide
 have atj:atI ((hel a b s n).map stD) (j:Int)=some (stD (hk a b s j)):=L2.jw (by rw[List.getElem?_map,Yp jn];rfl);have at1:∀u v w:D,atI [u,v,w] 1=some v:=λ_ _ _=>rfl;obtain⟨d,hd⟩:∃d,(hk a b s j).2.1=d:=⟨_,rfl⟩;have hd':d=s+3 * (j:Int):=hd.symm;have hd2:(hk a b s j).2.2=d:=hd;rw[qF,hd,hd2] at atj;have d2:(0:Int) < 2/\(2:Int) < 1073741824:=by decide
 obtain⟨w,hw⟩:∃w:Nat,c / 2 % 6=(w:Int):=⟨(c / 2 % 6).toNat,by lia⟩;have w6:w < 6:=by lia
 have dy:clK pg 19 "_law_days" [.val (.int d),.val (.int far),.val (.int (w:Int))]=_:=qdL 18 d far w w6;obtain⟨ch,_⟩:=Yq (s:=s) ha hb (by lia) (by lia) n (by lia);have ln:(hel a b s n).length=n:=zn n;have r1:clK pg 19 "_law_refusal" [dA p e ((hel a b s n).map stD) E,.val (.tup [.str "take",.int no])]=.ok (.val (.int no)):=qbc 14 p e (hel a b s n) E no (by rw[ln];exact bad.1) (Yj bad.2.1 bad.2.2);have r2:clK pg 19 "_law_refusal" [dA p e ((hel a b s n).map stD) E,.val (.tup [.str "move",.int no,.int (dys d far w).1,.int (dys d far w).2])]=.ok (.val (.int no)):=Qr 11 p e (hel a b s n) E no _ _ _ (qba 14 p e (hel a b s n) E no _ _ (by rw[ln];exact bad.1) (Yj bad.2.1 bad.2.2));have q3:Ref (hel a b s n) (a,dys d far w):=Qu (by rw[ln];lia) ch ha (List.mem_of_getElem? (Yp jn)) hd hd2 (by lia) (by lia) f0 w w6;have r3:clK pg 19 "_law_refusal" [dA p e ((hel a b s n).map stD) E,.val (.tup [.str "put",.str a,.int (dys d far w).1,.int (dys d far w).2])]=.ok (.val (.int (plc (hel a b s n) (dys d far w).1:Int))):=YS 11 p e (hel a b s n) E (a,dys d far w) (by rw[ln];lia) q3;have p3:clK pg 19 "_law_place" [.val (.lst ((hel a b s n).map stD)),.val (.int (dys d far w).1)]=.ok (.val (.int (plc (hel a b s n) (dys d far w).1:Int))):=Yk 18 false (hel a b s n) _ (by rw[ln];lia);obtain⟨t,ht⟩:∃t:Nat,(c / 8+1) % (n:Int)=(t:Int):=⟨((c / 8+1) % (n:Int)).toNat,by have:=Int.emod_nonneg (c / 8+1) (show(n:Int)≠0 by lia);lia⟩;have tn:t < n:=by have:=Int.emod_lt_of_pos (c / 8+1) nz;lia
 have tj:t≠j:=λz=>by subst z;have e1:=Int.emod_emod_of_dvd (c / 8) (Int.dvd_refl (n:Int));have e3:((c / 8+1) - c / 8) % (n:Int)=0:=Int.emod_eq_emod_iff_emod_sub_eq_zero.mp (ht.trans hj.symm);rw[show c / 8+1 - c / 8=1 by lia,Int.emod_eq_of_lt (by lia) (by lia)] at e3;exact absurd e3 (2:)
 have ct1:ZE ((hel a b s n).map stD) none (some (t:Int))=((hel a b s n).map stD).take t:=j8 _ t;have ct2:ZE ((hel a b s n).map stD) (some ((t:Int)+1)) none=((hel a b s n).map stD).drop (t+1):=Jx _ (t+1) (by rw[List.length_map,ln];lia)
 have ert:((hel a b s n).map stD).take t++((hel a b s n).map stD).drop (t+1)=((hel a b s n).eraseIdx t).map stD:=by rw[List.eraseIdx_eq_take_drop_succ,List.map_append,List.map_take,List.map_drop]
 have zt:(((hel a b s n).map stD).take t).length+(((hel a b s n).map stD).drop (t+1)).length<=sizeLine:=Nat.le_of_lt (zf (by rw[List.length_take,List.length_drop,List.length_map,ln];lia));have lnE:((hel a b s n).eraseIdx t).length<=n:=by rw[List.length_eraseIdx,ln];split<;>lia
 have memE:hk a b s j∈(hel a b s n).eraseIdx t:=by rw[List.mem_eraseIdx_iff_getElem?];exact⟨j,Ne.symm tj,Yp jn⟩
 have q4:Ref ((hel a b s n).eraseIdx t) ((hk a b s t).1,dys d far w):=Qu (by lia) (Qs t ch) (by show NameOk (if t % 2=0 then a else b);split<;>assumption) memE hd hd2 (by lia) (by lia) f0 w w6;have r4:clK pg 19 "_law_refusal" [dA p e ((hel a b s n).map stD) E,.val (.tup [.str "move",.int (t:Int),.int (dys d far w).1,.int (dys d far w).2])]=.ok (.val (.int (plc ((hel a b s n).eraseIdx t) (dys d far w).1:Int))):=Qr 11 p e (hel a b s n) E _ _ _ _ (qbb 11 p e (hel a b s n) E t (hk a b s t) _ _ (Yp tn) (by rw[ln];lia) q4);have p4:clK pg 19 "_law_place" [.bor (((hel a b s n).eraseIdx t).map stD),.val (.int (dys d far w).1)]=.ok (.val (.int (plc ((hel a b s n).eraseIdx t) (dys d far w).1:Int))):=Yk 18 true _ _ (by lia);have d16:(0:Int) < 16/\(16:Int) < 1073741824:=by decide
 obtain⟨u,hu⟩:∃u:Nat,c / 16 % 4=(u:Int):=⟨(c / 16 % 4).toNat,by lia⟩;have u4:u < 4:=by lia
 have lz:a.length+Str.length "abcdefgh"<=sizeLine:=by
  have:=ha.eight
  show a.cps.size+8<=2 ^ 24
  lia
 have ato:atI [D.str "",D.str "A",D.str (a++("abcdefgh" : Str)),D.str "a b"] (u:Int)=some (.str (qdM a u)):=by
  match u,u4 with
  |0,_=>rfl
  |1,_=>rfl
  |2,_=>rfl
  |3,_=>rfl
 have at0:atI [D.str a,D.str b] 0=some (.str a):=rfl;have q5:Ref (hel a b s n) (qdM a u,s+1,s+1):=JC (by rw[ln];lia) ch (.inl (qgp ha u u4));obtain⟨n',rfl⟩:∃n',n=n'+1:=⟨n - 1,by lia⟩;have pl1:plc (hel a b s (n'+1)) (s+1)=1:=YT n'
 have r5:clK pg 19 "_law_refusal" [dA p e ((hel a b s (n'+1)).map stD) E,.val (.tup [.str "put",.str (qdM a u),.int (s+1),.int (s+1)])]=.ok (.val (.int 1)):=by
  have:=YS 11 p e (hel a b s (n'+1)) E (qdM a u,s+1,s+1) (by rw[ln];lia) q5
  rw[pl1] at this;exact this
 have st:=qbZ 18 p e (hel a b s (n'+1)) E;have ms:=Z6 (p:=p) (e:=e) (L:=(hel a b s (n'+1)).map stD) (E:=E);have es:=qgm ch;have one:((1:Int) == 1)=true:=rfl;refine⟨.val (.int c),.val (.int far),.val (.int no),.val (.int (dys d far w).1),.val (.int (dys d far w).2),.val (.int t),.own (((hel a b s (n'+1)).eraseIdx t).map stD),.val (.str (qdM a u)),?_⟩;unfold fr;generalize qdM a u=od at *;generalize (hel a b s (n'+1)).map stD=M at *;generalize ((hel a b s (n'+1)).eraseIdx t).map stD=M' at *;generalize (dys d far w).1=df at *;generalize (dys d far w).2=dl at *;generalize (plc ((hel a b s (n'+1)).eraseIdx t) df:Int)=P4 at *;generalize (plc (hel a b s (n'+1)) df:Int)=P3 at *;clear q3 q4 q5 ch memE bad;refine(qu _).symm.trans ?_;simp? only[Yo,cl,m7,m4,hc,d64,c9,p9,hf,hno,z2,z4,hj,nz,d8,atj,at1,d2,hw,dy,r1,r2,r3,p3,ht,ct1,ct2,zt,ert,r4,p4,d16,hu,lz,ato,at0,r5,ms,st,es,zm,beq_self_eq_true,Bool.not_true,one]
end
end K64
namespace K64
open PySem DE DG FA
open L2 hiding St
open CH ST LC LN
section
variable(ns:List Int)(a b:Str)(s:Int)(n:Nat)(p e:Addr)(E:List D)
theorem qgq(ha:NameOk a)(hb:NameOk b)(h0:9<=s)(h1:s<=1000008)(n2:2<=n)(n60:n<=60):∀(is:List Nat) (x5 x7 x8 x9 x10 x11 x12 x13 x14 x15:Sl),(∀i∈is,i < 4)->
  ∃y5 y8 y9 y10 y11 y12 y13 y14 y15,J9 (pg.kk 19) 1000 (.one 5) zl (is.map λi:Nat=>D.int (i:Int)) (fr ns a b s n p e E x5 x7 x8 x9 x10 x11 x12 x13 x14 x15)=.ok (.next (fr ns a b s n p e E y5 x7 y8 y9 y10 y11 y12 y13 y14 y15))
 |[],x5,x7,x8,x9,x10,x11,x12,x13,x14,x15,_=>⟨x5,x8,x9,x10,x11,x12,x13,x14,x15,rfl⟩
 | i::is,x5,x7,x8,x9,x10,x11,x12,x13,x14,x15,h=>by obtain⟨z8,z9,z10,z11,z12,z13,z14,z15,t⟩:=qdN ns a b s n p e E ha hb h0 h1 n2 n60 i (h i (by simp)) x7 x8 x9 x10 x11 x12 x13 x14 x15;obtain⟨y5,y8,y9,y10,y11,y12,y13,y14,y15,ih⟩:=qgq ha hb h0 h1 n2 n60 is (.val (.int (i:Int))) x7 z8 z9 z10 z11 z12 z13 z14 z15 λj hj=>h j (List.mem_cons_of_mem _ hj);refine⟨y5,y8,y9,y10,y11,y12,y13,y14,y15,?_⟩;rw[List.map_cons,<-ih];show(iSs (pg.kk 19) 1000 zl (fr ns a b s n p e E (.val (.int (i:Int))) x7 x8 x9 x10 x11 x12 x13 x14 x15)).th _=_;rw[t];rfl
theorem qgr(ha:NameOk a)(hb:NameOk b)(h0:9<=s)(h1:s<=1000008)(n2:2<=n)(n60:n<=60)(x5 x7:Sl):∃y5 y8 y9 y10 y11 y12 y13 y14 y15,iSs (pg.kk 19) 1000 qgj (fr ns a b s n p e E x5 x7 .no .no .no .no .no .no .no .no)=.ok (.next (fr ns a b s n p e E y5 x7 y8 y9 y10 y11 y12 y13 y14 y15)):=by
 obtain⟨y5,y8,y9,y10,y11,y12,y13,y14,y15,l⟩:=qgq ns a b s n p e E ha hb h0 h1 n2 n60 [0,1,2,3] x5 x7 .no .no .no .no .no .no .no .no (2:);refine⟨y5,y8,y9,y10,y11,y12,y13,y14,y15,?_⟩;have rg:qN 0 4=([0,1,2,3]:List Nat).map λi:Nat=>D.int (i:Int):=rfl;rw[<-rg] at l;have sm:qO 4=true:=rfl;have z4:0+1+1+1+1<=sizeLine:=by decide+kernel
 have at0:atI [D.str a,D.str b] 0=some (.str a):=rfl;have one:((1:Int) == 1)=true:=rfl;unfold fr at l ⊢
 by_cases c:n=60
 ·subst c;have q:Ref (hel a b s 60) (a,s+1,s+1):=qbe ha hb h0 h1
  have r5:clK pg 19 "_law_refusal" [dA p e ((hel a b s 60).map stD) E,.val (.tup [.str "put",.str a,.int (s+1),.int (s+1)])]=.ok (.val (.int 1)):=by
   have:=YS 11 p e (hel a b s 60) E (a,s+1,s+1) (by rw[zn];decide) q
   rw[show plc (hel a b s 60) (a,s+1,s+1).2.1=1 from YT 59] at this;exact this
  have c60:(((60:Nat):Int) == 60)=true:=rfl;generalize (hel a b s 60).map stD=M at *;refine(qu _).symm.trans ?_;simp? only[qgj,sm,l,c60,at0,z4,r5,zm,one,Bool.not_true]
 ·have c60:((n:Int) == 60)=false:=by simpa using λz:(n:Int)=60=>c (by lia)
  refine(qu _).symm.trans ?_;simp? only[qgj,sm,l,zm,c60]
end
end K64
namespace K64
open PySem PySem.Spec PyProof.Rows L2 DE DG FA
noncomputable def sI0:Stmt:=.Assign [.Attribute (.Name "self" ⟨240,8,240,12⟩) "book" ⟨240,8,240,17⟩] (.Name "book" ⟨240,20,240,24⟩) ⟨240,8,240,24⟩
noncomputable def sI1:Stmt:=.Assign [.Attribute (.Name "self" ⟨241,8,241,12⟩) "kept_stays" ⟨241,8,241,23⟩] (.List [] ⟨241,26,241,28⟩) ⟨241,8,241,28⟩
noncomputable def sI2:Stmt:=.Assign [.Attribute (.Name "self" ⟨242,8,242,12⟩) "earlier" ⟨242,8,242,20⟩] (.List [] ⟨242,23,242,25⟩) ⟨242,8,242,25⟩
theorem Z9:qk (mem 52 0)=[sI0,sI1,sI2]:=by kernel_rfl
noncomputable def sD0:Stmt:=.Assign [.Name "changes" ⟨252,8,252,15⟩] (.Call (.Attribute (.Name "self" ⟨252,18,252,22⟩) "changes" ⟨252,18,252,30⟩) [.Name "stays" ⟨252,31,252,36⟩] [] ⟨252,18,252,37⟩) ⟨252,8,252,37⟩
noncomputable def sD1:Stmt:=.Expr (.Call (.Attribute (.Attribute (.Name "self" ⟨253,8,253,12⟩) "earlier" ⟨253,8,253,20⟩) "append" ⟨253,8,253,27⟩) [.Attribute (.Name "self" ⟨253,28,253,32⟩) "kept_stays" ⟨253,28,253,43⟩] [] ⟨253,8,253,44⟩) ⟨253,8,253,44⟩
noncomputable def sD2:Stmt:=.Assign [.Attribute (.Name "self" ⟨254,8,254,12⟩) "kept_stays" ⟨254,8,254,23⟩] (.Name "stays" ⟨254,26,254,31⟩) ⟨254,8,254,31⟩
def sD3:Stmt:=.Return (some (.Name "changes" ⟨255,15,255,22⟩)) ⟨255,8,255,22⟩
theorem qdO:qk (mem 52 3)=[sD0,sD1,sD2,sD3]:=by kernel_rfl
noncomputable def sP0:Stmt:=.Assign [.Name "place" ⟨263,8,263,13⟩] (.Call (.Name "place_of" ⟨263,16,263,24⟩) [.Attribute (.Name "self" ⟨263,25,263,29⟩) "kept_stays" ⟨263,25,263,40⟩,.Name "first" ⟨263,42,263,47⟩] [] ⟨263,16,263,48⟩) ⟨263,8,263,48⟩
noncomputable def sP1:Stmt:=.Return (some (.Tuple [.Name "place" ⟨264,16,264,21⟩,.Call (.Attribute (.Name "self" ⟨264,23,264,27⟩) "do" ⟨264,23,264,30⟩) [.Call (.Name "stays_with" ⟨264,31,264,41⟩) [.Attribute (.Name "self" ⟨264,42,264,46⟩) "kept_stays" ⟨264,42,264,57⟩,.Tuple [.Name "land" ⟨264,60,264,64⟩,.Name "first" ⟨264,66,264,71⟩,.Name "last" ⟨264,73,264,77⟩] 0 ⟨264,59,264,78⟩,.Name "place" ⟨264,80,264,85⟩] [] ⟨264,31,264,86⟩] [] ⟨264,23,264,87⟩] 0 ⟨264,15,264,88⟩)) ⟨264,8,264,88⟩
theorem qbf:qk (mem 52 5)=[sP0,sP1]:=by kernel_rfl
noncomputable def sU0:Stmt:=.If (.UnaryOp .Not (.Attribute (.Name "self" ⟨275,15,275,19⟩) "earlier" ⟨275,15,275,27⟩) ⟨275,11,275,27⟩) [.Raise (some (.Call (.Name "NoDeed" ⟨276,18,276,24⟩) [.Constant (.str "no deed is left to take back") 0 ⟨276,25,276,55⟩] [] ⟨276,18,276,56⟩)) none ⟨276,12,276,56⟩] [] ⟨275,8,276,56⟩
noncomputable def sU1:Stmt:=.Assign [.Name "stays" ⟨277,8,277,13⟩] (.Call (.Attribute (.Attribute (.Name "self" ⟨277,16,277,20⟩) "earlier" ⟨277,16,277,28⟩) "pop" ⟨277,16,277,32⟩) [] [] ⟨277,16,277,34⟩) ⟨277,8,277,34⟩
noncomputable def sU2:Stmt:=.Assign [.Name "changes" ⟨278,8,278,15⟩] (.Call (.Attribute (.Name "self" ⟨278,18,278,22⟩) "changes" ⟨278,18,278,30⟩) [.Name "stays" ⟨278,31,278,36⟩] [] ⟨278,18,278,37⟩) ⟨278,8,278,37⟩
noncomputable def sU3:Stmt:=.Assign [.Attribute (.Name "self" ⟨279,8,279,12⟩) "kept_stays" ⟨279,8,279,23⟩] (.Name "stays" ⟨279,26,279,31⟩) ⟨279,8,279,31⟩
def sU4:Stmt:=.Return (some (.Name "changes" ⟨280,15,280,22⟩)) ⟨280,8,280,22⟩
theorem qaa:qk (mem 52 8)=[sU0,sU1,sU2,sU3,sU4]:=by kernel_rfl
def qd4:Stmt->Expr
 |.Assign _ x _=>x
 |_=>.Name "" ⟨0,0,0,0⟩
def qhS:Expr->Expr×List Comprehension×Scope
 |.ListComp e g sc _=>(e,g,sc)
 |x=>(x,[],default)
def qhT:Expr×List Comprehension×Scope:=qhS (qd4 ((qk (top 66)).getD 5 (.Pass ⟨0,0,0,0⟩)))
def qjE:Expr:=.ListComp qhT.1 qhT.2.1 qhT.2.2 ⟨367,16,367,123⟩
noncomputable def sL4:Stmt:=.Assign [.Name "_law_diary" ⟨366,4,366,14⟩] (.Call (.Name "Diary" ⟨366,17,366,22⟩) [.Call (.Name "Book" ⟨366,23,366,27⟩) [.List [] ⟨366,28,366,30⟩,.List [] ⟨366,32,366,34⟩] [] ⟨366,23,366,35⟩] [] ⟨366,17,366,36⟩) ⟨366,4,366,36⟩
def sL5:Stmt:=.Assign [.Name "_law_held" ⟨367,4,367,13⟩] qjE ⟨367,4,367,123⟩
noncomputable def sL6:Stmt:=.For (.Tuple [.Name "_law_k" ⟨368,8,368,14⟩,.Name "_law_stay" ⟨368,16,368,25⟩] 0 ⟨368,8,368,25⟩) (.Call (.Name "enumerate" ⟨368,29,368,38⟩) [.Name "_law_held" ⟨368,39,368,48⟩] [] ⟨368,29,368,49⟩) [.If (.Compare (.Call (.Attribute (.Name "_law_diary" ⟨369,11,369,21⟩) "put" ⟨369,11,369,25⟩) [.Subscript (.Name "_law_stay" ⟨369,26,369,35⟩) (.Constant (.int 0) 0 ⟨369,36,369,37⟩) ⟨369,26,369,38⟩,.Subscript (.Name "_law_stay" ⟨369,40,369,49⟩) (.Constant (.int 1) 0 ⟨369,50,369,51⟩) ⟨369,40,369,52⟩,.Subscript (.Name "_law_stay" ⟨369,54,369,63⟩) (.Constant (.int 2) 0 ⟨369,64,369,65⟩) ⟨369,54,369,66⟩] [] ⟨369,11,369,67⟩) [.NotEq] [.Tuple [.Name "_law_k" ⟨369,72,369,78⟩,.List [] ⟨369,80,369,82⟩] 0 ⟨369,71,369,83⟩] ⟨369,11,369,83⟩) [.Return (some (.Constant (.bool false) 0 ⟨370,19,370,24⟩)) ⟨370,12,370,24⟩] [] ⟨369,8,370,24⟩] [] ⟨368,4,370,24⟩
noncomputable def sL9:Stmt:=.Return (some (.BoolOp .And [.Compare (.Call (.Attribute (.Name "_law_diary" ⟨389,11,389,21⟩) "undo" ⟨389,11,389,26⟩) [] [] ⟨389,11,389,28⟩) [.Eq] [.List [] ⟨389,32,389,34⟩] ⟨389,11,389,34⟩,.Compare (.Call (.Attribute (.Name "_law_diary" ⟨389,39,389,49⟩) "stays" ⟨389,39,389,55⟩) [] [] ⟨389,39,389,57⟩) [.Eq] [.Subscript (.Name "_law_held" ⟨389,61,389,70⟩) (.Slice none (some (.BinOp (.Name "_law_many" ⟨389,72,389,81⟩) .Sub (.Constant (.int 1) 0 ⟨389,84,389,85⟩) ⟨389,72,389,85⟩)) none ⟨389,71,389,85⟩) ⟨389,61,389,86⟩] ⟨389,39,389,86⟩] ⟨389,11,389,86⟩)) ⟨389,4,389,86⟩
theorem qbg:qk (top 66)=(qk (top 66)).take 4++(sL4::sL5::sL6::(((qk (top 66)).drop 7).take 2++[sL9])):=by kernel_rfl
end K64
namespace K64
open PySem PySem.Spec PyProof.Rows L2 DE DG FA
abbrev dia(p e:Addr)(L E:List D):Ob:=.ins p "Diary" dN (dF e L E)
structure Kp(p e:Addr)(H H':Hp):Prop where
 st:∀b o,H b=some o->b≠p->b≠e->H' b=some o
 nn:∀b,H' b=none->H b=none
noncomputable def qiA(κ:KC):Sp:=λvs H Q _=>∃(G:Hp) (p e:Addr) (L l E:List D) (v:V),vs=[.ref p,v]/\qj G H/\ObR κ G H (dia p e L E) (.ref p)/\Rep κ G (.lst l) v/\E.length < 1000/\
 ∀a H',Kp p e H H'->H a=none->H' a=some (.lst [])->ObR κ G H' (dia p e l (E++[.lst L])) (.ref p)->Q (.ref a) H'
section
variable{P:Program}{wd:World}{κ:KC}{K:Frag}{mg:PR}{base:Heap}{C:Addr}{ε:XK}{k:Nat}{X:Cx}
theorem pvL{st:Stmt}{j:Nat}{cl:Str->List Ar->R Rv}(gs:Gs κ K ε k X (pg.ct j cl st)){i:Nat}{x:Str}{pos:Pos}(h:(fnN st)[i]?=some x/\Jg (qe st) x=true)(d1:(x == ("__debug__" : Str))=false:=by decide)(d2:(x == ("__classdict__" : Str))=false:=by decide):PE X (.Name x pos) (qaf i):=
 zo (by rw[gs.hN];exact h.1) (gs.vis x h.2) d1 d2
theorem zJ{G H:Hp}{p e:Addr}{L E:List D}{v:V}(hC:κ "Diary" = some C)(h:ObR κ G H (dia p e L E) v):∃dx vb vs es,v=.ref p/\H p=some (.ins C dx [("book",vb),("kept_stays",vs),("earlier",.ref e)])/\Rep κ G bk0 vb/\Rep κ G (.lst L) vs/\H e=some (.lst es)/\qm κ G E es:=by unfold dia dF at h;simp only[ObR,YF] at h;obtain⟨dx,C',xs,hc,rfl,h1,hl,vb,r1,rfl,b1,vs,r2,rfl,b2,ve,r3,rfl,⟨es,rfl,b3,b4⟩,rfl⟩:=h;rw[hC] at hc;cases hc;exact⟨dx,vb,vs,es,rfl,h1,b1,b2,b3,b4⟩
theorem Yr{G H:Hp}{p e:Addr}{L E:List D}(hC:κ "Diary" = some C){dx:Addr}{vb vs:V}{es:List V}(h1:H p=some (.ins C dx [("book",vb),("kept_stays",vs),("earlier",.ref e)]))(h2:Rep κ G bk0 vb)(h3:Rep κ G (.lst L) vs)(h4:H e=some (.lst es))(h5:qm κ G E es):ObR κ G H (dia p e L E) (.ref p):=by unfold dia dF;simp only[ObR,YF];exact⟨dx,C,[vb,vs,.ref e],hC,by trivial,h1,rfl,vb,_,rfl,h2,vs,_,rfl,h3,_,_,rfl,⟨es,rfl,h4,h5⟩,rfl⟩
theorem qhU(ok:PgOk κ K mg pg)(hC:κ "Diary" = some C){nm f:Str}{fa:Addr}{fd:FuncData}(F:Fun K nm f (mem 52 3) fa fd)(j:Nat):FnOk P wd K mg base (CX1 P wd) (j+6) fa fd (["self","stays"]:List Str) (qiA κ):=by
 have hc:qQ (mem 52 3)=true:=by kernel_rfl
 have hp:zz (mem 52 3)=(["self","stays"]:List Str):=by kernel_rfl
 have hN:fnN (mem 52 3)=(["self","stays","changes"]:List Str):=by kernel_rfl
 have n0:(fnN (mem 52 3))[0]?=some ("self" : Str)/\Jg (qe (mem 52 3)) "self" = true:=⟨by kernel_rfl,by kernel_rfl⟩;have n1:(fnN (mem 52 3))[1]?=some ("stays" : Str)/\Jg (qe (mem 52 3)) "stays" = true:=⟨by kernel_rfl,by kernel_rfl⟩;have n2:(fnN (mem 52 3))[2]?=some ("changes" : Str)/\Jg (qe (mem 52 3)) "changes" = true:=⟨by kernel_rfl,by kernel_rfl⟩;have l2:qai (qe (mem 52 3)) "changes" = true:=by kernel_rfl
 have ih:=J7 (P:=P) (wd:=wd) (base:=base) ok (j+5)
 have:FnOk P wd K mg base (CX1 P wd) (j+6) fa fd (zz (mem 52 3)) (qiA κ):=by
  refine F.okx (qt hc) (λvs H Q E z=>?_) (λcdv A outer s H vs Q E hr z=>?_)
  ·obtain⟨G,p,e,L,l,E',v,rfl,_⟩:=z;rw[hp];rfl
  ·obtain⟨G,p,e,L,l,E',v,rfl,sub,ob,rv,hl,q⟩:=z;have gs:=QN (E:=E) (H:=H) (outer:=outer) ok ih (qt hc) hr;have A1:=all pg.m _ _ _ gs.toGd;have nd:=gs.nd;have hN':=gs.hN;rw[qdO]
   refine⟨_,qo (jb (i:=2) (by rw[hN'];exact nd) (by rw[hN'];exact n2.1) (gs.loc _ l2).1 (A1.r G H _ (.met (.var 0) "changes" %[1|0]) (by kernel_rfl)) rfl (gs.loc _ l2).2)
    (qo (jv (qez PySem.F.plainAttrs_list PySem.F.slot_list_append PySem.F.type_list_append JR (JK (pvL gs n0) rfl) (qr (JK (pvL gs n0) rfl) qz)))
    (qo (yc (pvL gs n0) (pvL gs n1) rfl) (q9 (jD (pvL gs n2))))),?_⟩
   have er0:=zO (N:=fnN (mem 52 3)) (K:=K) (args:=[dA p e L E',.val (.lst l)]) sub ⟨_,_,rfl,ob,_,_,rfl,rv,rfl⟩;have hs:qE (fnN (mem 52 3)) [.ref p,v]=[some (.ref p),some v,none]:=by rw[hN];rfl
   have hl0:qX (fnN (mem 52 3)) [dA p e L E',.val (.lst l)]=[dS p e L E',.val (.lst l),.no]:=by rw[hN];rfl
   rw[hs,hl0] at er0;rw[hs]
   have ev:iR (pg.ct (j+5) (clK pg (j+5)) (mem 52 3)).k (.met (.var 0) "changes" %[1|0]) [dS p e L E',.val (.lst l),.no]=.ok (.tmp [],[dS p e L E',.val (.lst l),.no]):=by have m:=Yl (p:=p) (e:=e) (L:=L) (E:=E');have c:clK pg (j+5) "Diary.changes" [dA p e L E',.val (.lst l)]=.ok (.tmp []):=Qq (j+3) p e E' l L;show iR (pg.kk (j+5)) _ _=_;refine(qu _).symm.trans ?_;simp? only[m,c]
   refine⟨_,_,er0,?_⟩;rw[ev];intro v1 G1 H1 p1 r1;obtain⟨a,xs,rfl,a1,a2,_,_,_,a3⟩:=r1;simp only[qm] at a3;subst a3;obtain⟨dx,vb,vs,es,ep,h1,h2,h3,h4,h5⟩:=zJ hC ob;have k1:H1 p=_:=p1.hs _ _ h1;have k4:H1 e=_:=p1.hs _ _ h4;have pe:e≠p:=λz=>by rw[z,h1] at h4;cases h4
   have ap:a≠p:=λz=>by rw[z,h1] at a2;cases a2
   have ae:a≠e:=λz=>by rw[z,h4] at a2;cases a2
   have cl:=gs.cls "Diary" C hC;have f1:=gs.flds "Diary" "earlier" C (show Z3.fld "Diary" "earlier" = true from rfl) hC;have f2:=gs.flds "Diary" "kept_stays" C (show Z3.fld "Diary" "kept_stays" = true from rfl) hC;have le:es.length=E'.length:=h5.len.symm;refine⟨.ref p,rfl,p,C,dx,_,.ref e,rfl,k1,cl,f1,rfl,.inl ⟨rfl,es,SqL.of k4⟩,.ref p,rfl,p,C,dx,_,vs,rfl,k1,cl,f2,rfl,e,es,vs,rfl,rfl,k4,zf (by lia),?_⟩;have k1':upd H1 e (.lst (es++[vs])) p=_:=(qb (Ne.symm pe)).trans k1;refine⟨v,rfl,.ref p,rfl,p,C,dx,_,rfl,k1',cl,f2,(show(3:Nat) < 1000 by decide),?_⟩;refine⟨.ref a,rfl,?_⟩;refine q a _ ⟨λb o hb b1 b2=>?_,λb hb=>?_⟩ a2 ?_ ?_
   ·rw[qb b1,qb b2];exact p1.hs _ _ hb
   ·have b1:b≠p:=λz=>by rw[z,qc] at hb;cases hb
    rw[qb b1] at hb;have b2:b≠e:=λz=>by rw[z,qc] at hb;cases hb
    rw[qb b2] at hb;exact qj.none p1.hs hb
   ·rw[qb ap,qb ae];exact a1
   ·exact Yr (dx:=dx) (vb:=vb) (vs:=v) (es:=es++[vs]) hC qc h2 rv (by rw[qb pe];exact qc) (h5.snoc h3)
 rw[hp] at this;exact this
end
end K64
namespace K64
open PySem PySem.Spec PyProof.Rows L2 DE DG FA
open CH ST
section
variable{P:Program}{wd:World}{κ:KC}{K:Frag}{mg:PR}{base:Heap}{C:Addr}{ε:XK}{k:Nat}{X:Cx}
theorem YU(ok:PgOk κ K mg pg)(hC:κ "Diary" = some C){x f:Str}{st:Stmt}(h:pg.cs.mt "Diary" x=some f)(hl:pg.meths.lookup f=some st):∃fa fd nm,Meth K C x fa/\Fun K nm f st fa fd/\qx K fd (zz st) []:=by obtain⟨C',fa,fd,st',nm,q1,q2,q3,_,q5,q6⟩:=ok.mts "Diary" x f h;rw[hC] at q1;rw[hl] at q3;cases q1;cases q3;exact⟨fa,fd,nm,q2,q5,q6⟩
theorem off{G H G' H':Hp}{ρ ρ':DE.Env}{σ:L2.St}{Gv Hv:Hp}(p1:Po κ K Gv Hv σ G H ρ G' H' ρ'){b:Addr}{o:HO}(g:G b=none)(h:H b=some o)(no:∀(i:Nat) (l:List D),ρ[i]?≠some (.own l)):G' b=none:=by
 cases q:G' b with
 |none=>rfl
 | some o'=>
  rcases p1.new b o' q with ⟨_,z⟩ | z | ⟨i,l,z,_⟩
  ·rw[g] at z;cases z
  ·rw[h] at z;cases z
  ·exact absurd z (no i l)
noncomputable def qgs(κ:KC):Sp:=λvs H Q _=>∃(G:Hp) (p e:Addr) (L:List SY) (E:List D) (x:SY),vs=[.ref p,.str x.1,.int x.2.1,.int x.2.2]/\qj G H/\ObR κ G H (dia p e (L.map stD) E) (.ref p)/\G p=none/\G e=none/\E.length < 1000/\L.length < 60/\Ch (-1) (ins L (plc L x.2.1) x)/\
 ∀v G' H',Kp p e H H'->qj G G'->qj G' H'->(∀a o,G' a=some o->(∃o',G a=some o')\/H a=none)->Rep κ G' (.tup [.int (plc L x.2.1:Int),.lst []]) v->ObR κ G' H' (dia p e ((ins L (plc L x.2.1) x).map stD) (E++[.lst (L.map stD)])) (.ref p)->Q v H'
theorem qgt(ok:PgOk κ K mg pg)(hC:κ "Diary" = some C){nm f:Str}{fa:Addr}{fd:FuncData}(F:Fun K nm f (mem 52 5) fa fd)(j:Nat):FnOk P wd K mg base (CX1 P wd) (j+10) fa fd (["self","land","first","last"]:List Str) (qgs κ):=by
 have hc:qQ (mem 52 5)=true:=by kernel_rfl
 have hp:zz (mem 52 5)=(["self","land","first","last"]:List Str):=by kernel_rfl
 have hN:fnN (mem 52 5)=(["self","land","first","last","place"]:List Str):=by kernel_rfl
 have n0:(fnN (mem 52 5))[0]?=some ("self" : Str)/\Jg (qe (mem 52 5)) "self" = true:=⟨by kernel_rfl,by kernel_rfl⟩;have n4:(fnN (mem 52 5))[4]?=some ("place" : Str)/\Jg (qe (mem 52 5)) "place" = true:=⟨by kernel_rfl,by kernel_rfl⟩;have l4:qai (qe (mem 52 5)) "place" = true:=by kernel_rfl
 have ih:=J7 (P:=P) (wd:=wd) (base:=base) ok (j+9);obtain⟨fa2,fd2,nm2,M2,F2,B2⟩:=YU ok hC (x:="do") (f:="Diary.do") (st:=mem 52 3) rfl rfl;have D2:=qhU (P:=P) (wd:=wd) (base:=base) ok hC F2 (j+3)
 have B2:qx K fd2 (["self","stays"]:List Str) []:=by
  have hp2:zz (mem 52 3)=(["self","stays"]:List Str):=by kernel_rfl
  rw[<-hp2];exact B2
 have:FnOk P wd K mg base (CX1 P wd) (j+10) fa fd (zz (mem 52 5)) (qgs κ):=by
  refine F.okx (qt hc) (λvs H Q E z=>?_) (λcdv A outer s H vs Q E hr z=>?_)
  ·obtain⟨G,p,e,L,E',x,rfl,_⟩:=z;rw[hp];rfl
  ·obtain⟨G,p,e,L,E',x,rfl,sub,ob,gp,ge,hE,hL,hch,q⟩:=z;have gs:=QN (E:=E) (H:=H) (outer:=outer) ok ih (qt hc) hr;have A1:=all pg.m _ _ _ gs.toGd;have nd:=gs.nd;have hN':=gs.hN;have cl:=gs.cls "Diary" C hC;rw[qbf]
   refine⟨_,qo (jb (i:=4) (by rw[hN'];exact nd) (by rw[hN'];exact n4.1) (gs.loc _ l4).1 (A1.r G H _ (.call "place_of" %[.fld (.var 0) "kept_stays",2|0]) (by kernel_rfl)) rfl (gs.loc _ l4).2)
    (q9 (jD (qbr (qr (pvL gs n4) (qr (Yz (pvL gs n0) cl M2 D2 gs.room B2 .nil gs.ps (qr (A1.r G H _ (.call "stays_with" %[.fld (.var 0) "kept_stays",.tup %[1,2,3|0],4|0]) (by kernel_rfl)) qz)) qz))))),?_⟩
   have er0:=zO (N:=fnN (mem 52 5)) (K:=K) (args:=[dA p e (L.map stD) E',.val (.str x.1),.val (.int x.2.1),.val (.int x.2.2)]) sub ⟨_,_,rfl,ob,_,_,rfl,rfl,_,_,rfl,rfl,_,_,rfl,rfl,rfl⟩;have hs:qE (fnN (mem 52 5)) [.ref p,.str x.1,.int x.2.1,.int x.2.2]=[some (.ref p),some (.str x.1),some (.int x.2.1),some (.int x.2.2),none]:=by rw[hN];rfl
   have hl0:qX (fnN (mem 52 5)) [dA p e (L.map stD) E',.val (.str x.1),.val (.int x.2.1),.val (.int x.2.2)]=[dS p e (L.map stD) E',.val (.str x.1),.val (.int x.2.1),.val (.int x.2.2),.no]:=by rw[hN];rfl
   rw[hs,hl0] at er0;rw[hs];have f0:=y3 (e:=e) (L:=L.map stD) (E:=E')
   have ev:iR (pg.ct (j+9) (clK pg (j+9)) (mem 52 5)).k (.call "place_of" %[.fld (.var 0) "kept_stays",2|0]) [dS p e (L.map stD) E',.val (.str x.1),.val (.int x.2.1),.val (.int x.2.2),.no]=.ok (.val (.int (plc L x.2.1:Int)),[dS p e (L.map stD) E',.val (.str x.1),.val (.int x.2.1),.val (.int x.2.2),.no]):=by have c:clK pg (j+9) "place_of" [.val (.lst (L.map stD)),.val (.int x.2.1)]=.ok (.val (.int (plc L x.2.1:Int))):=Jz (j+8) false L x.2.1 (by lia);show iR (pg.kk (j+9)) _ _=_;generalize L.map stD=M at *;refine(qu _).symm.trans ?_;simp? only[f0,c]
   have ev2:iR (pg.ct (j+9) (clK pg (j+9)) (mem 52 5)).k (.call "stays_with" %[.fld (.var 0) "kept_stays",.tup %[1,2,3|0],4|0]) [dS p e (L.map stD) E',.val (.str x.1),.val (.int x.2.1),.val (.int x.2.2),.val (.int (plc L x.2.1:Int))]=.ok (.tmp ((ins L (plc L x.2.1) x).map stD),[dS p e (L.map stD) E',.val (.str x.1),.val (.int x.2.1),.val (.int x.2.2),.val (.int (plc L x.2.1:Int))]):=by
    have c:clK pg (j+9) "stays_with" [.val (.lst (L.map stD)),.val (stD x),.val (.int (plc L x.2.1:Int))]=.ok (.tmp ((ins L (plc L x.2.1) x).map stD)):=qhN (j+3) false L (plc L x.2.1) x (qbV _ _) (by lia) hch hL;have z3:0+1+1+1<=sizeLine:=by decide+kernel
    rw[qF] at c;show iR (pg.kk (j+9)) _ _=_;generalize L.map stD=M at *;generalize (ins L (plc L x.2.1) x).map stD=M' at *;refine(qu _).symm.trans ?_;simp? only[f0,c,z3]
   refine⟨_,_,er0,?_⟩;rw[ev];intro v1 G1 H1 p1 r1;simp only[RvR,Rep] at r1;subst r1
   have no:∀(i:Nat) (l:List D),([dS p e (L.map stD) E',.val (.str x.1),.val (.int x.2.1),.val (.int x.2.2),.no]:DE.Env)[i]?≠some (.own l):=λi l z=>by
    match i,z with
    |0,z=>cases z
    |1,z=>cases z
    |2,z=>cases z
    |3,z=>cases z
    |4,z=>cases z
    | _+5,z=>cases z
   have no1:∀(i:Nat) (l:List D),([dS p e (L.map stD) E',.val (.str x.1),.val (.int x.2.1),.val (.int x.2.2),.val (.int (plc L x.2.1:Int))]:DE.Env)[i]?≠some (.own l):=λi l z=>by
    match i,z with
    |0,z=>cases z
    |1,z=>cases z
    |2,z=>cases z
    |3,z=>cases z
    |4,z=>cases z
    | _+5,z=>cases z
   obtain⟨dx,vb,vs,es,_,h1,h2,h3,h4,h5⟩:=zJ hC ob;have k1:H1 p=_:=p1.hs _ _ h1;have k4:H1 e=_:=p1.hs _ _ h4;have er1:ER κ K G H G1 H1 [dS p e (L.map stD) E',.val (.str x.1),.val (.int x.2.1),.val (.int x.2.2),.val (.int (plc L x.2.1:Int))] [some (.ref p),some (.str x.1),some (.int x.2.1),some (.int x.2.2),some (.int (plc L x.2.1:Int))]:=p1.er.setVal (i:=4) (d:=.int (plc L x.2.1:Int)) (v:=.int (plc L x.2.1:Int)) (by simp only[Rep]);refine⟨_,rfl,.ref p,rfl,p,dx,_,rfl,k1,rfl,_,_,er1,?_⟩;rw[ev2];intro v2 G2 H2 p2 r2;obtain⟨a,xs,rfl,a1,a2,a3,a4,a5,a6⟩:=r2;have p3:=p2.freeze a1 a2 a3 a4 a5;have g1p:G1 p=none:=off p1 gp h1 no;have g1e:G1 e=none:=off p1 ge h4 no;have g3p:upd G2 a (.lst xs) p=none:=off p3 g1p k1 no1;have g3e:upd G2 a (.lst xs) e=none:=off p3 g1e k4 no1
   have rl:Rep κ (upd G2 a (.lst xs)) (.lst ((ins L (plc L x.2.1) x).map stD)) (.ref a):=by simp only[Rep];exact⟨a,xs,rfl,qc,a6.same (qj.upd a4)⟩
   have hG3:qj G (upd G2 a (.lst xs)):=λb o z=>p3.gs b o (p1.gs b o z);have hH2:qj H H2:=λb o z=>p3.hs b o (p1.hs b o z);generalize upd G2 a (.lst xs)=G3 at p3 g3p g3e rl hG3;refine⟨G3,p,e,L.map stD,(ins L (plc L x.2.1) x).map stD,E',.ref a,rfl,p3.er.sub,ob.same hH2 hG3,rl,hE,λa' H' kp n1 n2 ob'=>?_⟩;refine⟨(by decide+kernel:2<=sizeLine),λt ht=>?_⟩;have ta:a'≠t:=λz=>by rw[z,ht] at n2;cases n2
   have g3a:G3 a'=none:=qj.none p3.er.sub n1;have h2t:H2 t=none:=kp.nn t ht;have g3t:G3 t=none:=qj.none p3.er.sub h2t;have s1:qj G3 (upd G3 a' (.lst [])):=qj.upd g3a;have s2:qj (upd G3 a' (.lst [])) (upd (upd G3 a' (.lst [])) t (.tup [.int (plc L x.2.1:Int),.ref a'])):=qj.upd (by rw[qb (Ne.symm ta)];exact g3t);have s3:qj H' (upd H' t (.tup [.int (plc L x.2.1:Int),.ref a'])):=qj.upd ht;refine q (.ref t) (upd (upd G3 a' (.lst [])) t (.tup [.int (plc L x.2.1:Int),.ref a'])) _ ⟨λb o hb b1 b2=>s3 _ _ (kp.st b o (hH2 b o hb) b1 b2),λb hb=>qj.none hH2 (kp.nn b (qj.none s3 hb))⟩ (λb o z=>s2 b o (s1 b o (hG3 b o z))) (λb o z=>?_) (λb o z=>?_) ?_ (ob'.same s3 λb o z=>s2 b o (s1 b o z))
   ·by_cases b1:b=t
    ·subst b1;rw[qc] at z ⊢;exact z
    ·rw[qb b1] at z
     by_cases b2:b=a'
     ·subst b2;rw[qc] at z;cases z;exact s3 _ _ n2
     ·rw[qb b2] at z;exact s3 _ _ (kp.st b o (p3.er.sub b o z) (λy=>by rw[y,g3p] at z;cases z) (λy=>by rw[y,g3e] at z;cases z))
   ·by_cases b1:b=t
    ·subst b1;exact .inr (qj.none hH2 h2t)
    ·rw[qb b1] at z
     by_cases b2:b=a'
     ·subst b2;exact .inr (qj.none hH2 n1)
     ·rw[qb b2] at z;rcases p3.new b o z with ⟨o',y⟩ | y | ⟨i,l,y,_⟩
      ·rcases p1.new b o' y with w | w | ⟨i,l,w,_⟩
       ·exact .inl w
       ·exact .inr w
       ·exact absurd w (no i l)
      ·exact .inr (qj.none p1.hs y)
      ·exact absurd y (no1 i l)
   ·simp only[Rep,qm];exact⟨t,_,rfl,qc,_,_,rfl,rfl,_,_,rfl,⟨a',[],rfl,s2 _ _ qc,rfl⟩,rfl⟩
 rw[hp] at this;exact this
end
end K64
namespace K64
open PySem PySem.Spec PyProof.Rows L2 DE DG FA
open CH ST
section
variable{P:Program}{wd:World}{κ:KC}{K:Frag}{mg:PR}{base:Heap}{C:Addr}{ε:XK}{k:Nat}{X:Cx}
theorem Ys{G:Hp}:∀{ds:List D} {d:D} {vs:List V},qm κ G (ds++[d]) vs->∃us u,vs=us++[u]/\qm κ G ds us/\Rep κ G d u
 |[],d,vs,h=>by simp only[List.nil_append,qm] at h;obtain⟨u,r,rfl,h1,rfl⟩:=h;exact⟨[],u,rfl,.nil,h1⟩
 | c::ds,d,vs,h=>by rw[List.cons_append] at h;simp only[qm] at h;obtain⟨w,r,rfl,h1,h2⟩:=h;obtain⟨us,u,rfl,h3,h4⟩:=Ys h2;exact⟨w::us,u,rfl,.cons h1 h3,h4⟩
noncomputable def qb2(κ:KC):Sp:=λvs H Q _=>∃(G:Hp) (p e:Addr) (L l E:List D),vs=[.ref p]/\qj G H/\ObR κ G H (dia p e L (E++[.lst l])) (.ref p)/\G e=none/\
 ∀a H',Kp p e H H'->H a=none->H' a=some (.lst [])->ObR κ G H' (dia p e l E) (.ref p)->Q (.ref a) H'
theorem qdP(ok:PgOk κ K mg pg)(hC:κ "Diary" = some C){nm f:Str}{fa:Addr}{fd:FuncData}(F:Fun K nm f (mem 52 8) fa fd)(j:Nat):FnOk P wd K mg base (CX1 P wd) (j+10) fa fd (["self"]:List Str) (qb2 κ):=by
 have hc:qQ (mem 52 8)=true:=by kernel_rfl
 have hp:zz (mem 52 8)=(["self"]:List Str):=by kernel_rfl
 have hN:fnN (mem 52 8)=(["self","stays","changes"]:List Str):=by kernel_rfl
 have n0:(fnN (mem 52 8))[0]?=some ("self" : Str)/\Jg (qe (mem 52 8)) "self" = true:=⟨by kernel_rfl,by kernel_rfl⟩;have n1:(fnN (mem 52 8))[1]?=some ("stays" : Str)/\Jg (qe (mem 52 8)) "stays" = true:=⟨by kernel_rfl,by kernel_rfl⟩;have n2:(fnN (mem 52 8))[2]?=some ("changes" : Str)/\Jg (qe (mem 52 8)) "changes" = true:=⟨by kernel_rfl,by kernel_rfl⟩;have l1:qai (qe (mem 52 8)) "stays" = true:=by kernel_rfl
 have l2:qai (qe (mem 52 8)) "changes" = true:=by kernel_rfl
 have ih:=J7 (P:=P) (wd:=wd) (base:=base) ok (j+9)
 have:FnOk P wd K mg base (CX1 P wd) (j+10) fa fd (zz (mem 52 8)) (qb2 κ):=by
  refine F.okx (qt hc) (λvs H Q E z=>?_) (λcdv A outer s H vs Q E hr z=>?_)
  ·obtain⟨G,p,e,L,l,E',rfl,_⟩:=z;rw[hp];rfl
  ·obtain⟨G,p,e,L,l,E',rfl,sub,ob,ge,q⟩:=z;have gs:=QN (E:=E) (H:=H) (outer:=outer) ok ih (qt hc) hr;have A1:=all pg.m _ _ _ gs.toGd;have S1:=qfw (w:=1000) pg.m _ _ _ gs;have nd:=gs.nd;have hN':=gs.hN;have cl:=gs.cls "Diary" C hC;have f1:=gs.flds "Diary" "earlier" C (show Z3.fld "Diary" "earlier" = true from rfl) hC;have f2:=gs.flds "Diary" "kept_stays" C (show Z3.fld "Diary" "kept_stays" = true from rfl) hC;obtain⟨dx,vb,vs,es,_,h1,h2,h3,h4,h5⟩:=zJ hC ob;obtain⟨us,u,rfl,h6,h7⟩:=Ys h5;rw[qaa]
   refine⟨_,qo (qan (A1.t G H _ (.not (.val (.fld (.var 0) "earlier"))) (by kernel_rfl)) (S1.ss G H _ %[.rai "NoDeed" %[.con (.str "no deed is left to take back")|0]|0] (by kernel_rfl)) j9)
    (qo (jb (i:=1) (by rw[hN'];exact nd) (by rw[hN'];exact n1.1) (gs.loc _ l1).1 (qey PySem.F.plainAttrs_list PySem.F.slot_list_pop PySem.F.type_list_pop qeA (JK (pvL gs n0) rfl)) rfl (gs.loc _ l1).2)
    (qo (jb (i:=2) (by rw[hN'];exact nd) (by rw[hN'];exact n2.1) (gs.loc _ l2).1 (A1.r G (upd H e (.lst us)) _ (.met (.var 0) "changes" %[1|0]) (by kernel_rfl)) rfl (gs.loc _ l2).2)
    (qo (yc (pvL gs n0) (pvL gs n1) rfl) (q9 (jD (pvL gs n2)))))),?_⟩
   have er0:=zO (N:=fnN (mem 52 8)) (K:=K) (args:=[dA p e L (E'++[D.lst l])]) sub ⟨_,_,rfl,ob,rfl⟩;have hs:qE (fnN (mem 52 8)) [.ref p]=[some (.ref p),none,none]:=by rw[hN];rfl
   have hl0:qX (fnN (mem 52 8)) [dA p e L (E'++[D.lst l])]=[dS p e L (E'++[D.lst l]),.no,.no]:=by rw[hN];rfl
   rw[hs,hl0] at er0;rw[hs]
   have evT:iT (pg.ct (j+9) (clK pg (j+9)) (mem 52 8)).k (.not (.val (.fld (.var 0) "earlier"))) [dS p e L (E'++[D.lst l]),.no,.no]=.ok (false,[dS p e L (E'++[D.lst l]),.no,.no]):=by
    have f:=qgc (e:=e) (L:=L) (E:=E'++[.lst l]);have ne:(E'++[D.lst l]).isEmpty=false:=by cases E'<;>rfl
    show iT (pg.kk (j+9)) _ _=_;generalize E'++[D.lst l]=M at *;refine(qu _).symm.trans ?_;simp? only[f,ne]
   have ev:iR (pg.ct (j+9) (clK pg (j+9)) (mem 52 8)).k (.met (.var 0) "changes" %[1|0]) [dS p e L E',.val (.lst l),.no]=.ok (.tmp [],[dS p e L E',.val (.lst l),.no]):=by have m:=Yl (p:=p) (e:=e) (L:=L) (E:=E');have c:clK pg (j+9) "Diary.changes" [dA p e L E',.val (.lst l)]=.ok (.tmp []):=Qq (j+7) p e E' l L;show iR (pg.kk (j+9)) _ _=_;refine(qu _).symm.trans ?_;simp? only[m,c]
   refine⟨_,_,er0,?_⟩;rw[evT];intro G0 H0 p0;rw[if_neg (λz=>by cases z)];have k1:H0 p=_:=p0.hs _ _ h1;have k4:H0 e=_:=p0.hs _ _ h4;have pe:e≠p:=λz=>by rw[z,h1] at h4;cases h4
   refine⟨.ref p,rfl,p,C,dx,_,.ref e,rfl,k1,cl,f1,rfl,.inl ⟨rfl,_,SqL.of k4⟩,e,us++[u],u,rfl,rfl,k4,by simp,?_⟩;rw[List.dropLast_concat]
   have sG:qj G (upd H e (.lst us)):=λb o z=>by rw[qb (λy=>by rw[y,ge] at z;cases z)];exact sub b o z
   have sH:qj (upd H e (.lst us)) (upd H0 e (.lst us)):=λb o z=>by
    by_cases b1:b=e
    ·subst b1;rw[qc] at z ⊢;exact z
    ·rw[qb b1] at z ⊢;exact p0.hs b o z
   have ob2:ObR κ G (upd H e (.lst us)) (dia p e L E') (.ref p):=Yr hC ((qb (Ne.symm pe)).trans h1) h2 h3 qc h6;have er1:=zO (N:=(["self","stays","changes"]:List Str)) (K:=K) (args:=[dA p e L E',.val (.lst l)]) sG ⟨_,_,rfl,ob2,_,_,rfl,h7,rfl⟩;have er2:ER κ K G (upd H e (.lst us)) G (upd H0 e (.lst us)) [dS p e L E',.val (.lst l),.no] [some (.ref p),some u,none]:=(Po.room er1 sH).er;refine⟨_,_,er2,?_⟩;rw[ev];intro v1 G1 H1 p1 r1;obtain⟨a,xs,rfl,a1,a2,_,_,_,a3⟩:=r1;simp only[qm] at a3;subst a3;have q1:H1 p=_:=p1.hs _ _ ((qb (Ne.symm pe)).trans k1);have q4:H1 e=_:=p1.hs _ _ qc;have ae:a≠e:=λz=>by rw[z,qc] at a2;cases a2
   have a2:H0 a=none:=by rw[qb ae] at a2;exact a2
   have ap:a≠p:=λz=>by rw[z,k1] at a2;cases a2
   refine⟨u,rfl,.ref p,rfl,p,C,dx,_,rfl,q1,cl,f2,(show(3:Nat) < 1000 by decide),.ref a,rfl,?_⟩;refine q a _ ⟨λb o hb b1 b2=>?_,λb hb=>?_⟩ (qj.none p0.hs a2) ?_ ?_
   ·rw[qb b1];exact p1.hs _ _ (by rw[qb b2];exact p0.hs _ _ hb)
   ·have b1:b≠p:=λz=>by rw[z,qc] at hb;cases hb
    rw[qb b1] at hb;have hb:=qj.none p1.hs hb;have b2:b≠e:=λz=>by rw[z,qc] at hb;cases hb
    rw[qb b2] at hb;exact qj.none p0.hs hb
   ·rw[qb ap];exact a1
   ·exact Yr (dx:=dx) (vb:=vb) (vs:=u) (es:=us) hC qc h2 h7 (by rw[qb pe];exact q4) h6
 rw[hp] at this;exact this
end
end K64
namespace K64
open PySem PySem.Spec PyProof.Rows L2 DE DG FA
open CH ST
section
variable{P:Program}{wd:World}{κ:KC}{K:Frag}{mg:PR}{base:Heap}{C:Addr}{ε:XK}{k:Nat}{X:Cx}
noncomputable def qgu(C:Addr):Sp:=λvs H Q _=>∃(x dx:Addr) (vb:V),vs=[.ref x,vb]/\H x=some (.ins C dx [])/\
 ∀s e H',(∀b o,H b=some o->b≠x->H' b=some o)->(∀b,H' b=none->H b=none)->H s=none->H e=none->s≠e->H' x=some (.ins C dx [("book",vb),("kept_stays",.ref s),("earlier",.ref e)])->H' s=some (.lst [])->H' e=some (.lst [])->Q .non H'
theorem qdQ(ok:PgOk κ K mg pg)(hC:κ "Diary" = some C){nm f:Str}{fa:Addr}{fd:FuncData}(F:Fun K nm f (mem 52 0) fa fd)(j:Nat):FnOk P wd K mg base (CX1 P wd) (j+10) fa fd (["self","book"]:List Str) (qgu C):=by
 have hc:qQ (mem 52 0)=true:=by kernel_rfl
 have hp:zz (mem 52 0)=(["self","book"]:List Str):=by kernel_rfl
 have hN:fnN (mem 52 0)=(["self","book"]:List Str):=by kernel_rfl
 have n0:(fnN (mem 52 0))[0]?=some ("self" : Str)/\Jg (qe (mem 52 0)) "self" = true:=⟨by kernel_rfl,by kernel_rfl⟩;have n1:(fnN (mem 52 0))[1]?=some ("book" : Str)/\Jg (qe (mem 52 0)) "book" = true:=⟨by kernel_rfl,by kernel_rfl⟩;have ih:=J7 (P:=P) (wd:=wd) (base:=base) ok (j+9)
 have:FnOk P wd K mg base (CX1 P wd) (j+10) fa fd (zz (mem 52 0)) (qgu C):=by
  refine F.okx (qt hc) (λvs H Q E z=>?_) (λcdv A outer s H vs Q E hr z=>?_)
  ·obtain⟨x,dx,vb,rfl,_⟩:=z;rw[hp];rfl
  ·obtain⟨x,dx,vb,rfl,hx,q⟩:=z;have gs:=QN (E:=E) (H:=H) (outer:=outer) ok ih (qt hc) hr;have cl:=gs.cls "Diary" C hC;have f0:=gs.flds "Diary" "book" C (show Z3.fld "Diary" "book" = true from rfl) hC;have f1:=gs.flds "Diary" "earlier" C (show Z3.fld "Diary" "earlier" = true from rfl) hC;have f2:=gs.flds "Diary" "kept_stays" C (show Z3.fld "Diary" "kept_stays" = true from rfl) hC;rw[Z9];refine⟨_,qo (yc (pvL gs n0) (pvL gs n1) rfl) (qo (yc (pvL gs n0) (Q9 qz) rfl) (q9 (yc (pvL gs n0) (Q9 qz) rfl))),?_⟩;have hs:qE (fnN (mem 52 0)) [.ref x,vb]=[some (.ref x),some vb]:=by rw[hN];rfl
   rw[hs];refine⟨vb,rfl,.ref x,rfl,x,C,dx,_,rfl,hx,cl,f0,(show(0:Nat) < 1000 by decide),?_⟩;refine⟨Nat.zero_le _,λs' hs'=>?_⟩;have sx:s'≠x:=λz=>by rw[z,qc] at hs';cases hs'
   have k1:upd (upd H x (.ins C dx (jE "book" vb []))) s' (.lst []) x=some (.ins C dx [("book",vb)]):=by rw[qb (Ne.symm sx),qc];rfl
   refine⟨.ref x,rfl,x,C,dx,_,rfl,k1,cl,f2,(show(1:Nat) < 1000 by decide),?_⟩;refine⟨Nat.zero_le _,λe he=>?_⟩;have ex:e≠x:=λz=>by rw[z,qc] at he;cases he
   rw[qb ex] at he;have es:e≠s':=λz=>by rw[z,qc] at he;cases he
   rw[qb es,qb ex] at he;rw[qb sx] at hs';have k2:upd (upd (upd (upd H x (.ins C dx (jE "book" vb []))) s' (.lst [])) x (.ins C dx (jE "kept_stays" (.ref s') [("book",vb)]))) e (.lst []) x=some (.ins C dx [("book",vb),("kept_stays",.ref s')]):=by rw[qb (Ne.symm ex),qc];rfl
   refine⟨.ref x,rfl,x,C,dx,_,rfl,k2,cl,f1,(show(2:Nat) < 1000 by decide),?_⟩;refine q s' e _ (λb o hb bx=>?_) (λb hb=>?_) hs' he (Ne.symm es) (qc.trans rfl) ?_ ?_
   ·have b1:b≠e:=λz=>by rw[z,he] at hb;cases hb
    have b2:b≠s':=λz=>by rw[z,hs'] at hb;cases hb
    rw[qb bx,qb b1,qb bx,qb b2,qb bx];exact hb
   ·have bx:b≠x:=λz=>by rw[z,qc] at hb;cases hb
    rw[qb bx] at hb
    by_cases b1:b=e
    ·rw[b1];exact he
    rw[qb b1,qb bx] at hb
    by_cases b2:b=s'
    ·rw[b2];exact hs'
    rw[qb b2,qb bx] at hb;exact hb
   ·rw[qb sx,qb (Ne.symm es),qb sx,qc]
   ·rw[qb ex,qc]
 rw[hp] at this;exact this
end
end K64
namespace K64
open PySem PySem.Spec PyProof.Rows L2 DE DG FA
open CH ST
section
variable{κ:KC}{ε:XK}{K:Frag}{Gv Hv G H G' H':Hp}{ρ ρ':DE.Env}{σ:L2.St}{k w:Nat}{X:Cx}{Γ:Ct}{C p e:Addr}{L E:List D}
theorem qab(gs:Gs κ K ε k X Γ){rest:List Stmt}{u:TS}(hr:PSs X rest u):∀(m:Nat) (l:List Stmt) (x:Ss),cSs m Γ l=some x->PSs X (l++rest) (λD σ H=>tS κ K Gv Hv ε (iSs Γ.k w x) { D with nx:=u D } σ H)
 |0,_,_,h=>nomatch h
 | m+1,[],_,h=>by cases h;exact PSs.imp hr λD σ H ⟨ρ,G,er,h⟩=>h σ G H er λ_ _ e=>e
 | m+1,st::l,_,h=>by
  obtain⟨s',l',h1,h2,rfl⟩:=qi h;refine PSs.imp (qo ((qfw (w:=w) m _ _ _ gs).s Gv Hv _ _ h1) (qab gs hr m l _ h2)) λD σ H hq1=>?_;obtain⟨ρ,G,er,h⟩:=hq1;refine⟨ρ,G,er,Wx.mono (Wx.th (x:=iS Γ.k w s' ρ) h) λf hf=>?_⟩
  cases f with
  |next ρ1=>exactλσ1 G1 H1 er1 g1=>⟨ρ1,G1,er1,Wx.mono hf λf hf=>hf.back g1⟩
  |ret r=>exact hf
theorem qdR(gs:Gs κ K ε k X Γ){rest:List Stmt}{u:TS}(hr:PSs X rest u){m:Nat}{l:List Stmt}{x:Ss}(h:cSs m Γ l=some x):PSs X (l++rest) (λD σ H=>∃Gv Hv,tS κ K Gv Hv ε (iSs Γ.k w x) { D with nx:=u D } σ H):=λpins s σ H D I hq=>by obtain⟨Gv,Hv,q⟩:=hq;exact qab (Gv:=Gv) (Hv:=Hv) gs hr m l x h pins s σ H D I q
theorem qgv{m:Nat}(A:All κ K ε k X Γ m){e:Expr}{x:DE.E}(h:cE m Γ e=some x):PE X e (λσ H Q=>∃Gv Hv,tR κ K ε Gv Hv (iR Γ.k x) σ H Q):=λpins s σ H Q I hq=>by obtain⟨Gv,Hv,q⟩:=hq;exact A.r Gv Hv e x h pins s σ H Q I q
theorem qhV{i:Nat}{x:Option V}(h:ER κ K Gv Hv G H ρ σ)(e:ρ[i]?=some .no):ER κ K Gv Hv G H ρ (σ.set i x):=by
 have f:∀{j:Nat} {m:List D},ρ[j]?=some (.own m)->i≠j:=λ{j m} q z=>by subst z;rw[e] at q;cases q
 refine⟨by rw[List.length_set];exact h.len,h.sub,h.base,h.g0,h.fresh,λj s q=>?_,λj k b m n q1 q2 q3 q4=>?_⟩
 ·by_cases hj:i=j
  ·subst hj;rw[e] at q;cases q;trivial
  ·rw[List.getElem?_set_ne hj];exact h.sl j s q
 ·rw[List.getElem?_set_ne (f q1)] at q3;rw[List.getElem?_set_ne (f q2)] at q4;exact h.ap j k b m n q1 q2 q3 q4
theorem qhW(h:ER κ K Gv Hv G H ρ σ)(kp:Kp p e H H')(gs:qj G G')(sub:qj G' H')(new:∀a o,G' a=some o->(∃o',G a=some o')\/H a=none)(h1:Hv p=none)(h2:Hv e=none)(o1:¬ zZ ρ σ p)(o2:¬ zZ ρ σ e):ER κ K Gv Hv G' H' ρ σ:=by
 refine⟨h.len,sub,λb o q=>?_,λb o q=>gs b o (h.g0 b o q),λa o q=>?_,λi s q=>?_,h.ap⟩
 ·exact kp.st b o (h.base b o q) (λz=>by rw[z,h1] at q;cases q) (λz=>by rw[z,h2] at q;cases q)
 ·rcases new a o q with ⟨o',z⟩ | z
  ·exact h.fresh a o' z
  ·exact .inr (qj.none h.base z)
 ·have z:=h.sl i s q
  cases s with
  |no=>trivial
  |val d=>obtain⟨v,z1,z2⟩:=z;exact⟨v,z1,z2.same gs⟩
  |own ds=>
   obtain⟨a,xs,z1,z2,z3,z4,z5⟩:=z;refine⟨a,xs,z1,kp.st a _ z2 (λy=>o1 ⟨i,ds,q,by rw[<-y];exact z1⟩) (λy=>o2 ⟨i,ds,q,by rw[<-y];exact z1⟩),z3,?_,z5.same gs⟩
   cases r:G' a with
   |none=>rfl
   |some o=>
    rcases new a o r with ⟨o',y⟩ | y
    ·rw[z4] at y;cases y
    ·rw[z2] at y;cases y
  |bor ds=>obtain⟨a,xs,z1,z2,z3⟩:=z;exact⟨a,xs,z1,z2,z3.same gs⟩
  |scr ds=>obtain⟨a,xs,z1,z2,z3⟩:=z;exact⟨a,xs,z1,z2,z3.same gs⟩
  |obj a c ns l=>obtain⟨v,z1,z2⟩:=z;exact⟨v,z1,z2.gs gs⟩
def ovr(p e:Addr)(H Hv:Hp):Hp:=λb=>if b=p\/b=e then H b else Hv b
theorem qhX{i:Nat}(hC:κ "Diary" = some C)(h:ER κ K Gv Hv G H ρ σ)(hi:ρ[i]?=some .no)(es:σ[i]?=some (some (.ref p)))(ob:ObR κ G H (dia p e L E) (.ref p))(o1:¬ zZ ρ σ p)(o2:¬ zZ ρ σ e):ER κ K G (ovr p e H Hv) G H (ρ.set i (dS p e L E)) σ:=by
 have i0:i < ρ.length:=(List.getElem?_eq_some_iff.mp hi).1
 have s0:qj Hv (ovr p e H Hv):=λb o q=>by
  unfold ovr;split
  ·exact h.base b o q
  ·exact q
 have f:∀{j:Nat} {m:List D},(ρ.set i (dS p e L E))[j]?=some (.own m)->ρ[j]?=some (.own m):=λ{j m} q=>by
  by_cases hj:i=j
  ·subst hj;rw[List.getElem?_set_self i0] at q;cases q
  ·rw[List.getElem?_set_ne hj] at q;exact q
 refine⟨by rw[List.length_set];exact h.len,h.sub,λb o q=>?_,λ_ _ q=>q,λa o q=>.inl ⟨o,q⟩,λj s q=>?_,λj k b m n q1 q2=>h.ap j k b m n (f q1) (f q2)⟩
 ·unfold ovr at q
  split at q
  ·exact q
  ·exact h.base b o q
 ·by_cases hj:i=j
  ·subst hj;rw[List.getElem?_set_self i0] at q;cases q;obtain⟨dx,vb,vs,us,_,h1,h2,h3,h4,h5⟩:=zJ hC ob;exact⟨.ref p,es,Yr hC (by unfold ovr;rw[if_pos (.inl rfl)];exact h1) h2 h3 (by unfold ovr;rw[if_pos (.inr rfl)];exact h4) h5⟩
  ·rw[List.getElem?_set_ne hj] at q;have z:=h.sl j s q
   cases s with
   |no=>trivial
   |val d=>exact z
   |own ds=>
    obtain⟨a,xs,z1,z2,z3,z4,z5⟩:=z;refine⟨a,xs,z1,z2,?_,z4,z5⟩;unfold ovr;rw[if_neg]
    ·exact z3
    ·rintro (y | y)
     ·exact o1 ⟨j,ds,q,by rw[<-y];exact z1⟩
     ·exact o2 ⟨j,ds,q,by rw[<-y];exact z1⟩
   |bor ds=>obtain⟨a,xs,z1,z2,z3⟩:=z;exact⟨a,xs,z1,s0 _ _ z2,z3⟩
   |scr ds=>obtain⟨a,xs,z1,z2,z3⟩:=z;exact⟨a,xs,z1,s0.seq z2,z3⟩
   |obj a c ns l=>obtain⟨v,z1,z2⟩:=z;exact⟨v,z1,z2.same s0 λ_ _ y=>y⟩
theorem qb3(hl:ρ.length=σ.length)(sub:qj G H)(h:∀(i:Nat) (s:Sl),ρ[i]?=some s->s=.no\/(∃d v,s=.val d/\σ[i]?=some (some v)/\Rep κ G d v)\/∃a c ns l v,s=.obj a c ns l/\σ[i]?=some (some v)/\ObR κ G H (.ins a c ns l) v):ER κ K G H G H ρ σ:=by
 have no:∀{i:Nat} {l:List D},ρ[i]?=some (.own l)->False:=λ{i l} q=>by rcases h i _ q with z | ⟨_,_,z,_⟩ | ⟨_,_,_,_,_,z,_⟩<;>cases z
 refine⟨hl,sub,λ_ _ q=>q,λ_ _ q=>q,λa o q=>.inl ⟨o,q⟩,λi s q=>?_,λi _ _ _ _ q1=>(no q1).elim⟩;rcases h i s q with rfl | ⟨d,v,rfl,z1,z2⟩ | ⟨a,c,ns,l,v,rfl,z1,z2⟩
 ·trivial
 ·exact⟨v,z1,z2⟩
 ·exact⟨v,z1,z2⟩
theorem qdS{m:Nat}(gs:Gs κ K ε k X Γ){x:Str}{i:Nat}{elt:Expr}{gens:List Comprehension}{sc:Scope}{cp xp q:Pos}{y:DE.E}(hi:qaj Γ x=some i)(h1:cE (m+1) Γ (.ListComp elt gens sc cp)=some y) :
  PS X (.Assign [.Name x xp] (.ListComp elt gens sc cp) q) (qgF (tR κ K ε Gv Hv (iR Γ.k y)) (QU i)):=by
 have gd:=gs.toGd;obtain⟨l1,l2,hN,hxi⟩:=J1 gd hi
 have hsw:∀b:Bool,(X.env.blockKind == .function&&X.env.kindOf x == some .local&&xp.line == cp.line&&!(sc.names.any λ(n,k)=>n == x&&(k == .local||k == .cell)))=b->swapsWith (.ListComp elt gens sc cp) (some (.Name x xp)) q.line X.env=pure b:=λb hb=>by rw[<-hb];rfl
 cases hb:(X.env.blockKind == .function&&X.env.kindOf x == some .local&&xp.line == cp.line&&!(sc.names.any λ(n,k)=>n == x&&(k == .local||k == .cell))) with
 |false=>exact jb (i:=i) hN hxi l1 ((all (m+1) ε X Γ gd).r Gv Hv _ _ h1) (hsw false hb) l2
 |true=>
  have hloc:X.env.scope.names.lookup x=some .local:=by
   simp only[Bool.and_eq_true] at hb
   have:=hb.1.1.2
   unfold PySem.Env.kindOf at this
   simpa using this
  obtain⟨tg,it,ifs,own,el,src,t,c,rfl,S,rfl⟩:=qdd h1;have B:BlkScope X own (yF Γ.N sc) sc:=yu gd S.chk
  exact PS.imp (Zo (i:=i) own (yF Γ.N sc) hN hxi hloc gd.calm B (qhv (Gv:=Gv) (Hv:=Hv) gd (all m _ X Γ gd) tg it S.src) (λcl C fp s2 H2=>ZQ (ji gd B S.nd cl C fp s2 H2) tg S.tg) (λcl C fp s2 H2=>ZR (all m _ _ _ (ji gd B S.nd cl C fp s2 H2)) ifs S.c)
   (λcl C fp s2 H2=>qdc (all m _ _ _ (ji gd B S.nd cl C fp s2 H2)) elt S.el) (hsw true hb) (Jo S.fold X.env)) λDn σ H h=>Jp S σ H _ h
end
def eaS(a b:Str)(s:Int)(n:Nat):List D:=(List.range n).map λk=>D.lst ((hel a b s k).map stD)
theorem qac(a b:Str)(s:Int)(n:Nat):eaS a b s (n+1)=eaS a b s n++[.lst ((hel a b s n).map stD)]:=by simp[eaS,List.range_succ]
theorem qgw(a b:Str)(s:Int)(n:Nat):(eaS a b s n).length=n:=by simp[eaS]
theorem qgx(a b:Str)(s:Int)(n:Nat):plc (hel a b s n) (hk a b s n).2.1=n/\ins (hel a b s n) n (hk a b s n)=hel a b s (n+1):=by
 refine⟨?_,?_⟩
 ·rw[Z8,zn];intro y hy;obtain⟨j,hj,rfl⟩:=qdJ hy;show s+3 * (j:Int)<=s+3 * (n:Int)
  lia
 ·have:=qdK (hel a b s n) (hk a b s n)
  rw[zn] at this;rw[this,JE]
theorem qbh(a b:Str)(s:Int)(n:Nat):(hel a b s (n+1)).take n=hel a b s n:=by
 rw[JE]
 conv=>lhs;rw[show n=(hel a b s n).length from(zn n).symm]
 rw[zn];exact List.take_left' (zn n)
end K64
namespace K64
open PySem PySem.Spec PyProof.Rows L2 DE DG FA
open CH ST
structure At(κ:KC)(K:Frag)(Gv Hv G H:Hp)(ρ:DE.Env)(σ:L2.St)(p e:Addr)(L E:List D):Prop where
 er:ER κ K Gv Hv G H ρ σ
 n4:ρ[4]?=some .no
 s4:σ[4]?=some (some (.ref p))
 ob:ObR κ G H (dia p e L E) (.ref p)
 gp:G p=none
 ge:G e=none
 hp:Hv p=none
 he:Hv e=none
 op:¬ zZ ρ σ p
 oe:¬ zZ ρ σ e
section
variable{κ:KC}{ε:XK}{K:Frag}{Gv Hv G H G' H':Hp}{ρ ρ':DE.Env}{σ:L2.St}{k:Nat}{X:Cx}{C p e:Addr}{L E:List D}
theorem At.po(hC:κ "Diary" = some C)(a:At κ K Gv Hv G H ρ σ p e L E)(q:Po κ K Gv Hv σ G H ρ G' H' ρ')(h4:ρ'[4]?=some .no):At κ K Gv Hv G' H' ρ' σ p e L E:=by
 obtain⟨dx,vb,vs,us,_,h1,h2,h3,h5,h6⟩:=zJ hC a.ob
 have off:∀{b:Addr} {o:HO},G b=none->H b=some o->¬ zZ ρ σ b->G' b=none:=λ{b o} g h no=>by
  cases r:G' b with
  |none=>rfl
  | some o'=>
   rcases q.new b o' r with ⟨_,z⟩ | z | z
   ·rw[g] at z;cases z
   ·rw[h] at z;cases z
   ·exact absurd z no
 exact⟨q.er,h4,a.s4,a.ob.same q.hs q.gs,off a.gp h1 a.op,off a.ge h5 a.oe,a.hp,a.he,λ⟨i,l,z1,z2⟩=>a.op ⟨i,l,q.fz i l z1,z2⟩,λ⟨i,l,z1,z2⟩=>a.oe ⟨i,l,q.fz i l z1,z2⟩⟩
theorem JF{i:Nat}{s:Sl}{x:Option V}{b:Addr}(hs:∀l,s=.own l->x≠some (.ref b))(no:¬ zZ ρ σ b)(hl:ρ.length=σ.length):¬ zZ (ρ.set i s) (σ.set i x) b:=λ⟨j,l,z1,z2⟩=>by
 by_cases hj:i=j
 ·subst hj;have h1:i < ρ.length:=by simpa using (List.getElem?_eq_some_iff.mp z1).1
  rw[List.getElem?_set_self h1] at z1;rw[List.getElem?_set_self (by rw[<-hl];exact h1)] at z2;cases z1;exact hs l rfl (Option.some.inj z2)
 ·rw[List.getElem?_set_ne hj] at z1 z2;exact no ⟨j,l,z1,z2⟩
theorem At.val(a:At κ K Gv Hv G H ρ σ p e L E){i:Nat}{d:D}{v:V}(hi:i≠4)(r:Rep κ G d v):At κ K Gv Hv G H (ρ.set i (.val d)) (σ.set i (some v)) p e L E:=
 ⟨a.er.setVal r,by rw[List.getElem?_set_ne hi];exact a.n4,by rw[List.getElem?_set_ne hi];exact a.s4,a.ob,a.gp,a.ge,a.hp,a.he,JF (by intro l z;cases z) a.op a.er.len,JF (by intro l z;cases z) a.oe a.er.len⟩
theorem qhY{i:Nat}{x:Str}{cl:Str->List Ar->R Rv}{j:Nat}(gs:Gs κ K ε k X (pg.ct j cl (top 66)))(h:(fnN (top 66))[i]?=some x)(l:qai (qe (top 66)) x=true):X.N.Nodup/\X.N[i]?=some x/\L2.Loc X.env.scope x/\(X.fn x=true\/X.env.scope.names.lookup x=some .local):=
 ⟨by rw[gs.hN];exact gs.nd,by rw[gs.hN];exact h,(gs.loc _ l).1,(gs.loc _ l).2⟩
theorem qhZ(j:Nat):qd6 (j+12) "Book" [.val (.lst []),.val (.lst [])]=.ok (.val bk0):=if_pos ⟨by lia,rfl,rfl,rfl⟩
end
section
variable{P:Program}{wd:World}{κ:KC}{K:Frag}{mg:PR}{base:Heap}{C:Addr}{ε:XK}{X:Cx}{Gv Hv:Hp}
theorem qjF(ok:PgOk κ K mg pg)(hC:κ "Diary" = some C){nm f:Str}{fI:Addr}{fdI:FuncData}(MD:Mk K C fI)(FI:Fun K nm f (mem 52 0) fI fdI)(BI:qx K fdI (["self","book"]:List Str) [])(hmD:mg "Diary" = some (.ref C))
  (gs:Gs κ K ε 19 X (pg.ct 19 (clK pg 19) (top 66))) (hX:X.prog=P/\X.w=wd/\X.base=base/\X.mg=mg/\X.K=K) {rest:List Stmt} {u:TS} (hr:PSs X rest u) :
  PSs X (sL4::rest) (λDn σ H=>∃G ρ,ER κ K Gv Hv G H ρ σ/\ρ[4]?=some .no/\∀σ' G' H' p e,At κ K Gv Hv G' H' ρ σ' p e [] []->u Dn σ' H'):=by
 obtain⟨rfl,rfl,rfl,rfl,rfl⟩:=hX;have A1:=all pg.m _ _ _ gs.toGd;obtain⟨a1,a2,a3,a4⟩:=qhY gs (i:=4) (x:="_law_diary") (by kernel_rfl) (by kernel_rfl);have F1:=qdQ (P:=X.prog) (wd:=X.w) (base:=X.base) ok hC FI 8;refine PSs.imp (qo (jb (i:=4) a1 a2 a3 (Za MD F1 gs.room (gs.glo "Diary" (by kernel_rfl)) hmD BI .nil gs.ps (qr (A1.r Gv Hv _ (.new "Book" %[.lst .nil,.lst .nil|0]) (by kernel_rfl)) qz)) rfl a4) hr) λDn σ H hq=>?_;obtain⟨G,ρ,er,h4,q⟩:=hq
 have ev:iR (pg.ct 19 (clK pg 19) (top 66)).k (.new "Book" %[.lst .nil,.lst .nil|0]) ρ=.ok (.val bk0,ρ):=by have b:=qhZ 7;have z:([]:List D).length<=sizeLine:=Nat.zero_le _;show iR (pg.kk 19) _ ρ=_;show((ifX true (iAs (pg.kk 19) %[.lst .nil,.lst .nil|0] ρ)).th λx=>(qd6 19 "Book" x.1).th λr=>R.ok (r,x.2))=_;have e1:iAs (pg.kk 19) %[.lst .nil,.lst .nil|0] ρ=.ok ([.val (.lst []),.val (.lst [])],ρ):=rfl;rw[e1,ifX,if_pos rfl];simp only[th_ok];rw[b];rfl
 refine⟨ρ,G,er,?_⟩;rw[ev];intro vb G1 H1 p1 r1;intro p dx hp hdx ne;refine⟨p,dx,vb,rfl,qc,λs' e H' st nn ns ne' se k0 ks ke=>⟨rfl,?_⟩⟩
 have ns1:H1 s'=none/\s'≠p:=by
  have b1:s'≠p:=λz=>by rw[z,qc] at ns;cases ns
  rw[qb b1] at ns;have b2:s'≠dx:=λz=>by rw[z,qc] at ns;cases ns
  rw[qb b2] at ns;exact⟨ns,b1⟩
 have ne1:H1 e=none/\e≠p:=by
  have b1:e≠p:=λz=>by rw[z,qc] at ne';cases ne'
  rw[qb b1] at ne';have b2:e≠dx:=λz=>by rw[z,qc] at ne';cases ne'
  rw[qb b2] at ne';exact⟨ne',b1⟩
 have hs:qj H1 H':=λb o z=>by
  have b1:b≠p:=λy=>by rw[y,hp] at z;cases z
  have b2:b≠dx:=λy=>by rw[y,hdx] at z;cases z
  exact st b o (by rw[qb b1,qb b2];exact z) b1
 have g1s:G1 s'=none:=qj.none p1.er.sub ns1.1;have sg:qj G1 (upd G1 s' (.lst [])):=qj.upd g1s
 have pm:=Po.more p1.er hs sg (λb o z=>by
  by_cases y:b=s'
  ·subst y;rw[qc] at z;cases z;exact ks
  ·rw[qb y] at z;exact hs b o (p1.er.sub b o z)) (λb o z=>by
  by_cases y:b=s'
  ·subst y;exact .inr ns1.1
  ·rw[qb y] at z;exact .inl ⟨o,z⟩)
 have er4:=qhV (i:=4) (x:=some (.ref p)) pm.er h4;have len:4 < σ.length:=by rw[<-er.len];exact(List.getElem?_eq_some_iff.mp h4).1
 refine q _ _ _ p e ⟨er4,h4,List.getElem?_set_self len,Yr hC k0 (Rep.same sg r1) (by simp only[Rep];exact⟨s',[],rfl,qc,.nil⟩) ke .nil,?_,?_,qj.none p1.er.base hp,qj.none p1.er.base ne1.1,?_,?_⟩
 ·rw[qb (Ne.symm ns1.2)];exact qj.none p1.er.sub hp
 ·rw[qb (Ne.symm se)];exact qj.none p1.er.sub ne1.1
 ·rintro⟨i,l,z1,z2⟩;have hi:i≠4:=λz=>by rw[z,h4] at z1;cases z1
  rw[List.getElem?_set_ne (Ne.symm hi)] at z2;exact p1.er.notOwn hp ⟨i,l,z1,z2⟩
 ·rintro⟨i,l,z1,z2⟩;have hi:i≠4:=λz=>by rw[z,h4] at z1;cases z1
  rw[List.getElem?_set_ne (Ne.symm hi)] at z2;exact p1.er.notOwn ne1.1 ⟨i,l,z1,z2⟩
theorem qjG(hC:κ "Diary" = some C)(gs:Gs κ K ε 19 X (pg.ct 19 (clK pg 19) (top 66))){rest:List Stmt}{u:TS}(hr:PSs X rest u){ns:List Int}{a b:Str}{s:Int}{n:Nat}(hn:n<=60) :
  PSs X (sL5::rest) (λDn σ H=>∃G p e,At κ K Gv Hv G H [.scr (ns.map D.int),.own [.str a,.str b],.val (.int s),.val (.int (n:Int)),.no,.no,.no,.no,.no,.no,.no,.no,.no,.no,.no,.no] σ p e [] []/\
   ∀σ' G' H',At κ K Gv Hv G' H' [.scr (ns.map D.int),.own [.str a,.str b],.val (.int s),.val (.int (n:Int)),.no,.no,.own ((hel a b s n).map stD),.no,.no,.no,.no,.no,.no,.no,.no,.no] σ' p e [] []->u Dn σ' H'):=by
 refine PSs.imp (qo (qdS (m:=39) (Gv:=Gv) (Hv:=Hv) (i:=6) (y:=.comp zk (.rng (.var 3)) (.one 0) .yes 1 [1,2]) gs (by kernel_rfl) (by kernel_rfl)) hr) λDn σ H hq=>?_;obtain⟨G,p,e,at0,q⟩:=hq;refine⟨_,G,at0.er,?_⟩;have ev:=qgo a b s n hn (.scr (ns.map D.int)) .no .no .no .no [.no,.no,.no,.no,.no,.no,.no,.no,.no,.no,.no,.no];have ev:iR (pg.ct 19 (clK pg 19) (top 66)).k (.comp zk (.rng (.var 3)) (.one 0) .yes 1 [1,2]) _=_:=ev;rw[ev];intro v G1 H1 p1 r1;obtain⟨c,xs,rfl,b1,b2,b3,b4,b5,b6⟩:=r1;have at1:=at0.po hC p1 rfl;obtain⟨dx,vb,vs,us,_,h1,h2,h3,h5,h6⟩:=zJ hC at0.ob;have cp:c≠p:=λz=>by rw[z,h1] at b2;cases b2
 have ce:c≠e:=λz=>by rw[z,h5] at b2;cases b2
 refine q _ _ _ ⟨at1.er.setOwn (i:=6) b1 b3 b4 b5 b6,rfl,by rw[List.getElem?_set_ne (2:)];exact at1.s4,at1.ob,at1.gp,at1.ge,at1.hp,at1.he,JF (i:=6) (s:=.own ((hel a b s n).map stD)) (λl _ z=>?_) at1.op at1.er.len,JF (i:=6) (s:=.own ((hel a b s n).map stD)) (λl _ z=>?_) at1.oe at1.er.len⟩
 ·cases z;exact cp rfl
 ·cases z;exact ce rfl
theorem qdT(l:List D)(i:Nat)(d:D)(h:l[i]?=some d):(zw l)[i]?=some (.tup [.int i,d]):=by have hi:i < l.length:=(List.getElem?_eq_some_iff.mp h).1;unfold zw;rw[List.getElem?_zipWith,List.getElem?_range hi,h]
noncomputable abbrev fr7(ns:List Int)(a b:Str)(s:Int)(n:Nat)(x5 x7:Sl):DE.Env:=[.scr (ns.map D.int),.own [.str a,.str b],.val (.int s),.val (.int (n:Int)),.no,x5,.val (.lst ((hel a b s n).map stD)),x7,.no,.no,.no,.no,.no,.no,.no,.no]
theorem qjH(ok:PgOk κ K mg pg)(hC:κ "Diary" = some C)(gs:Gs κ K ε 19 X (pg.ct 19 (clK pg 19) (top 66)))(hX:X.prog=P/\X.w=wd/\X.base=base/\X.mg=mg/\X.K=K){rest:List Stmt}{u:TS}(hr:PSs X rest u)
  {ns:List Int} {a b:Str} {s:Int} {n:Nat} (ha:NameOk a) (hb:NameOk b) (h0:9<=s) (h1:s<=1000008) (hn:n<=60) :
  PSs X (sL6::rest) (λDn σ H=>∃G p e,At κ K Gv Hv G H [.scr (ns.map D.int),.own [.str a,.str b],.val (.int s),.val (.int (n:Int)),.no,.no,.own ((hel a b s n).map stD),.no,.no,.no,.no,.no,.no,.no,.no,.no] σ p e [] []/\
   ∀x5 x7 σ' G' H',At κ K Gv Hv G' H' (fr7 ns a b s n x5 x7) σ' p e ((hel a b s n).map stD) (eaS a b s n)->u Dn σ' H'):=by
 obtain⟨rfl,rfl,rfl,rfl,rfl⟩:=hX;have gd:=gs.toGd;have A1:=all pg.m _ _ _ gs.toGd;have cl:=gs.cls "Diary" C hC;obtain⟨c1,c2,c3,c4⟩:=qhY gs (i:=5) (x:="_law_k") (by kernel_rfl) (by kernel_rfl);obtain⟨d1,d2,d3,d4⟩:=qhY gs (i:=7) (x:="_law_stay") (by kernel_rfl) (by kernel_rfl);have n4:(fnN (top 66))[4]?=some ("_law_diary" : Str)/\Jg (qe (top 66)) "_law_diary" = true:=⟨by kernel_rfl,by kernel_rfl⟩;obtain⟨fa2,fd2,nm2,M2,F2,B2⟩:=YU ok hC (x:="put") (f:="Diary.put") (st:=mem 52 5) rfl rfl;have D2:=qgt (P:=X.prog) (wd:=X.w) (base:=X.base) ok hC F2 9
 have B2:qx X.K fd2 (["self","land","first","last"]:List Str) []:=by
  have hp2:zz (mem 52 5)=(["self","land","first","last"]:List Str):=by kernel_rfl
  rw[<-hp2];exact B2
 refine PSs.imp (qo (qbq (gs.own rfl) gs.calm (A1.i Gv Hv _ _ (.enum (.var 6)) (by kernel_rfl)) (qbp gs.calm (Ja (Yx (i:=5) c1 c2 c3 c4) (Ja (Yx (i:=7) d1 d2 d3 d4) QV)))
  (q9 (qan (Q3 (Qe (Gv:=Gv) (Hv:=Hv) gd .NotEq) (Yz (pvL gs n4) cl M2 D2 gs.room B2 .nil gs.ps (A1.as Gv Hv _ %[.idx (.var 7) (.con (.int 0)),.idx (.var 7) (.con (.int 1)),.idx (.var 7) (.con (.int 2))|0] (by kernel_rfl)))
   (A1.r Gv Hv _ (.tup %[5,.lst .nil|0]) (by kernel_rfl)) rfl) (q9 (jD qee)) j9))) hr) λDn σ H hq=>?_
 obtain⟨G,p,e,at0,q⟩:=hq;refine⟨_,G,at0.er,?_⟩;have ei:iI (pg.ct 19 (clK pg 19) (top 66)).k (.enum (.var 6)) [.scr (ns.map D.int),.own [.str a,.str b],.val (.int s),.val (.int (n:Int)),.no,.no,.own ((hel a b s n).map stD),.no,.no,.no,.no,.no,.no,.no,.no,.no]=.ok (zw ((hel a b s n).map stD),fr7 ns a b s n .no .no):=rfl;rw[ei];intro J G1 H1 p1 it;have at1:At κ X.K Gv Hv G1 H1 (fr7 ns a b s n .no .no) σ p e [] []:=at0.po hC p1 rfl;have ln:(zw ((hel a b s n).map stD)).length=n:=by simp[zw,zn]
 refine⟨λi m σ' H'=>m=n - i/\i<=n/\∃G' x5 x7,At κ X.K Gv Hv G' H' (fr7 ns a b s n x5 x7) σ' p e ((hel a b s i).map stD) (eaS a b s i)/\qj G1 G',⟨n,rfl,Nat.zero_le _,G1,.no,.no,at1,λ_ _ z=>z⟩,?_⟩;rintro i m σ' H' ⟨rfl,hi,G',x5,x7,at2,sg⟩;obtain⟨go,st⟩:=it i G' H' sg at2.er.base at2.er.sub
 by_cases hin:i < n
 case neg=>
  have e:i=n:=by lia
  subst e;exact .inl ⟨st ln,q x5 x7 _ _ _ at2⟩
 obtain⟨gj,yl⟩:=go _ (qdT _ i _ (by rw[List.getElem?_map,Yp hin];rfl));refine .inr ⟨gj,λσ' H'=>n - (i+1)=n - (i+1)/\i+1<=n/\∃G' x5 x7,At κ X.K Gv Hv G' H' (fr7 ns a b s n x5 x7) σ' p e ((hel a b s (i+1)).map stD) (eaS a b s (i+1))/\qj G1 G',λσ' H' w=>⟨n - (i+1),by lia,w⟩,λx H2 hy=>?_⟩;obtain⟨G2,hs2,gs2,sub2,new2,rx⟩:=yl x H2 hy;have at3:At κ X.K Gv Hv G2 H2 (fr7 ns a b s n x5 x7) σ' p e _ _:=at2.po hC (Po.more at2.er hs2 gs2 sub2 new2) rfl;have rx':=rx;simp only[Rep,qm] at rx;obtain⟨T,us,rfl,hT,v1,us1,rfl,rfl,v2,us2,rfl,r2,rfl⟩:=rx;refine⟨T,_,rfl,SqT.of (sub2 _ _ hT),rfl,_,_,rfl,_,_,rfl,rfl,?_⟩;have at4:At κ X.K Gv Hv G2 H2 (fr7 ns a b s n (.val (.int (i:Int))) (.val (stD (hk a b s i)))) ((σ'.set 5 (some (.int (i:Int)))).set 7 (some v2)) p e ((hel a b s i).map stD) (eaS a b s i):=(at3.val (i:=5) (d:=.int (i:Int)) (2:) (by simp only[Rep])).val (i:=7) (d:=stD (hk a b s i)) (2:) r2;generalize (σ'.set 5 (some (.int (i:Int)))).set 7 (some v2)=σ3 at at4 ⊢;obtain⟨dx,vb,vs,us,_,k1,_⟩:=zJ hC at4.ob;refine⟨.ref p,at4.s4,p,dx,_,rfl,k1,rfl,_,G2,at4.er,?_⟩;have ea:iAs (pg.ct 19 (clK pg 19) (top 66)).k %[.idx (.var 7) (.con (.int 0)),.idx (.var 7) (.con (.int 1)),.idx (.var 7) (.con (.int 2))|0] (fr7 ns a b s n (.val (.int (i:Int))) (.val (stD (hk a b s i))))=.ok ([.val (.str (hk a b s i).1),.val (.int (hk a b s i).2.1),.val (.int (hk a b s i).2.2)],fr7 ns a b s n (.val (.int (i:Int))) (.val (stD (hk a b s i)))):=rfl;rw[ea];intro ws G4 H4 p4 r4;obtain⟨w1,ws1,rfl,q1,w2,ws2,rfl,q2,w3,ws3,rfl,q3,rfl⟩:=r4;simp only[ArR,Rep] at q1 q2 q3;subst q1 q2 q3;have at5:At κ X.K Gv Hv G4 H4 (fr7 ns a b s n (.val (.int (i:Int))) (.val (stD (hk a b s i)))) σ3 p e _ _:=at4.po hC p4 rfl;obtain⟨pp,pi⟩:=qgx a b s i;obtain⟨hch,_⟩:=Yq (s:=s) ha hb (by lia) (by lia) (i+1) (by lia);refine⟨G4,p,e,hel a b s i,eaS a b s i,hk a b s i,rfl,at5.er.sub,at5.ob,at5.gp,at5.ge,by rw[qgw];lia,by rw[zn];lia,by rw[pp,pi];exact hch,λv G5 H5 kp gs5 sub5 new5 rv ob5=>?_⟩;rw[pp,pi,<-qac] at ob5;rw[pp] at rv;obtain⟨dx5,vb5,vs5,us5,_,k5,_,_,k6,_⟩:=zJ hC at5.ob
 have off:∀{b:Addr} {o:HO},G4 b=none->H4 b=some o->G5 b=none:=λ{b o} g h=>by
  cases r:G5 b with
  |none=>rfl
  | some o'=>
   rcases new5 b o' r with ⟨_,z⟩ | z
   ·rw[g] at z;cases z
   ·rw[h] at z;cases z
 have at6:At κ X.K Gv Hv G5 H5 (fr7 ns a b s n (.val (.int (i:Int))) (.val (stD (hk a b s i)))) σ3 p e ((hel a b s (i+1)).map stD) (eaS a b s (i+1)):=⟨qhW at5.er kp gs5 sub5 new5 at5.hp at5.he at5.op at5.oe,rfl,at5.s4,ob5,off at5.gp k5,off at5.ge k6,at5.hp,at5.he,at5.op,at5.oe⟩;refine⟨_,G5,at6.er,?_⟩
 have et:iR (pg.ct 19 (clK pg 19) (top 66)).k (.tup %[5,.lst .nil|0]) (fr7 ns a b s n (.val (.int (i:Int))) (.val (stD (hk a b s i))))=.ok (.val (.tup [.int (i:Int),.lst []]),fr7 ns a b s n (.val (.int (i:Int))) (.val (stD (hk a b s i)))):=by
  have z0:0<=sizeLine:=Nat.zero_le _;have z2:0+1+1<=sizeLine:=by decide+kernel
  show iR (pg.kk 19) _ _=_;unfold fr7;generalize (hel a b s n).map stD=M;generalize stD (hk a b s i)=M2;refine(qu _).symm.trans ?_;simp? only[z0,z2,List.length_nil]
 rw[et];intro y6 G6 H6 p6 r6
 have cm:yJ .NotEq (.val (.tup [.int (i:Int),.lst []])) (.val (.tup [.int (i:Int),.lst []]))=some false:=by show(eqD (.tup [.int (i:Int),.lst []]) (.tup [.int (i:Int),.lst []])).map (!·)=_;rw[Jq rfl (by simp[dpD,ZZ])];rfl
 refine⟨_,σ3,G6,H6,H5,.val (.tup [.int (i:Int),.lst []]),.val (.tup [.int (i:Int),.lst []]),false,p6.er,Rep.same p6.gs rv,r6,cm,false,rfl,?_⟩;dsimp only;rw[if_neg (2:)];exact⟨rfl,by lia,G6,_,_,at6.po hC p6 rfl,λb o z=>p6.gs b o (gs5 b o (p4.gs b o (gs2 b o (sg b o z))))⟩
end
end K64
namespace K64
open PySem PySem.Spec PyProof.Rows L2 DE DG FA
open CH ST
section
variable{κ:KC}{ε:XK}{K:Frag}{k:Nat}{X:Cx}{Γ:Ct}
theorem qdU(gd:Gd κ K ε k X Γ)(op:CmpOp):OpR X (compareOp op) (λx y H Q=>∃Gv Hv,qgP κ K Gv Hv op x y H Q):=λpins st σ' H x y v u Q I rx ry hq=>by obtain⟨Gv,Hv,q⟩:=hq;exact Qe (Gv:=Gv) (Hv:=Hv) gd op pins st σ' H x y v u Q I rx ry q
end
section
variable{P:Program}{wd:World}{κ:KC}{K:Frag}{mg:PR}{base:Heap}{C:Addr}{ε:XK}{X:Cx}{Gv Hv:Hp}
noncomputable abbrev e9:DE.E:=.one (.cmp .Eq (.met (.var 4) "stays" .nil) (.sli (.var 6) .none (.some (.bin .Sub (.var 3) (.con (.int 1))))))
theorem qh0(a b:Str)(s:Int)(m:Nat)(hch:Ch (-1) (hel a b s m))(hm:m<=60)(p e:Addr)(v0 v1 v2 v5:Sl)(r:DE.Env)(E:List D):iR (pg.kk 19) e9 (v0::v1::v2::.val (.int ((m+1:Nat):Int))::dS p e ((hel a b s m).map stD) E::v5::.val (.lst ((hel a b s (m+1)).map stD))::r)=.ok (.val (.bl true),v0::v1::v2::.val (.int ((m+1:Nat):Int))::dS p e ((hel a b s m).map stD) E::v5::.val (.lst ((hel a b s (m+1)).map stD))::r):=by
 have st:=qbZ 18 p e (hel a b s m) E;have ms:=Z6 (p:=p) (e:=e) (L:=(hel a b s m).map stD) (E:=E);have es:=qgm hch
 have ct:ZE ((hel a b s (m+1)).map stD) none (some (((m+1:Nat):Int) - 1))=(hel a b s m).map stD:=by rw[show(((m+1:Nat):Int) - 1)=(m:Int) by lia,j8,<-List.map_take,qbh]
 generalize (hel a b s m).map stD=M at *;generalize (hel a b s (m+1)).map stD=M' at *;refine(qu _).symm.trans ?_;simp? only[st,ms,es,ct]
theorem qjI(ok:PgOk κ K mg pg)(hC:κ "Diary" = some C)(gs:Gs κ K ε 19 X (pg.ct 19 (clK pg 19) (top 66)))(hX:X.prog=P/\X.w=wd/\X.base=base/\X.mg=mg/\X.K=K){a b:Str}{s:Int}{m:Nat}(hch:Ch (-1) (hel a b s m))(hm:m<=60) :
  PSs X [sL9] (λDn σ H=>∃G p e v6,σ.length=16/\σ[3]?=some (some (.int ((m+1:Nat):Int)))/\σ[4]?=some (some (.ref p))/\σ[6]?=some (some v6)/\qj G H/\Rep κ G (.lst ((hel a b s (m+1)).map stD)) v6/\ObR κ G H (dia p e ((hel a b s (m+1)).map stD) (eaS a b s (m+1))) (.ref p)/\G p=none/\G e=none/\∀H',Dn.rt (.bl true) H'):=by
 obtain⟨rfl,rfl,rfl,rfl,rfl⟩:=hX;have gd:=gs.toGd;have A1:=all pg.m _ _ _ gs.toGd;have cl:=gs.cls "Diary" C hC;have n4:(fnN (top 66))[4]?=some ("_law_diary" : Str)/\Jg (qe (top 66)) "_law_diary" = true:=⟨by kernel_rfl,by kernel_rfl⟩;obtain⟨fa2,fd2,nm2,M2,F2,B2⟩:=YU ok hC (x:="undo") (f:="Diary.undo") (st:=mem 52 8) rfl rfl;have D2:=qdP (P:=X.prog) (wd:=X.w) (base:=X.base) ok hC F2 9
 have B2:qx X.K fd2 (["self"]:List Str) []:=by
  have hp2:zz (mem 52 8)=(["self"]:List Str):=by kernel_rfl
  rw[<-hp2];exact B2
 refine PSs.imp (q9 (jD (qbo (Q0 (qdU gd .Eq) (YZ (pvL gs n4) cl M2 D2 gs.room B2 .nil gs.ps) (qgv A1 (x:=.lst .nil) (by kernel_rfl)) rfl) (qgv A1 (x:=e9) (by kernel_rfl))))) λDn σ H hq=>?_;obtain⟨G,p,e,v6,len,s3,s4,s6,sub,rl,ob,gp,ge,q⟩:=hq;obtain⟨dx,vb,vs,us,_,k1,_,_,k2,_⟩:=zJ hC ob;rw[qac] at ob;refine⟨.ref p,s4,p,dx,_,rfl,k1,rfl,G,p,e,_,_,_,rfl,sub,ob,ge,λc H1 kp n1 n2 ob1=>?_⟩;have sub1:qj G H1:=λb o z=>kp.st b o (sub b o z) (λy=>by rw[y,gp] at z;cases z) (λy=>by rw[y,ge] at z;cases z);have er1:ER κ X.K G H1 G H1 (List.replicate 16 Sl.no) σ:=qb3 (by rw[List.length_replicate,len]) sub1 λi s z=>.inl (List.eq_of_mem_replicate (List.mem_of_getElem? z));refine⟨G,H1,_,G,er1,?_⟩;have el:iR (pg.ct 19 (clK pg 19) (top 66)).k (.lst .nil) (List.replicate 16 Sl.no)=.ok (.tmp [],List.replicate 16 Sl.no):=rfl;rw[el];intro y2 G2 H2 p2 r2
 have cm:yJ .Eq (.cell []) (.tmp [])=some true:=by show eqD (.lst []) (.lst [])=_;exact Jq rfl (by simp[dpD,ZZ])
 refine⟨G,H1,_,σ,G2,H2,H1,.cell [],.tmp [],true,p2.er,⟨c,[],rfl,p2.hs _ _ n2,.nil⟩,r2,cm,true,rfl,?_⟩;dsimp only;rw[if_pos rfl];have ob2:=ob1.same p2.hs p2.gs
 have er2:ER κ X.K G2 H2 G2 H2 [.no,.no,.no,.val (.int ((m+1:Nat):Int)),dS p e ((hel a b s m).map stD) (eaS a b s m),.no,.val (.lst ((hel a b s (m+1)).map stD)),.no,.no,.no,.no,.no,.no,.no,.no,.no] σ:=by
  refine qb3 len.symm p2.er.sub λi s z=>?_
  match i,z with
  |0,z=>cases z;exact .inl rfl
  |1,z=>cases z;exact .inl rfl
  |2,z=>cases z;exact .inl rfl
  |3,z=>cases z;exact .inr (.inl ⟨_,_,rfl,s3,by simp only[Rep]⟩)
  |4,z=>cases z;exact .inr (.inr ⟨_,_,_,_,_,rfl,s4,ob2⟩)
  |5,z=>cases z;exact .inl rfl
  |6,z=>cases z;exact .inr (.inl ⟨_,_,rfl,s6,rl.same p2.gs⟩)
  |7,z=>cases z;exact .inl rfl
  |8,z=>cases z;exact .inl rfl
  |9,z=>cases z;exact .inl rfl
  |10,z=>cases z;exact .inl rfl
  |11,z=>cases z;exact .inl rfl
  |12,z=>cases z;exact .inl rfl
  |13,z=>cases z;exact .inl rfl
  |14,z=>cases z;exact .inl rfl
  |15,z=>cases z;exact .inl rfl
  | _+16,z=>cases z
 refine⟨G2,H2,_,G2,er2,?_⟩;have ev:iR (pg.ct 19 (clK pg 19) (top 66)).k e9 [.no,.no,.no,.val (.int ((m+1:Nat):Int)),dS p e ((hel a b s m).map stD) (eaS a b s m),.no,.val (.lst ((hel a b s (m+1)).map stD)),.no,.no,.no,.no,.no,.no,.no,.no,.no]=_:=qh0 a b s m hch hm p e .no .no .no .no _ (eaS a b s m);rw[ev];intro v3 G3 H3 p3 r3;simp only[RvR,Rep] at r3;subst r3;exact q H3
noncomputable def spW(K:Frag):Sp:=λvs H Q _=>∃(a:Addr) (ns:List Int),vs=[.ref a]/\SqL K H a (ns.map V.int)/\∀H',Q (.bl true) H'
theorem qh1(j:Nat)(cl:Str->List Ar->R Rv):cSs pg.m (pg.ct j cl (top 66)) ((qk (top 66)).take 4)=some qgi:=by kernel_rfl
theorem qh2(j:Nat)(cl:Str->List Ar->R Rv):cSs pg.m (pg.ct j cl (top 66)) (((qk (top 66)).drop 7).take 2)=some qgj:=by kernel_rfl
theorem qbi(ok:PgOk κ K mg pg)(hC:κ "Diary" = some C){nm f:Str}{fI:Addr}{fdI:FuncData}(MD:Mk K C fI)(FI:Fun K nm f (mem 52 0) fI fdI)(BI:qx K fdI (["self","book"]:List Str) [])(hmD:mg "Diary" = some (.ref C)){fa:Addr}{fd:FuncData}(F:Fun K "law" "law" (top 66) fa fd) :
  FnOk P wd K mg base CX0 20 fa fd (["_law_script"]:List Str) (spW K):=by
 have hc:qQ (top 66)=true:=by kernel_rfl
 have hp:zz (top 66)=(["_law_script"]:List Str):=by kernel_rfl
 have hN:fnN (top 66)=(["_law_script","_law_names","_law_start","_law_many","_law_diary","_law_k","_law_held","_law_stay","_law_cell","_law_far","_law_none","_law_first","_law_last","_law_at","_law_others","_law_odd"]:List Str):=by kernel_rfl
 have ih:=J7 (P:=P) (wd:=wd) (base:=base) ok 19
 have:FnOk P wd K mg base (CX1 P wd) 20 fa fd (zz (top 66)) (spW K):=by
  refine F.okx (qt hc) (λvs H Q E z=>?_) (λcdv A outer s H vs Q E hr z=>?_)
  ·obtain⟨a,ns,rfl,_,_⟩:=z;rw[hp];rfl
  ·obtain⟨ad,ns,rfl,hq,z⟩:=z;have gs:=QN (E:=E) (H:=H) (outer:=outer) ok ih (qt hc) hr;obtain⟨a,b,st,n,ha,hb,⟨h0,h1⟩,⟨n2,n60⟩,ep⟩:=qgn ns;obtain⟨m,rfl⟩:∃m,n=m+1:=⟨n - 1,by lia⟩;obtain⟨hch,_⟩:=Yq (s:=st) ha hb (by lia) (by lia) m (by lia);have r9:=qjI (P:=P) (wd:=wd) (base:=base) ok hC gs ⟨rfl,rfl,rfl,rfl,rfl⟩ hch (by lia);have rm:=qdR (w:=1000) gs r9 (qh2 19 (clK pg 19));have r6:=qjH (P:=P) (wd:=wd) (base:=base) (Gv:=λ_=>none) (Hv:=H) ok hC gs ⟨rfl,rfl,rfl,rfl,rfl⟩ rm (ns:=ns) ha hb h0 h1 n60;have r5:=qjG (Gv:=λ_=>none) (Hv:=H) hC gs r6 (ns:=ns) (a:=a) (b:=b) (s:=st) n60;have r4:=qjF (P:=P) (wd:=wd) (base:=base) (Gv:=λ_=>none) (Hv:=H) ok hC MD FI BI hmD gs ⟨rfl,rfl,rfl,rfl,rfl⟩ r5;have r0:=qab (w:=1000) (Gv:=λ_=>none) (Hv:=H) gs r4 pg.m _ _ (qh1 19 (clK pg 19));rw[<-qbg] at r0;have er0:=zO (N:=fnN (top 66)) (K:=K) (κ:=κ) (G:=λ_=>none) (H:=H) (args:=[.scr (ns.map D.int)]) (vs:=[.ref ad]) (λ_ _ e=>(by cases e)) ⟨_,_,rfl,⟨ad,_,rfl,hq,J8 _ ns⟩,rfl⟩;have hl0:qX (fnN (top 66)) [.scr (ns.map D.int)]=[.scr (ns.map D.int),.no,.no,.no,.no,.no,.no,.no,.no,.no,.no,.no,.no,.no,.no,.no]:=by rw[hN];rfl
   rw[hl0] at er0;refine⟨_,r0,_,λ_=>none,er0,?_⟩;have ep:iSs (pg.ct 19 (clK pg 19) (top 66)).k 1000 qgi _=_:=ep;rw[ep];intro σ1 G1 H1 er1 _;refine⟨G1,_,er1,rfl,λσ4 G4 H4 p e at4=>?_⟩;refine⟨G4,p,e,at4,λσ5 G5 H5 at5=>?_⟩;refine⟨G5,p,e,at5,λx5 x7 σ6 G6 H6 at6=>?_⟩;obtain⟨y5,y8,y9,y10,y11,y12,y13,y14,y15,em⟩:=qgr ns a b st (m+1) p e (eaS a b st (m+1)) ha hb h0 h1 n2 n60 x5 x7;refine⟨G6,ovr p e H6 H,_,G6,qhX hC at6.er at6.n4 at6.s4 at6.ob at6.op at6.oe,?_⟩;have em:iSs (pg.ct 19 (clK pg 19) (top 66)).k 1000 qgj ((fr7 ns a b st (m+1) x5 x7).set 4 (dS p e ((hel a b st (m+1)).map stD) (eaS a b st (m+1))))=_:=em;rw[em];intro σ7 G7 H7 er7 g7;obtain⟨dx,vb,vs,us,_,k1,_,_,k2,_⟩:=zJ hC at6.ob;obtain⟨v3,s3,r3⟩:=er7.sl 3 _ rfl;obtain⟨v4,s4,r4⟩:=er7.sl 4 _ rfl;obtain⟨v6,s6,r6⟩:=er7.sl 6 _ rfl;simp only[Rep] at r3;subst r3;have r4':=r4.same er7.base (λ_ _ y=>y);obtain⟨_,_,_,_,rfl,_⟩:=zJ hC r4'
   have off:∀{b:Addr} {o:HO},(b=p\/b=e)->G6 b=none->H6 b=some o->G7 b=none:=λ{b o} hb g h=>by
    cases r:G7 b with
    |none=>rfl
    | some o'=>
     rcases er7.fresh b o' r with ⟨_,y⟩ | y
     ·rw[g] at y;cases y
     ·unfold ovr at y;rw[if_pos hb,h] at y;cases y
   exact⟨G7,p,e,v6,er7.len.symm,s3,s4,s6,er7.sub,r6,r4',off (.inl rfl) at6.gp k1,off (.inr rfl) at6.ge k2,z⟩
 rw[hp] at this;exact Qi this λ_ _ _ _ ⟨a,ns,e,h1,h2⟩=>⟨a,ns,e,h1,h2⟩
end
end K64
namespace DE
open PySem PySem.Spec PyProof.Rows L2
def qh3(G G' H:Hp):Prop:=∀a o,G' a=some o->(∃o',G a=some o')\/H a=none
noncomputable abbrev spQ(κ:KC)(K:Frag)(cl:Str->List Ar->R Rv)(f:Str):Sp:=λvs H Q _=>spF κ K cl f vs H Q E0
theorem qak.q{P:Program}{wd:World}{κ:KC}{K:Frag}{mg:PR}{base:Heap}{pg:Pg}{k:Nat}(h:qak P wd κ K mg base pg k)(f:Str)(st:Stmt)(e:pg.defs.lookup f=some st):∃fa fd,FnOk P wd K mg base CX0 k fa fd (zz st) (spQ κ K (clK pg k) f)/\mg f=some (.ref fa)/\PySem.W.keepIn K (.ref fa)=true/\qx K fd (zz st) []:=
 let ⟨fa,fd,F,h⟩:=h.1 f st e
 ⟨fa,fd,Qi F λ_ _ _ _ z=>z,h⟩
section
variable{κ:KC}{K:Frag}{G H G' H':Hp}
theorem qb4{cl:Str->List Ar->R Rv}{f:Str}{args:List Ar}{vs:List V}{r:Rv}{Q:VK}{E:XK}(sub:qj G H)(ha:Yu κ K G H args vs)(e:cl f args=.ok r)
  (h:∀v G' H',qj H H'->qj G G'->qj G' H'->qh3 G G' H->ReR κ G' H' H r v->Q v H'):spF κ K cl f vs H Q E:=⟨G,args,sub,ha,by rw[e];exact h⟩
end
end DE
namespace K64
open PySem PySem.Spec PyProof.Rows L2 DE DG FA
open CH ST
theorem qdV(k:Nat):clK pg (k+1) "are_rules" [.val (.lst [])]=.ok (.val (.bl true)):=by
 have h:¬ (8:Int) < ((0:Nat):Int):=by decide
 rw[YN];simp? only[yy,h,decide_false]
theorem qbj(k:Nat):clK pg (k+1) "check_papers" [.val (.lst []),.val (.int 0)]=.ok (.val .non):=by
 have h:¬ (12:Int) < ((0:Nat):Int):=by decide
 have e:zw []=[]:=rfl;rw[yN];simp? only[zT,h,e,decide_false]
theorem qh4{k:Nat}{f:Str}{args:List Ar}:qd6 k f args=.no\/(12<=k/\f = "Book"/\args=[.val (.lst []),.val (.lst [])]/\qd6 k f args=.ok (.val bk0)):=by
 by_cases h:12<=k/\f = "Book"/\args.length=2/\args.all isE=true
 ·refine .inr ⟨h.1,h.2.1,?_,if_pos h⟩
  have one:∀a:Ar,isE a=true->a=.val (.lst []):=λa q=>by
   cases a with
   |val d=>cases d with
    |lst l=>cases l with
     |nil=>rfl
     |cons _ _=>cases q
    |_=>cases q
   |_=>cases q
  match args,h.2.2.1,h.2.2.2 with
  |[a,b],_,q=>simp only[List.all_cons,List.all_nil,Bool.and_eq_true] at q;rw[one a q.1,one b q.2.1]
 ·exact .inl (if_neg h)
section
variable{P:Program}{wd:World}{κ:KC}{K:Frag}{mg:PR}{base:Heap}{j:Nat}{f:Addr}{fd:FuncData}{C:Addr}
noncomputable def qiB(κ:KC)(C:Addr):Sp:=λvs H Q _=>∃(G:Hp) (x dx:Addr) (v1 v2:V),vs=[.ref x,v1,v2]/\H x=some (.ins C dx [])/\qj G H/\Rep κ G (.lst []) v1/\Rep κ G (.lst []) v2/\
 ∀s t H',(∀b o,H b=some o->b≠x->H' b=some o)->H s=none->H t=none->s≠t->H' x=some (.ins C dx [("kept_rules",.ref s),("kept_papers",.ref t)])->H' s=some (.lst [])->H' t=some (.lst [])->Q .non H'
theorem qbk(tl:mg "list" = none)(tn:mg "len" = none)(cl:Cls K C)(n1:zu K C "kept_rules")(n2:zu K C "kept_papers")(F:Fun K "__init__" "Book.__init__" (mem 59 0) f fd)(at_:qak P wd κ K mg base pg (j+1)) :
  FnOk P wd K mg base CX0 (j+2) f fd (["self","rules","papers"]:List Str) (qiB κ C):=by
 have sc:FnScope ["self","rules","papers"] ["self","rules","papers"] (qe (mem 59 0)):=⟨rfl,rfl,rfl,by decide+kernel,rfl,by decide+kernel,by decide+kernel⟩;obtain⟨fA,dA,FA,mA,kA,bA⟩:=qak.q at_ "are_rules" (top 56) (by kernel_rfl);obtain⟨fB,dB,FB,mB,kB,bB⟩:=qak.q at_ "check_papers" (top 58) (by kernel_rfl);refine F.ok sc (λvs H Q E h=>?_) (λcdv A outer s H vs Q E hr h=>?_)
 ·obtain⟨G,x,dx,v1,v2,rfl,_⟩:=h;rfl
 ·obtain⟨G,x,dx,v1,v2,rfl,hx,sub,r1,r2,q⟩:=h;have r1':=r1;have r2':=r2;simp only[Rep] at r1' r2';obtain⟨a,xs,rfl,ga,ra⟩:=r1';obtain⟨b,ys,rfl,gb,rb⟩:=r2';simp only[qm] at ra rb;subst ra rb
  refine⟨_,qo (qan (qbn (qeg (Yy FA hr (by rfl) mA kA bA .nil qeC (qr (pv 1) qz)))) (q9 qao) j9)
   (qo (jv (Yy FB hr (by rfl) mB kB bB .nil qeC (qr (pv 2) (qr (zL jF (by rfl) tn PySem.boot_len (qr (pv 1) qz)) qz))))
   (qo (yc (pv 0) (jc zv (by rfl) tl PyProof.Rows.boot_list (qr (pv 1) qz)) rfl)
   (q9 (yc (pv 0) (jc zv (by rfl) tl PyProof.Rows.boot_list (qr (pv 2) qz)) rfl)))),?_⟩
  refine⟨_,rfl,qb4 (E:=E0) (G:=G) (args:=[.val (.lst [])]) sub ⟨_,_,rfl,r1,rfl⟩ (qdV j) λv G1 H1 hs1 gs1 sub1 fr1 rr=>?_⟩;simp only[ReR,Rep] at rr;subst rr;refine⟨_,rfl,?_⟩;have ga1:H1 a=some (.lst []):=hs1 _ _ (sub _ _ ga);refine⟨_,rfl,_,rfl,a,[],rfl,.inl (SqL.of ga1),?_⟩;refine qb4 (E:=E0) (G:=G1) (args:=[.val (.lst []),.val (.int 0)]) sub1 ⟨_,_,rfl,r2.same gs1,_,_,rfl,by simp only[ArR,Rep];rfl,rfl⟩ (qbj j) λv G2 H2 hs2 gs2 sub2 fr2 rr=>?_;have hx2:H2 x=some (.ins C dx []):=hs2 _ _ (hs1 _ _ hx);have ga2:H2 a=some (.lst []):=hs2 _ _ ga1;have gb2:H2 b=some (.lst []):=hs2 _ _ (hs1 _ _ (sub _ _ gb));have hsm:qj H H2:=λc o z=>hs2 c o (hs1 c o z);refine⟨_,rfl,a,[],rfl,.inl (SqL.of ga2),λt ht=>?_⟩;have ntx:t≠x:=λz=>by rw[z,hx2] at ht;cases ht
  refine⟨_,rfl,x,C,dx,_,rfl,by rw[qb ntx.symm];exact hx2,cl,n1,by decide,?_⟩;have nbt:b≠t:=λz=>by rw[z,ht] at gb2;cases gb2
  have nbx:b≠x:=λz=>by rw[z,hx2] at gb2;cases gb2
  refine⟨_,rfl,b,[],rfl,.inl (SqL.of (by rw[qb nbx,qb nbt];exact gb2)),λu hu=>?_⟩;have nux:u≠x:=λz=>by rw[z,qc] at hu;cases hu
  have nut:u≠t:=λz=>by rw[z,qb ntx,qc] at hu;cases hu
  have hu2:H2 u=none:=by rw[qb nux,qb nut] at hu;exact hu
  refine⟨_,rfl,x,C,dx,_,rfl,by rw[qb nux.symm,qc],cl,n2,(by show 1 < 1000;decide),?_⟩;refine q t u _ (λc o z nc=>?_) (qj.none hsm ht) (qj.none hsm hu2) (Ne.symm nut) (by rw[qc];rfl) ?_ ?_
  ·have z2:=hsm c o z;have c1:c≠t:=λw=>by rw[w,ht] at z2;cases z2
   have c2:c≠u:=λw=>by rw[w,hu2] at z2;cases z2
   rw[qb nc,qb c2,qb nc,qb c1];exact z2
  ·rw[qb ntx,qb nut.symm,qb ntx,qc]
  ·rw[qb nux,qc]
theorem qdW(hC:κ "Book" = some C){k:Nat}:∀vs H Q E,spF κ K (qd6 k) "Book" vs H Q E->∀x dx,H x=none->H dx=none->dx≠x->qiB κ C (.ref x::vs) (upd (upd H dx (.own x)) x (.ins C dx [])) (λv H2=>v=.non/\Q (.ref x) H2) E:=by
 rintro vs H Q E ⟨G,args,sub,ha,hw⟩ x dx hx hdx ne;rcases qh4 (k:=k) (f:="Book") (args:=args) with e | ⟨_,_,rfl,e⟩
 ·rw[e] at hw;exact hw.elim
 rw[e] at hw;obtain⟨v1,us1,rfl,r1,v2,us2,rfl,r2,rfl⟩:=ha
 have up:qj H (upd (upd H dx (.own x)) x (.ins C dx [])):=λb o hb=>by
  have nb:b≠x:=λz=>by rw[z,hx] at hb;cases hb
  have nd:b≠dx:=λz=>by rw[z,hdx] at hb;cases hb
  rw[qb nb,qb nd];exact hb
 refine⟨G,x,dx,v1,v2,rfl,qc,λb o hb=>up b o (sub b o hb),r1,r2,λs t H' st ns nt nst k0 k1 k2=>⟨rfl,?_⟩⟩;have sx:s≠x:=λz=>by rw[z,qc] at ns;cases ns
 have tx:t≠x:=λz=>by rw[z,qc] at nt;cases nt
 have s0:H s=none:=qj.none up ns;have t0:H t=none:=qj.none up nt;have gx:=qj.none sub hx;have gs:=qj.none sub s0;have gt:=qj.none sub t0;have hs:qj H H':=λb o hb=>st b o (up b o hb) (λz=>by rw[z,hx] at hb;cases hb)
 let G':Hp:=upd (upd (upd G s (.lst [])) t (.lst [])) x (.ins C dx [("kept_rules",.ref s),("kept_papers",.ref t)])
 have gG:qj G G':=λb o hb=>by
  have b1:b≠x:=λz=>by rw[z,gx] at hb;cases hb
  have b2:b≠s:=λz=>by rw[z,gs] at hb;cases hb
  have b3:b≠t:=λz=>by rw[z,gt] at hb;cases hb
  show upd (upd (upd G s _) t _) x _ b=_;rw[qb b1,qb b3,qb b2];exact hb
 refine hw (.ref x) G' H' hs gG (λb o hb=>?_) (λb o hb=>?_) ?_
 ·have hb:upd (upd (upd G s (.lst [])) t (.lst [])) x (.ins C dx [("kept_rules",.ref s),("kept_papers",.ref t)]) b=some o:=hb
  by_cases b1:b=x
  ·subst b1;rw[qc] at hb;cases hb;exact k0
  rw[qb b1] at hb
  by_cases b3:b=t
  ·subst b3;rw[qc] at hb;cases hb;exact k2
  rw[qb b3] at hb
  by_cases b2:b=s
  ·subst b2;rw[qc] at hb;cases hb;exact k1
  rw[qb b2] at hb;exact hs b o (sub b o hb)
 ·have hb:upd (upd (upd G s (.lst [])) t (.lst [])) x (.ins C dx [("kept_rules",.ref s),("kept_papers",.ref t)]) b=some o:=hb
  by_cases b1:b=x
  ·subst b1;exact .inr hx
  rw[qb b1] at hb
  by_cases b3:b=t
  ·subst b3;exact .inr t0
  rw[qb b3] at hb
  by_cases b2:b=s
  ·subst b2;exact .inr s0
  rw[qb b2] at hb;exact .inl ⟨o,hb⟩
 ·show Rep κ G' bk0 (.ref x);unfold bk0;simp only[Rep,qm];refine⟨x,dx,C,[.ref s,.ref t],hC,by trivial,qc,rfl,.ref s,_,rfl,⟨s,[],rfl,?_,rfl⟩,.ref t,_,rfl,⟨t,[],rfl,?_,rfl⟩,rfl⟩
  ·show upd (upd (upd G s _) t _) x _ s=_;rw[qb sx,qb nst,qc]
  ·show upd (upd (upd G s _) t _) x _ t=_;rw[qb tx,qc]
end
end K64
namespace K64
open PySem PySem.W HD DG
abbrev HP:Program:=PySem.Challenge.rw_daysgate_k64_diary_refused.row.toRowW.prog
noncomputable def Hq:Program:=view HP [1,2,3,4,5,6,7,8,10,11,12,13,15,16,17,18,19,20,21,22,23,25,26,27,28,29,30,31,32,34,35,36,38,39,40,41,42,43,44,46,47,48,49,50,51,52,54,55,56,57,58,59,61,62,63,64,65,66]
noncomputable def Hx(s:Shared):Bool:=xlAt Hq [] s&&recOk (RowW.records PySem.Challenge.rw_daysgate_k64_diary_refused.row.toRowW) s
noncomputable def Has:List Addr:=[2,3,20,21,27,28,34,35,41,42,48,49,55,56,62,63,69,70,76,77,86,87,88,99,100,115,116,118,119,134,135,137,138,153,154,156,157,168,169,180,181,192,193,204,205,213,214,220,221,234,235,241,242,244,245,246,247,262,263,269,270,272,273,288,289,295,296,298,299,305,306,312,313,319,320,324,325,331,332,338,339,345,346,352,353,359,360,366,367,373,374,380,381,387,388,394,395,399,400,406,407,420,421,427,428,432,433,439,440,446,447,453,454,460,461,467,468,474,475,477,478,479,480,488,489,495,496,502,503,516,517,523,524,530,531,535,536,538,539,540,541,549,550,556,557,561,562,568,569,575,576,580,581]
def t0(i:Nat):=fB (top i) "daysgate.checks" 187
def t1(i:Nat):=fB (top i) "daysgate.days" 235
def m2(i j:Nat):=fM (mem i j) "daysgate.errors" 280
def k2(w:String)(P:Params):=kC P "daysgate.errors" 280 w
def t3(i:Nat):=fB (top i) "daysgate.rules" 459
def m3(i j:Nat):=fM (mem i j) "daysgate.rules" 459
def k3(w:String)(P:Params):=kC P "daysgate.rules" 459 w
def t4(i:Nat):=fB (top i) "daysgate.stays" 598
def t5(i:Nat):=fB (top i) "daysgate.sums" 619
def t6(i:Nat):=fB (top i) "daysgate.diary" 693
def m6(i j:Nat):=fM (mem i j) "daysgate.diary" 693
def k6(w:String)(P:Params):=kC P "daysgate.diary" 693 w
def t7(i:Nat):=fB (top i) "daysgate.books" 864
def m7(i j:Nat):=fM (mem i j) "daysgate.books" 864
def k7(w:String)(P:Params):=kC P "daysgate.books" 864 w
def t8(i:Nat):=fB (top i) "law_daysgate_k64_diary_refused" 947
noncomputable def e0(P:Params)(a b:Addr)(n:Str)(t:Tok)(l:Int)(k:Nat)(L:List (Str×Tok×Addr))(d:Tok):=k2 "ValueError.__new__" P a b n t l k L d (.ref 87) [(.ref 87),(.type "ValueError"),(.type "Exception"),(.type "BaseException"),(.type "object")] []
noncomputable def HK(P:Params):Frag:=by
 refine(?f:∀K,K=(co (nat_lit 2) ⟨.none,none,.dict #[] 0,#[]⟩ <| co (nat_lit 3) ⟨.type "dict",none,.dict ⟨List.cons (dE P "__name__" 165 (.str "law_daysgate_k64_diary_refused" 947)) <| List.cons (dE P "__doc__" 166 .none) <| List.cons (dE P "__package__" 167 .none) <| List.cons (dE P "__loader__" 168 (.builtin "__main__.__loader__#opaque")) <| List.cons (dE P "__spec__" 169 .none) <| dRs P [("__annotations__",170,6),("__builtins__",171,4)] <| List.cons (dE P "__file__" 173 (.str "/claim/cut.py" 172)) <| List.cons (dE P "__cached__" 174 .none) <| List.cons (dE P "GREATEST" 190 (.int (1000000000) 189)) <| List.cons (dE P "LETTERS" 192 (.str "abcdefghijklmnopqrstuvwxyz" 191)) <| List.cons (dE P "LONGEST_NAME" 194 (.int (8) 193)) <| dRs P [("is_whole",201,21),("is_between",210,28),("are_days",218,35),("is_made_of",227,42),("is_name",234,49),("spread",246,56),("both",259,63),("outside",271,70),("less",279,77),("DayError",299,87),("NoRule",315,100),("NoPaper",340,119),("NoStay",365,138),("NotLet",394,157),("NoWish",410,169),("NoDeed",426,181),("NoText",442,193),("NoRow",458,205)] <| List.cons (dE P "MOST_LANDS" 462 (.int (6) 461)) <| List.cons (dE P "GREATEST_WEIGHT" 464 (.int (9) 463)) <| dRs P [("is_land",471,214),("are_lands",480,221),("Rule",521,245),("Within",556,273),("Since",591,299),("line_of",597,306)] <| List.cons (dE P "MOST_STAYS" 601 (.int (60) 600)) <| dRs P [("is_stay",608,313),("stays_of",618,320),("pieces_among",626,325),("pieces_of",635,332),("sum_of",649,339),("first_since",662,346),("first_of_window",671,353),("count_among",680,360),("turns_of",692,367),("edges_of",706,374),("difference",716,381),("unlike_days",730,388),("changed_days",747,395),("place_of",753,400),("stays_with",762,407),("Diary",863,478)] <| List.cons (dE P "MOST_RULES" 867 (.int (8) 866)) <| List.cons (dE P "MOST_PAPERS" 869 (.int (12) 868)) <| dRs P [("are_rules",877,489),("is_paper",885,496),("check_papers",895,503),("Book",946,539),("_law_cell_at",956,550),("_law_lands",972,557),("_law_place",978,562),("_law_refusal",990,569),("_law_days",1000,576),("law",1006,581)] <| []⟩ 67,#[]⟩ <| t0 4 (nat_lit 20) (nat_lit 21) "is_whole" 195 5 1 199 <| t0 5 (nat_lit 27) (nat_lit 28) "is_between" 202 7 3 208 <| t0 6 (nat_lit 34) (nat_lit 35) "are_days" 211 9 2 216 <| t0 7 (nat_lit 41) (nat_lit 42) "is_made_of" 219 11 2 225 <| t0 8 (nat_lit 48) (nat_lit 49) "is_name" 228 16 1 232 <| t1 10 (nat_lit 55) (nat_lit 56) "spread" 237 21 1 244 <| t1 11 (nat_lit 62) (nat_lit 63) "both" 247 29 2 257 <| t1 12 (nat_lit 69) (nat_lit 70) "outside" 260 43 3 269 <| t1 13 (nat_lit 76) (nat_lit 77) "less" 272 53 2 277 <| k2 "ValueError.__new__" P (nat_lit 86) (nat_lit 87) "DayError" 282 58 3 [("__static_attributes__",294,85),("__weakref__",296,88)] 297 (.type "ValueError") [(.type "ValueError"),(.type "Exception"),(.type "BaseException"),(.type "object")] [(.ref 100),(.ref 119),(.ref 138),(.ref 157),(.ref 169),(.ref 181),(.ref 193),(.ref 205)] (some (.ref 78)) <| co (nat_lit 88) ⟨(.type "getset_descriptor"),none,.fields #[(.str "__weakref__" 295),(.ref 87),(.builtin "ExceptionGroup.__weakref__"),.none],#[]⟩ <| e0 P (nat_lit 99) (nat_lit 100) "NoRule" 300 60 2 [("__static_attributes__",312,98)] 313 (some (.ref 91)) <| m2 17 0 (nat_lit 115) (nat_lit 116) "__init__" "NoPaper.__init__" 328 64 2 333 <| e0 P (nat_lit 118) (nat_lit 119) "NoPaper" 316 62 2 [("__init__",335,116),("__static_attributes__",337,117)] 338 (some (.ref 103)) <| m2 18 0 (nat_lit 134) (nat_lit 135) "__init__" "NoStay.__init__" 353 69 2 358 <| e0 P (nat_lit 137) (nat_lit 138) "NoStay" 341 67 2 [("__init__",360,135),("__static_attributes__",362,136)] 363 (some (.ref 122)) <| m2 19 0 (nat_lit 153) (nat_lit 154) "__init__" "NotLet.__init__" 378 74 4 385 <| e0 P (nat_lit 156) (nat_lit 157) "NotLet" 366 72 2 [("__init__",387,154),("__static_attributes__",391,155)] 392 (some (.ref 141)) <| e0 P (nat_lit 168) (nat_lit 169) "NoWish" 395 79 2 [("__static_attributes__",407,167)] 408 (some (.ref 160)) <| e0 P (nat_lit 180) (nat_lit 181) "NoDeed" 411 81 2 [("__static_attributes__",423,179)] 424 (some (.ref 172)) <| e0 P (nat_lit 192) (nat_lit 193) "NoText" 427 83 2 [("__static_attributes__",439,191)] 440 (some (.ref 184)) <| e0 P (nat_lit 204) (nat_lit 205) "NoRow" 443 85 2 [("__static_attributes__",455,203)] 456 (some (.ref 196)) <| t3 27 (nat_lit 213) (nat_lit 214) "is_land" 465 90 1 469 <| t3 28 (nat_lit 220) (nat_lit 221) "are_lands" 472 94 1 478 <| m3 29 0 (nat_lit 234) (nat_lit 235) "__init__" "Rule.__init__" 493 105 3 499 <| m3 29 1 (nat_lit 241) (nat_lit 242) "weight" "Rule.weight" 502 113 2 509 <| k3 "object.__new__" P (nat_lit 244) (nat_lit 245) "Rule" 481 103 4 [("__init__",501,235),("weight",511,242),("__static_attributes__",514,243),("__dict__",516,246),("__weakref__",518,247)] 519 (.type "object") [(.type "object")] [(.ref 273),(.ref 299)] (none) <| co (nat_lit 246) ⟨(.type "getset_descriptor"),none,.fields #[(.str "__dict__" 515),(.ref 245),(.builtin "function.__dict__"),(.builtin "function.__dict__#set")],#[]⟩ <| co (nat_lit 247) ⟨(.type "getset_descriptor"),none,.fields #[(.str "__weakref__" 517),(.ref 245),(.builtin "ExceptionGroup.__weakref__"),.none],#[]⟩ <| m3 30 0 (nat_lit 262) (nat_lit 263) "__init__" "Within.__init__" 534 120 4 541 <| m3 30 1 (nat_lit 269) (nat_lit 270) "line" "Within.line" 544 126 1 549 <| k3 "object.__new__" P (nat_lit 272) (nat_lit 273) "Within" 522 118 2 [("__init__",543,263),("line",551,270),("__static_attributes__",553,271)] 554 (.ref 245) [(.ref 245),(.type "object")] [] (some (.ref 250)) <| m3 31 0 (nat_lit 288) (nat_lit 289) "__init__" "Since.__init__" 569 131 4 576 <| m3 31 1 (nat_lit 295) (nat_lit 296) "line" "Since.line" 579 137 1 584 <| k3 "object.__new__" P (nat_lit 298) (nat_lit 299) "Since" 557 129 2 [("__init__",578,289),("line",586,296),("__static_attributes__",588,297)] 589 (.ref 245) [(.ref 245),(.type "object")] [] (some (.ref 276)) <| co (nat_lit 305) (oC "line_of" 592 "line_of" 593 594 140 2 302 303 .none .none 304 595 596) <| co (nat_lit 306) (oG (top 32) "line_of" "daysgate.rules" 459 305) <| t4 35 (nat_lit 312) (nat_lit 313) "is_stay" 602 146 1 606 <| t4 36 (nat_lit 319) (nat_lit 320) "stays_of" 609 150 1 616 <| co (nat_lit 324) (oC "pieces_among" 621 "pieces_among" 622 623 162 3 321 322 .none .none 323 624 625) <| co (nat_lit 325) (oG (top 38) "pieces_among" "daysgate.sums" 619 324) <| t5 39 (nat_lit 331) (nat_lit 332) "pieces_of" 627 171 3 633 <| t5 40 (nat_lit 338) (nat_lit 339) "sum_of" 636 173 3 647 <| t5 41 (nat_lit 345) (nat_lit 346) "first_since" 650 180 3 660 <| t5 42 (nat_lit 352) (nat_lit 353) "first_of_window" 663 188 3 669 <| t5 43 (nat_lit 359) (nat_lit 360) "count_among" 672 192 3 678 <| t5 44 (nat_lit 366) (nat_lit 367) "turns_of" 681 194 2 690 <| t6 46 (nat_lit 373) (nat_lit 374) "edges_of" 695 202 2 704 <| t6 47 (nat_lit 380) (nat_lit 381) "difference" 707 210 4 714 <| t6 48 (nat_lit 387) (nat_lit 388) "unlike_days" 717 212 5 728 <| t6 49 (nat_lit 394) (nat_lit 395) "changed_days" 731 221 4 745 <| co (nat_lit 399) (oC "place_of" 748 "place_of" 749 750 230 2 396 397 .none .none 398 751 752) <| co (nat_lit 400) (oG (top 50) "place_of" "daysgate.diary" 693 399) <| t6 51 (nat_lit 406) (nat_lit 407) "stays_with" 754 232 3 760 <| m6 52 0 (nat_lit 420) (nat_lit 421) "__init__" "Diary.__init__" 775 239 2 780 <| m6 52 1 (nat_lit 427) (nat_lit 428) "stays" "Diary.stays" 783 244 1 787 <| co (nat_lit 432) (oC "changes" 790 "Diary.changes" 791 792 247 2 429 430 .none .none 431 793 794) <| co (nat_lit 433) (oFn none (mem 52 2) "changes" "Diary.changes" .none .none .none (.str "daysgate.diary" 693) none (.ref 432) .none) <| m6 52 3 (nat_lit 439) (nat_lit 440) "do" "Diary.do" 796 251 2 802 <| m6 52 4 (nat_lit 446) (nat_lit 447) "others" "Diary.others" 805 257 2 810 <| m6 52 5 (nat_lit 453) (nat_lit 454) "put" "Diary.put" 813 262 4 821 <| m6 52 6 (nat_lit 460) (nat_lit 461) "take" "Diary.take" 824 266 2 829 <| m6 52 7 (nat_lit 467) (nat_lit 468) "move" "Diary.move" 832 269 4 841 <| m6 52 8 (nat_lit 474) (nat_lit 475) "undo" "Diary.undo" 844 274 1 850 <| k6 "object.__new__" P (nat_lit 477) (nat_lit 478) "Diary" 763 237 4 [("__init__",782,421),("stays",789,428),("changes",795,433),("do",804,440),("others",812,447),("put",823,454),("take",831,461),("move",843,468),("undo",852,475),("__static_attributes__",856,476),("__dict__",858,479),("__weakref__",860,480)] 861 (.type "object") [(.type "object")] [] (none) <| co (nat_lit 479) ⟨(.type "getset_descriptor"),none,.fields #[(.str "__dict__" 857),(.ref 478),(.builtin "function.__dict__"),(.builtin "function.__dict__#set")],#[]⟩ <| co (nat_lit 480) ⟨(.type "getset_descriptor"),none,.fields #[(.str "__weakref__" 859),(.ref 478),(.builtin "ExceptionGroup.__weakref__"),.none],#[]⟩ <| t7 56 (nat_lit 488) (nat_lit 489) "are_rules" 870 284 1 875 <| t7 57 (nat_lit 495) (nat_lit 496) "is_paper" 878 291 2 883 <| t7 58 (nat_lit 502) (nat_lit 503) "check_papers" 886 295 2 893 <| m7 59 0 (nat_lit 516) (nat_lit 517) "__init__" "Book.__init__" 908 305 3 914 <| m7 59 1 (nat_lit 523) (nat_lit 524) "rules" "Book.rules" 917 312 1 921 <| m7 59 2 (nat_lit 530) (nat_lit 531) "papers" "Book.papers" 924 315 1 928 <| co (nat_lit 535) (oC "lifted" 931 "Book.lifted" 932 933 318 2 532 533 .none .none 534 934 935) <| co (nat_lit 536) (oFn none (mem 59 3) "lifted" "Book.lifted" .none .none .none (.str "daysgate.books" 864) none (.ref 535) .none) <| k7 "object.__new__" P (nat_lit 538) (nat_lit 539) "Book" 896 303 4 [("__init__",916,517),("rules",923,524),("papers",930,531),("lifted",936,536),("__static_attributes__",939,537),("__dict__",941,540),("__weakref__",943,541)] 944 (.type "object") [(.type "object")] [] (none) <| co (nat_lit 540) ⟨(.type "getset_descriptor"),none,.fields #[(.str "__dict__" 940),(.ref 539),(.builtin "function.__dict__"),(.builtin "function.__dict__#set")],#[]⟩ <| co (nat_lit 541) ⟨(.type "getset_descriptor"),none,.fields #[(.str "__weakref__" 942),(.ref 539),(.builtin "ExceptionGroup.__weakref__"),.none],#[]⟩ <| t8 61 (nat_lit 549) (nat_lit 550) "_law_cell_at" 949 321 2 954 <| t8 62 (nat_lit 556) (nat_lit 557) "_law_lands" 957 325 2 970 <| co (nat_lit 561) (oC "_law_place" 973 "_law_place" 974 975 337 2 558 559 .none .none 560 976 977) <| co (nat_lit 562) (oG (top 63) "_law_place" "law_daysgate_k64_diary_refused" 947 561) <| t8 64 (nat_lit 568) (nat_lit 569) "_law_refusal" 979 339 2 988 <| t8 65 (nat_lit 575) (nat_lit 576) "_law_days" 991 357 3 998 <| co (nat_lit 580) (oC "law" 1001 "law" 1002 1003 360 1 577 578 .none .none 579 1004 1005) <| co (nat_lit 581) (oG (top 66) "law" "law_daysgate_k64_diary_refused" 947 580) <| [])->Frag) ?_ ?h
 case f=>exactλK _=>K
 case h=>delta e0 t0 t1 k2 m2 t3 m3 k3 t4 t5 t6 m6 k6 t7 m7 k7 t8 co fB fM kC;rfl
theorem HKe(P:Params):Has=(HK P).map (·.1):=by kernel_rfl
noncomputable def qgy(p q:Program)(rc:Shared->Bool)(w:World)(H0:Heap)(s0:SharedT):=(yi treeTable p w 11 (some (.ref 6)) 10496 s0 (topStub p)).map (λs=>qcr p q [] (λs=>xlAt q [] s&&rc s) (λs=>Has.map s.heap.get?) true H0 s.abs)
noncomputable def Hlk(w:World)(H0:Heap)(s0:SharedT):=qgy HP Hq (recOk (RowW.records PySem.Challenge.rw_daysgate_k64_diary_refused.row.toRowW)) w H0 s0
def qgz(q:Program):=openGood q []
def Hgd:=qgz Hq
theorem qad:qgy=qgy:=rfl
theorem qae:qgz=qgz:=rfl
end K64
lay_quick K64.qgy K64.qgz
name_quick hlkQ for K64.qgy by K64.qad
name_quick hgdQ for K64.qgz by K64.qae
namespace K64
open PySem PySem.W HD DG
theorem qgA(w:World)(os:OsState):Hlk w (boot_heap w.params) (qcq w.params os)=some (true,Hgd,(HK w.params).map λp=>some p.2):=by
 unfold Hlk Hgd;rw[PySem.W.Fast.hlkQ_eq,PySem.W.Fast.hgdQ_eq]
 kernel_rfl
theorem qh5:LeftO HP Hq [] Hx (λs=>Has.map s.heap.get?) (λw=>(HK w.params).map λp=>some p.2) 10496 true:=
 qcs (boot_open (by kernel_rfl) (2:) (λ_=>by kernel_rfl)) Zk qgA
end K64
namespace DG
open PySem PySem.Spec PyProof.Rows L2 DE
noncomputable def yE(K:Frag)(f:Addr)(n q:Str)(st:Stmt):Prop:=∃oc od kV dc pm an cd ct sl,K.lookup f=some ⟨oc,od,.func (PySem.W.fnOf n q (qP st) (qk st) (qe st) .none kV dc pm an cd ct),sl⟩/\PySem.W.codeIn K cd q=true/\PySem.W.keepIn K (.ref f)=true
noncomputable abbrev FG(K:Frag)(f:Addr)(n:Str)(st:Stmt):Prop:=PySem.W.nsIn K mainGlobals n=some (some (.ref f))/\yE K f n n st
section
variable{K:Frag}{f:Addr}{n q:Str}{st:Stmt}{mg:PR}{h:Heap}
theorem yE.fn(i:yE K f n q st):∃fd,Fun K n q st f fd:=by obtain⟨oc,od,kV,dc,pm,an,cd,ct,sl,l,c,k⟩:=i;exact⟨_,qbu l c k⟩
theorem yE.kp(i:yE K f n q st):PySem.W.keepIn K (.ref f)=true:=by obtain⟨oc,od,kV,dc,pm,an,cd,ct,sl,l,c,k⟩:=i;exact k
theorem un1{us:List Value}{a:Str}{l:List Str}(h:us.length=(a::l).length):∃u vs,us=u::vs/\vs.length=l.length:=by
 cases us with
 |nil=>cases h
 |cons u vs=>exact⟨u,vs,rfl,Nat.succ.inj h⟩
noncomputable def Bd(n q:Str)(st:Stmt)(ps:List Str):Prop:=∀(kV doc pm:Value) (an:Option Addr) (cdv ct:Value) (us:List Value),us.length=ps.length->bindArgs (PySem.W.fnOf n q (qP st) (qk st) (qe st) .none kV doc pm an cdv ct) ⟨us,[]⟩=pure (ps.zip us)
theorem qgB(X:K.In h)(G:h.Ns mainGlobals mg)(a:PySem.W.nsIn K mainGlobals n=some (some (.ref f)))(i:yE K f n n st){ps:List Str}(hp:zz st=ps)(hb:Bd n n st ps):FnF K mg n st:=by obtain⟨fd,F⟩:=i.fn;exact⟨f,fd,F,PySem.W.mg_of X G a,hp▸F.binds hb⟩
theorem zp(i:yE K f n q st){ps:List Str}(hb:Bd n q st ps):∃fd,Fun K n q st f fd/\qx K fd ps []:=by obtain⟨fd,F⟩:=i.fn;exact⟨fd,F,F.binds hb⟩
theorem qgC(i:yE K f n n st)(hb:Bd n n st ["_law_script"]):∃fd,Fun K n n st f fd/\∀(s:Shared) (v:Value),BindsTo s fd ⟨[v],[]⟩ [("_law_script",v)]:=by obtain⟨oc,od,kV,dc,pm,an,cd,ct,sl,l,c,k⟩:=i;exact⟨_,qbu l c k,λs v=>.of_eq (hb _ _ _ _ _ _ [v] rfl)⟩
end
section
variable{n q:Str}{st:Stmt}{a b c d e:Str}
theorem bd1(h:∀(kV doc pm:Value) (an:Option Addr) (cdv ct x:Value),bindArgs (PySem.W.fnOf n q (qP st) (qk st) (qe st) .none kV doc pm an cdv ct) ⟨[x],[]⟩=pure [(a,x)]):Bd n q st [a]:=λ_ _ _ _ _ _ us k0=>by
 obtain⟨_,us,rfl,k1⟩:=un1 k0
 cases List.length_eq_zero_iff.mp k1;exact h ..
theorem bd2(h:∀(kV doc pm:Value) (an:Option Addr) (cdv ct x y:Value),bindArgs (PySem.W.fnOf n q (qP st) (qk st) (qe st) .none kV doc pm an cdv ct) ⟨[x,y],[]⟩=pure [(a,x),(b,y)]):Bd n q st [a,b]:=λ_ _ _ _ _ _ us k0=>by
 obtain⟨_,us,rfl,k1⟩:=un1 k0;obtain⟨_,us,rfl,k2⟩:=un1 k1
 cases List.length_eq_zero_iff.mp k2;exact h ..
theorem bd3(h:∀(kV doc pm:Value) (an:Option Addr) (cdv ct x y z:Value),bindArgs (PySem.W.fnOf n q (qP st) (qk st) (qe st) .none kV doc pm an cdv ct) ⟨[x,y,z],[]⟩=pure [(a,x),(b,y),(c,z)]):Bd n q st [a,b,c]:=λ_ _ _ _ _ _ us k0=>by
 obtain⟨_,us,rfl,k1⟩:=un1 k0;obtain⟨_,us,rfl,k2⟩:=un1 k1;obtain⟨_,us,rfl,k3⟩:=un1 k2
 cases List.length_eq_zero_iff.mp k3;exact h ..
theorem bd4(h:∀(kV doc pm:Value) (an:Option Addr) (cdv ct x y z u:Value),bindArgs (PySem.W.fnOf n q (qP st) (qk st) (qe st) .none kV doc pm an cdv ct) ⟨[x,y,z,u],[]⟩=pure [(a,x),(b,y),(c,z),(d,u)]):Bd n q st [a,b,c,d]:=λ_ _ _ _ _ _ us k0=>by
 obtain⟨_,us,rfl,k1⟩:=un1 k0;obtain⟨_,us,rfl,k2⟩:=un1 k1;obtain⟨_,us,rfl,k3⟩:=un1 k2;obtain⟨_,us,rfl,k4⟩:=un1 k3
 cases List.length_eq_zero_iff.mp k4;exact h ..
end
end DG
namespace DG
open PySem PySem.Spec PyProof.Rows L2 DE
inductive BDs:List (Str×Stmt)->Prop
 | nil:BDs []
 | cons {n st l ps}:zz st=ps->Bd n n st ps->BDs l->BDs ((n,st)::l)
inductive FGs(K:Frag):List (Str×Stmt)->Prop
 | nil:FGs K []
 | cons {f n st l}:FG K f n st->FGs K l->FGs K ((n,st)::l)
inductive ZNs(K:Frag):List Str->Prop
 | nil:ZNs K []
 | cons {n l}:PySem.W.nsIn K mainGlobals n=some none->ZNs K l->ZNs K (n::l)
section
variable{K:Frag}{mg:PR}{h:Heap}
theorem FGs.all(X:K.In h)(G:h.Ns mainGlobals mg){l:List (Str×Stmt)}(a:FGs K l)(p:BDs l):AllF K mg l:=by
 induction a with
 |nil=>exact .nil
 |cons i _ ih=>
  cases p with
  |cons e b p=>exact .cons (qgB X G i.1 i.2 e b) (ih p)
theorem ZNs.all(X:K.In h)(G:h.Ns mainGlobals mg){l:List Str}(a:ZNs K l):∀f∈l,mg f=none:=by
 induction a with
 |nil=>exact nofun
 |cons i _ ih=>
  intro f hf;rcases List.mem_cons.mp hf with rfl | hf
  ·exact PySem.W.mg_none_of X G i
  ·exact ih f hf
end
end DG
namespace DE
open PySem PySem.W L2 DG
inductive Kt(K:Frag)(a:Addr):List Bool->List (Str×Addr)->Prop
 | nil:Kt K a [] []
 | cons {t:Str} {c:Addr} {b:Bool} {bs:List Bool} {r:List (Str×Addr)} (h:kitOne K (.ref a) (.ref c)=some b) (h':exmOne K (.ref a) (.ref c)=some b) (q:Kt K a bs r):Kt K a (b::bs) ((t,c)::r)
theorem Kt.at{K:Frag}{a c:Addr}{n t:Str}:∀{bs:List Bool} {r:List (Str×Addr)},Kt K a bs r->bs=r.map (λt=>isX n t.1)->r.lookup t=some c->kitOne K (.ref a) (.ref c)=some (isX n t)/\exmOne K (.ref a) (.ref c)=some (isX n t)
 |_,_,.nil,_,h=>by cases h
 | _,_,.cons (t:=t') (r:=r) h h' q,e,hl=>by
  rw[List.map_cons,List.cons.injEq] at e;rw[List.lookup_cons] at hl
  cases q':(t == t') with
  |true=>
   rw[q'] at hl;cases hl
   have:t=t':=by simpa using q'
   subst this;rw[<-e.1];exact⟨h,h'⟩
  |false=>rw[q'] at hl;exact q.at e.2 hl
structure XE(K:Frag)(mg:PR)(er:List (Str×Addr))(e:Str×Addr×List Str):Prop where
 m:mg e.1=some (.ref e.2.1)
 kv:kitOne K (.ref e.2.1) (.type "ValueError")=some true
 is_:ExcIs K e.2.1
 kt:∃bs,Kt K e.2.1 bs er/\bs=er.map λt=>isX e.1 t.1
 g:∀x∈e.2.2,XcG K e.2.1 x
 n0:e.2.2=[]->excIn K e.2.1 bV "ValueError.__new__" = true
 n1:e.2.2≠[]->∀P wd base j,∃fI fd,XcC K e.2.1 fI/\FnOk P wd K mg base CX0 (j+1) fI fd ("self" :: e.2.2) (qdg e.2.1 e.2.2)/\qx K fd ("self" :: e.2.2) []
section
variable{K:Frag}{mg:PR}{l:List (Str×Addr×List Str)}{er:List (Str×Addr)}
theorem qdX{n:Str}{ns:List Str}:∀{l:List (Str×Addr×List Str)},(l.lookup n).map (·.2)=some ns->∃e∈l,e.1=n/\e.2.2=ns/\((l.lookup n).map (·.1)).getD 0=e.2.1
 |[],h=>by cases h
 | e::l,h=>by
  obtain⟨m,a,f⟩:=e;rw[List.lookup_cons] at h ⊢
  cases q:(n == m) with
  |true=>rw[q] at h;cases h;exact⟨_,List.mem_cons_self ..,(by simpa using q:n=m).symm,rfl,rfl⟩
  |false=>rw[q] at h;obtain⟨e,h1,h2,h3,h4⟩:=qdX h;exact⟨e,List.mem_cons_of_mem _ h1,h2,h3,h4⟩
theorem qgD{C:Addr}{t:Str}{b:Bool}(h:(Ql l er).xs C t=some b):∃e∈l,e.2.1=C/\((t = "ValueError"/\b=true)\/∃c,er.lookup t=some c/\b=isX e.1 t):=by
 have h:((l.find? λe=>e.2.1 == C).bind λe=>if t == "ValueError" then some true else (er.lookup t).map λ_=>isX e.1 t)=some b:=h
 cases q:l.find? λe=>e.2.1 == C with
 |none=>rw[q] at h;cases h
 |some e=>
  rw[q] at h;refine⟨e,List.mem_of_find?_eq_some q,by simpa using List.find?_some q,?_⟩;have h:(if t == "ValueError" then some true else (er.lookup t).map λ_=>isX e.1 t)=some b:=h
  split at h
  ·rename_i hv;cases h;exact .inl ⟨by simpa using hv,rfl⟩
  ·obtain⟨c,h1,h2⟩:=Option.map_eq_some_iff.mp h;exact .inr ⟨c,h1,h2.symm⟩
variable(A:∀e∈l,XE K mg er e)(er_:∀t c,er.lookup t=some c->mg t=some (.ref c))(mV:mg "ValueError" = none)
include A er_ mV in
theorem qdY(C:Addr)(t:Str)(b:Bool)(h:(Ql l er).xs C t=some b):ExcIs K C/\((∃T,mg t=some (.ref T)/\kitOne K (.ref C) (.ref T)=some b)\/(mg t=none/\t = "ValueError"/\kitOne K (.ref C) (.type "ValueError")=some b)):=by
 obtain⟨e,he,rfl,⟨rfl,rfl⟩ | ⟨c,hc,rfl⟩⟩:=qgD h
 ·exact⟨(A e he).is_,.inr ⟨mV,rfl,(A e he).kv⟩⟩
 ·obtain⟨bs,k1,k2⟩:=(A e he).kt;exact⟨(A e he).is_,.inl ⟨c,er_ t c hc,(k1.at k2 hc).1⟩⟩
include A er_ in
theorem qh6(C:Addr)(t:Str)(b:Bool)(hn:t≠("ValueError" : Str))(h:(Ql l er).xs C t=some b):∃D,mg t=some (.ref D)/\exmOne K (.ref C) (.ref D)=some b:=by
 obtain⟨e,he,rfl,⟨rfl,rfl⟩ | ⟨c,hc,rfl⟩⟩:=qgD h
 ·exact absurd rfl hn
 ·obtain⟨bs,k1,k2⟩:=(A e he).kt;exact⟨c,er_ t c hc,(k1.at k2 hc).2⟩
include A in
theorem qjJ(C:Addr)(x:Str)(h:(Ql l er).xg C x=true):XcG K C x:=by
 obtain⟨e,he,h⟩:=List.any_eq_true.mp h;rw[Bool.and_eq_true] at h;have hc:e.2.1=C:=by simpa using h.1
 subst hc;exact(A e he).g x (by simpa using h.2)
include A in
theorem qh7(n:Str)(h:(Ql l er).xn n=some []):mg n=some (.ref ((Ql l er).xa n))/\excIn K ((Ql l er).xa n) bV "ValueError.__new__" = true:=by obtain⟨e,he,rfl,h3,h4⟩:=qdX (l:=l) h;rw[show(Ql l er).xa e.1=e.2.1 from h4];exact⟨(A e he).m,(A e he).n0 h3⟩
include A in
theorem qh8(n:Str)(ns:List Str)(h:(Ql l er).xn n=some ns)(hne:ns≠[])(P:Program)(wd:World)(base:Heap)(j:Nat):∃fI fd,mg n=some (.ref ((Ql l er).xa n))/\XcC K ((Ql l er).xa n) fI/\FnOk P wd K mg base CX0 (j+1) fI fd ("self" :: ns) (qdg ((Ql l er).xa n) ns)/\qx K fd ("self" :: ns) []:=by obtain⟨e,he,rfl,rfl,h4⟩:=qdX (l:=l) h;rw[show(Ql l er).xa e.1=e.2.1 from h4];obtain⟨fI,fd,q1,q2,q3⟩:=(A e he).n1 hne P wd base j;exact⟨fI,fd,(A e he).m,q1,q2,q3⟩
end
end DE
namespace DE
open PySem PySem.W L2 DG
inductive ENs(K:Frag):List (Str×Addr)->Prop
 | nil:ENs K []
 | cons {n:Str} {a:Addr} {l:List (Str×Addr)}:nsIn K mainGlobals n=some (some (.ref a))->ENs K l->ENs K ((n,a)::l)
theorem ENs.all{K:Frag}{mg:PR}{h:Heap}(X:K.In h)(G:h.Ns mainGlobals mg):∀{l:List (Str×Addr)},ENs K l->∀t c,l.lookup t=some c->mg t=some (.ref c)
 |_,.nil,t,c,q=>by cases q
 | _,.cons (n:=n) h e,t,c,q=>by
  rw[List.lookup_cons] at q
  cases z:(t == n) with
  |true=>rw[z] at q;cases q;rw[show t=n by simpa using z];exact mg_of X G h
  |false=>rw[z] at q;exact e.all X G t c q
end DE
namespace DE
open PySem PySem.Spec PyProof.Rows L2
section
variable{P:Program}{wd:World}{K:Frag}{mg:PR}{base:Heap}
theorem qdZ{D nm f:Str}{ns:List Str}{st:Stmt}{fI C aD:Addr}{fd:FuncData}(hb:qgR D ns st=true)(hne:ns≠[])(F:Fun K nm f st fI fd)(hD:ClsIni K aD)(mD:mg D=some (.ref aD))(ok:ym K C fI bV "ValueError.__new__" = true)(hs:∀n∈ns,XcS K C n)(j:Nat) :
  FnOkH P wd K mg base CX0 (j+1) fI fd (sf::ns) (qdg C ns):=by
 unfold qgR at hb
 cases hbody:qk st with
 |nil=>rw[hbody] at hb;cases hb
 |cons s0 l=>
 rw[hbody] at hb;dsimp only at hb
 cases hX:inX s0 with
 |none=>rw[hX] at hb;cases hb
 |some t=>
 rw[hX] at hb;dsimp only[Option.elim] at hb;obtain⟨d,i,s,vs0,b0⟩:=t;obtain⟨dp,ap,sp,jp,cp,ep,rfl,hl0⟩:=qbT hX;clear hX;simp only[Bool.and_eq_true,decide_eq_true_eq,Bool.not_eq_true',List.all_eq_true] at hb;obtain⟨⟨⟨⟨⟨⟨⟨⟨⟨⟨⟨⟨⟨⟨⟨⟨rfl,rfl⟩,rfl⟩,hl⟩,hp⟩,hr2⟩,hr⟩,hS⟩,hpar⟩,hfn⟩,hc⟩,dok⟩,dgl⟩,nd⟩,nok⟩,nos⟩,nl⟩:=hb
 obtain⟨v1,v2,rest,rfl⟩:∃v1 v2 rest,vs0=v1::v2::rest:=by
  match vs0,hr2 with
  | v1::v2::rest,_=>exact⟨v1,v2,rest,rfl⟩
 have hl:(ap.endLine == cp.line)=true:=by rw[<-hl0];exact hl
 have hr:rest.length<=20:=by simp only[List.length_cons] at hr;lia
 have S:=qt hc;rw[hpar,hfn] at S;obtain⟨n1,n2,n3⟩:=ql dok;refine F.okH S (λvs H Q E z=>?_) (λcdv A outer s H vs Q E hrm z=>?_)
 ·obtain⟨x,us,rfl,_,h1,_⟩:=z;simp[h1]
 ·obtain⟨x,us,rfl,hx,h1,hf,q⟩:=z
  have vis:∀y,y∈(sf::ns:List Str)->Vis (qe st) y:=λy hy=>by
   rcases S.par y hy with k | k
   ·exact .inl k
   ·exact .inr (.inl k)
  have hg:Gl (jP CX0 P wd K mg base (sf::ns) f (qe st) fI cdv A outer s H E).nox d:=by
   have:((qe st).names.lookup d == some NameKind.globalImplicit)=true:=dgl
   exact(by simpa using this:(qe st).names.lookup d=some .globalImplicit)
  have hN0:(jP CX0 P wd K mg base (sf::ns) f (qe st) fI cdv A outer s H E).nox.N=sf::ns:=rfl
  obtain⟨a,ns',rfl⟩:∃a ns',ns=a::ns':=by
   cases ns with
   |nil=>exact absurd rfl hne
   |cons a l=>exact⟨a,l,rfl⟩
  match us,h1 with
  | u::us,h1=>
   match l,hS,hbody with
   |[],hS,_=>cases hS
   | st1::l,hS,hbody=>
    obtain⟨⟨s2,a2,b2⟩,hA,h'⟩:=bind_some hS;clear hS;obtain⟨sp2,ap2,bp2,p2,rfl⟩:=Z2 hA;have hS:(if s2=sf/\b2=a2 then (qd5 l).map (a2 :: ·) else none)=_:=h';clear h' hA;dsimp only at hbody
    by_cases hq:s2=sf/\b2=a2
    case neg=>rw[if_neg hq] at hS;cases hS
    rw[if_pos hq] at hS;obtain⟨ns2,hS2,e3⟩:=map_some hS;injection e3 with e3 e4;subst e3 e4;obtain⟨rfl,rfl⟩:=hq
    have an:b2≠sf:=λz=>by rw[z] at nos;simp at nos
    obtain⟨m1,m2,m3⟩:=ql (nok b2 (by simp))
    have hne2:∀n∈ns2,n≠sf:=λn hn z=>by
     rw[z] at hn
     have:(b2::ns2).contains sf=true:=by simp[hn]
     rw[nos] at this;cases this
    rw[hbody];have c0:(sf::b2::ns2:List Str)[0]?=some sf:=rfl;have c1:(sf::b2::ns2:List Str)[1]?=some b2:=rfl;have pv0:∀pos,PE (jP CX0 P wd K mg base (sf::b2::ns2) f (qe st) fI cdv A outer s H E).nox (.Name sf pos) (qaf 0):=λpos=>zo (i:=0) c0 (vis _ (by simp));have pv1:∀pos,PE (jP CX0 P wd K mg base (sf::b2::ns2) f (qe st) fI cdv A outer s H E).nox (.Name b2 pos) (qaf 1):=λpos=>zo (i:=1) c1 (vis _ (by simp)) m1 m2;have js:=JV (pos:=jp) (j0 (X:=(jP CX0 P wd K mg base (sf::b2::ns2) f (qe st) fI cdv A outer s H E).nox) rfl vis _ hp) hr;have pa:=qr (pv0 sp) (qr js qz rfl) rfl;have hN1:∀(i:Nat) (n:Str),ns2[i]?=some n->(sf::b2::ns2:List Str)[2+i]?=some n/\n≠sf:=λi n e=>⟨by rw[show 2+i=i+2 by lia];exact e,hne2 n (List.mem_of_getElem? e)⟩;have hlen:us.length=ns2.length:=by simpa using h1
    obtain⟨t,ht,hst⟩:=yx (X:=(jP CX0 P wd K mg base (sf::b2::ns2) f (qe st) fI cdv A outer s H E).nox) (C:=C) vis c0 (λn hn e=>⟨hs n (by
     rcases List.mem_cons.mp hn with z | z
     ·exact absurd z e
     ·exact z),nok n (by
     rcases List.mem_cons.mp hn with z | z
     ·exact absurd z e
     ·exact z)⟩) l ns2 hS2 2 [(b2,u)] us hN1 hlen nd (by simp only[List.length_cons,List.length_nil] at nl ⊢;lia)
    refine⟨_,qo (jv (Y5 hD hg mD pa n1 rfl rfl (zy (o:=.Name d dp) (x:="__init__") (es:=[.Name sf sp,.JoinedStr (v1::v2::rest) jp]) rfl rfl (by show(2:Nat) < 30;decide) hl)) (jk rfl _ _ _)) (qo (Zz (pv0 sp2) (pv1 bp2) (jk rfl _ _ _)) ht),?_⟩;have g0:(L2.qE (sf::b2::ns2) (.ref x::u::us))[0]?=some (some (.ref x)):=rfl;have g1:(L2.qE (sf::b2::ns2) (.ref x::u::us))[1]?=some (some u):=rfl
    have g2:∀(i:Nat) (v:V),us[i]?=some v->(L2.qE (sf::b2::ns2) (.ref x::u::us))[2+i]?=some (some v):=λi v e=>by rw[show 2+i=i+2 by lia];show(us.map some++_)[i]?=_;have hi:i < us.length:=(List.getElem?_eq_some_iff.mp e).1;rw[List.getElem?_append_left (by simpa using hi),List.getElem?_map,e];rfl
    refine⟨.ref x,g0,⟨λi hi=>?_,λz=>⟨x,C,fI,z,rfl,hx,ok,u,g1,.ref x,g0,x,C,rfl,hx,hs b2 (by simp),λdd hd=>?_⟩⟩⟩
    ·cases i with
     |zero=>exact⟨u,g1,hf u (by simp)⟩
     |succ i=>
      have hi2:i < us.length:=by simp only[List.length_cons] at hi;lia
      exact⟨us[i],by have:=g2 i us[i] (List.getElem?_eq_getElem hi2);rwa[show 2+i=i+1+1 by lia] at this,hf _ (by simp)⟩
    ·have ne:dd≠x:=λz=>by rw[z,hx] at hd;cases hd
     refine hst x dd _ _ _ g0 g2 qc (by rw[qb ne,qc]) ne ?_
     have e:upd (upd (upd H dd (xD dd [(b2,u)])) x (zM x C (some dd))) dd (xD dd ([(b2,u)]++ns2.zip us))=upd (upd H dd (xD dd ((b2::ns2).zip (u::us)))) x (zM x C (some dd)):=by
      funext b;unfold upd
      by_cases h1:b=dd
      ·subst h1;rw[if_pos rfl,if_neg ne,if_pos rfl];rfl
      ·rw[if_neg h1]
       by_cases h2:b=x
       ·rw[if_pos h2,if_pos h2]
       ·rw[if_neg h2,if_neg h2,if_neg h1,if_neg h1]
     rw[e];exact q dd hd ne
end
end DE
namespace K64
open PySem PySem.W L2 DE DG
noncomputable def qd7(cB cD:Addr):KC:=λc=>if c = "Book" then some cB else if c = "Diary" then some cD else none
theorem qd0{cB cD C:Addr}{c:Str}(h:qd7 cB cD c=some C):(c = "Book"/\C=cB)\/(c = "Diary"/\C=cD):=by
 unfold qd7 at h
 split at h
 ·cases h;exact .inl ⟨‹_›,rfl⟩
 split at h
 ·cases h;exact .inr ⟨‹_›,rfl⟩
 cases h
theorem qh9{c x:Str}(h:Z3.fld c x=true):(c = "Book"/\(x = "kept_rules"\/x = "kept_papers"))\/(c = "Diary"/\(x = "book"\/x = "kept_stays"\/x = "earlier")):=by have h:((c == "Book" && (x == "kept_rules" || x == "kept_papers"))||(c == "Diary" && (x == "book" || x == "kept_stays" || x == "earlier")))=true:=h;simp only[Bool.or_eq_true,Bool.and_eq_true,beq_iff_eq,or_assoc] at h;exact h
theorem qU{α:Type}{c:Prop}[Decidable c]{a b:α}{o:Option α}(h:(if c then some a else o)=some b):(c/\a=b)\/(¬ c/\o=some b):=by
 by_cases q:c
 ·rw[if_pos q] at h;cases h;exact .inl ⟨q,rfl⟩
 ·rw[if_neg q] at h;exact .inr ⟨q,h⟩
theorem qjK{c x f:Str}(h:Z3.mt c x=some f):(c = "Book"/\x = "rules"/\f = "Book.rules")\/(c = "Diary"/\((x = "stays"/\f = "Diary.stays")\/(x = "changes"/\f = "Diary.changes")\/(x = "do"/\f = "Diary.do")\/(x = "others"/\f = "Diary.others")\/(x = "put"/\f = "Diary.put")\/(x = "take"/\f = "Diary.take")\/(x = "move"/\f = "Diary.move")\/(x = "undo"/\f = "Diary.undo"))):=by
 have h:(if (c == "Book" && x == "rules")=true then some ("Book.rules" : Str) else if (c == "Diary")=true then if (x == "stays")=true then some ("Diary.stays" : Str) else if (x == "changes")=true then some ("Diary.changes" : Str) else if (x == "do")=true then some ("Diary.do" : Str) else if (x == "others")=true then some ("Diary.others" : Str) else if (x == "put")=true then some ("Diary.put" : Str) else if (x == "take")=true then some ("Diary.take" : Str) else if (x == "move")=true then some ("Diary.move" : Str) else if (x == "undo")=true then some ("Diary.undo" : Str) else none else none)=some f:=h;rcases qU h with ⟨q,rfl⟩ | ⟨_,h⟩
 ·simp only[Bool.and_eq_true,beq_iff_eq] at q;exact .inl ⟨q.1,q.2,rfl⟩
 by_cases q:(c == "Diary")=true
 ·rw[if_pos q] at h;refine .inr ⟨by simpa using q,?_⟩;rcases qU h with ⟨q,rfl⟩ | ⟨_,h⟩
  ·exact .inl ⟨by simpa using q,rfl⟩
  rcases qU h with ⟨q,rfl⟩ | ⟨_,h⟩
  ·exact .inr (.inl ⟨by simpa using q,rfl⟩)
  rcases qU h with ⟨q,rfl⟩ | ⟨_,h⟩
  ·exact .inr (.inr (.inl ⟨by simpa using q,rfl⟩))
  rcases qU h with ⟨q,rfl⟩ | ⟨_,h⟩
  ·exact .inr (.inr (.inr (.inl ⟨by simpa using q,rfl⟩)))
  rcases qU h with ⟨q,rfl⟩ | ⟨_,h⟩
  ·exact .inr (.inr (.inr (.inr (.inl ⟨by simpa using q,rfl⟩))))
  rcases qU h with ⟨q,rfl⟩ | ⟨_,h⟩
  ·exact .inr (.inr (.inr (.inr (.inr (.inl ⟨by simpa using q,rfl⟩)))))
  rcases qU h with ⟨q,rfl⟩ | ⟨_,h⟩
  ·exact .inr (.inr (.inr (.inr (.inr (.inr (.inl ⟨by simpa using q,rfl⟩))))))
  rcases qU h with ⟨q,rfl⟩ | ⟨_,h⟩
  ·exact .inr (.inr (.inr (.inr (.inr (.inr (.inr (⟨by simpa using q,rfl⟩)))))))
  cases h
 ·rw[if_neg q] at h;cases h
theorem qia{Cn:Addr}{nf:Str}:∀vs H Q E,qcN Cn nf vs H Q E->qdg Cn [nf] vs H Q E:=λvs H Q E h=>by obtain⟨x,u,rfl,h1,h2,h3⟩:=h;exact⟨x,[u],rfl,h1,rfl,λv hv=>by rw[List.mem_singleton.mp hv];exact h2,h3⟩
theorem qbl{P:Program}{wd:World}{K:Frag}{mg:PR}{base:Heap}{CX:CXT}{k:Nat}{f:Addr}{fd:FuncData}{ps:List Str}{sp sp':Sp}(F:FnOkH P wd K mg base CX k f fd ps sp)(h:∀vs H Q E,sp' vs H Q E->sp vs H Q E):FnOkH P wd K mg base CX k f fd ps sp':=
 ⟨λvs H Q E q=>F.len vs H Q E (h _ _ _ _ q),λA outer s H args us vs Q E hr he hb hv hs=>F.run A outer s H args us vs Q E hr he hb hv (h _ _ _ _ hs)⟩
theorem qgE{l:OpenLaw}{w:World}{K:Frag}{h:Heap}{mg:PR}{fa cB cD fL fiB fiD fmr fdstays fdchanges fddo fdothers fdput fdtake fdmove fdundo:Addr}{t0 t1 t2 t3 t4 t5:Tok}(X:K.In h)(G:h.Ns mainGlobals mg)(hfa:mg "law" = some (.ref fa))
  (aL:FG K fL "law" (top 66))
  (a:FGs K pg.defs)
  (z:ZNs K ZJ)
  (v0:nsIn K mainGlobals "GREATEST" = some (some (.int 1000000000 t0)))
  (v1:nsIn K mainGlobals "LETTERS" = some (some (.str "abcdefghijklmnopqrstuvwxyz" t1)))
  (v2:nsIn K mainGlobals "LONGEST_NAME" = some (some (.int 8 t2)))
  (v3:nsIn K mainGlobals "MOST_STAYS" = some (some (.int 60 t3)))
  (v4:nsIn K mainGlobals "MOST_RULES" = some (some (.int 8 t4)))
  (v5:nsIn K mainGlobals "MOST_PAPERS" = some (some (.int 12 t5)))
  (ncB:nsIn K mainGlobals "Book" = some (some (.ref cB)))
  (ncD:nsIn K mainGlobals "Diary" = some (some (.ref cD)))
  (inB:findIn K (.ref cB) "__init__" = some (some (.ref fiB)))
  (inD:findIn K (.ref cD) "__init__" = some (some (.ref fiD)))
  (tmr:findIn K (.ref cB) "rules" = some (some (.ref fmr)))
  (tdstays:findIn K (.ref cD) "stays" = some (some (.ref fdstays)))
  (tdchanges:findIn K (.ref cD) "changes" = some (some (.ref fdchanges)))
  (tddo:findIn K (.ref cD) "do" = some (some (.ref fddo)))
  (tdothers:findIn K (.ref cD) "others" = some (some (.ref fdothers)))
  (tdput:findIn K (.ref cD) "put" = some (some (.ref fdput)))
  (tdtake:findIn K (.ref cD) "take" = some (some (.ref fdtake)))
  (tdmove:findIn K (.ref cD) "move" = some (some (.ref fdmove)))
  (tdundo:findIn K (.ref cD) "undo" = some (some (.ref fdundo)))
  (hiB:yE K fiB "__init__" "Book.__init__" (mem 59 0))
  (niB:isFn K (.ref fiB)=true)
  (hiD:yE K fiD "__init__" "Diary.__init__" (mem 52 0))
  (niD:isFn K (.ref fiD)=true)
  (hmr:yE K fmr "rules" "Book.rules" (mem 59 1))
  (nmr:isFn K (.ref fmr)=true)
  (hdstays:yE K fdstays "stays" "Diary.stays" (mem 52 1))
  (ndstays:isFn K (.ref fdstays)=true)
  (hdchanges:yE K fdchanges "changes" "Diary.changes" (mem 52 2))
  (ndchanges:isFn K (.ref fdchanges)=true)
  (hddo:yE K fddo "do" "Diary.do" (mem 52 3))
  (nddo:isFn K (.ref fddo)=true)
  (hdothers:yE K fdothers "others" "Diary.others" (mem 52 4))
  (ndothers:isFn K (.ref fdothers)=true)
  (hdput:yE K fdput "put" "Diary.put" (mem 52 5))
  (ndput:isFn K (.ref fdput)=true)
  (hdtake:yE K fdtake "take" "Diary.take" (mem 52 6))
  (ndtake:isFn K (.ref fdtake)=true)
  (hdmove:yE K fdmove "move" "Diary.move" (mem 52 7))
  (ndmove:isFn K (.ref fdmove)=true)
  (hdundo:yE K fdundo "undo" "Diary.undo" (mem 52 8))
  (ndundo:isFn K (.ref fdundo)=true)
  (mkB:makesIn K cB=true)
  (kcB:keepIn K (.ref cB)=true)
  (LB:Cls K cB)
  (na_kept_rules:findIn K (.ref cB) "kept_rules" = some none)
  (na_kept_papers:findIn K (.ref cB) "kept_papers" = some none)
  (mkD:makesIn K cD=true)
  (kcD:keepIn K (.ref cD)=true)
  (LD:Cls K cD)
  (na_book:findIn K (.ref cD) "book" = some none)
  (na_kept_stays:findIn K (.ref cD) "kept_stays" = some none)
  (na_earlier:findIn K (.ref cD) "earlier" = some none)
  (ens:ENs K xR)
  (ncV:nsIn K mainGlobals "ValueError" = some none)
  (ci:ClsIni K 87)
  (xv0:kitOne K (.ref 138) (.type "ValueError")=some true)
  (xk0:Kt K 138 [true,false,false,true,false,false,false,false,false] xR)
  (hI0:yE K 135 "__init__" "NoStay.__init__" (mem 18 0))
  (xc0:XcC K 138 135)
  (xs0_0:XcS K 138 "number")
  (xg0_0:XcG K 138 "number")
  (xv1:kitOne K (.ref 181) (.type "ValueError")=some true)
  (xk1:Kt K 181 [true,false,false,false,false,false,true,false,false] xR)
  (xi1:ExcIs K 181)
  (xn1:excIn K 181 bV "ValueError.__new__" = true)
  :
  ∃fd:FuncData,(∀(s:Shared) (v:Value),BindsTo s fd ⟨[v],[]⟩ [("_law_script",v)])/\∀base:Heap,K.In base->base.Ns mainGlobals mg->FnOk l.prog w K mg base CX0 20 fa fd ["_law_script"] (spW K):=by
 have e:=hfa.symm.trans (mg_of X G aL.1);cases e;obtain⟨dL,FL,bL⟩:=qgC aL.2 ((bd1 λ_ _ _ _ _ _ _ =>rfl));have z:=z.all X G;obtain⟨diB,FiB,biB⟩:=zp hiB (ps:=["self","rules","papers"]) ((bd3 λ_ _ _ _ _ _ _ _ _ =>rfl));obtain⟨diD,FiD,biD⟩:=zp hiD (ps:=["self","book"]) ((bd2 λ_ _ _ _ _ _ _ _ =>rfl));obtain⟨dmr,Fmr,bmr⟩:=zp hmr (ps:=["self"]) ((bd1 λ_ _ _ _ _ _ _ =>rfl));obtain⟨ddstays,Fdstays,bdstays⟩:=zp hdstays (ps:=["self"]) ((bd1 λ_ _ _ _ _ _ _ =>rfl));obtain⟨ddchanges,Fdchanges,bdchanges⟩:=zp hdchanges (ps:=["self","stays"]) ((bd2 λ_ _ _ _ _ _ _ _ =>rfl));obtain⟨dddo,Fddo,bddo⟩:=zp hddo (ps:=["self","stays"]) ((bd2 λ_ _ _ _ _ _ _ _ =>rfl));obtain⟨ddothers,Fdothers,bdothers⟩:=zp hdothers (ps:=["self","number"]) ((bd2 λ_ _ _ _ _ _ _ _ =>rfl));obtain⟨ddput,Fdput,bdput⟩:=zp hdput (ps:=["self","land","first","last"]) ((bd4 λ_ _ _ _ _ _ _ _ _ _ =>rfl));obtain⟨ddtake,Fdtake,bdtake⟩:=zp hdtake (ps:=["self","number"]) ((bd2 λ_ _ _ _ _ _ _ _ =>rfl));obtain⟨ddmove,Fdmove,bdmove⟩:=zp hdmove (ps:=["self","number","first","last"]) ((bd4 λ_ _ _ _ _ _ _ _ _ _ =>rfl));obtain⟨ddundo,Fdundo,bdundo⟩:=zp hdundo (ps:=["self"]) ((bd1 λ_ _ _ _ _ _ _ =>rfl));have mcB:=mg_of X G ncB;have mcD:=mg_of X G ncD
 have clsA:∀c C,qd7 cB cD c=some C->Cls K C:=λc C hc=>by
  rcases qd0 hc with ⟨_,rfl⟩ | ⟨_,rfl⟩
  ·exact LB
  ·exact LD
 have fldA:∀c x C,Z3.fld c x=true->qd7 cB cD c=some C->zu K C x:=λc x C hf hc=>by
  rcases qh9 hf with ⟨rfl,rfl | rfl⟩ | ⟨rfl,rfl | rfl | rfl⟩
  ·cases hc;exact na_kept_rules
  ·cases hc;exact na_kept_papers
  ·cases hc;exact na_book
  ·cases hc;exact na_kept_stays
  ·cases hc;exact na_earlier
 have mV:=mg_none_of X G ncV;have er_:=ens.all X G;obtain⟨dI0,FI0,bI0⟩:=zp hI0 (ps:=["self","number"]) (bd2 λ_ _ _ _ _ _ _ _ =>rfl)
 have A:∀e∈xE,XE K mg xR e:=by
  intro e he;simp only[xE,List.mem_cons,List.not_mem_nil,or_false] at he;rcases he with rfl | rfl
  ·refine⟨er_ _ _ (by decide+kernel),xv0,xg0_0.is_,⟨_,xk0,by decide+kernel⟩,(λn hn=>by simp only[List.mem_cons,List.not_mem_nil,or_false] at hn;subst hn;exact xg0_0),λh=>(by cases h),λ_ P wd base j=>⟨_,dI0,xc0,qf8 (D:="DayError") (by kernel_rfl) (λh=>by cases h) FI0 ci (er_ _ _ (by decide+kernel)) xc0.ok ((λn hn=>by simp only[List.mem_cons,List.not_mem_nil,or_false] at hn;subst hn;exact xs0_0)) j,bI0⟩⟩
  ·exact⟨er_ _ _ (by decide+kernel),xv1,xi1,⟨_,xk1,by decide+kernel⟩,λ_ h=>(by cases h),λ_=>xn1,λh=>absurd rfl h⟩
 refine⟨dL,bL,λbase _ _=>qbi (κ:=qd7 cB cD) (C:=cD) ?ok rfl ⟨mkD,inD,niD,kcD⟩ FiD biD mcD FL⟩
 case ok=>
 refine { fn:=a.all X G ?q,blt:=z,gl:=?g,cls:=clsA,flds:=fldA,mts:=?m,mks:=?k,subs:=?s,xsubs:=qdY A er_ mV,xgs:=qjJ A,xn0:=qh7 A,xn1:=qh8 A,xn2:=?n,xhs:=qh6 A er_ }
 case q=>repeat first | exact .nil |refine .cons (by kernel_rfl) (bd2 λ_ _ _ _ _ _ _ _ =>rfl) ?_ |refine .cons (by kernel_rfl) (bd3 λ_ _ _ _ _ _ _ _ _ =>rfl) ?_ |refine .cons (by kernel_rfl) (bd1 λ_ _ _ _ _ _ _ =>rfl) ?_ |refine .cons (by kernel_rfl) (bd4 λ_ _ _ _ _ _ _ _ _ _ =>rfl) ?_ |refine .cons (by kernel_rfl) (bd5 λ_ _ _ _ _ _ _ _ _ _ _ =>rfl) ?_ |refine .cons (by kernel_rfl) (bd6 λ_ _ _ _ _ _ _ _ _ _ _ _ =>rfl) ?_
 case g=>
  intro x d hd;unfold pg at hd;dsimp only at hd
  by_cases h0:x = "GREATEST"
  ·rw[if_pos h0] at hd;cases hd;exact⟨.int 1000000000,_,h0▸mg_of X G v0,⟨_,rfl⟩,λ_=>by simp only[Rep]⟩
  rw[if_neg h0] at hd
  by_cases h1:x = "LETTERS"
  ·rw[if_pos h1] at hd;cases hd;exact⟨.str "abcdefghijklmnopqrstuvwxyz",_,h1▸mg_of X G v1,⟨_,rfl⟩,λ_=>by simp only[Rep]⟩
  rw[if_neg h1] at hd
  by_cases h2:x = "LONGEST_NAME"
  ·rw[if_pos h2] at hd;cases hd;exact⟨.int 8,_,h2▸mg_of X G v2,⟨_,rfl⟩,λ_=>by simp only[Rep]⟩
  rw[if_neg h2] at hd
  by_cases h3:x = "MOST_STAYS"
  ·rw[if_pos h3] at hd;cases hd;exact⟨.int 60,_,h3▸mg_of X G v3,⟨_,rfl⟩,λ_=>by simp only[Rep]⟩
  rw[if_neg h3] at hd
  by_cases h4:x = "MOST_RULES"
  ·rw[if_pos h4] at hd;cases hd;exact⟨.int 8,_,h4▸mg_of X G v4,⟨_,rfl⟩,λ_=>by simp only[Rep]⟩
  rw[if_neg h4] at hd
  by_cases h5:x = "MOST_PAPERS"
  ·rw[if_pos h5] at hd;cases hd;exact⟨.int 12,_,h5▸mg_of X G v5,⟨_,rfl⟩,λ_=>by simp only[Rep]⟩
  rw[if_neg h5] at hd;cases hd
 case m=>
  intro c x f hm;rcases qjK hm with ⟨rfl,rfl,rfl⟩ | ⟨rfl,⟨rfl,rfl⟩ | ⟨rfl,rfl⟩ | ⟨rfl,rfl⟩ | ⟨rfl,rfl⟩ | ⟨rfl,rfl⟩ | ⟨rfl,rfl⟩ | ⟨rfl,rfl⟩ | ⟨rfl,rfl⟩⟩
  ·exact⟨cB,fmr,_,mem 59 1,"rules",rfl,⟨tmr,nmr,hmr.kp⟩,by kernel_rfl,by kernel_rfl,Fmr,bmr⟩
  ·exact⟨cD,fdstays,_,mem 52 1,"stays",rfl,⟨tdstays,ndstays,hdstays.kp⟩,by kernel_rfl,by kernel_rfl,Fdstays,bdstays⟩
  ·exact⟨cD,fdchanges,_,mem 52 2,"changes",rfl,⟨tdchanges,ndchanges,hdchanges.kp⟩,by kernel_rfl,by kernel_rfl,Fdchanges,bdchanges⟩
  ·exact⟨cD,fddo,_,mem 52 3,"do",rfl,⟨tddo,nddo,hddo.kp⟩,by kernel_rfl,by kernel_rfl,Fddo,bddo⟩
  ·exact⟨cD,fdothers,_,mem 52 4,"others",rfl,⟨tdothers,ndothers,hdothers.kp⟩,by kernel_rfl,by kernel_rfl,Fdothers,bdothers⟩
  ·exact⟨cD,fdput,_,mem 52 5,"put",rfl,⟨tdput,ndput,hdput.kp⟩,by kernel_rfl,by kernel_rfl,Fdput,bdput⟩
  ·exact⟨cD,fdtake,_,mem 52 6,"take",rfl,⟨tdtake,ndtake,hdtake.kp⟩,by kernel_rfl,by kernel_rfl,Fdtake,bdtake⟩
  ·exact⟨cD,fdmove,_,mem 52 7,"move",rfl,⟨tdmove,ndmove,hdmove.kp⟩,by kernel_rfl,by kernel_rfl,Fdmove,bdmove⟩
  ·exact⟨cD,fdundo,_,mem 52 8,"undo",rfl,⟨tdundo,ndundo,hdundo.kp⟩,by kernel_rfl,by kernel_rfl,Fdundo,bdundo⟩
 case k=>
  intro P wd base k ih f hf;have hf:((["Book"]:List Str).contains f)=true:=hf;obtain rfl:f = "Book":=by simpa using hf
  by_cases hk:k < 12
  ·exact .inl ⟨by omega,λargs=>if_neg λz=>absurd z.1 (1:)⟩
  obtain⟨j,rfl⟩:∃j,k=j+12:=⟨k - 12,by omega⟩;exact .inr ⟨cB,fiB,_,_,_,⟨mkB,inB,niB,kcB⟩,FnOk.lift (qbk (j:=j+9) (z "list" (by decide+kernel)) (z "len" (by decide+kernel)) LB na_kept_rules na_kept_papers FiB (ih (j+10) (1:))),mcB,biB,by omega,qdW (κ:=qd7 cB cD) (k:=j+12) rfl⟩
 case s=>intro c t b hs;cases hs
 case n=>
  intro n nf h1 h2 P wd base j;have h1:(n == "NoStay")=true:=h1;obtain rfl:n = "NoStay":=by simpa using h1
  have h2:some (["number"]:List Str)=some [nf]:=h2;cases h2;exact⟨_,dI0,er_ _ _ (by decide+kernel),xc0,qbl (qdZ (D:="DayError") (ns:=["number"]) (by kernel_rfl) (λh=>by cases h) FI0 ci (er_ _ _ (by decide+kernel)) xc0.ok (λn hn=>by simp only[List.mem_cons,List.not_mem_nil,or_false] at hn;subst hn;exact xs0_0) j) qia,bI0⟩
theorem qjL{l:PySem.W.OpenLaw}{q:Program}{loose:List Str}{XP:(Str->Option Value)->Heap->Prop}{YP:World->Heap->Prop}{d:DefRec}{K:Params->Frag}(hn:l.most=some 63)(hdf:d.params.defaults=[])
  (hY:∀(w:World) (h:Heap),YP w h->(K w.params).In h)
  (F:∀(w:World) (mg:PR) (fa:Addr) (h:Heap),(K w.params).In h->h.Ns mainGlobals mg->mg d.name=some (.ref fa)->
   ∃fd:FuncData,(∀(s:Shared) (u:Value),BindsTo s fd ⟨[u],[]⟩ [("_law_script",u)])/\∀base:Heap,(K w.params).In base->base.Ns mainGlobals mg->FnOk l.prog w (K w.params) mg base CX0 20 fa fd ["_law_script"] (spW (K w.params))) :
  PySem.W.WalkO q loose XP YP l.row.toRowW d [] (λf vs=>PySem.call f vs):=
 L2.qco (n:=63) (k:=20) (x:="_law_script") (CX:=λ_=>CX0) (sp:=λw=>spW (K w.params)) hn (2:) hdf ⟨rfl,by decide,by decide⟩ hY F (λ_ _ a ns hl _ hS=>⟨a,ns,rfl,hS,λ_=>rfl⟩) λ_ _ _ _ _ z=>z
end K64
open PySem PySem.W PyProof.Rows
set_option maxRecDepth 100000 in
set_option maxHeartbeats 0 in
theorem PySem.Challenge.cw_daysgate_k64_diary_refused_holds : PySem.Challenge.rw_daysgate_k64_diary_refused.Holds := by
 w_on;refine holds_law saidX λsaid=>?_
 refine holds_open (q:=K64.Hq) (loose:=[]) (Xt:=K64.Hx) (XP:=XL K64.Hq []) (Yf:=λs=>K64.Has.map s.heap.get?) (Ya:=λw=>(K64.HK w.params).map λp=>some p.2) (YP:=InK K64.HK) (N:=10496) K64.qh5 (InK.of K64.HKe) InK.keeps (λs e=>xl_of s (Bool.and_eq_true_iff.mp e).1) XL.keeps (by rfl) (by rfl) (by rfl) (λs e=>recFacts_of (Bool.and_eq_true_iff.mp e).2) (by rfl) (by first | assumption | decide+kernel) (by decide+kernel) ⟨rfl,rfl,rfl,rfl,rfl,by decide+kernel⟩ ?hw ?hc
 (case hw=>w_witness2)
 k_fill
 refine K64.qjL (l:=PySem.Challenge.rw_daysgate_k64_diary_refused) rfl rfl (λw h Y=>Y) ?F
 case F=>
  intro w mg fa h KX G hmg
  refine' K64.qgE KX G hmg ?_ ?_ ?_ ?_ ?_ ?_ ?_ ?_ ?_ ?_ ?_ ?_ ?_ ?_ ?_ ?_ ?_ ?_ ?_ ?_ ?_ ?_ ?_ ?_ ?_ ?_ ?_ ?_ ?_ ?_ ?_ ?_ ?_ ?_ ?_ ?_ ?_ ?_ ?_ ?_ ?_ ?_ ?_ ?_ ?_ ?_ ?_ ?_ ?_ ?_ ?_ ?_ ?_ ?_ ?_ ?_ ?_ ?_ ?_ ?_ ?_ ?_ ?_ ?_ ?_ ?_ ?_ ?_
  all_goals try first | k_is | exact⟨by k_is,by unfold DG.yE;exact⟨_,_,_,_,_,_,_,_,_,by k_is,by k_is,by k_is⟩⟩ | (unfold DG.yE;exact⟨_,_,_,_,_,_,_,_,_,by k_is,by k_is,by k_is⟩) | (refine⟨?_,?_,?_,?_⟩<;>k_is) | kit_is | (repeat first | exact .nil | refine .cons ⟨by k_is,by unfold DG.yE;exact⟨_,_,_,_,_,_,_,_,_,by k_is,by k_is,by k_is⟩⟩ ?_ | refine .cons (by k_is) ?_)
  all_goals try first | kernel_rfl | (refine⟨?_,?_,?_⟩<;>first | k_is | kernel_rfl) | (refine⟨⟨?_,?_,?_,?_,?_,?_,?_,?_⟩,?_,?_⟩<;>first | k_is | kernel_rfl) | (refine⟨?_,?_,?_,?_,?_,?_,?_,?_⟩<;>first | k_is | kernel_rfl) | (repeat first | exact .nil | refine .cons (by k_is) ?_ | refine .cons (by kit_is) (by kit_is) ?_ | refine .cons (by kernel_rfl) (by kernel_rfl) ?_)
#print axioms PySem.Challenge.cw_daysgate_k64_diary_refused_holds
