import PyProof.Rows.All
import Wide.All
import OpenK.AllK
import Wide.FinOn
import Lean
import PyProof.EqAt
import PyProof.EqKinds
import PyProof.TupleCall
import PyProof.Rows.Range3
import KE.KRevIter
import PySem.Challenge.RW_daysgate_k22_what_a_day_counts
set_option Elab.async false
set_option linter.all false
set_option maxRecDepth 100000
set_option compiler.extract_closed false
set_option bootstrap.genMatcherCode false
set_option genSizeOf false
set_option genInjectivity false
set_option backward.eqns.nonrecursive false
noncomputable section
abbrev PP:=List (PySem.Addr×PySem.Obj)
abbrev PQ:=PySem.Value->PySem.Shared->Prop
abbrev PR:=PySem.Str->Option PySem.Value
open PySem.W (Frag)
set_option hygiene false
local macro_rules
| `(%[$n:num|0])=>`(.cons (.var $n) .nil)
| `(%[$a|0])=>`(.cons $a .nil)
| `(%[$n:num,$b,*|0])=>`(.cons (.var $n) %[$b,*|0])
| `(%[$a,$b,*|0])=>`(.cons $a %[$b,*|0])
| `(%[$n:num|1])=>`(qw (pg:=pg) (st:=top $n) (by kernel_rfl) (fun k cl=>by kernel_rfl))
set_option hygiene true
local macro_rules | `((1:))=>`(by omega) | `((2:))=>`(by decide)
local macro_rules | `(tactic| simp? only [$ls,*]) => do
  let f (s : String) (k : Lean.Name) := (s.splitOn " ").toArray.map fun n => Lean.mkIdent (k ++ n.toName)
  let b <- (f "Rv.list? Rv.plain? Rv.data Rv.int? Rv.str? Rv.bl? Rv.tup? int2 seqD Rv.non? idxD sliceD truthD lenD listD intD maxD minD toSl flR B1.go B2.go Ty.of Ty.go toAr slN runD th_ok of_some slR_s slR_v slR_o slR_b slR_c slX_s slX_v slX_o ownI_s ownI_o kk_f kk_cs kk_nw at_0 at_1 at_2 ixN_app set_app emp_app xR_var xR_con xR_bin xR_neg xR_not xR_one xR_and xR_cmp xR_idx xR_sli xR_lst xR_tup xR_call xR_b1 xR_b2 xR_isc xR_fld xR_met xR_new xR_isi xR_comp yRet yBl yTmp yB1 yB2 yNeg yNot yAnd yC1 yC2 yI1 yI2 yS1 yS2 yS3 yLst yTup yCall yF1 yG1 yG2 yIsc yDat yFld yMt3 yMt2 yMt1 yMtO yNew yIsi yComp xT_not xT_one xT_and xT_or xT_cmp xT_chn xT_val yBo yTn yTa yTo yD1 yD2 yN0 yN1 yN2 yTv xF_yes xF_test xEs_nil xEs_cons yE1 yE2 xAs_nil xAs_cons yA1 yA2 xO_some yO xI_seq xI_rng xI_rng3 yT1 yT2 yT3 xI_enum ySeq yRng yEnum yVal yValL yValLt yValLm yX yXt yAv yAx yAxt yCons xE_s xE_v xE_o xL_s xL_l xL_z xL_o xL_b oGo_some xS_app yApp yApp2 xS_ret yRt xS_set ySet xS_setT yST yNx xS_setI ySI ySI2 ySI3 ySI4 xS_ite yIte xS_for yFor xSs_nil xSs_cons yNext yNextr xFo_cons yFo1 yFo2 yFo2r xP_cons yP1 yP2 yP3 eE_bin eL_bin eA_bin eA_neg eX_and eX_cmp eE_idx eX_idx eA_idx eL_sli eA_lst eE_tup eX_tup eE_call eX_call eA_call eL_b1 eX_b1 eA_b1 eE_b2 eX_b2 eL_fld eX_met eX_new eA_new eA_comp eE_var eE_con eL_var eX_var eX_con eA_var eA_con bAdd bAdds bAddtt bSub bMult bDiv bMod bPow cEq cNe cLt cLe cGt cIn cNi mIn rgoV rgoT setIs_nil setIs_cons g_mapc g_mapn g_lenc g_lenn g_rep0 g_reps g_appc g_appn g_set0 g_sets g_last g_nott g_notf g_omap g_fe g_and g_dt g_df lend_v" `DE ++ f "Int.reduceLT Int.reduceLE Nat.reduceAdd Nat.reduceSub" .anonymous).mapM fun n => `(Lean.Parser.Tactic.simpLemma| $n:ident)
  let d <- (f "sA_p sA_R sA_L rA_a rA_l rA_s rA_t rA_y" `DE ++ f "reduceIte" .anonymous).mapM fun n => `(Lean.Parser.Tactic.simpLemma| ↓ $n:ident)
  let c : Array (Lean.TSyntax [`Lean.Parser.Tactic.simpStar, `Lean.Parser.Tactic.simpErase, `Lean.Parser.Tactic.simpLemma]) := (b ++ d).map (⟨·.raw⟩) ++ ls.getElems
  `(tactic| simp only [$c,*])
namespace L2
open PySem PySem.Spec PyProof.Rows
abbrev Key:=Sum Int Str
def Zk:Key->Value->Bool
 | .inl k,v=>Value.isInt k v
 | .inr x,v=>Value.isStrOf x v
def qj8 (w:World):Key->Int
 | .inl k=>hashInt k
 | .inr x=>hashStr w x
theorem qC:∀ {k:Key} {v:Value},Zk k v=true->(∃ i t,k=Sum.inl i/\v=Value.int i t)\/(∃ x t,k=Sum.inr x/\v=Value.str x t)
 | .inl i,v,h=>by obtain ⟨t,e⟩:=Value.isInt_shape (k:=i) (v:=v) h;exact .inl ⟨i,t,rfl,e⟩
 | .inr x,v,h=>by obtain ⟨t,e⟩:=Value.isStrOf_shape (x:=x) (v:=v) h;exact .inr ⟨x,t,rfl,e⟩
theorem Z7 (i:Int) (t:Tok):Zk (.inl i) (.int i t)=true:=by simp [Zk,Value.isInt]
theorem Z8 (x:Str) (t:Tok):Zk (.inr x) (.str x t)=true:=by simp [Zk,Value.isStrOf]
theorem qfP (a b:Int):decide ((Sum.inl a:Key)=Sum.inl b)=(a == b):=by
 by_cases e:a=b
 ·subst e;simp
 ·have h:¬ (Sum.inl a:Key)=Sum.inl b:=fun q=>e (Sum.inl.inj q);rw [decide_eq_false h];exact (beq_eq_false_iff_ne.mpr e).symm
theorem qfQ (a b:Str):decide ((Sum.inr a:Key)=Sum.inr b)=decide (a=b):=by
 by_cases e:a=b
 ·subst e;simp
 ·have h:¬ (Sum.inr a:Key)=Sum.inr b:=fun q=>e (Sum.inr.inj q);rw [decide_eq_false h,decide_eq_false e]
theorem qfR (a:Int) (b:Str):decide ((Sum.inl a:Key)=Sum.inr b)=false:=decide_eq_false (fun q=>nomatch q)
theorem qfS (a:Str) (b:Int):decide ((Sum.inr a:Key)=Sum.inl b)=false:=decide_eq_false (fun q=>nomatch q)
noncomputable def qx (prog:Program) (w:World):PySem.KeyKind prog w Key where
 is:=Zk
 hash:=qj8 w
 inj:=fun v a b ha hb=>by
  rcases qC ha with ⟨i,t,rfl,rfl⟩ | ⟨x,t,rfl,rfl⟩
  ·rcases qC hb with ⟨j,u,rfl,e⟩ | ⟨y,u,rfl,e⟩
   ·injection e with e1 _;rw [e1]
   ·exact nomatch e
  ·rcases qC hb with ⟨j,u,rfl,e⟩ | ⟨y,u,rfl,e⟩
   ·exact nomatch e
   ·injection e with e1 _;rw [e1]
 byValue:=fun k v h=>by rcases qC h with ⟨i,t,rfl,rfl⟩ | ⟨x,t,rfl,rfl⟩<;>rfl
 pyHash:=fun hv h=>by
  rcases qC hv with ⟨i,t,rfl,rfl⟩ | ⟨x,t,rfl,rfl⟩
  ·exact wpAny_pyHash_int h
  ·exact wpAny_pyHash_str h
 eqBool:=fun hu hv h=>by
  rcases qC hu with ⟨i,t,rfl,rfl⟩ | ⟨x,t,rfl,rfl⟩
  ·rcases qC hv with ⟨j,u,rfl,rfl⟩ | ⟨y,u,rfl,rfl⟩
   ·rw [qfP] at h;exact wpAny_eqBool_int h
   ·rw [qfR] at h;exact SeqAt.EqAt.int_str i t y u _ _ _ _ h
  ·rcases qC hv with ⟨j,u,rfl,rfl⟩ | ⟨y,u,rfl,rfl⟩
   ·rw [qfS] at h;exact SeqAt.EqAt.str_int x t j u _ _ _ _ h
   ·rw [qfQ] at h;exact wpAny_eqBool_str h
 «strs»:=fun k x t v h=>by
  rcases qC h with ⟨i,u,rfl,e⟩ | ⟨y,u,rfl,e⟩
  ·exact nomatch e
  ·injection e with e1 _;subst e1;cases v<;>rfl
theorem Y7 (prog:Program) (w:World) (i:Int) (t:Tok):(qx prog w).is (.inl i) (.int i t)=true:=Z7 i t
theorem Y8 (prog:Program) (w:World) (x:Str) (t:Tok):(qx prog w).is (.inr x) (.str x t)=true:=Z8 x t
end L2
namespace L2
open PySem PySem.Spec PyProof.Rows
inductive V where
 | non | bl (b:Bool) | int (i:Int) | str (x:Str) | byt (b:Array UInt8) | flt (b:UInt64) | ref (a:Addr) | ty (n:String)
 deriving DecidableEq
noncomputable def qJ:V->Value->Prop
 | .non,u=>u=Value.none
 | .bl b,u=>u=Value.bool b
 | .int i,u=>∃ t,u=Value.int i t
 | .str x,u=>∃ t,u=Value.str x t
 | .byt b,u=>∃ t,u=Value.bytes b t
 | .flt b,u=>∃ t,u=Value.float b t
 | .ref a,u=>u=Value.ref a
 | .ty n,u=>u=Value.type n
abbrev qD:List V->List Value->Prop:=Paired qJ
theorem qD.length {xs:List V} {us:List Value} (r:qD xs us):xs.length=us.length:=Paired.length r
theorem qD.get:∀ {xs:List V} {us:List Value} {i:Nat} {x:V},qD xs us->xs[i]?=some x->∃ u,us[i]?=some u/\qJ x u
 | _,_,_,_,.nil,e=>by simp at e
 | _,_,0,_,.cons r _,e=>by simp at e;subst e;exact ⟨_,rfl,r⟩
 | _,_,i+1,x,.cons _ t,e=>by obtain ⟨u,h1,h2⟩:=qD.get (i:=i) (x:=x) t (by simpa using e);exact ⟨u,by simpa using h1,h2⟩
theorem qD.set {x:V} {u:Value} (r:qJ x u):∀ {xs:List V} {us:List Value} (i:Nat),qD xs us->qD (xs.set i x) (us.set i u)
 | _,_,_,.nil=>.nil
 | _,_,0,.cons _ t=>.cons r t
 | _,_,i+1,.cons q t=>.cons q (qD.set r i t)
theorem qD.append:∀ {xs ys:List V} {us ws:List Value},qD xs us->qD ys ws->qD (xs++ys) (us++ws)
 | _,_,_,_,.nil,s=>s
 | _,_,_,_,.cons r t,s=>.cons r (qD.append t s)
theorem qD.take:∀ {xs:List V} {us:List Value} (n:Nat),qD xs us->qD (xs.take n) (us.take n)
 | _,_,0,_=>.nil
 | _,_,_+1,.nil=>.nil
 | _,_,n+1,.cons r t=>.cons r (qD.take n t)
theorem qD.drop:∀ {xs:List V} {us:List Value} (n:Nat),qD xs us->qD (xs.drop n) (us.drop n)
 | _,_,0,r=>r
 | _,_,_+1,.nil=>.nil
 | _,_,n+1,.cons _ t=>qD.drop n t
def QJ:Option V->Option Value->Prop
 | some v,some u=>qJ v u
 | none,none=>True
 | _,_=>False
noncomputable def KV {κ:Type}:List (κ×V)->List (κ×Value)->Prop:=Paired fun (p:κ×V) (q:κ×Value)=>p.1=q.1/\qJ p.2 q.2
def kV:Key->V
 | .inl i=>.int i
 | .inr x=>.str x
inductive HO where
 | lst (xs:List V)
 | tup (xs:List V)
 | dK (kvs:List (Key×V)) | dT (kvs:List (List Key×V))
 | set (S:Int->Bool) (n:Nat)
 | ins (C dx:Addr) (fs:List (Str×V))
 | own (x:Addr)
 | xd (fs:List (Str×V))
 | met (f x:Addr)
 | rng (lo hi:Int)
 | frz (o:Obj) (u:HO)
 | tbl (ps:Array Value)
 | ext (φ:Heap->Prop)
abbrev Hp:=Addr->Option HO
def upd (H:Hp) (a:Addr) (o:HO):Hp:=fun b=>if b=a then some o else H b
theorem qi {H:Hp} {a:Addr} {o:HO}:upd H a o a=some o:=by unfold upd;rw [if_pos rfl]
theorem qf {H:Hp} {a b:Addr} {o:HO} (h:b≠a):upd H a o b=H b:=by unfold upd;rw [if_neg h]
theorem qU {H:Hp} {a b:Addr} {o:HO} (h:H a=some o) (h':H b=none):a≠b:=by intro e;subst e;rw [h] at h';cases h'
section
variable (P:Program) (w:World)
noncomputable def qK (H:Hp) (h:Heap) (a:Addr):HO->Prop
 | .lst xs=>xs.length<=sizeLine/\∃ (its:List Value) (n:Nat),qD xs its/\h.get? a=some { cls:=.type "list",data:=.seq its.toArray n }
 | .tup xs=>xs.length<=sizeLine/\∃ its:List Value,qD xs its/\IsTup h a its.toArray
 | .dK kvs=>kvs.length<=sizeLine/\(a == sysModules)=false/\∃ vs,KV kvs vs/\h.DictOf (qx P w) a vs
 | .dT kvs=>kvs.length<=sizeLine/\(a == sysModules)=false/\∃ xs:List (List Key×Addr×Value),
   Paired (fun (p:List Key×V) (q:List Key×Addr×Value)=>p.1=q.1/\H q.2.1=some (.tup (p.1.map kV))/\qJ p.2 q.2.2) kvs xs/\
   ∃ o es ep,h.get? a=some o/\o.ExactDict/\o.data=.dict es ep/\es.toList=xs.map (entryOfKey (tupleKind (qx P w)))/\(xs.map (·.1)).Nodup
 | .set S n=>h.SetOf (intKind P w) a S n
 | .ins C dx fs=>H dx=some (.own a)/\fs.length<=1000/\dx≠a/\h.get? a=some (PySem.W.instObj C dx)/\
   ∃ mA,h.Ns1 dx mA/\(∀ f,QJ (fs.lookup f) (mA f))/\PySem.Within mA (fs.map (·.1))
 | .own _=>∃ o,h.get? a=some o
 | .xd fs=>∃ mA,h.Ns1 a mA/\∀ f,QJ (fs.lookup f) (mA f)
 | .rng lo hi=>∃ t u v,h.get? a=some { cls:=.type "range",data:=.fields #[.int lo t,.int hi u,.int 1 v] }
 | .frz o u=>h.get? a=some o/\qK H h a u
 | .tbl ps=>h.get? a=some { cls:=.none,data:=.fields ps }
 | .met f x=>h.get? a=some (PySem.W.methodObj (.ref f) (.ref x))
 | .ext φ=>φ h/\(∃ o,h.get? a=some o)/\∀ h1 h2:Heap,φ h1->(∀ o,h1.get? a=some o->h2.get? a=some o)->φ h2
def HOk (H:Hp) (h:Heap):Prop:=∀ a o,H a=some o->qK P w H h a o
end
section
variable {P:Program} {w:World} {H H':Hp} {h h':Heap} {a:Addr} {o:HO}
theorem qK.lt (x:qK P w H h a o):a < h.objs.size:=by
 cases o with
 | lst xs=>obtain ⟨_,_,_,_,e⟩:=x;exact Heap.lt_size e
 | tup xs=>obtain ⟨_,_,_,p⟩:=x;exact p.lt
 | dK kvs=>obtain ⟨_,_,_,_,o,_,_,e,_⟩:=x;exact Heap.lt_size e
 | dT kvs=>obtain ⟨_,_,_,_,o,_,_,e,_⟩:=x;exact Heap.lt_size e
 | set S n=>obtain ⟨o,_,_,_,e,_⟩:=x;exact Heap.lt_size e
 | ins C dx fs=>obtain ⟨_,_,_,e,_⟩:=x;exact Heap.lt_size e
 | own y=>obtain ⟨_,e⟩:=x;exact Heap.lt_size e
 | xd fs=>obtain ⟨_,⟨_,_,_,e,_⟩,_⟩:=x;exact Heap.lt_size e
 | rng lo hi=>obtain ⟨_,_,_,e⟩:=x;exact Heap.lt_size e
 | frz ob u=>obtain ⟨e,_⟩:=x;exact Heap.lt_size e
 | tbl ps=>exact Heap.lt_size (show h.get? a=some _ from x)
 | met f y=>exact Heap.lt_size (show h.get? a=some _ from x)
 | ext φ=>obtain ⟨_,⟨_,e⟩,_⟩:=x;exact Heap.lt_size e
theorem Paired.mapP {α β:Type} {F G:α->β->Prop}:∀ {l₁:List α} {l₂:List β},Paired F l₁ l₂->(∀ a b,F a b->G a b)->Paired G l₁ l₂
 | _,_,.nil,_=>.nil
 | _,_,.cons r t,f=>.cons (f _ _ r) (Paired.mapP t f)
theorem qK.stay (x:qK P w H h a o) (k:∀ b u,(b=a\/H b=some (.own a))->h.get? b=some u->h'.get? b=some u)
  (ho:∀ b,H b=some (.own a)->H' b=some (.own a)) (ht:∀ b xs,H b=some (.tup xs)->H' b=some (.tup xs)):qK P w H' h' a o:=by
 induction o with
 | lst xs=>obtain ⟨z,its,n,r,e⟩:=x;exact ⟨z,its,n,r,k _ _ (.inl rfl) e⟩
 | tup xs=>obtain ⟨z,its,r,ob,e,c⟩:=x;exact ⟨z,its,r,ob,k _ _ (.inl rfl) e,c⟩
 | dK kvs=>obtain ⟨z,y,vs,r,ob,es,ep,e,c⟩:=x;exact ⟨z,y,vs,r,ob,es,ep,k _ _ (.inl rfl) e,c⟩
 | dT kvs=>obtain ⟨z,y,xs,r,ob,es,ep,e,c⟩:=x;exact ⟨z,y,xs,Paired.mapP r fun p q z=>⟨z.1,ht _ _ z.2.1,z.2.2⟩,ob,es,ep,k _ _ (.inl rfl) e,c⟩
 | set S n=>obtain ⟨ob,es,ep,t,e,c⟩:=x;exact ⟨ob,es,ep,t,k _ _ (.inl rfl) e,c⟩
 | ins C dx fs=>obtain ⟨d,z,ne,e,mA,⟨od,es,ep,e2,c⟩,r⟩:=x;exact ⟨ho _ d,z,ne,k _ _ (.inl rfl) e,mA,⟨od,es,ep,k _ _ (.inr d) e2,c⟩,r⟩
 | own y=>obtain ⟨ob,e⟩:=x;exact ⟨ob,k _ _ (.inl rfl) e⟩
 | xd fs=>obtain ⟨mA,⟨od,es,ep,e,c⟩,r⟩:=x;exact ⟨mA,⟨od,es,ep,k _ _ (.inl rfl) e,c⟩,r⟩
 | rng lo hi=>obtain ⟨t,u,v,e⟩:=x;exact ⟨t,u,v,k _ _ (.inl rfl) e⟩
 | frz ob u ih=>obtain ⟨e,q⟩:=x;exact ⟨k _ _ (.inl rfl) e,ih q⟩
 | tbl ps=>have e:h.get? a=some { cls:=.none,data:=.fields ps }:=x;show h'.get? a=some { cls:=.none,data:=.fields ps };exact k a _ (.inl rfl) e
 | met f y=>have e:h.get? a=some (PySem.W.methodObj (.ref f) (.ref y)):=x;show h'.get? a=some (PySem.W.methodObj (.ref f) (.ref y));exact k a _ (.inl rfl) e
 | ext φ=>obtain ⟨p,⟨o,e⟩,st⟩:=x;exact ⟨st _ _ p fun o q=>k _ _ (.inl rfl) q,⟨o,k _ _ (.inl rfl) e⟩,st⟩
theorem HOk.lt (x:HOk P w H h) (e:H a=some o):a < h.objs.size:=(x a o e).lt
theorem HOk.fresh (x:HOk P w H h) (e:h.objs.size<=a):H a=none:=by
 cases q:H a with
 | none=>rfl
 | some u=>exact absurd (Nat.lt_of_lt_of_le (x.lt q) e) (Nat.lt_irrefl _)
theorem HOk.kept (x:HOk P w H h) (k:∀ b u,h.get? b=some u->h'.get? b=some u):HOk P w H h':=fun a o e=>(x a o e).stay (fun b u _ q=>k b u q) (fun _ q=>q) fun _ _ q=>q
theorem HOk.laid (x:HOk P w H h) (k:∀ b u,h.get? b=some u->h'.get? b=some u) (hp:h.objs.size<=a) (new:qK P w (upd H a o) h' a o):HOk P w (upd H a o) h':=fun b u e=>by
 have hn:=x.fresh hp
 by_cases hb:b=a
 ·subst hb;rw [qi] at e;cases e;exact new
 ·rw [qf hb] at e;exact (x b u e).stay (fun c v _ q=>k c v q) (fun c q=>by rw [qf (qU q hn)];exact q) fun c xs q=>by rw [qf (qU q hn)];exact q
end
def Rd (H:Hp) (a:Addr) (u:HO):Prop:=H a=some u\/∃ o,H a=some (.frz o u)
theorem Rd.ok {P:Program} {w:World} {H:Hp} {h:Heap} {a:Addr} {u:HO} (r:Rd H a u) (x:HOk P w H h):qK P w H h a u:=by
 rcases r with r | ⟨o,r⟩
 ·exact x a u r
 ·obtain ⟨_,q⟩:=x a _ r;exact q
noncomputable def Mut:Option HO->Prop
 | some (.lst _)=>True
 | some (.dK _)=>True
 | some (.dT _)=>True
 | some (.set _ _)=>True
 | some (.ins _ _ _)=>True
 | some (.ext _)=>True
 | _=>False
section
variable {P:Program} {w:World} {H:Hp} {h h':Heap} {x e:Addr} {o':HO}
theorem HOk.write (ok:HOk P w H h) (mu:Mut (H x)) (he:e=x\/H e=some (.own x)) (k:∀ b u,b≠e->h.get? b=some u->h'.get? b=some u) (heo:∃ u,h'.get? e=some u)
  (new:qK P w (upd H x o') h' x o'):HOk P w (upd H x o') h':=fun b u q=>by
 have nown:∀ c y,H c=some (.own y)->c≠x:=fun c y r z=>by subst z;rw [r] at mu;exact mu
 have ntup:∀ c xs,H c=some (.tup xs)->c≠x:=fun c xs r z=>by subst z;rw [r] at mu;exact mu
 by_cases hb:b=x
 ·subst hb;rw [qi] at q;cases q;exact new
 ·rw [qf hb] at q
  by_cases hbe:b=e
  ·have q':H b=some (.own x):=by
    rcases he with z | z
    ·exact absurd (hbe.trans z) hb
    ·rw [hbe];exact z
   rw [q] at q';cases q';obtain ⟨v,hv⟩:=heo;exact ⟨v,by rw [hbe];exact hv⟩
  ·refine (ok b u q).stay (fun c v hc r=>k c v ?_ r) (fun c r=>by rw [qf (nown c b r)];exact r) fun c xs r=>by rw [qf (ntup c xs r)];exact r
   rcases hc with rfl | hc
   ·exact hbe
   ·rintro rfl;rcases he with z | z
    ·exact nown c b hc z
    ·rw [hc] at z;cases z;exact hb rfl
end
structure Un (fs ex:List Addr) (H H':Hp) (h h':Heap):Prop where
 keep:∀ b o,h.get? b=some o->H b=none->b∉fs->b∉ex->h'.get? b=some o
 slot:∀ b o,h.get? b=some o->H b=none->b∈fs->b∉ex->∃ sl,h'.get? b=some { o with slots:=sl }
 free:∀ b o,h.get? b=some o->H b=none->b∉ex->H' b=none
 there:∀ b o,h.get? b=some o->b∉ex->∃ o',h'.get? b=some o'
 tups:∀ b xs,H b=some (.tup xs)->H' b=some (.tup xs)
 frzs:∀ b o u,H b=some (.frz o u)->H' b=some (.frz o u)
 tbls:∀ b ps,H b=some (.tbl ps)->∃ more,H' b=some (.tbl (ps++more))
section
variable {fs fs' ex ex':List Addr} {H H1 H2:Hp} {h h1 h2 h':Heap} {a x e:Addr} {o:HO}
theorem Un.any (u:Un fs ex H H1 h h1) {b:Addr} {ob:Obj} (q:h.get? b=some ob) (n:H b=none) (hx:b∉ex):∃ sl,h1.get? b=some { ob with slots:=sl }:=by
 by_cases hb:b∈fs
 ·exact u.slot b ob q n hb hx
 ·exact ⟨ob.slots,u.keep b ob q n hb hx⟩
theorem Un.kept (k:∀ b u,h.get? b=some u->h'.get? b=some u):Un fs ex H H h h':=
 ⟨fun b ob q _ _ _=>k b ob q,fun b ob q _ _ _=>⟨ob.slots,k b ob q⟩,fun _ _ _ n _=>n,fun b ob q _=>⟨ob,k b ob q⟩,fun _ _ q=>q,fun _ _ _ q=>q,fun _ ps q=>⟨#[],by rw [q];simp⟩⟩
theorem Un.refl:Un fs ex H H h h:=Un.kept fun _ _ q=>q
theorem Un.laid (k:∀ b u,h.get? b=some u->h'.get? b=some u) (hp:h.objs.size<=a) (hn:H a=none):Un fs ex H (upd H a o) h h' where
 keep:=fun b u q _ _ _=>k b u q
 slot:=fun b u q _ _ _=>⟨u.slots,k b u q⟩
 free:=fun b u q n _=>by rw [qf (Nat.ne_of_lt (Nat.lt_of_lt_of_le (Heap.lt_size q) hp))];exact n
 there:=fun b u q _=>⟨u,k b u q⟩
 tups:=fun b xs q=>by rw [qf (qU q hn)];exact q
 frzs:=fun b u xs q=>by rw [qf (qU q hn)];exact q
 tbls:=fun b ps q=>⟨#[],by rw [qf (qU q hn),q];simp⟩
theorem Un.write (mu:Mut (H x)) (he:e=x\/H e=some (.own x)) (k:∀ b u,b≠e->h.get? b=some u->h'.get? b=some u) (heo:∃ u,h'.get? e=some u):Un fs ex H (upd H x o) h h':=by
 have hx:∀ b,H b=none->b≠x:=fun b n z=>by subst z;rw [n] at mu;exact mu
 have hb:∀ b,H b=none->b≠e:=fun b n z=>by
  subst z;rcases he with r | r
  ·exact hx b n r
  ·rw [n] at r;cases r
 have hm:∀ b u,H b=some u->¬ Mut (some u)->b≠x:=fun b u q nm z=>by subst z;rw [q] at mu;exact nm mu
 refine ⟨fun b u q n _ _=>k b u (hb b n) q,fun b u q n _ _=>⟨u.slots,k b u (hb b n) q⟩,fun b u q n _=>by rw [qf (hx b n)];exact n,fun b u q _=>?_,
  fun b xs q=>by rw [qf (hm b _ q fun z=>z)];exact q,fun b u xs q=>by rw [qf (hm b _ q fun z=>z)];exact q,fun b ps q=>⟨#[],by rw [qf (hm b _ q fun z=>z),q];simp⟩⟩
 by_cases hbe:b=e
 ·subst hbe;exact heo
 ·exact ⟨u,k b u hbe q⟩
end
def trk (h:Heap) (H:Hp):List Addr:=(List.range h.objs.size).filter fun a=>(H a).isSome
def qbO (h:Heap) (H:Hp):Heap:=PySem.W.hideAll h (trk h H)
theorem Z9 (h:Heap) (H:Hp):(qbO h H).objs.size=h.objs.size:=PySem.W.hideAll_size _ _
theorem qbP {h:Heap} {H:Hp} {b:Addr} {o:Obj} (e:h.get? b=some o) (n:H b=none):(qbO h H).get? b=some o:=
 PySem.W.hideAll_get _ e fun hm=>by have q:(H b).isSome=true:=(List.mem_filter.mp hm).2;rw [n] at q;simp at q
theorem qdY {h:Heap} {H:Hp} {b:Addr} {o:Obj} (e:(qbO h H).get? b=some o):h.get? b=some o/\H b=none:=by
 have e':h.get? b=some o:=PySem.W.of_hideAll (trk h H) e;refine ⟨e',?_⟩
 cases q:H b with
 | none=>rfl
 | some x=>have hm:b∈trk h H:=List.mem_filter.mpr ⟨List.mem_range.mpr (Heap.lt_size e'),by simp [q]⟩;have z:(qbO h H).get? b=none:=PySem.W.hideAll_none (trk h H) hm;rw [z] at e;cases e
end L2
namespace L2
open PySem PySem.Spec PyProof.Rows
structure Mod (K:Frag) (mg:PR) (base:Heap):Prop where
 kin:K.In base
 glob:base.Ns mainGlobals mg
 blt:∃ mb,base.Ns builtinsNs mb/\∀ x:Str,x≠"__name__"->mb x=bootBuiltins x
 nolimit:base.NoLimit
structure Cx where
 prog:Program
 w:World
 K:Frag
 mg:PR
 base:Heap
 A:Around
 N:List Str
 s₀:Shared
 H₀:Hp
 env:Env
 outer:List Env
 stack:List Env
 ex:List Addr
 fn:Str->Bool
 calm:Bool
 pn:PP
 xe:PQ
def frs (l:List Env):List Addr:=l.filterMap (·.frame)
abbrev Cx.fs (X:Cx):List Addr:=frs X.outer
noncomputable def Vis (sc:Scope) (x:Str):Prop:=sc.names.lookup x=some .local\/sc.names.lookup x=some .cell\/sc.names.lookup x=some .free
def Loc (sc:Scope) (x:Str):Prop:=sc.names.lookup x=some .local\/sc.names.lookup x=some .cell
noncomputable def qj9 (env:Env) (h:Heap) (m:PR) (x:Str) (u:Value):Prop:=
 (env.kindOf x=some .local/\m x=some u)\/((env.kindOf x=some .cell\/env.kindOf x=some .free)/\∃ c,env.cells.lookup x=some c/\h.IsCell c (some u))
structure Cx.Ok (X:Cx):Prop where
 mod:Mod X.K X.mg X.base
 kind:X.env.scope.kind=.function
 glob:X.env.globals=mainGlobals
 blt:X.env.builtins=builtinsNs
 above:X.s₀.heap.objs.size<=X.env.locals
 inj:∀ x y c,X.env.cells.lookup x=some c->X.env.cells.lookup y=some c->x=y
 has:∀ x,(X.env.kindOf x=some .cell\/X.env.kindOf x=some .free)->∃ c,X.env.cells.lookup x=some c
 cab:∀ x c,X.fn x=true->X.env.cells.lookup x=some c->X.s₀.heap.objs.size<=c
 hd:X.calm=true->X.A.handled=none
 frames:X.A.frames=some X.stack
 stk:X.stack=X.outer\/(X.stack=X.env::X.outer/\X.env.frame=some X.env.locals)
 exf:∀ b∈X.ex,b≠X.env.locals/\∀ x c,X.env.cells.lookup x=some c->c≠b
 bs:∀ b o,X.base.get? b=some o->X.s₀.heap.get? b=some o/\X.H₀ b=none
 bsz:X.base.objs.size<=X.s₀.heap.objs.size
 noex:∀ b o,X.base.get? b=some o->b∉X.ex
 exfs:∀ b∈X.ex,b∉X.fs
 funs:X.s₀.heap.FunFrames X.base X.outer
 frf:∀ b∈X.fs,X.H₀ b=none
structure Inv (X:Cx) (pins:PP) (σ:List (Option V)) (H:Hp) (s:Shared):Prop where
 ok:X.Ok
 os:s.os=X.s₀.os
 bare:AllBare s.gens
 base:Un X.fs X.ex X.H₀ H X.s₀.heap s.heap
 loc:∃ m,s.heap.Ns X.env.locals m/\∀ (i:Nat) (x:Str) (v:V),X.N[i]?=some x->σ[i]?=some (some v)->Vis X.env.scope x->∃ u,qJ v u/\qj9 X.env s.heap m x u
 cell:∀ x c,X.env.cells.lookup x=some c->∃ v,s.heap.IsCell c v
 free:H X.env.locals=none
 freeC:∀ x c,X.env.cells.lookup x=some c->H c=none
 pin:∀ p∈X.pn++pins,s.heap.get? p.1=some p.2/\H p.1=none/\p.1≠X.env.locals/\p.1∉X.fs/\∀ v,p.2.data≠.cell v
 hok:HOk X.prog X.w H s.heap
 len:σ.length=X.N.length
section
variable {X:Cx} {pins:PP} {σ:List (Option V)} {H H':Hp} {s:Shared} {h':Heap}
theorem Cx.Ok.nofr (ok:X.Ok) {b:Addr} {o:Obj} (e:X.base.get? b=some o):b∉X.fs:=fun hb=>by
 have:=(ok.funs.mem hb).1
 rw [e] at this;cases this
theorem Inv.bs (I:Inv X pins σ H s):∀ b o,X.base.get? b=some o->s.heap.get? b=some o/\H b=none:=fun b o e=>⟨I.base.keep b o (I.ok.bs b o e).1 (I.ok.bs b o e).2 (I.ok.nofr e) (I.ok.noex b o e),I.base.free b o (I.ok.bs b o e).1 (I.ok.bs b o e).2 (I.ok.noex b o e)⟩
theorem Inv.bk (I:Inv X pins σ H s):∀ b o,X.base.get? b=some o->s.heap.get? b=some o:=fun b o e=>(I.bs b o e).1
theorem Inv.mod (I:Inv X pins σ H s):Mod X.K X.mg X.base:=I.ok.mod
theorem Inv.kIn (I:Inv X pins σ H s):X.K.In s.heap:=I.ok.mod.kin.keeps I.bk
theorem Inv.lt (I:Inv X pins σ H s):X.env.locals < s.heap.objs.size:=let ⟨_,hn,_⟩:=I.loc;hn.lt
theorem Inv.sz (I:Inv X pins σ H s):X.s₀.heap.objs.size<=s.heap.objs.size:=Nat.le_trans I.ok.above (Nat.le_of_lt I.lt)
theorem Inv.nofs (I:Inv X pins σ H s) {a:Addr} (h:s.heap.objs.size<=a):a∉X.fs:=fun hb=>by obtain ⟨_,o,ho,_⟩:=I.ok.funs.mem hb;exact absurd (Nat.lt_of_lt_of_le (Heap.lt_size ho) (Nat.le_trans I.sz h)) (Nat.lt_irrefl _)
theorem Inv.cne (I:Inv X pins σ H s):∀ x c,X.env.cells.lookup x=some c->c≠X.env.locals:=fun x c e z=>by obtain ⟨v,o,ho,hd⟩:=I.cell x c e;obtain ⟨m,⟨o',es,ep,ho',hd',_⟩,_⟩:=I.loc;rw [z,ho'] at ho;cases ho;rw [hd'] at hd;cases hd
theorem Inv.funs (I:Inv X pins σ H s):s.heap.FunFrames X.base X.outer:=by
 have all:∀ (l:List Env),(∀ b∈frs l,b∈X.fs)->X.s₀.heap.FunFrames X.base l->s.heap.FunFrames X.base l:=by
  intro l
  induction l with
  | nil=>intro _ _;trivial
  | cons env r ih=>intro hs hl;obtain ⟨hk,⟨L,o,hf,hn,ho,hd⟩,hr⟩:=hl;have hL:L∈X.fs:=hs L (by unfold frs;rw [List.filterMap_cons,hf];exact List.mem_cons_self);obtain ⟨sl,e⟩:=I.base.slot L o ho (I.ok.frf L hL) hL fun z=>I.ok.exfs L z hL;exact ⟨hk,⟨L,_,hf,hn,e,hd⟩,ih (fun b hb=>hs b (by unfold frs;rw [List.filterMap_cons,hf];exact List.mem_cons_of_mem _ hb)) hr⟩
 exact all X.outer (fun _ hb=>hb) I.ok.funs
theorem Inv.stack (I:Inv X pins σ H s):s.heap.FunFrames X.base X.stack:=by
 rcases I.ok.stk with e | ⟨e,hf⟩
 ·rw [e];exact I.funs
 ·rw [e];obtain ⟨m,hn,_⟩:=I.loc;refine .cons (by rw [I.ok.kind];decide) hf hn ?_ I.funs;exact Heap.get?_none_of_le (Nat.le_trans I.ok.bsz I.ok.above)
theorem Inv.stkSub (I:Inv X pins σ H s):∀ b∈frs X.stack,b∈X.env.locals::X.fs:=fun b hb=>by
 rcases I.ok.stk with e | ⟨e,hf⟩
 ·rw [e] at hb;exact List.mem_cons_of_mem _ hb
 ·rw [e] at hb;unfold frs at hb;rw [List.filterMap_cons,hf] at hb;exact hb
theorem Inv.stkFree (I:Inv X pins σ H s):∀ b∈frs X.stack,H b=none:=fun b hb=>by
 rcases List.mem_cons.mp (I.stkSub b hb) with e | hb
 ·rw [e];exact I.free
 ·obtain ⟨_,o,ho,_⟩:=I.ok.funs.mem hb;exact I.base.free b o ho (I.ok.frf b hb) fun z=>I.ok.exfs b z hb
theorem Inv.step {g':Array GenState} {t':Nat} {d':Drawn} {ch:List Addr} (I:Inv X pins σ H s)
  (hch:∀ b∈ch,(b∈X.ex\/X.s₀.heap.objs.size<=b)/\b≠X.env.locals/\(∀ x c,X.env.cells.lookup x=some c->c≠b)/\∀ p∈X.pn++pins,p.1≠b)
  (keep:∀ b o,b≠X.env.locals->b∉X.fs->b∉ch->s.heap.get? b=some o->H b=none->h'.get? b=some o)
  (slot:∀ b o,b≠X.env.locals->b∈X.fs->b∉ch->s.heap.get? b=some o->H b=none->∃ sl,h'.get? b=some { o with slots:=sl }) (free:∀ b o,b∉ch->s.heap.get? b=some o->H b=none->H' b=none)
  (there:∀ b o,b∉ch->s.heap.get? b=some o->∃ o',h'.get? b=some o')
  (tups:∀ b xs,H b=some (.tup xs)->H' b=some (.tup xs)) (frzs:∀ b o u,H b=some (.frz o u)->H' b=some (.frz o u)) (tbls:∀ b ps,H b=some (.tbl ps)->∃ more,H' b=some (.tbl (ps++more)))
  (ns:∀ m,s.heap.Ns X.env.locals m->h'.Ns X.env.locals m) (hok:HOk X.prog X.w H' h') (hg:AllBare g') :
  Inv X pins σ H' { s with heap:=h',gens:=g',drawn:=d',toks:=t' }:=by
 have neL:∀ b o,X.s₀.heap.get? b=some o->b≠X.env.locals:=fun b o e=>Nat.ne_of_lt (Nat.lt_of_lt_of_le (Heap.lt_size e) I.ok.above)
 have neC:∀ b o,X.s₀.heap.get? b=some o->b∉X.ex->b∉ch:=fun b o e hx hb=>by
  rcases (hch b hb).1 with z | z
  ·exact hx z
  ·exact absurd (Nat.lt_of_lt_of_le (Heap.lt_size e) z) (Nat.lt_irrefl _)
 have cellK:∀ x c,X.env.cells.lookup x=some c->∀ v,s.heap.IsCell c v->h'.IsCell c v:=fun x c e v ⟨o,ho,hd⟩=>by
  have nch:c∉ch:=fun z=>(hch c z).2.2.1 x c e rfl
  by_cases hc:c∈X.fs
  ·obtain ⟨sl,q⟩:=slot c o (I.cne x c e) hc nch ho (I.freeC x c e);exact ⟨_,q,hd⟩
  ·exact ⟨o,keep c o (I.cne x c e) hc nch ho (I.freeC x c e),hd⟩
 refine ⟨I.ok,I.os,hg,⟨fun b o e n hb hx=>?_,fun b o e n hb hx=>?_,fun b o e n hx=>?_,fun b o e hx=>?_,fun b xs e=>tups b xs (I.base.tups b xs e),fun b o xs e=>frzs b o xs (I.base.frzs b o xs e),fun b ps e=>?_⟩,?_,fun x c e=>?_,?_,fun x c e=>?_,fun p hp=>?_,hok,I.len⟩
 ·exact keep b o (neL b o e) hb (neC b o e hx) (I.base.keep b o e n hb hx) (I.base.free b o e n hx)
 ·obtain ⟨sl,e1⟩:=I.base.slot b o e n hb hx;obtain ⟨sl',e2⟩:=slot b _ (neL b o e) hb (neC b o e hx) e1 (I.base.free b o e n hx);exact ⟨sl',e2⟩
 ·obtain ⟨o',e1⟩:=I.base.there b o e hx;exact free b o' (neC b o e hx) e1 (I.base.free b o e n hx)
 ·obtain ⟨o',e1⟩:=I.base.there b o e hx;exact there b o' (neC b o e hx) e1
 ·obtain ⟨m1,e1⟩:=I.base.tbls b ps e;obtain ⟨m2,e2⟩:=tbls b _ e1;exact ⟨m1++m2,by rw [e2,Array.append_assoc]⟩
 ·obtain ⟨m,hn,hl⟩:=I.loc;refine ⟨m,ns m hn,fun i x v e1 e2 e3=>?_⟩;obtain ⟨u,r,l⟩:=hl i x v e1 e2 e3;refine ⟨u,r,?_⟩;rcases l with l | ⟨k,c,e,z⟩
  ·exact .inl l
  ·exact .inr ⟨k,c,e,cellK x c e _ z⟩
 ·obtain ⟨v,z⟩:=I.cell x c e;exact ⟨v,cellK x c e v z⟩
 ·obtain ⟨m,⟨o,_,_,ho,_⟩,_⟩:=I.loc;exact free _ o (fun z=>(hch _ z).2.1 rfl) ho I.free
 ·obtain ⟨v,o,ho,hd⟩:=I.cell x c e;exact free c o (fun z=>(hch c z).2.2.1 x c e rfl) ho (I.freeC x c e)
 ·obtain ⟨e,n,ne,nf,d⟩:=I.pin p hp;have nch:p.1∉ch:=fun z=>(hch p.1 z).2.2.2 p hp rfl;exact ⟨keep p.1 p.2 ne nf nch e n,free p.1 p.2 nch e n,ne,nf,d⟩
theorem Inv.un {t':Nat} (I:Inv X pins σ H s) (u:Un X.fs [] H H' s.heap h') (hok:HOk X.prog X.w H' h'):Inv X pins σ H' { s with heap:=h',toks:=t' }:=by
 obtain ⟨m,⟨o,es,ep,ho,r⟩,_⟩:=id I.loc;obtain ⟨sl,hL⟩:=u.any ho I.free (by simp)
 exact I.step (g':=s.gens) (d':=s.drawn) (ch:=[]) (fun _ z=>nomatch z) (fun b o _ hb _ e n=>u.keep b o e n hb (by simp)) (fun b o _ hb _ e n=>u.slot b o e n hb (by simp)) (fun b o _ e n=>u.free b o e n (by simp)) (fun b o _ e=>u.there b o e (by simp)) u.tups u.frzs u.tbls (fun m' hm=>by obtain ⟨o',es',ep',ho',r'⟩:=hm;rw [ho] at ho';cases ho';exact ⟨_,es',ep',hL,r'⟩) hok I.bare
theorem Inv.call {g':Array GenState} {t':Nat} {d':Drawn} {ch:List Addr} (I:Inv X pins σ H s) (u:Un (frs X.stack) ch H H' s.heap h') (hok:HOk X.prog X.w H' h') (hg:AllBare g')
  (hch:∀ b∈ch,(b∈X.ex\/X.s₀.heap.objs.size<=b)/\b≠X.env.locals/\(∀ x c,X.env.cells.lookup x=some c->c≠b)/\∀ p∈X.pn++pins,p.1≠b) :
  Inv X pins σ H' { s with heap:=h',gens:=g',drawn:=d',toks:=t' }:=by
 obtain ⟨m,⟨o,es,ep,ho,r⟩,_⟩:=id I.loc;obtain ⟨sl,hL⟩:=u.any ho I.free fun z=>(hch _ z).2.1 rfl
 exact I.step (ch:=ch) hch (fun b o hL hb hc e n=>u.keep b o e n (fun z=>(List.mem_cons.mp (I.stkSub b z)).elim hL hb) hc) (fun b o _ _ hc e n=>u.any e n hc) (fun b o hc e n=>u.free b o e n hc) (fun b o hc e=>u.there b o e hc) u.tups u.frzs u.tbls (fun m' hm=>by obtain ⟨o',es',ep',ho',r'⟩:=hm;rw [ho] at ho';cases ho';exact ⟨_,es',ep',hL,r'⟩) hok hg
theorem Inv.turned {t':Nat} {it:Addr} (I:Inv X pins σ H s) (k:∀ b o,b≠it->s.heap.get? b=some o->h'.get? b=some o) (hn:H it=none) (hL:it≠X.env.locals)
  (h1:it∈X.ex\/X.s₀.heap.objs.size<=it) (h2:∀ x c,X.env.cells.lookup x=some c->c≠it) (h3:∀ p∈X.pn++pins,p.1≠it):Inv X pins σ H { s with heap:=h',toks:=t' }:=by
 have nit:∀ b u,H b=some u->b≠it:=fun b u e z=>by rw [z,hn] at e;cases e
 refine I.step (g':=s.gens) (d':=s.drawn) (ch:=[it]) (fun b hb=>?_) (fun b o _ _ hc e _=>k b o (fun z=>hc (by simp [z])) e) (fun b o _ _ hc e _=>⟨o.slots,k b o (fun z=>hc (by simp [z])) e⟩) (fun _ _ _ _ n=>n)
  (fun b o hc e=>⟨o,k b o (fun z=>hc (by simp [z])) e⟩) (fun _ _ e=>e) (fun _ _ _ e=>e) (fun b ps e=>⟨#[],by rw [e];simp⟩) (fun m hm=>?_) (fun b u e=>?_) I.bare
 ·have e:b=it:=by simpa using hb
  subst e;exact ⟨h1,hL,h2,h3⟩
 ·obtain ⟨o,es,ep,ho,r⟩:=hm;exact ⟨o,es,ep,k _ o (Ne.symm hL) ho,r⟩
 ·refine (I.hok b u e).stay (fun c v hc q=>k c v ?_ q) (fun _ q=>q) fun _ _ q=>q;rcases hc with z | z
  ·rw [z];exact nit b u e
  ·exact nit c _ z
theorem Inv.tok (I:Inv X pins σ H s) (t:Nat):Inv X pins σ H { s with toks:=t }:=I.un (h':=s.heap) (t':=t) Un.refl I.hok
theorem Inv.kept {t':Nat} (I:Inv X pins σ H s) (k:∀ b u,s.heap.get? b=some u->h'.get? b=some u):Inv X pins σ H { s with heap:=h',toks:=t' }:=I.un (Un.kept k) (I.hok.kept k)
theorem Inv.laid {a:Addr} {o:HO} {t':Nat} (I:Inv X pins σ H s) (k:∀ b u,s.heap.get? b=some u->h'.get? b=some u) (hp:s.heap.objs.size<=a) (new:qK X.prog X.w (upd H a o) h' a o) :
  Inv X pins σ (upd H a o) { s with heap:=h',toks:=t' }:=I.un (Un.laid k hp (I.hok.fresh hp)) (I.hok.laid k hp new)
theorem Inv.write {x e:Addr} {o:HO} {t':Nat} (I:Inv X pins σ H s) (mu:Mut (H x)) (he:e=x\/H e=some (.own x)) (k:∀ b u,b≠e->s.heap.get? b=some u->h'.get? b=some u) (heo:∃ u,h'.get? e=some u)
  (new:qK X.prog X.w (upd H x o) h' x o):Inv X pins σ (upd H x o) { s with heap:=h',toks:=t' }:=I.un (Un.write mu he k heo) (I.hok.write mu he k heo new)
theorem Inv.pins_of {pins':PP} (I:Inv X pins σ H s) (h:∀ p∈pins',s.heap.get? p.1=some p.2/\H p.1=none/\p.1≠X.env.locals/\p.1∉X.fs/\∀ v,p.2.data≠.cell v):Inv X pins' σ H s:=
 ⟨I.ok,I.os,I.bare,I.base,I.loc,I.cell,I.free,I.freeC,fun p hp=>(List.mem_append.mp hp).elim (fun z=>I.pin p (List.mem_append_left _ z)) (h p),I.hok,I.len⟩
theorem QK {N:List Str} (hN:N.Nodup) {i j:Nat} {x:Str} (a:N[i]?=some x) (b:N[j]?=some x):i=j:=by obtain ⟨h1,e1⟩:=List.getElem?_eq_some_iff.mp a;obtain ⟨h2,e2⟩:=List.getElem?_eq_some_iff.mp b;exact (List.getElem_inj hN).mp (e1.trans e2.symm)
theorem J7 {M:Model} {A:Around} {E:PQ} {i:Nat} {x:Str} {v:V} {u:Value} {Q:Unit->Shared->Prop} (I:Inv X pins σ H s) (hN:X.N.Nodup) (hi:X.N[i]?=some x) (hx:Loc X.env.scope x) (r:qJ v u)
  (h:∀ s',Inv X pins (σ.set i (some v)) H s'->(∃ a,Heap.SameBut a s.heap s'.heap/\(a=X.env.locals\/X.env.cells.lookup x=some a))->Q () s') (hf:X.fn x=true\/X.env.scope.names.lookup x=some .local:=by first | exact .inl rfl | exact .inr rfl | assumption):wpAny M A (storeName X.env x u) Q E s:=by
 obtain ⟨m,hn,hl⟩:=id I.loc;have hcls:(X.env.scope.kind == .class||(X.env.scope.kind == .module&&X.env.locals != X.env.globals))=false:=by rw [I.ok.kind];rfl
 have hiσ:i < σ.length:=by rw [I.len];exact (List.getElem?_eq_some_iff.mp hi).1
 have cne:=I.cne
 have tracked:∀ {a:Addr} {h':Heap},(∃ o,s.heap.get? a=some o/\H a=none)->Heap.SameBut a s.heap h'->HOk X.prog X.w H h':=fun {a h'} ha hs b ob e=>by
  obtain ⟨_,_,hfree⟩:=ha;refine (I.hok b ob e).stay (fun c w' hc q=>(hs.2 c ?_).trans q) (fun _ q=>q) fun _ _ q=>q;rintro rfl;rcases hc with rfl | hc
  ·rw [hfree] at e;cases e
  ·rw [hfree] at hc;cases hc
 rcases hx with hk | hk
 ·refine wpAny_storeName_local hk hn (fun h' hn' hs=>?_) hcls;obtain ⟨oL,_,_,hoL,_⟩:=id hn;refine h _ ⟨I.ok,I.os,I.bare,⟨fun b o e n hb hx=>?_,fun b o e n hb hx=>?_,I.base.free,fun b o e hx=>?_,I.base.tups,I.base.frzs,I.base.tbls⟩,⟨_,hn',fun j y v' e1 e2 e3=>?_⟩,fun y c e=>?_,I.free,I.freeC,fun p hp=>?_,tracked ⟨oL,hoL,I.free⟩ hs,by simpa using I.len⟩ ⟨_,hs,.inl rfl⟩
  ·exact (hs.2 b (Nat.ne_of_lt (Nat.lt_of_lt_of_le (Heap.lt_size e) I.ok.above))).trans (I.base.keep b o e n hb hx)
  ·obtain ⟨sl,e1⟩:=I.base.slot b o e n hb hx;exact ⟨sl,(hs.2 b (Nat.ne_of_lt (Nat.lt_of_lt_of_le (Heap.lt_size e) I.ok.above))).trans e1⟩
  ·obtain ⟨o',e1⟩:=I.base.there b o e hx;exact ⟨o',(hs.2 b (Nat.ne_of_lt (Nat.lt_of_lt_of_le (Heap.lt_size e) I.ok.above))).trans e1⟩
  ·by_cases hj:j=i
   ·subst hj;rw [hi] at e1;cases e1;rw [List.getElem?_set_self hiσ] at e2;cases e2;exact ⟨u,r,.inl ⟨hk,by simp⟩⟩
   ·rw [List.getElem?_set_ne (Ne.symm hj)] at e2;obtain ⟨u',r',q⟩:=hl j y v' e1 e2 e3;refine ⟨u',r',?_⟩;rcases q with ⟨k,e⟩ | ⟨k,c,e,z⟩
    ·refine .inl ⟨k,?_⟩
     have:y≠x:=fun e=>hj (QK hN e1 (e▸hi))
     simp [this,e]
    ·exact .inr ⟨k,c,e,z.sameBut hs (cne y c e)⟩
  ·obtain ⟨w',z⟩:=I.cell y c e;exact ⟨w',z.sameBut hs (cne y c e)⟩
  ·obtain ⟨e,n,ne,nf,d⟩:=I.pin p hp;exact ⟨(hs.2 p.1 ne).trans e,n,ne,nf,d⟩
 ·have hfn:X.fn x=true:=by
   rcases hf with z | z
   ·exact z
   ·rw [z] at hk;cases hk
  obtain ⟨c,hc⟩:=I.ok.has x (.inl hk);obtain ⟨w',z⟩:=I.cell x c hc;refine wpAny_storeName_cell I.ok.kind hk hc z (fun h' hc' hs=>?_);obtain ⟨oc,hoc,hocd⟩:=id z;refine h { s with heap:=h' } ⟨I.ok,I.os,I.bare,⟨fun b o e n hb hx=>?_,fun b o e n hb hx=>?_,I.base.free,fun b o e hx=>?_,I.base.tups,I.base.frzs,I.base.tbls⟩,⟨m,hn.sameBut hs (Ne.symm (cne x c hc)),fun j y v' e1 e2 e3=>?_⟩,fun y c' e=>?_,I.free,I.freeC,fun p hp=>?_,tracked ⟨oc,hoc,I.freeC x c hc⟩ hs,by simpa using I.len⟩ ⟨c,hs,.inr hc⟩
  ·exact (hs.2 b (Nat.ne_of_lt (Nat.lt_of_lt_of_le (Heap.lt_size e) (I.ok.cab x c hfn hc)))).trans (I.base.keep b o e n hb hx)
  ·obtain ⟨sl,e1⟩:=I.base.slot b o e n hb hx;exact ⟨sl,(hs.2 b (Nat.ne_of_lt (Nat.lt_of_lt_of_le (Heap.lt_size e) (I.ok.cab x c hfn hc)))).trans e1⟩
  ·obtain ⟨o',e1⟩:=I.base.there b o e hx;exact ⟨o',(hs.2 b (Nat.ne_of_lt (Nat.lt_of_lt_of_le (Heap.lt_size e) (I.ok.cab x c hfn hc)))).trans e1⟩
  ·by_cases hj:j=i
   ·subst hj;rw [hi] at e1;cases e1;rw [List.getElem?_set_self hiσ] at e2;cases e2;exact ⟨u,r,.inr ⟨.inl hk,c,hc,hc'⟩⟩
   ·rw [List.getElem?_set_ne (Ne.symm hj)] at e2;obtain ⟨u',r',q⟩:=hl j y v' e1 e2 e3;refine ⟨u',r',?_⟩;rcases q with q | ⟨k,c',e,z'⟩
    ·exact .inl q
    ·refine .inr ⟨k,c',e,z'.sameBut hs ?_⟩;rintro rfl;exact hj (QK hN e1 (I.ok.inj _ _ _ e hc▸hi))
  ·by_cases hcc:c'=c
   ·subst hcc;exact ⟨_,hc'⟩
   ·obtain ⟨w2,z2⟩:=I.cell y c' e;exact ⟨w2,z2.sameBut hs hcc⟩
  ·obtain ⟨e,n,ne,nf,d⟩:=I.pin p hp;refine ⟨(hs.2 p.1 ?_).trans e,n,ne,nf,d⟩;intro q;rw [q,hoc] at e;have q':oc=p.2:=Option.some.inj e;exact d w' (by rw [<-q'];exact hocd)
theorem QL {M:Model} {A:Around} {E:PQ} {i:Nat} {x:Str} {v:V} {u:Value} {Q:Unit->Shared->Prop} (I:Inv X pins σ H s) (hN:X.N.Nodup) (hi:X.N[i]?=some x) (hx:Loc X.env.scope x) (r:qJ v u)
  (h:∀ s',Inv X pins (σ.set i (some v)) H s'->Q () s') (hf:X.fn x=true\/X.env.scope.names.lookup x=some .local:=by first | exact .inl rfl | exact .inr rfl | assumption):wpAny M A (storeName X.env x u) Q E s:=
 J7 I hN hi hx r (fun s' I' _=>h s' I') hf
theorem Inv.call' {s':Shared} {ch:List Addr} (I:Inv X pins σ H s) (ho:s'.os=s.os) (u:Un (frs X.stack) ch H H' s.heap s'.heap) (hok:HOk X.prog X.w H' s'.heap) (hg:AllBare s'.gens)
  (hch:∀ b∈ch,(b∈X.ex\/X.s₀.heap.objs.size<=b)/\b≠X.env.locals/\(∀ x c,X.env.cells.lookup x=some c->c≠b)/\∀ p∈X.pn++pins,p.1≠b):Inv X pins σ H' s':=by
 obtain ⟨h',g',d',t',o'⟩:=s';have e:o'=s.os:=ho;subst e;exact I.call (g':=g') (t':=t') (d':=d') u hok hg hch
end
abbrev XK:=Value->Option Addr->Hp->Prop
abbrev St:=List (Option V)
abbrev VK:=V->Hp->Prop
abbrev TE:=St->Hp->VK->Prop
abbrev TT:=St->Hp->(Bool->Hp->Prop)->Prop
abbrev TA:=St->Hp->(List V->Hp->Prop)->Prop
structure Ends where
 nx:St->Hp->Prop
 rt:VK
 bk:St->Hp->Prop:=fun _ _=>False
 ct:St->Hp->Prop:=fun _ _=>False
abbrev TS:=Ends->St->Hp->Prop
noncomputable def EP (X:Cx) (pins:PP) (σ:St) (Q:VK) (u:Value) (s':Shared):Prop:=∃ v H',Inv X pins σ H' s'/\qJ v u/\Q v H'
noncomputable def TP (X:Cx) (pins:PP) (σ:St) (Q:Bool->Hp->Prop) (b:Bool) (s':Shared):Prop:=∃ H',Inv X pins σ H' s'/\Q b H'
noncomputable def AP (X:Cx) (pins:PP) (σ:St) (Q:List V->Hp->Prop) (us:List Value) (s':Shared):Prop:=∃ vs H',Inv X pins σ H' s'/\qD vs us/\Q vs H'
noncomputable def SP (X:Cx) (pins:PP) (D:Ends) (f:Flow) (s':Shared):Prop:=
 match f with
 | .next=>∃ σ' H',Inv X pins σ' H' s'/\D.nx σ' H'
 | .brk=>∃ σ' H',Inv X pins σ' H' s'/\D.bk σ' H'
 | .cont=>∃ σ' H',Inv X pins σ' H' s'/\D.ct σ' H'
 | .ret u=>∃ v σ' H',Inv X pins σ' H' s'/\qJ v u/\D.rt v H'
noncomputable def PE (X:Cx) (e:Expr) (t:TE):Prop:=
 ∀ (pins:PP) (s:Shared) (σ:St) (H:Hp) (Q:VK),Inv X pins σ H s->t σ H Q->wpAny (model X.prog X.w) X.A (eval e X.env) (EP X pins σ Q) X.xe s
noncomputable def PT (X:Cx) (e:Expr) (t:TT):Prop:=
 ∀ (pins:PP) (s:Shared) (σ:St) (H:Hp) (Q:Bool->Hp->Prop),Inv X pins σ H s->t σ H Q->wpAny (model X.prog X.w) X.A (isTrue e X.env (eval e X.env)) (TP X pins σ Q) X.xe s
noncomputable def PW (X:Cx) (e:Expr) (t:TT):Prop:=
 ∀ (whole:Sem Value) (pins:PP) (s:Shared) (σ:St) (H:Hp) (Q:Bool->Hp->Prop),Inv X pins σ H s->t σ H Q->wpAny (model X.prog X.w) X.A (isTrue e X.env whole) (TP X pins σ Q) X.xe s
theorem PW.pt {X:Cx} {e:Expr} {t:TT} (h:PW X e t):PT X e t:=h _
noncomputable def PA (X:Cx) (es:List Expr) (t:TA):Prop:=
 ∀ (pos:Pos) (pins:PP) (s:Shared) (σ:St) (H:Hp) (Q:List V->Hp->Prop),Inv X pins σ H s->t σ H Q->wpAny (model X.prog X.w) X.A (spliced (backTo pos (starEach es X.env))) (AP X pins σ Q) X.xe s
noncomputable def PS (X:Cx) (st:Stmt) (t:TS):Prop:=
 ∀ (pins:PP) (s:Shared) (σ:St) (H:Hp) (D:Ends),Inv X pins σ H s->t D σ H->wpAny (model X.prog X.w) X.A (exec st X.env) (SP X pins D) X.xe s
noncomputable def PSs (X:Cx) (st:List Stmt) (t:TS):Prop:=
 ∀ (pins:PP) (s:Shared) (σ:St) (H:Hp) (D:Ends),Inv X pins σ H s->t D σ H->wpAny (model X.prog X.w) X.A (execs st X.env) (SP X pins D) X.xe s
theorem thn {α:Type} {t:Sem α} {Q Q':α->Shared->Prop} {M:Model} {A:Around} {E:PQ} {s:Shared} (h:wpAny M A t Q E s) (hQ:∀ a s,Q a s->Q' a s):wpAny M A t Q' E s:=wpAny_mono h hQ fun _ _ x=>x
end L2
namespace L2
open PySem PySem.Spec PyProof.Rows
section
variable {X:Cx}
theorem bin {a b:Expr} {ta tb:TE} (ha:PE X a ta) (hb:PE X b tb) {pins:PP} {s:Shared} {σ:St} {H:Hp} {R:V->V->Hp->Prop} (I:Inv X pins σ H s) (h:ta σ H fun x H1=>tb σ H1 fun y H2=>R x y H2)
  {α:Type} {Q:α->Shared->Prop} {f:Value->Value->Sem α}
  (hf:∀ v u s2 x y H2,Inv X pins σ H2 s2->qJ x v->qJ y u->R x y H2->wpAny (model X.prog X.w) X.A (f v u) Q X.xe s2) :
  wpAny (model X.prog X.w) X.A (eval a X.env) (fun v s₁=>wpAny (model X.prog X.w) X.A (eval b X.env) (fun u s₂=>wpAny (model X.prog X.w) X.A (f v u) Q X.xe s₂) X.xe s₁) X.xe s:=by
 refine thn (ha pins s σ H _ I h) fun v s1 hq1=>?_;obtain ⟨x,H1,I1,r1,q1⟩:=hq1;refine thn (hb pins s1 σ H1 _ I1 q1) fun u s2 hq1=>?_;obtain ⟨y,H2,I2,r2,q2⟩:=hq1;exact hf v u s2 x y H2 I2 r1 r2 q2
def qiH (i:Nat):TE:=fun σ H Q=>∃ v,σ[i]?=some (some v)/\Q v H
def tC (v:V):TE:=fun _ H Q=>Q v H
theorem Jf {i:Nat} {x:Str} {pos:Pos} (hN:X.N[i]?=some x) (hv:Vis X.env.scope x) (hd:(x == ("__debug__" : Str))=false:=by decide) (hcd:(x == ("__classdict__" : Str))=false:=by decide):PE X (.Name x pos) (qiH i):=by
 intro pins s σ H Q I h;obtain ⟨v,e,h⟩:=h;obtain ⟨m,hn,hl⟩:=I.loc;obtain ⟨u,r,l⟩:=hl i x v hN e hv;have fin:EP X pins σ Q u s:=⟨v,H,I,r,h⟩;rcases l with ⟨hk,hm⟩ | ⟨hk,c,hc,hcell⟩
 ·exact wpAny_Name (wpAny_loadName_local I.ok.kind hk hn hm fin) hd
 ·rcases hk with hk | hk
  ·exact wpAny_Name (wpAny_loadName_cell I.ok.kind hk hc hcell fin) hd
  ·exact wpAny_Name (wpAny_loadName_free I.ok.kind hk hc hcell fin hcd) hd
theorem J8 {i j pos}:PE X (.Constant (.int i) j pos) (tC (.int i)):=fun _ _ _ H _ I h=>wpAny_Constant_int ⟨.int i,H,I.tok _,⟨_,rfl⟩,h⟩
theorem qiI {b j pos}:PE X (.Constant (.bool b) j pos) (tC (.bl b)):=fun _ _ _ H _ I h=>Constant_bool ⟨.bl b,H,I,rfl,h⟩
theorem qfT {j pos}:PE X (.Constant .none j pos) (tC .non):=fun _ _ _ H _ I h=>Constant_none ⟨.non,H,I,rfl,h⟩
theorem qfU {x j pos}:PE X (.Constant (.str x) j pos) (tC (.str x)):=fun _ _ _ H _ I h=>Calls.Constant_str ⟨.str x,H,I.tok _,⟨_,rfl⟩,h⟩
def Gl (X:Cx) (x:Str):Prop:=X.env.kindOf x=some .globalImplicit
theorem j3 {E:PQ} {pins:PP} {s:Shared} {σ:St} {H:Hp} {x:Str} {u:Value} {pos:Pos} {Q:PQ} (I:Inv X pins σ H s) (hg:Gl X x) (hm:X.mg x=some u) (h:Q u s)
  (hd:(x == ("__debug__" : Str))=false:=by decide):wpAny (model X.prog X.w) X.A (eval (.Name x pos) X.env) Q E s:=
 Calls.Name_function_global I.ok.kind hg (Calls.loadGlobal_global (by rw [I.ok.glob];exact I.mod.glob.keeps I.bk) hm h) hd
theorem jK {E:PQ} {pins:PP} {s:Shared} {σ:St} {H:Hp} {x:Str} {u:Value} {pos:Pos} {Q:PQ} (I:Inv X pins σ H s) (hg:Gl X x) (hm:X.mg x=none) (hv:bootBuiltins x=some u) (h:Q u s)
  (hn:x≠"__name__":=by decide) (hd:(x == ("__debug__" : Str))=false:=by decide):wpAny (model X.prog X.w) X.A (eval (.Name x pos) X.env) Q E s:=by
 obtain ⟨mb,h1,h2⟩:=I.mod.blt;exact Calls.Name_function_global I.ok.kind hg (Calls.loadGlobal_builtin (by rw [I.ok.glob];exact I.mod.glob.keeps I.bk) hm (by rw [I.ok.blt];exact h1.keeps I.bk) ((h2 x hn).trans hv) h) hd
theorem jy {x:Str} {v:V} {u:Value} {pos:Pos} (hg:Gl X x) (hm:X.mg x=some u) (r:qJ v u) (hd:(x == ("__debug__" : Str))=false:=by decide):PE X (.Name x pos) (tC v):=
 fun _ _ _ H _ I h=>j3 I hg hm ⟨v,H,I,r,h⟩ hd
theorem yA {x:Str} {v:V} {u:Value} {pos:Pos} (hg:Gl X x) (hm:X.mg x=none) (hv:bootBuiltins x=some u) (r:qJ v u) (hn:x≠"__name__":=by decide) (hd:(x == ("__debug__" : Str))=false:=by decide):PE X (.Name x pos) (tC v):=
 fun _ _ _ H _ I h=>jK I hg hm hv ⟨v,H,I,r,h⟩ hn hd
variable {a b:Expr} {ta tb:TE} {pos:Pos}
def tB (t:TE):TT:=fun σ H Q=>t σ H fun x H1=>∃ c,x=.bl c/\Q c H1
theorem J9 {e:Expr} {t:TE} (h:PE X e t) (he:∀ whole,isTrue e X.env whole=(do let v<-whole;standAt e.pos;holding [v] (truthy v)):=by intro _;rfl):PT X e (tB t):=by intro pins s σ H Q I hw;refine isTrue_plain (thn (h pins s σ H _ I hw) fun v s1 ⟨x,H1,I1,r1,q1⟩=>?_) (he _);obtain ⟨d,rfl,q⟩:=q1;cases r1;exact wpAny_truthy_bool ⟨H1,I1,q⟩
variable {tA tB':TT} {rest:List Expr}
def qka (t:TT):TT:=fun σ H Q=>t σ H fun c H1=>Q (!c) H1
theorem qdZ (ha:PT X a tA):PW X (.BoolOp .And [a] pos) tA:=by
 intro wh pins s σ H Q I h;refine isTrue_and (thn (ha pins s σ H Q I h) fun c s1 e=>?_)
 cases c with
 | true=>exact isTrue_and_nil e
 | false=>exact e
theorem qfV (ha:PT X a tA):PW X (.BoolOp .Or [a] pos) tA:=by
 intro wh pins s σ H Q I h;refine isTrue_or (thn (ha pins s σ H Q I h) fun c s1 e=>?_)
 cases c with
 | false=>exact isTrue_or_nil e
 | true=>exact e
theorem Jg (ha:PT X a tA):PT X (.UnaryOp .Not a pos) (qka tA):=by intro pins s σ H Q I h;exact isTrue_not (ha pins s σ H (fun c H1=>Q (!c) H1) I h)
noncomputable def qiJ (ta tb:TE):TE:=fun σ H Q=>ta σ H fun x H1=>∃ c,x=.bl c/\if c=true then tb σ H1 Q else Q (.bl false) H1
noncomputable def qkb (ta tb:TE):TE:=fun σ H Q=>ta σ H fun x H1=>∃ c,x=.bl c/\if c=true then Q (.bl true) H1 else tb σ H1 Q
def qiK (ta:TE):TE:=fun σ H Q=>ta σ H fun x H1=>∃ c,x=.bl c/\Q (.bl (!c)) H1
theorem qfW {op} {t:TE} (h:PE X a t):PE X (.BoolOp op [a] pos) t:=fun pins s σ H Q I hw=>BoolOp_one (h pins s σ H Q I hw)
theorem qfX (ha:PE X a ta) (hb:PE X (.BoolOp .And (b::rest) pos) tb):PE X (.BoolOp .And (a::b::rest) pos) (qiJ ta tb):=by
 intro pins s σ H Q I h;refine BoolOp_and (thn (ha pins s σ H _ I h) fun v s1 hq1=>?_);obtain ⟨x,H1,I1,r1,q1⟩:=hq1;obtain ⟨c,rfl,q1⟩:=q1;cases r1;refine wpAny_truthy_bool ?_
 cases c with
 | true=>exact hb pins s1 σ H1 Q I1 q1
 | false=>exact ⟨.bl false,H1,I1,rfl,q1⟩
theorem qiL (ha:PE X a ta) (hb:PE X (.BoolOp .Or (b::rest) pos) tb):PE X (.BoolOp .Or (a::b::rest) pos) (qkb ta tb):=by
 intro pins s σ H Q I h;refine BoolOp_or (thn (ha pins s σ H _ I h) fun v s1 hq1=>?_);obtain ⟨x,H1,I1,r1,q1⟩:=hq1;obtain ⟨c,rfl,q1⟩:=q1;cases r1;refine wpAny_truthy_bool ?_
 cases c with
 | false=>exact hb pins s1 σ H1 Q I1 q1
 | true=>exact ⟨.bl true,H1,I1,rfl,q1⟩
theorem qfY (ha:PE X a ta):PE X (.UnaryOp .Not a pos) (qiK ta):=by intro pins s σ H Q I h;refine UnaryOp_ (thn (ha pins s σ H _ I h) fun v s1 hq1=>?_);obtain ⟨x,H1,I1,r1,q1⟩:=hq1;obtain ⟨c,rfl,q1⟩:=q1;cases r1;exact not_of (wpAny_truthy_bool ⟨.bl (!c),H1,I1,rfl,q1⟩)
def tIf (t:TT) (ta tb:TE):TE:=fun σ H Q=>t σ H fun c H1=>if c=true then ta σ H1 Q else tb σ H1 Q
theorem qbQ {c:Expr} (hc:PT X c tA) (ha:PE X a ta) (hb:PE X b tb):PE X (.IfExp c a b pos) (tIf tA ta tb):=by
 intro pins s σ H Q I h;refine wpAny_IfExp (thn (hc pins s σ H _ I h) fun d s1 hq1=>?_);obtain ⟨H1,I1,q1⟩:=hq1
 cases d with
 | true=>exact ha pins s1 σ H1 Q I1 q1
 | false=>exact hb pins s1 σ H1 Q I1 q1
end
end L2
namespace L2
open PySem PySem.Spec PyProof.Rows
noncomputable def SqL (K:Frag) (H:Hp) (a:Addr) (xs:List V):Prop:=
 Rd H a (.lst xs)\/
  ∃ (o:Obj) (its:Array Value) (n:Nat),K.lookup a=some o/\o.cls=.type "list"/\o.dict=none/\o.data=.seq its n/\its.size<=sizeLine/\qD xs its.toList
noncomputable def SqT (K:Frag) (H:Hp) (a:Addr) (xs:List V):Prop:=
 Rd H a (.tup xs)\/
  ∃ (o:Obj) (its:Array Value) (n:Nat),K.lookup a=some o/\o.cls=.type "tuple"/\o.data=.seq its n/\its.size<=sizeLine/\qD xs its.toList
noncomputable def qkc:Value->Option V
 | .none=>some .non
 | .bool b=>some (.bl b)
 | .int i _=>some (.int i)
 | .str x _=>some (.str x)
 | .bytes b _=>some (.byt b)
 | .float b _=>some (.flt b)
 | .ref a=>some (.ref a)
 | .type n=>some (.ty n)
 | _=>none
theorem qJ.abs {x:V} {u:Value} (r:qJ x u):qkc u=some x:=by
 cases x with
 | non=>cases r;rfl
 | bl _=>cases r;rfl
 | int _=>obtain ⟨t,rfl⟩:=r;rfl
 | str _=>obtain ⟨t,rfl⟩:=r;rfl
 | byt _=>obtain ⟨t,rfl⟩:=r;rfl
 | flt _=>obtain ⟨t,rfl⟩:=r;rfl
 | ref _=>cases r;rfl
 | ty _=>cases r;rfl
theorem qJ.inj {x y:V} {u:Value} (r:qJ x u) (q:qJ y u):x=y:=Option.some.inj (r.abs.symm.trans q.abs)
theorem qD.inj:∀ {xs ys:List V} {us:List Value},qD xs us->qD ys us->xs=ys
 | _,_,_,.nil,.nil=>rfl
 | _,_,_,.cons r t,.cons r' t'=>by rw [r.inj r',qD.inj t t']
section
variable {X:Cx} {pins:PP} {σ:St} {H:Hp} {s:Shared} {a:Addr} {xs ys:List V}
theorem SqL.of {K:Frag} (h:H a=some (.lst xs)):SqL K H a xs:=.inl (.inl h)
theorem SqT.of {K:Frag} (h:H a=some (.tup xs)):SqT K H a xs:=.inl (.inl h)
theorem Inv.list (I:Inv X pins σ H s) (h:SqL X.K H a xs):∃ its:List Value,qD xs its/\PlainL s.heap a its.toArray/\xs.length<=sizeLine:=by
 rcases h with h | ⟨o,its,n,hk,hc,hd,hs,hz,r⟩
 ·obtain ⟨z,its,n,r,e⟩:=h.ok I.hok;exact ⟨its,r,⟨_,n,e,rfl,rfl,rfl⟩,z⟩
 ·refine ⟨its.toList,r,⟨o,n,I.kIn a o hk,hc,hd,by simpa using hs⟩,?_⟩;have e:=r.length;simp only [Array.length_toList] at e;omega
theorem Inv.tuple (I:Inv X pins σ H s) (h:SqT X.K H a xs):∃ its:List Value,qD xs its/\IsTup s.heap a its.toArray/\xs.length<=sizeLine:=by
 rcases h with h | ⟨o,its,n,hk,hc,hs,hz,r⟩
 ·obtain ⟨z,its,r,p⟩:=h.ok I.hok;exact ⟨its,r,p,z⟩
 ·refine ⟨its.toList,r,⟨o,I.kIn a o hk,hc,n,by simpa using hs⟩,?_⟩;have e:=r.length;simp only [Array.length_toList] at e;omega
theorem Inv.list_inj (I:Inv X pins σ H s) (h:SqL X.K H a xs) (h':SqL X.K H a ys):xs=ys:=by
 obtain ⟨its,r,⟨o,n,e,_,_,d⟩,_⟩:=I.list h;obtain ⟨its',r',⟨o',n',e',_,_,d'⟩,_⟩:=I.list h';rw [e] at e';cases e';rw [d] at d';injection d' with d1 _
 have:its=its':=by simpa using congrArg Array.toList d1
 subst this;exact r.inj r'
theorem Inv.tuple_inj (I:Inv X pins σ H s) (h:SqT X.K H a xs) (h':SqT X.K H a ys):xs=ys:=by
 obtain ⟨its,r,⟨o,e,_,n,d⟩,_⟩:=I.tuple h;obtain ⟨its',r',⟨o',e',_,n',d'⟩,_⟩:=I.tuple h';rw [e] at e';cases e';rw [d] at d';injection d' with d1 _
 have:its=its':=by simpa using congrArg Array.toList d1
 subst this;exact r.inj r'
end
abbrev Cx.wish (X:Cx) (E:PQ):Cx:={ X with xe:=E }
abbrev Cx.nox (X:Cx):Cx:=X.wish fun _ _=>False
theorem Cx.Ok.wish {X:Cx} (ok:X.Ok) (E:PQ):(X.wish E).Ok:=
 ⟨ok.mod,ok.kind,ok.glob,ok.blt,ok.above,ok.inj,ok.has,ok.cab,ok.hd,ok.frames,ok.stk,ok.exf,ok.bs,ok.bsz,ok.noex,ok.exfs,ok.funs,ok.frf⟩
theorem Cx.Ok.unwish {X:Cx} {E:PQ} (ok:(X.wish E).Ok):X.Ok:=
 ⟨ok.mod,ok.kind,ok.glob,ok.blt,ok.above,ok.inj,ok.has,ok.cab,ok.hd,ok.frames,ok.stk,ok.exf,ok.bs,ok.bsz,ok.noex,ok.exfs,ok.funs,ok.frf⟩
section
variable {X:Cx} {pins:PP} {σ:St} {H:Hp} {s:Shared} {E:PQ}
theorem Inv.wish (I:Inv X pins σ H s) (E:PQ):Inv (X.wish E) pins σ H s:=⟨I.ok.wish E,I.os,I.bare,I.base,I.loc,I.cell,I.free,I.freeC,I.pin,I.hok,I.len⟩
theorem Inv.unwish (I:Inv (X.wish E) pins σ H s):Inv X pins σ H s:=⟨I.ok.unwish,I.os,I.bare,I.base,I.loc,I.cell,I.free,I.freeC,I.pin,I.hok,I.len⟩
theorem SP.unwish {D:Ends} {f:Flow} {s':Shared} (h:SP (X.wish E) pins D f s'):SP X pins D f s':=by
 cases f with
 | next=>obtain ⟨σ',H',I,q⟩:=h;exact ⟨σ',H',I.unwish,q⟩
 | brk=>obtain ⟨σ',H',I,q⟩:=h;exact ⟨σ',H',I.unwish,q⟩
 | cont=>obtain ⟨σ',H',I,q⟩:=h;exact ⟨σ',H',I.unwish,q⟩
 | ret u=>obtain ⟨v,σ',H',I,r,q⟩:=h;exact ⟨v,σ',H',I.unwish,r,q⟩
theorem PSs.nox {st:List Stmt} {t:TS} (h:PSs X.nox st t):PSs X st t:=fun pins s σ H D I hw=>wpAny_mono (h pins s σ H D (I.wish _) hw) (fun _ _ q=>q.unwish) fun _ _ z=>False.elim z
end
section
variable {X:Cx} {st:Stmt} {rest:List Stmt} {t u:TS} {e:Expr} {te:TE} {pos:Pos}
def qfZ:TS:=fun D σ H=>D.nx σ H
def qkd (t u:TS):TS:=fun D σ H=>t { D with nx:=u D } σ H
theorem j4:PSs X [] qfZ:=fun _ _ σ H _ I h=>wpAny_execs_nil ⟨σ,H,I,h⟩
theorem qP (h1:PS X st t) (h2:PSs X rest u):PSs X (st::rest) (qkd t u):=by
 intro pins s σ H D I h;refine wpAny_execs_cons (thn (h1 pins s σ H { D with nx:=u D } I h) fun f s1 q=>?_)
 cases f with
 | next=>obtain ⟨σ',H',I',q⟩:=q;exact h2 pins s1 σ' H' D I' q
 | ret v=>exact q
 | brk=>exact q
 | cont=>exact q
theorem zx (h1:PS X st t):PSs X [st] t:=by
 intro pins s σ H D I h;refine wpAny_execs_cons (thn (h1 pins s σ H D I h) fun f s1 q=>?_)
 cases f with
 | next=>exact wpAny_execs_nil q
 | ret v=>exact q
 | brk=>exact q
 | cont=>exact q
theorem qd0:PS X (.Pass pos) qfZ:=fun _ _ σ H _ I h=>wpAny_Pass ⟨σ,H,I,h⟩
theorem Inv.quiet {pins:PP} {σ:St} {H:Hp} {s:Shared} (I:Inv X pins σ H s):interactive X.env=false:=by simp [interactive,I.ok.kind]
def qiM (te:TE):TS:=fun D σ H=>te σ H fun _ H1=>D.nx σ H1
theorem ja (he:PE X e te) (hs:swapsWith e none pos.line X.env=pure false:=by rfl):PS X (.Expr e pos) (qiM te):=by intro pins s σ H D I h;exact wpAny_Expr_any (thn (he pins s σ H _ I h) fun v s1 ⟨x,H1,I1,r1,q1⟩=>⟨σ,H1,I1,q1⟩) I.quiet hs
def qke (te:TE):TS:=fun D σ H=>te σ H D.rt
theorem qaa (he:PE X e te):PS X (.Return (some e) pos) (qke te):=by intro pins s σ H D I h;exact wpAny_Return_some (thn (he pins s σ H _ I h) fun v s1 ⟨x,H1,I1,r1,q1⟩=>⟨x,σ,H1,I1,r1,q1⟩)
def qiN:TS:=fun D _ H=>D.rt .non H
theorem qd1:PS X (.Return none pos) qiN:=fun _ _ σ H _ I h=>wpAny_Return_none ⟨.non,σ,H,I,rfl,h⟩
def qkf (c:TT) (t u:TS):TS:=fun D σ H=>c σ H fun b H1=>if b=true then t D σ H1 else u D σ H1
theorem Zl {c:Expr} {a b:List Stmt} {tc:TT} (hc:PT X c tc) (ha:PSs X a t) (hb:PSs X b u):PS X (.If c a b pos) (qkf tc t u):=by
 intro pins s σ H D I h;refine wpAny_If (thn (hc pins s σ H _ I h) fun d s1 hq1=>?_);obtain ⟨H1,I1,q1⟩:=hq1
 cases d with
 | true=>exact ha pins s1 σ H1 D I1 q1
 | false=>exact hb pins s1 σ H1 D I1 q1
def qf0:TS:=fun _ _ _=>False
theorem jL:PS X st qf0:=fun _ _ _ _ _ _ h=>h.elim
end
abbrev TG:=V->St->Hp->(St->Hp->Prop)->Prop
abbrev TGs:=List V->St->Hp->(St->Hp->Prop)->Prop
noncomputable def PG (X:Cx) (target:Expr) (t:TG):Prop:=
 ∀ (pins:PP) (s:Shared) (σ:St) (H:Hp) (v:V) (u:Value) (Q:St->Hp->Prop),Inv X pins σ H s->qJ v u->t v σ H Q->
  wpAny (model X.prog X.w) X.A (assign target X.env u) (fun _ s'=>∃ σ' H',Inv X pins σ' H' s'/\Q σ' H') X.xe s
noncomputable def PGs (X:Cx) (ts:List Expr) (t:TGs):Prop:=
 ∀ (pins:PP) (s:Shared) (σ:St) (H:Hp) (vs:List V) (us:List Value) (Q:St->Hp->Prop),Inv X pins σ H s->qD vs us->t vs σ H Q->
  wpAny (model X.prog X.w) X.A (assignInOrder ((assignEach ts X.env).map (·.2)) us) (fun _ s'=>∃ σ' H',Inv X pins σ' H' s'/\Q σ' H') X.xe s
abbrev qiO:=V->V->V->Hp->(Hp->Prop)->Prop
noncomputable def qjO (X:Cx) (t:qiO):Prop:=
 ∀ (pins:PP) (s:Shared) (σ:St) (H:Hp) (o i v:V) (ov iv u:Value) (Q:Hp->Prop),Inv X pins σ H s->qJ o ov->qJ i iv->qJ v u->t o i v H Q->
  wpAny (model X.prog X.w) X.A (setItem ov iv u) (fun _ s'=>∃ H',Inv X pins σ H' s'/\Q H') X.xe s
section
variable {X:Cx} {pos:Pos}
def qbR (i:Nat):TG:=fun v σ H Q=>Q (σ.set i (some v)) H
theorem qd2 {i:Nat} {x:Str} (hN:X.N.Nodup) (hi:X.N[i]?=some x) (hx:Loc X.env.scope x) (hf:X.fn x=true\/X.env.scope.names.lookup x=some .local:=by first | exact .inl rfl | exact .inr rfl | assumption):PG X (.Name x pos) (qbR i):=by intro pins s σ H v u Q I r h;exact wpAny_assign_Name (QL I hN hi hx r (fun s' I'=>⟨_,H,I',h⟩) hf)
def qkg:TGs:=fun vs σ H Q=>vs=[]/\Q σ H
def qiP (t:TG) (u:TGs):TGs:=fun vs σ H Q=>∃ v r,vs=v::r/\t v σ H fun σ' H'=>u r σ' H' Q
theorem qd3:PGs X [] qkg:=by intro pins s σ H vs us Q I r h;obtain ⟨e,h⟩:=h;subst e;cases r;exact assignInOrder_nil ⟨σ,H,I,h⟩
theorem qbS {e:Expr} {es:List Expr} {t:TG} {u:TGs} (h1:PG X e t) (h2:PGs X es u)
  (hs:(assignEach (e::es) X.env).map (·.2)=assign e X.env::(assignEach es X.env).map (·.2):=by rfl):PGs X (e::es) (qiP t u):=by
 intro pins s σ H vs us Q I r h;obtain ⟨v,vr,e1,h⟩:=h;subst e1
 cases r with
 | cons r rr=>rw [hs];refine assignInOrder_cons (thn (h1 pins s σ H _ _ _ I r h) fun _ s1 hq1=>?_);obtain ⟨σ1,H1,I1,q1⟩:=hq1;exact h2 pins s1 σ1 H1 _ _ Q I1 rr q1
noncomputable def qkh (K:Frag) (n:Nat) (t:TGs):TG:=fun v σ H Q=>∃ a xs,v=.ref a/\SqT K H a xs/\xs.length=n/\t xs σ H Q
theorem qf1 {es:List Expr} {k:Nat} {t:TGs} {n:Nat} (hc:X.calm=true) (h:PGs X es t)
  (hn:(assignEach es X.env).length=n:=by rfl) (hst:(assignEach es X.env).findIdx? (·.1)=none:=by rfl):PG X (.Tuple es k pos) (qkh X.K n t):=by
 intro pins s σ H v u Q I r hw;obtain ⟨a,xs,e1,hq,hl,hw⟩:=hw;subst e1;cases r;obtain ⟨its,rv,ht,hz⟩:=I.tuple hq;refine assign_Tuple_tuple (I.ok.hd hc) ht (by simp [hn,<-hl,rv.length]) hst fun h' hx=>?_;have I1:Inv X pins σ H { s with heap:=h' }:=I.kept (t':=s.toks) fun b o e=>hx b o (Nat.ne_of_lt (Heap.lt_size e)) e;exact h pins _ σ H xs _ Q I1 (by simpa using rv) hw
noncomputable def qki (to ti:TE) (t:qiO):TG:=fun v σ H Q=>to σ H fun o H1=>ti σ H1 fun i H2=>t o i v H2 fun H3=>Q σ H3
theorem qf2 {o i:Expr} {to ti:TE} {t:qiO} (ho:PE X o to) (hi:PE X i ti) (hs:qjO X t)
  (ha:∀ v,assign (.Subscript o i pos) X.env v=(do
   let ov<-holding [v] (eval o X.env)
   let iv<-holding [v,ov] (eval i X.env)
   standAt pos
   holding [v,ov,iv] (setItem ov iv v)
   release [v,ov,iv] []):=by intro _;rfl):PG X (.Subscript o i pos) (qki to ti t):=by
 intro pins s σ H v u Q I r h;rw [ha];refine wpAny_bind (wpAny_holding (thn (ho pins s σ H _ I h) fun ov s1 hq1=>?_));obtain ⟨x,H1,I1,r1,q1⟩:=hq1;refine wpAny_bind (wpAny_holding (thn (hi pins s1 σ H1 _ I1 q1) fun iv s2 hq1=>?_));obtain ⟨y,H2,I2,r2,q2⟩:=hq1;refine wpAny_bind (wpAny_standAt (wpAny_bind (wpAny_holding (thn (hs pins s2 σ H2 x y v ov iv u _ I2 r1 r2 r q2) fun _ s3 hq1=>?_))));obtain ⟨H3,I3,q3⟩:=hq1;exact wpAny_release ⟨σ,H3,I3,q3⟩
def qiQ (te:TE) (g:TG):TS:=fun D σ H=>te σ H fun x H1=>g x σ H1 D.nx
theorem qdj {tg e:Expr} {te:TE} {g:TG} (he:PE X e te) (hg:PG X tg g) (hs:swapsWithSole [tg] e pos.line X.env=pure false:=by rfl) (hw:swappedStores [tg] e X.env=pure none:=by rfl)
  (h1:(assignEach [tg] X.env).map (·.2)=[assign tg X.env]:=by rfl):PS X (.Assign [tg] e pos) (qiQ te g):=by
 intro pins s σ H D I h;refine wpAny_Assign_stores (thn (he pins s σ H _ I h) fun v s1 ⟨x,H1,I1,r1,q1⟩=>?_) hs hw;rw [h1];exact thn (hg pins s1 σ H1 x v _ I1 r1 q1) fun _ s2 q=>q
theorem qdk {i:Nat} {x:Str} {e:Expr} {te:TE} {pos':Pos} (hN:X.N.Nodup) (hi:X.N[i]?=some x) (hx:Loc X.env.scope x) (he:PE X e te) (hs:swapsWith e (some (.Name x pos')) pos.line X.env=pure false:=by rfl) (hf:X.fn x=true\/X.env.scope.names.lookup x=some .local:=by first | exact .inl rfl | exact .inr rfl | assumption) :
  PS X (.Assign [.Name x pos'] e pos) (qiQ te (qbR i)):=by
 intro pins s σ H D I h;refine wpAny_Assign_Name (thn (he pins s σ H _ I h) fun v s1 ⟨y,H1,I1,r1,q1⟩=>?_) hs;exact QL I1 hN hi hx r1 (fun s2 I2=>⟨_,H1,I2,q1⟩) hf
end
section
variable {X:Cx} {pos:Pos}
noncomputable def qf3 (c:TT) (tb:TS):TS:=fun D σ H=>∃ W:Nat->St->Hp->Prop,(∃ m,W m σ H)/\∀ m σ H,W m σ H->
 c σ H fun b H1=>if b=true then ∃ N:St->Hp->Prop,(∀ σ' H',N σ' H'->∃ m',m' < m/\W m' σ' H')/\tb { D with nx:=N,ct:=N,bk:=D.nx } σ H1 else D.nx σ H1
theorem qbT {c:Expr} {body:List Stmt} {tc:TT} {tb:TS} (hp:PassesOwn (model X.prog X.w) X.A X.env X.xe) (hc:PT X c tc) (hb:PSs X body tb):PS X (.While c body [] pos) (qf3 tc tb):=by
 intro pins s σ H D I h;obtain ⟨W,⟨m0,w0⟩,turn⟩:=h;refine wpAny_While (codeAny_whileLoop (fun n s'=>∃ σ' H',Inv X pins σ' H' s'/\W n σ' H') ?_ m0 ⟨σ,H,I,w0⟩);rintro n s1 ⟨σ1,H1,I1,w1⟩;refine wpAny_passesOwn hp (thn (hc pins s1 σ1 H1 _ I1 (turn n σ1 H1 w1)) fun b s2 hq1=>?_);obtain ⟨H2,I2,q2⟩:=hq1
 cases b with
 | true=>
  obtain ⟨N,hN,q2⟩:=q2;rw [if_pos rfl];refine wpAny_passesOwn hp (thn (hb pins s2 σ1 H2 _ I2 q2) fun f s3 q3=>?_)
  cases f with
  | next=>obtain ⟨σ3,H3,I3,n3⟩:=q3;obtain ⟨m',hm,w3⟩:=hN σ3 H3 n3;exact ⟨m',hm,σ3,H3,I3,w3⟩
  | cont=>obtain ⟨σ3,H3,I3,n3⟩:=q3;obtain ⟨m',hm,w3⟩:=hN σ3 H3 n3;exact ⟨m',hm,σ3,H3,I3,w3⟩
  | brk=>exact q3
  | ret v=>exact q3
 | false=>rw [if_neg Bool.false_ne_true];exact wpAny_execs_nil ⟨σ1,H2,I2,q2⟩
end
structure It where
 go:Nat->Hp->Prop
 yld:Nat->Hp->V->Hp->Prop
 stop:Nat->Hp->Prop
noncomputable def Zm (X:Cx) (pins:PP) (H:Hp) (b:Addr):Prop:=
 H b=none/\b≠X.env.locals/\b∉X.fs/\(b∈X.ex\/X.s₀.heap.objs.size<=b)/\(∀ x c,X.env.cells.lookup x=some c->c≠b)/\∀ p∈X.pn++pins,p.1≠b
theorem Inv.fpOk {X:Cx} {pins:PP} {σ:St} {H H':Hp} {s:Shared} {b:Addr} (I:Inv X pins σ H s) (hb:s.heap.objs.size<=b) (hn:H' b=none):Zm X pins H' b:=by
 refine ⟨hn,Nat.ne_of_gt (Nat.lt_of_lt_of_le I.lt hb),I.nofs hb,.inr (Nat.le_trans I.sz hb),fun x c e z=>?_,fun p hp z=>?_⟩
 ·obtain ⟨v,q⟩:=I.cell x c e;exact absurd (Nat.lt_of_lt_of_le q.lt (by rw [z];exact hb)) (Nat.lt_irrefl _)
 ·exact absurd (Nat.lt_of_lt_of_le (Heap.lt_size (I.pin p hp).1) (by rw [z];exact hb)) (Nat.lt_irrefl _)
structure Turn (P:Program) (w:World) (K:Frag) (tg:Expr) (J:It) (fp:List Addr) (it:Addr) (tn:Nat->Heap->Prop):Prop where
 mem:it∈fp
 obj:∀ i h,tn i h->∀ b∈fp,∃ o,h.get? b=some o/\∀ v,o.data≠.cell v
 keep:∀ i h h',tn i h->(∀ b∈fp,∀ o,h.get? b=some o->h'.get? b=some o)->tn i h'
 item:∀ (X:Cx),X.prog=P->X.w=w->X.K=K->X.calm=true->∀ (i:Nat) (pins:PP) (s:Shared) (σ:St) (H:Hp) (E:PQ),Inv X pins σ H s->(∀ b∈fp,Zm X pins H b)->tn i s.heap->J.go i H->
  wpAny (model P w) X.A (pyNext (.ref it)) (fun r s1=>∃ u,r=some u/\
   wpAny (model P w) X.A (letOwnedTupleGo tg (.ref it) u) (fun _ s2=>∃ x H',Inv X pins σ H' s2/\qJ x u/\J.yld i H x H'/\tn (i+1) s2.heap/\∀ b∈fp,H' b=none) E s1) E s
 done:∀ (X:Cx),X.prog=P->X.w=w->X.K=K->X.calm=true->∀ (i:Nat) (pins:PP) (s:Shared) (σ:St) (H:Hp) (E:PQ),Inv X pins σ H s->(∀ b∈fp,Zm X pins H b)->tn i s.heap->J.stop i H->
  wpAny (model P w) X.A (pyNext (.ref it)) (fun r s1=>r=none/\Inv X pins σ H s1) E s
 self:∀ (A:Around) (i:Nat) (s:Shared) (Q:PQ) (E:PQ),tn i s.heap->Q (.ref it) s->wpAny (model P w) A (pyIter (.ref it)) Q E s
abbrev TI:=St->Hp->(It->Hp->Prop)->Prop
noncomputable def PIE (X:Cx) (pins:PP) (σ:St) (tg:Expr) (R:It->Hp->Prop) (itv:Value) (s2:Shared):Prop:=
 ∃ (it:Addr) (fp:List Addr) (tn:Nat->Heap->Prop) (J:It) (H':Hp),itv=.ref it/\Inv X pins σ H' s2/\Turn X.prog X.w X.K tg J fp it tn/\tn 0 s2.heap/\(∀ b∈fp,Zm X pins H' b)/\R J H'
noncomputable def PI (X:Cx) (tg iter:Expr) (wi:TI):Prop:=
 ∀ (pins:PP) (s:Shared) (σ:St) (H:Hp) (R:It->Hp->Prop),Inv X pins σ H s->wi σ H R->
  wpAny (model X.prog X.w) X.A (eval iter X.env) (fun v s1=>wpAny (model X.prog X.w) X.A (pyIter v) (PIE X pins σ tg R) X.xe s1) X.xe s
theorem Zn {M:Model} {A:Around} {E:PQ} {s:Shared} {tg:Expr} {it:Addr} {u:Value} {o:Obj} {n:String} {vs:Array Value} {Q:Unit->Shared->Prop} (ho:s.heap.get? it=some o) (hc:o.cls=.type n) (hd:o.data=.fields vs)
  (hn:["enumerate","zip","dict_itemiterator","dict_reverseitemiterator","odict_iterator","itertools.zip_longest","itertools.pairwise"].contains n=false) (hQ:Q () s):wpAny M A (letOwnedTupleGo tg (.ref it) u) Q E s:=by
 unfold letOwnedTupleGo
 cases tg<;>first
  | exact wpAny_pure hQ
  | (cases u<;>first
    | exact wpAny_pure hQ
    | (refine wpAny_bind (wpAny_load ho ?_)
       rw [hc,hd];show wpAny M A (if (["enumerate","zip","dict_itemiterator","dict_reverseitemiterator","odict_iterator","itertools.zip_longest","itertools.pairwise"].contains n&&vs[0]? == some (rawInt _))=true then _ else _) Q E s;rw [if_neg (by intro h;rw [hn,Bool.false_and] at h;cases h)];exact wpAny_pure hQ))
noncomputable def Itl (K:Frag) (a:Addr):It:=
 ⟨fun i H=>∃ xs x,SqL K H a xs/\xs[i]?=some x,fun i H x H'=>H'=H/\∀ xs,SqL K H a xs->xs[i]?=some x,fun i H=>∃ xs,SqL K H a xs/\xs.length<=i⟩
noncomputable def Itt (K:Frag) (a:Addr):It:=
 ⟨fun i H=>∃ xs x,SqT K H a xs/\xs[i]?=some x,fun i H x H'=>H'=H/\∀ xs,SqT K H a xs->xs[i]?=some x,fun i H=>∃ xs,SqT K H a xs/\xs.length<=i⟩
def Itr (lo:Int) (n:Nat):It:=⟨fun i _=>i < n,fun i H x H'=>H'=H/\x=.int (lo+i),fun i _=>n<=i⟩
theorem qab {P:Program} {w:World} {K:Frag} {tg:Expr} (a it:Addr):Turn P w K tg (Itl K a) [it] it (fun i h=>h.IsListIter it a i) where
 mem:=by simp
 obj:=fun i h st b hb=>by
  have e:b=it:=by simpa using hb
  subst e;obtain ⟨o,e,c,d⟩:=st;exact ⟨o,e,fun v z=>by rw [d] at z;cases z⟩
 keep:=fun i h h' st k=>st.at fun o e=>k it (by simp) o e
 item:=by intro X hP hw hK hc i pins s σ H E I hf st hg;subst hP hw hK;obtain ⟨xs,x,hq,hx⟩:=hg;obtain ⟨its,rv,p,hz⟩:=I.list hq;obtain ⟨u,hu,ru⟩:=rv.get hx;obtain ⟨f0,f1,f2,f3,f4,f5⟩:=hf it (by simp);refine wpAny_pyNext_list_item st p.isList (x:=u) (by simpa using hu) fun h' st' sb=>?_;have I1:Inv X pins σ H { s with heap:=h' }:=I.turned (t':=s.toks) (fun b o hb e=>(sb.2 b hb).trans e) f0 f1 f3 f4 f5;obtain ⟨o,e,c,d⟩:=id st';exact ⟨u,rfl,Zn (s:={ s with heap:=h' }) e c d (2:) ⟨x,H,I1,ru,⟨rfl,fun ys hy=>by rw [I.list_inj hy hq];exact hx⟩,st',fun b hb=>(hf b hb).1⟩⟩
 done:=by intro X hP hw hK hc i pins s σ H E I hf st hg;subst hP hw hK;obtain ⟨xs,hq,hx⟩:=hg;obtain ⟨its,rv,p,hz⟩:=I.list hq;obtain ⟨f0,f1,f2,f3,f4,f5⟩:=hf it (by simp);have hl:=rv.length;exact wpAny_pyNext_list_end (I.ok.hd hc) st p.isList (by simp;omega) fun h' eb=>⟨rfl,I.turned (t':=s.toks) (fun b o hb e=>eb b o hb e) f0 f1 f3 f4 f5⟩
 self:=fun _ _ _ _ _ st h=>wpAny_pyIter_listiter st h
theorem Zo {P:Program} {w:World} {K:Frag} {tg:Expr} (a it:Addr):Turn P w K tg (Itt K a) [it] it (fun i h=>h.IsTupleIter it a i) where
 mem:=by simp
 obj:=fun i h st b hb=>by
  have e:b=it:=by simpa using hb
  subst e;obtain ⟨o,e,c,d⟩:=st;exact ⟨o,e,fun v z=>by rw [d] at z;cases z⟩
 keep:=fun i h h' st k=>st.at fun o e=>k it (by simp) o e
 item:=by intro X hP hw hK hc i pins s σ H E I hf st hg;subst hP hw hK;obtain ⟨xs,x,hq,hx⟩:=hg;obtain ⟨its,rv,p,hz⟩:=I.tuple hq;obtain ⟨u,hu,ru⟩:=rv.get hx;obtain ⟨f0,f1,f2,f3,f4,f5⟩:=hf it (by simp);refine wpAny_pyNext_tuple_item st (show s.heap.IsTuple a its.toArray from p) (x:=u) (by simpa using hu) fun h' st' sb=>?_;have I1:Inv X pins σ H { s with heap:=h' }:=I.turned (t':=s.toks) (fun b o hb e=>(sb.2 b hb).trans e) f0 f1 f3 f4 f5;obtain ⟨o,e,c,d⟩:=id st';exact ⟨u,rfl,Zn (s:={ s with heap:=h' }) e c d (2:) ⟨x,H,I1,ru,⟨rfl,fun ys hy=>by rw [I.tuple_inj hy hq];exact hx⟩,st',fun b hb=>(hf b hb).1⟩⟩
 done:=by intro X hP hw hK hc i pins s σ H E I hf st hg;subst hP hw hK;obtain ⟨xs,hq,hx⟩:=hg;obtain ⟨its,rv,p,hz⟩:=I.tuple hq;obtain ⟨f0,f1,f2,f3,f4,f5⟩:=hf it (by simp);have hl:=rv.length;exact wpAny_pyNext_tuple_end (I.ok.hd hc) st (show s.heap.IsTuple a its.toArray from p) (by simp;omega) fun h' eb=>⟨rfl,I.turned (t':=s.toks) (fun b o hb e=>eb b o hb e) f0 f1 f3 f4 f5⟩
 self:=fun _ _ _ _ _ st h=>wpAny_pyIter_tupleiter st h
theorem Zp {P:Program} {w:World} {K:Frag} {tg:Expr} (it:Addr) (lo:Int) (n:Nat):Turn P w K tg (Itr lo n) [it] it (fun i h=>IsRangeIter h it (lo+(i:Nat) * 1) ((n:Int) - (i:Nat)) 1) where
 mem:=by simp
 obj:=fun i h st b hb=>by
  have e:b=it:=by simpa using hb
  subst e
  exact ⟨_,st,fun v z=>by have z':Data.fields _=Data.cell v:=z;cases z'⟩
 keep:=fun i h h' st k=>k it (by simp) _ st
 item:=by intro X hP hw hK hc i pins s σ H E I hf st hg;subst hP hw hK;obtain ⟨f0,f1,f2,f3,f4,f5⟩:=hf it (by simp);have W:=Walks.range (prog:=X.prog) (w:=X.w) (I.ok.hd hc) it lo 1 n;refine W.item i s _ _ hg st fun v h' tk hv st' kk=>?_;obtain ⟨t,rfl⟩:=hv;have I1:Inv X pins σ H { s with heap:=h',toks:=tk }:=I.turned (fun b o hb e=>kk b o (by simpa using hb) e) f0 f1 f3 f4 f5;refine ⟨_,rfl,Zn (s:={ s with heap:=h',toks:=tk }) (n:="range_iterator") st' rfl rfl (2:) ⟨.int (lo+i),H,I1,⟨t,?_⟩,⟨rfl,rfl⟩,st',fun b hb=>(hf b hb).1⟩⟩;rw [Int.mul_one]
 done:=by intro X hP hw hK hc i pins s σ H E I hf st hg;subst hP hw hK;obtain ⟨f0,f1,f2,f3,f4,f5⟩:=hf it (by simp);exact wpAny_pyNext_range_end (I.ok.hd hc) st (by have:n<=i:=hg;omega) fun h' eb=>⟨rfl,I.turned (t':=s.toks) (fun b o hb e=>eb b o hb e) f0 f1 f3 f4 f5⟩
 self:=fun _ _ _ _ _ st h=>wpAny_pyIter_rangeiter st h
end L2
namespace L2
open PySem PySem.Spec PyProof.Rows
section
variable {X:Cx} {tg:Expr}
theorem QM {pins:PP} {σ:St} {H:Hp} {s:Shared} {R:It->Hp->Prop} {E:PQ} {lo hi:Int} {t u v:Tok} {tk:Nat} (I:Inv X pins σ H s) (h1:-(2 ^ 62)<=lo) (h2:lo < 2 ^ 62) (h3:-(2 ^ 62)<=hi) (h4:hi < 2 ^ 62)
  (q:R (Itr lo (hi - lo).toNat) H):wpAny (model X.prog X.w) X.A (pyIter (.ref s.heap.objs.size)) (PIE X pins σ tg R) E { s with heap:=s.heap.push { cls:=.type "range",data:=.fields #[.int lo t,.int hi u,.int 1 v] },toks:=tk }:=by
 refine wpAny_pyIter_range (IsRange.new ..) (small_one h1 h2 h3 h4) ?_;have I1:Inv X pins σ H { s with heap:=s.heap.push { cls:=.type "range",data:=.fields #[.int lo t,.int hi u,.int 1 v] },toks:=tk }:=I.kept fun b o e=>Heap.get?_push_of_some _ e
 refine ⟨(s.heap.push { cls:=.type "range",data:=.fields #[.int lo t,.int hi u,.int 1 v] }).objs.size,[(s.heap.push { cls:=.type "range",data:=.fields #[.int lo t,.int hi u,.int 1 v] }).objs.size],_,_,H,rfl,
  I1.kept (t':=tk) fun b o e=>Heap.get?_push_of_some _ e,Zp _ lo (hi - lo).toNat,?_,fun b hb=>?_,q⟩
 ·have e1:lo+((0:Nat):Int) * 1=lo:=by simp
  have e2:(((hi - lo).toNat:Nat):Int) - ((0:Nat):Int)=Builtin.Range.rangeSize lo hi 1:=by rw [rangeSize_one];split<;>omega
  show IsRangeIter _ _ (lo+((0:Nat):Int) * 1) ((((hi - lo).toNat:Nat):Int) - ((0:Nat):Int)) 1;rw [e1,e2];exact Heap.get?_push_size _ rfl
 ·have e:b=(s.heap.push { cls:=.type "range",data:=.fields #[.int lo t,.int hi u,.int 1 v] }).objs.size:=by simpa using hb
  subst e;exact I1.fpOk (Nat.le_refl _) (I1.hok.fresh (Nat.le_refl _))
noncomputable def qiR (ta:TA):TI:=fun σ H R=>ta σ H fun vs H1=>∃ j:Int,vs=[.int j]/\-(2 ^ 62)<=j/\j < 2 ^ 62/\R (Itr 0 j.toNat) H1
noncomputable def qiS (ta:TA):TI:=fun σ H R=>ta σ H fun vs H1=>∃ i j:Int,vs=[.int i,.int j]/\(-(2 ^ 62)<=i/\i < 2 ^ 62/\-(2 ^ 62)<=j/\j < 2 ^ 62)/\R (Itr i (j - i).toNat) H1
theorem qac {a:Expr} {ta:TA} {p pos:Pos} (hg:Gl X "range") (hm:X.mg "range" = none) (ha:PA X [a] ta) (hs:starEach [a] X.env=[(false,eval a X.env)]:=by rfl):PI X tg (.Call (.Name "range" p) [a] [] pos) (qiR ta):=by
 intro pins s σ H R I h;refine Call_ (jK I hg hm boot_range (PyProof.Rows.callWith_type1 (thn (ha pos pins s σ H _ I h) fun us s1 ⟨vs,H1,I1,r1,q1⟩=>?_) hs rfl));obtain ⟨j,e,q1,q2,q⟩:=q1;subst e
 cases r1 with
 | cons r rr=>cases rr;obtain ⟨t,rfl⟩:=r;exact call_range_1 (QM I1 (1:) (1:) q1 q2 (by simpa using q))
theorem qad {a b:Expr} {ta:TA} {p pos:Pos} (hg:Gl X "range") (hm:X.mg "range" = none) (ha:PA X [a,b] ta) (hs:starEach [a,b] X.env=[(false,eval a X.env),(false,eval b X.env)]:=by rfl) (hs2:starEach [b] X.env=[(false,eval b X.env)]:=by rfl) :
  PI X tg (.Call (.Name "range" p) [a,b] [] pos) (qiS ta):=by
 intro pins s σ H R I h;refine Call_ (jK I hg hm boot_range (PyProof.Rows.callWith_type1 (thn (ha pos pins s σ H _ I h) fun us s1 ⟨vs,H1,I1,r1,q1⟩=>?_) (by rw [hs,hs2]) (by rw [hs2];rfl)));obtain ⟨i,j,e,⟨q1,q2,q3,q4⟩,q⟩:=q1;subst e
 cases r1 with
 | cons r rr=>
  cases rr with
  | cons r' rr=>cases rr;obtain ⟨t,rfl⟩:=r;obtain ⟨t',rfl⟩:=r';exact call_range_2 (QM I1 q1 q2 q3 q4 q)
noncomputable def qkj (wi:TI) (g:TG) (tb:TS):TS:=fun D σ H=>wi σ H fun J H1=>∃ W:Nat->Nat->St->Hp->Prop,(∃ m,W 0 m σ H1)/\∀ i m σ H,W i m σ H->
 (J.stop i H/\D.nx σ H)\/(J.go i H/\∃ N:St->Hp->Prop,(∀ σ' H',N σ' H'->∃ m',m' < m/\W (i+1) m' σ' H')/\∀ x H',J.yld i H x H'->g x σ H' fun σ2 H2=>tb { D with nx:=N,ct:=N,bk:=D.nx } σ2 H2)
def Yb (fp:List Addr) (h:Heap):List (Addr×Obj):=fp.filterMap fun b=>(h.get? b).map fun o=>(b,o)
theorem jp {fp:List Addr} {h:Heap} {b:Addr} {o:Obj} (hb:b∈fp) (e:h.get? b=some o):(b,o)∈Yb fp h:=List.mem_filterMap.mpr ⟨b,hb,by rw [e];rfl⟩
theorem qae {fp:List Addr} {h:Heap} {p:Addr×Obj} (hp:p∈Yb fp h):p.1∈fp/\h.get? p.1=some p.2:=by
 obtain ⟨b,hb,e⟩:=List.mem_filterMap.mp hp
 cases q:h.get? b with
 | none=>rw [q] at e;cases e
 | some o=>rw [q] at e;have e':(b,o)=p:=Option.some.inj e;subst e';exact ⟨hb,q⟩
theorem Inv.pinned {pins:PP} {σ:St} {H:Hp} {s:Shared} {fp:List Addr} (I:Inv X pins σ H s) (hf:∀ b∈fp,Zm X pins H b) (ho:∀ b∈fp,∃ o,s.heap.get? b=some o/\∀ v,o.data≠.cell v):Inv X (pins++Yb fp s.heap) σ H s:=
 I.pins_of fun p hp=>(List.mem_append.mp hp).elim (fun z=>I.pin p (List.mem_append_right _ z)) fun z=>by obtain ⟨hb,e⟩:=qae z;obtain ⟨f0,f1,f2,_⟩:=hf p.1 hb;obtain ⟨o,e',d⟩:=ho p.1 hb;rw [e] at e';cases e';exact ⟨e,f0,f1,f2,d⟩
theorem Inv.unpinned {pins pl:PP} {σ:St} {H:Hp} {s:Shared} (I:Inv X (pins++pl) σ H s):Inv X pins σ H s:=I.pins_of fun p hp=>I.pin p (List.mem_append_right _ (List.mem_append_left _ hp))
theorem qf4 {iter:Expr} {body:List Stmt} {wi:TI} {g:TG} {tb:TS} {pos:Pos} (hp:PassesOwn (model X.prog X.w) X.A X.env X.xe) (hc:X.calm=true) (hi:PI X tg iter wi) (hg:PG X tg g) (hb:PSs X body tb)
  (hs:∀ x,foldedSetIterable iter X.env x=pure x:=by intro _;rfl):PS X (.For tg iter body [] pos) (qkj wi g tb):=by
 intro pins s σ H D I h;refine wpAny_For (thn (hi pins s σ H _ I h) fun v s1 h1=>thn h1 fun itv s2 h2=>?_) hs;obtain ⟨it,fp,tn,J,H2,e,I2,T,st2,f2,W,⟨m0,w0⟩,turn⟩:=h2;subst e;have stat:∀ {H':Hp},(∀ b∈fp,H' b=none)->∀ b∈fp,Zm X pins H' b:=fun hn b hb=>⟨hn b hb,(f2 b hb).2⟩;refine codeAny_forLoop_any (fun n s'=>∃ i σ' H',Inv X pins σ' H' s'/\tn i s'.heap/\(∀ b∈fp,H' b=none)/\W i n σ' H') ?_ m0 ⟨0,σ,H2,I2,st2,fun b hb=>(f2 b hb).1,w0⟩;rintro n s3 ⟨i,σ3,H3,I3,st3,fr3,w3⟩;rcases turn i n σ3 H3 w3 with ⟨stop,qn⟩ | ⟨go,N,hN,step⟩
 ·refine wpAny_passesOwn hp (thn (T.done X rfl rfl rfl hc i pins s3 σ3 H3 X.xe I3 (stat fr3) st3 stop) fun r s4 hq1=>?_);obtain ⟨hr,I4⟩:=hq1;subst hr;exact wpAny_execs_nil ⟨σ3,H3,I4,qn⟩
 ·refine wpAny_passesOwn hp (thn (T.item X rfl rfl rfl hc i pins s3 σ3 H3 X.xe I3 (stat fr3) st3 go) fun r s4 hq1=>?_);obtain ⟨u,hr,h4⟩:=hq1;subst hr;refine wpAny_passesOwn hp (thn h4 fun _ s5 hq1=>?_);obtain ⟨x,H5,I5,r5,y5,st5,fr5⟩:=hq1;have I5':=I5.pinned (stat fr5) (T.obj _ _ st5);refine wpAny_passesOwn hp (thn (hg _ s5 σ3 H5 x u _ I5' r5 (step x H5 y5)) fun _ s6 hq1=>?_);obtain ⟨σ6,H6,I6,q6⟩:=hq1;refine wpAny_passesOwn hp (thn (hb _ s6 σ6 H6 _ I6 q6) fun f s7 q7=>?_)
  have again:∀ {σ7:St} {H7:Hp},Inv X (pins++Yb fp s5.heap) σ7 H7 s7->N σ7 H7->∃ m,m < n/\∃ i σ' H',Inv X pins σ' H' s7/\tn i s7.heap/\(∀ b∈fp,H' b=none)/\W i m σ' H':=fun {σ7 H7} I7 n7=>by obtain ⟨m',hm,w7⟩:=hN σ7 H7 n7;refine ⟨m',hm,i+1,σ7,H7,I7.unpinned,T.keep _ _ _ st5 fun b hb o e=>(I7.pin (b,o) (List.mem_append_right _ (List.mem_append_right _ (jp hb e)))).1,fun b hb=>?_,w7⟩;obtain ⟨o,e,d⟩:=T.obj _ _ st5 b hb;exact (I7.pin (b,o) (List.mem_append_right _ (List.mem_append_right _ (jp hb e)))).2.1
  cases f with
  | next=>obtain ⟨σ7,H7,I7,n7⟩:=q7;exact again I7 n7
  | cont=>obtain ⟨σ7,H7,I7,n7⟩:=q7;exact again I7 n7
  | brk=>obtain ⟨σ7,H7,I7,q7⟩:=q7;exact ⟨σ7,H7,I7.unpinned,q7⟩
  | ret v=>obtain ⟨x7,σ7,H7,I7,r7,q7⟩:=q7;exact ⟨x7,σ7,H7,I7.unpinned,r7,q7⟩
end
end L2
namespace L2
open PySem PySem.Spec PyProof.Rows
abbrev R2:=V->V->Hp->VK->Prop
noncomputable def OpR (X:Cx) (f:Value->Value->Sem Value) (r:R2):Prop:=
 ∀ (pins:PP) (s:Shared) (σ:St) (H:Hp) (x y:V) (v u:Value) (Q:VK),Inv X pins σ H s->qJ x v->qJ y u->r x y H Q->
  wpAny (model X.prog X.w) X.A (f v u) (EP X pins σ Q) X.xe s
noncomputable def UnR (X:Cx) (f:Value->Sem Value) (r:V->Hp->VK->Prop):Prop:=
 ∀ (pins:PP) (s:Shared) (σ:St) (H:Hp) (x:V) (v:Value) (Q:VK),Inv X pins σ H s->qJ x v->r x H Q->
  wpAny (model X.prog X.w) X.A (f v) (EP X pins σ Q) X.xe s
noncomputable def qY (X:Cx) (f:Value) (r:List V->Hp->VK->Prop):Prop:=
 ∀ (pins:PP) (s:Shared) (σ:St) (H:Hp) (xs:List V) (us:List Value) (Q:VK),Inv X pins σ H s->qD xs us->r xs H Q->
  wpAny (model X.prog X.w) X.A (call f us) (EP X pins σ Q) X.xe s
noncomputable def qkk (X:Cx) (r:V->Hp->(Bool->Hp->Prop)->Prop):Prop:=
 ∀ (pins:PP) (s:Shared) (σ:St) (H:Hp) (x:V) (v:Value) (Q:Bool->Hp->Prop),Inv X pins σ H s->qJ x v->r x H Q->
  wpAny (model X.prog X.w) X.A (truthy v) (TP X pins σ Q) X.xe s
def tOp (r:R2) (ta tb:TE):TE:=fun σ H Q=>ta σ H fun x H1=>tb σ H1 fun y H2=>r x y H2 Q
def tUn (r:V->Hp->VK->Prop) (ta:TE):TE:=fun σ H Q=>ta σ H fun x H1=>r x H1 Q
noncomputable def rI (C:Int->Int->Prop) (g:Int->Int->V):R2:=fun x y H Q=>∃ i j,x=.int i/\y=.int j/\C i j/\Q (g i j) H
def rI0 (g:Int->Int->V):R2:=fun x y H Q=>∃ i j,x=.int i/\y=.int j/\Q (g i j) H
def rU (g:Int->V):V->Hp->VK->Prop:=fun x H Q=>∃ i,x=.int i/\Q (g i) H
section
variable {X:Cx} {a b c:Expr} {ta tb tc:TE} {pos:Pos}
theorem qiT (ha:PE X a ta) (hb:PE X b tb) {pins:PP} {s:Shared} {σ:St} {H:Hp} {R:V->V->Hp->Prop} (I:Inv X pins σ H s)
  (h:ta σ H fun x H1=>tb σ H1 fun y H2=>R x y H2) {Q:PQ} {f:Value->Value->Sem Value}
  (hf:∀ v u s2 x y H2,Inv X pins σ H2 s2->qJ x v->qJ y u->R x y H2->wpAny (model X.prog X.w) X.A (f v u) Q X.xe s2) :
  wpAny (model X.prog X.w) X.A (eval a X.env) (fun v s₁=>wpAny (model X.prog X.w) X.A (eval b X.env) (fun u s₂=>wpAny (model X.prog X.w) X.A (f v u) Q X.xe s₂) X.xe s₁) X.xe s:=by
 refine thn (ha pins s σ H _ I h) fun v s1 hq1=>?_;obtain ⟨x,H1,I1,r1,q1⟩:=hq1;refine thn (hb pins s1 σ H1 _ I1 q1) fun u s2 hq1=>?_;obtain ⟨y,H2,I2,r2,q2⟩:=hq1;exact hf v u s2 x y H2 I2 r1 r2 q2
theorem qiU {op:Operator} {r:R2} (ho:OpR X (binaryOp op) r) (ha:PE X a ta) (hb:PE X b tb):PE X (.BinOp a op b pos) (tOp r ta tb):=by intro pins s σ H Q I h;exact wpAny_BinOp (qiT ha hb I h fun v u s2 x y H2 I2 rx ry q=>ho pins s2 σ H2 x y v u Q I2 rx ry q)
theorem qiV {op:UnaryOp} {r:V->Hp->VK->Prop} (ho:UnR X (unaryOp op) r) (ha:PE X a ta):PE X (.UnaryOp op a pos) (tUn r ta):=by intro pins s σ H Q I h;exact UnaryOp_ (thn (ha pins s σ H _ I h) fun v s1 ⟨x,H1,I1,r1,q1⟩=>ho pins s1 σ H1 x v Q I1 r1 q1)
theorem opI {f:Value->Value->Sem Value} {C:Int->Int->Prop} {g:Int->Int->Int}
  (rule:∀ (i j:Int) (t u:Tok) (s:Shared) (Q:PQ) (E:PQ),C i j->Q (.int (g i j) s.toks) { s with toks:=s.toks+1 }->wpAny (model X.prog X.w) X.A (f (.int i t) (.int j u)) Q E s) :
  OpR X f (rI C fun i j=>.int (g i j)):=by
 intro pins s σ H x y v u Q I rx ry h;obtain ⟨i,j,rfl,rfl,hc,q⟩:=h;obtain ⟨t,rfl⟩:=rx;obtain ⟨t',rfl⟩:=ry;exact rule i j t t' s _ _ hc ⟨.int (g i j),H,I.tok _,⟨_,rfl⟩,q⟩
theorem qjP {f:Value->Value->Sem Value} {g:Int->Int->Int}
  (rule:∀ (i j:Int) (t u:Tok) (s:Shared) (Q:PQ) (E:PQ),Q (.int (g i j) s.toks) { s with toks:=s.toks+1 }->wpAny (model X.prog X.w) X.A (f (.int i t) (.int j u)) Q E s) :
  OpR X f (rI0 fun i j=>.int (g i j)):=by
 intro pins s σ H x y v u Q I rx ry h;obtain ⟨i,j,rfl,rfl,q⟩:=h;obtain ⟨t,rfl⟩:=rx;obtain ⟨t',rfl⟩:=ry;exact rule i j t t' s _ _ ⟨.int (g i j),H,I.tok _,⟨_,rfl⟩,q⟩
theorem qiw {f:Value->Value->Sem Value} {g:Int->Int->Bool}
  (rule:∀ (i j:Int) (t u:Tok) (s:Shared) (Q:PQ) (E:PQ),Q (.bool (g i j)) s->wpAny (model X.prog X.w) X.A (f (.int i t) (.int j u)) Q E s) :
  OpR X f (rI0 fun i j=>.bl (g i j)):=by
 intro pins s σ H x y v u Q I rx ry h;obtain ⟨i,j,rfl,rfl,q⟩:=h;obtain ⟨t,rfl⟩:=rx;obtain ⟨t',rfl⟩:=ry;exact rule i j t t' s _ _ ⟨.bl (g i j),H,I,rfl,q⟩
def qkl (i j:Int):Prop:=0 < j/\j < 1073741824
def qkm (i j:Int):Prop:=0<=j/\j<=1000000/\i.natAbs < 2 ^ 64
def qix (i j:Int):Prop:=(-(2 ^ 64) < i/\i < 2 ^ 64)\/(-(2 ^ 64) < j/\j < 2 ^ 64)
theorem qix.ok {i j:Int} (h:qix i j):IntMulOk i j:=by
 rcases h with ⟨h1,h2⟩ | ⟨h1,h2⟩
 ·exact .of_left (intBits_le_64 h1 h2)
 ·exact .of_right (intBits_le_64 h1 h2)
theorem qf5:OpR X (binaryOp .Add) (rI0 fun i j=>.int (i+j)):=qjP fun _ _ _ _ _ _ _ q=>add_int q
theorem qf6:OpR X (binaryOp .Sub) (rI0 fun i j=>.int (i - j)):=qjP fun _ _ _ _ _ _ _ q=>sub_int q
theorem qf7:OpR X (binaryOp .Mult) (rI qix fun i j=>.int (i * j)):=opI fun _ _ _ _ _ _ _ hc q=>mul_int q hc.ok
theorem qd4:OpR X (binaryOp .FloorDiv) (rI qkl fun i j=>.int (i / j)):=opI fun i j _ _ _ _ _ hc q=>by have h1:(0:Int) < j:=hc.1;have h2:j < 1073741824:=hc.2;exact floordiv_int (1:) (by rw [Int.fdiv_eq_ediv_of_nonneg i (1:)];exact q) (.inl (PyProof.noPylong_small (1:)))
theorem qf8:OpR X (binaryOp .Mod) (rI (fun _ j=>0 < j) fun i j=>.int (i % j)):=opI fun i j _ _ _ _ _ hc q=>by have h1:(0:Int) < j:=hc;exact mod_int' (1:) (by rw [Int.fmod_eq_emod_of_nonneg i (1:)];exact q)
theorem qf9:OpR X (binaryOp .Pow) (rI qkm fun i j=>.int (i ^ j.toNat)):=opI fun _ _ _ _ _ _ _ hc q=>pow_int_small hc.1 hc.2.1 hc.2.2 q
theorem unI {f:Value->Sem Value} {g:Int->Int}
  (rule:∀ (i:Int) (t:Tok) (s:Shared) (Q:PQ) (E:PQ),Q (.int (g i) s.toks) { s with toks:=s.toks+1 }->wpAny (model X.prog X.w) X.A (f (.int i t)) Q E s) :
  UnR X f (rU fun i=>.int (g i)):=by
 intro pins s σ H x v Q I rx h;obtain ⟨i,rfl,q⟩:=h;obtain ⟨t,rfl⟩:=rx;exact rule i t s _ _ ⟨.int (g i),H,I.tok _,⟨_,rfl⟩,q⟩
theorem qga:UnR X (unaryOp .USub) (rU fun i=>.int (-i)):=unI fun _ _ _ _ _ q=>neg_int q
end
section
variable {X:Cx} {a b c:Expr} {ta tb tc:TE} {pos:Pos}
theorem QN {pins:PP} {σ:St} {H:Hp} {s:Shared} {Q:VK} {k k':Bool} (I:Inv X pins σ H s) (q:Q (.bl k) H) (e:k=k'):EP X pins σ Q (.bool k') s:=by subst e;exact ⟨.bl k,H,I,rfl,q⟩
theorem qiW:OpR X (compareOp .Lt) (rI0 fun i j=>.bl (decide (i < j))):=qiw fun _ _ _ _ _ _ _ q=>lt_int q
theorem qiX:OpR X (compareOp .LtE) (rI0 fun i j=>.bl (decide (i<=j))):=qiw fun _ _ _ _ _ _ _ q=>le_int q
theorem qiY:OpR X (compareOp .Gt) (rI0 fun i j=>.bl (decide (j < i))):=qiw fun _ _ _ _ _ _ _ q=>gt_int q
theorem qiZ:OpR X (compareOp .GtE) (rI0 fun i j=>.bl (decide (j<=i))):=qiw fun _ _ _ _ _ _ _ q=>ge_int q
theorem qaf:OpR X (compareOp .In) (fun x y H Q=>∃ i j,x=.str i/\y=.str j/\Q (.bl (!(Builtin.Str.occurrences j i 0 j.length 1).isEmpty)) H):=by intro pins s σ H x y v u Q I rx ry h;obtain ⟨i,j,rfl,rfl,q⟩:=h;obtain ⟨t,rfl⟩:=rx;obtain ⟨t',rfl⟩:=ry;exact in_str (QN I q rfl)
theorem qgb:OpR X (compareOp .Is) (fun x y H Q=>y=.non/\Q (.bl (decide (x=.non))) H):=by
 intro pins s σ H x y v u Q I rx ry h;obtain ⟨rfl,q⟩:=h;cases ry;refine is_none_gen (QN I q ?_)
 cases x<;>first
  | (cases rx;rfl)
  | (obtain ⟨t,rfl⟩:=rx;rfl)
theorem qd5:OpR X (compareOp .IsNot) (fun x y H Q=>y=.non/\Q (.bl (!decide (x=.non))) H):=by
 intro pins s σ H x y v u Q I rx ry h;obtain ⟨rfl,q⟩:=h;cases ry;refine isnot_none_gen (QN I q ?_)
 cases x<;>first
  | (cases rx;rfl)
  | (obtain ⟨t,rfl⟩:=rx;rfl)
theorem Yc:OpR X (compareOp .NotIn) (fun x y H Q=>∃ i j,x=.str i/\y=.str j/\Q (.bl (!(!(Builtin.Str.occurrences j i 0 j.length 1).isEmpty))) H):=by intro pins s σ H x y v u Q I rx ry h;obtain ⟨i,j,rfl,rfl,q⟩:=h;obtain ⟨t,rfl⟩:=rx;obtain ⟨t',rfl⟩:=ry;exact notIn_str (QN I q rfl)
theorem qd6 {op:CmpOp} {r:R2} (ho:OpR X (compareOp op) r) (ha:PE X a ta) (hb:PE X b tb) (hm:behindInMarks op b=false):PE X (.Compare a [op] [b] pos) (tOp r ta tb):=by intro pins s σ H Q I h;exact wpAny_Compare1 (qiT ha hb I h fun v u s2 x y H2 I2 rx ry q=>ho pins s2 σ H2 x y v u Q I2 rx ry q) hm
def qgc (t:TE):TT:=fun σ H Q=>t σ H fun x H'=>∃ k,x=.bl k/\Q k H'
theorem qag {op:CmpOp} {r:R2} (ho:OpR X (compareOp op) r) (ha:PE X a ta) (hb:PE X b tb) (hm:behindInMarks op b=false):PT X (.Compare a [op] [b] pos) (qgc (tOp r ta tb)):=by
 intro pins s σ H Q I h
 refine wpAny_isTrue_Compare1 (thn (ha pins s σ H _ I h) fun v s1 ⟨x,H1,I1,r1,q1⟩=>thn (hb pins s1 σ H1 _ I1 q1) fun u s2 ⟨y,H2,I2,r2,q2⟩=>thn (ho pins s2 σ H2 x y v u _ I2 r1 r2 q2) fun c s3 ⟨z,H3,I3,r3,k,e,q3⟩=>?_) hm
 subst e;cases r3;exact wpAny_truthy_bool ⟨H3,I3,q3⟩
noncomputable def qgd (r r':R2) (ta tb tc:TE):TE:=fun σ H Q=>ta σ H fun x H1=>tb σ H1 fun y H2=>r x y H2 fun z H3=>∃ k,z=.bl k/\
 (if k=true then tc σ H3 fun w' H4=>r' y w' H4 Q else Q (.bl false) H3)
theorem qbU {op op':CmpOp} {r r':R2} (ho:OpR X (compareOp op) r) (ho':OpR X (compareOp op') r') (ha:PE X a ta) (hb:PE X b tb) (hc:PE X c tc)
  (hm:lastMarks [op,op'] [b,c]=false:=by with_unfolding_all rfl):PT X (.Compare a [op,op'] [b,c] pos) (qgc (qgd r r' ta tb tc)):=by
 intro pins s σ H Q I h
 refine isTrue_chain (thn (ha pins s σ H _ I h) fun v s1 ⟨x,H1,I1,r1,q1⟩=>test_link (thn (hb pins s1 σ H1 _ I1 q1) fun u s2 ⟨y,H2,I2,r2,q2⟩=>thn (ho pins s2 σ H2 x y v u _ I2 r1 r2 q2) fun d s3 ⟨z,H3,I3,r3,k,e,q3⟩=>?_)) hm
 subst e;cases r3;refine wpAny_truthy_bool ?_
 cases k with
 | false=>obtain ⟨k',e',q'⟩:=q3;cases e';exact ite_ff ⟨H3,I3,q'⟩
 | true=>refine ite_tt (test_last (thn (hc pins s3 σ H3 _ I3 q3) fun w' s4 ⟨z',H4,I4,r4,q4⟩=>thn (ho' pins s4 σ H4 y z' u w' _ I4 r2 r4 q4) fun d' s5 hq1=>?_));obtain ⟨z2,H5,I5,r5,k2,e2,q5⟩:=hq1;subst e2;cases r5;exact wpAny_truthy_bool ⟨H5,I5,q5⟩
noncomputable def qiy (K:Frag) (x:V) (H:Hp) (k:Bool):Prop:=
 match x with
 | .non=>k=false
 | .bl b=>k=b
 | .int i=>k=(i != 0)
 | .str y=>y.length<=sizeLine/\k=((y.length:Int) != 0)
 | .byt y=>y.size<=sizeLine/\k=((y.size:Int) != 0)
 | .ref p=>(∃ xs,SqL K H p xs/\k = !xs.isEmpty)\/(∃ xs,SqT K H p xs/\k = !xs.isEmpty)\/∃ kvs,H p=some (.dK kvs)/\k = !kvs.isEmpty
 | _=>False
theorem Zq {κ:Type} {kvs:List (κ×V)} {vs:List (κ×Value)} (r:KV kvs vs):(!vs.isEmpty) = !kvs.isEmpty:=by cases r<;>rfl
theorem Jh {xs:List V} {its:List Value} (r:qD xs its):(!its.toArray.isEmpty) = !xs.isEmpty:=by cases r<;>simp
theorem yB:(sizeLine:Nat) < 2 ^ 63:=by rw [sizeLine_eq];decide
theorem qge:qkk X (fun x H Q=>∃ k,qiy X.K x H k/\Q k H):=by
 intro pins s σ H x v Q I rx h;obtain ⟨k,e,q⟩:=h;have hl:=yB;have hs:sizeLine=16777216:=sizeLine_eq
 cases x with
 | non=>cases rx;have e':k=false:=e;subst e';exact truthy_none ⟨H,I,q⟩
 | bl b=>cases rx;have e':k=b:=e;subst e';exact wpAny_truthy_bool ⟨H,I,q⟩
 | int i=>obtain ⟨t,rfl⟩:=rx;have e':k=(i != 0):=e;subst e';exact PySem.P.truthy_int ⟨H,I,q⟩
 | str y=>obtain ⟨t,rfl⟩:=rx;obtain ⟨hy,e'⟩:y.length<=sizeLine/\k=((y.length:Int) != 0):=e;subst e';exact PySem.P.truthy_str (1:) ⟨H,I.tok _,q⟩
 | byt y=>obtain ⟨t,rfl⟩:=rx;obtain ⟨hy,e'⟩:y.size<=sizeLine/\k=((y.size:Int) != 0):=e;subst e';exact PySem.W.truthy_bytes (1:) ⟨H,I.tok _,q⟩
 | ref p=>
  cases rx;have e':(∃ xs,SqL X.K H p xs/\k = !xs.isEmpty)\/(∃ xs,SqT X.K H p xs/\k = !xs.isEmpty)\/∃ kvs,H p=some (.dK kvs)/\k = !kvs.isEmpty:=e;rcases e' with ⟨xs,hx,e'⟩ | ⟨xs,hx,e'⟩ | ⟨kvs,hx,e'⟩
  ·subst e';obtain ⟨its,r,pl,hz⟩:=I.list hx;have hlen:=r.length;exact wpAny_truthy_list pl.isList (by simp only [List.size_toArray];omega) ⟨H,I.tok _,by rw [Jh r];exact q⟩
  ·subst e';obtain ⟨its,r,pl,hz⟩:=I.tuple hx;have hlen:=r.length;exact truthy_tuple pl (by simp only [List.size_toArray];omega) ⟨H,I.tok _,by rw [Jh r];exact q⟩
  ·subst e';obtain ⟨hz,hS,vs,r,m⟩:kvs.length<=sizeLine/\(p == sysModules)=false/\∃ vs,KV kvs vs/\s.heap.DictOf (qx X.prog X.w) p vs:=I.hok p _ hx;have hlen:kvs.length=vs.length:=Paired.length r;exact wpAny_truthy_dict hS m (1:) ⟨H,I.tok _,by rw [Zq r];exact q⟩
 | _=>exact (show False from e).elim
theorem qbV (ha:PE X a ta) (he:∀ whole,isTrue a X.env whole=(do let v<-whole;standAt a.pos;holding [v] (truthy v))) :
  PT X a (fun σ H Q=>ta σ H fun x H'=>∃ k,qiy X.K x H' k/\Q k H'):=by
 intro pins s σ H Q I h;exact isTrue_plain (thn (ha pins s σ H _ I h) fun v s1 ⟨x,H1,I1,r1,q1⟩=>qge pins s1 σ H1 x v Q I1 r1 q1) (he _)
theorem Zr:OpR X (binaryOp .Add) (fun x y H Q=>∃ i j,x=.str i/\y=.str j/\i.length+j.length<=sizeLine/\Q (.str (i++j)) H):=by intro pins s σ H x y v u Q I rx ry h;obtain ⟨i,j,rfl,rfl,hz,q⟩:=h;obtain ⟨t,rfl⟩:=rx;obtain ⟨t',rfl⟩:=ry;exact add_str (fun t' tk=>⟨.str (i++j),H,I.tok _,⟨_,rfl⟩,q⟩) hz
theorem jM {x:V} {us:List Value} (r:qD [x] us):∃ u,us=[u]/\qJ x u:=by
 cases r with
 | cons r1 r2=>cases r2;exact ⟨_,rfl,r1⟩
theorem Yd {x y:V} {us:List Value} (r:qD [x,y] us):∃ u w',us=[u,w']/\qJ x u/\qJ y w':=by
 cases r with
 | cons r1 r2=>
  cases r2 with
  | cons r3 r4=>cases r4;exact ⟨_,_,rfl,r1,r3⟩
theorem qah (hc:X.calm=true):qY X (.builtin "max") (fun xs H Q=>∃ i j,xs=[.int i,.int j]/\Q (.int (if j > i then j else i)) H):=by
 intro pins s σ H xs us Q I r h;obtain ⟨i,j,rfl,q⟩:=h;obtain ⟨u,w',rfl,⟨t,rfl⟩,⟨t',rfl⟩⟩:=Yd r;refine max_two_ints (I.ok.hd hc) fun h' tk k=>⟨_,H,I.kept k,?_,q⟩
 by_cases hj:j > i
 ·rw [if_pos hj,if_pos hj];exact ⟨_,rfl⟩
 ·rw [if_neg hj,if_neg hj];exact ⟨_,rfl⟩
theorem qai (hc:X.calm=true):qY X (.builtin "min") (fun xs H Q=>∃ i j,xs=[.int i,.int j]/\Q (.int (if j < i then j else i)) H):=by
 intro pins s σ H xs us Q I r h;obtain ⟨i,j,rfl,q⟩:=h;obtain ⟨u,w',rfl,⟨t,rfl⟩,⟨t',rfl⟩⟩:=Yd r;refine min_two_ints (I.ok.hd hc) fun h' tk k=>⟨_,H,I.kept k,?_,q⟩
 by_cases hj:j < i
 ·rw [if_pos hj,if_pos hj];exact ⟨_,rfl⟩
 ·rw [if_neg hj,if_neg hj];exact ⟨_,rfl⟩
theorem Ye:qY X (.type "int") (fun xs H Q=>(∃ i,xs=[.int i]/\Q (.int i) H)\/∃ k,xs=[.bl k]/\Q (.int (if k then 1 else 0)) H):=by
 intro pins s σ H xs us Q I r h;rcases h with ⟨i,rfl,q⟩ | ⟨k,rfl,q⟩
 ·obtain ⟨u,rfl,t,rfl⟩:=jM r;exact call_int_int ⟨.int i,H,I,⟨_,rfl⟩,q⟩
 ·obtain ⟨u,rfl,r1⟩:=jM r;cases r1;exact call_int_bool ⟨.int (if k then 1 else 0),H,I.tok _,⟨_,rfl⟩,q⟩
end
end L2
namespace L2
open PySem PySem.Spec PyProof.Rows
structure ObjM (h:Heap) (x dx C:Addr) (mA:PR):Prop where
 obj:h.get? x=some (PySem.W.instObj C dx)
 ns:h.Ns1 dx mA
 ne:dx≠x
theorem qaj {h:Heap} {dx:Addr} {mA:PR} (n:h.Ns1 dx mA):∃ od,h.get? dx=some od/\∀ name,PySem.W.lookIn name od=some (mA name):=by
 obtain ⟨o,es,ep,ho,hd,hk,_,hm⟩:=n;refine ⟨o,ho,fun name=>?_⟩;have e:=hm name;unfold nsFind findBy at e;rw [<-Array.find?_toList] at e;unfold PySem.W.lookIn;rw [hd];dsimp only;split
 ·rename_i y q;rw [q] at e;exact congrArg some e
 ·rename_i q;rw [q] at e
  have a:es.toList.any (·.refKey)=false:=by rw [List.any_eq_false];intro y hy;obtain ⟨z,t,hkey⟩:=hk y (Array.mem_toList_iff.mp hy);simp [DictEntry.refKey,hkey]
  have a':¬ es.toList.any (·.refKey)=true:=by rw [a];exact Bool.false_ne_true
  rw [if_neg a'];exact congrArg some e
theorem ObjM.look {h:Heap} {x dx C:Addr} {mA:PR} (I:ObjM h x dx C mA):∃ od,PySem.W.InstAt h x (PySem.W.instObj C dx) C (some od)/\∀ name,PySem.W.lookIn name od=some (mA name):=
 let ⟨od,ho,hl⟩:=qaj I.ns
 ⟨od,⟨I.obj,rfl,rfl,ho⟩,hl⟩
section
variable {prog:Program} {w:World} {A:Around} {E:PQ} {s:Shared} {K:Frag} {x dx C f:Addr} {mA:PR} {name:Str} {v:Value}
theorem qd7 {expr:Bool} {Q:PQ} (X:K.In s.heap) (I:ObjM s.heap x dx C mA) (hg:PySem.W.plainGet K C name=true) (hh:PySem.W.hasDictIn K C=true)
  (ha:PySem.W.findIn K (.ref C) name=some none) (hv:mA name=some v) (hv':PySem.W.handedIn v=true) (h:Q v { s with toks:=s.toks+1 }) :
  wpAny (model prog w) A (getAttr (.ref x) name expr) Q E s:=by
 obtain ⟨od,J,hl⟩:=I.look;exact PySem.W.get_value X J (PySem.W.plainGet_of hg).1 (PySem.W.findObj_own hh ha rfl (by rw [hl,hv])) hv' h
theorem qbW {pl:Sem Bool} {Q:Value×List Value->Shared->Prop} (X:K.In s.heap) (I:ObjM s.heap x dx C mA) (hg:PySem.W.plainGet K C name=true)
  (hf:PySem.W.findIn K (.ref C) name=some (some (.ref f))) (ht:PySem.W.isFn K (.ref f)=true) (hv:mA name=none) (h:Q (.ref f,[.ref x]) s) :
  wpAny (model prog w) A (getMethod (.ref x) name pl) Q E s:=by
 obtain ⟨od,J,hl⟩:=I.look;exact PySem.W.method_fn X J (PySem.W.plainGet_of hg).1 (PySem.W.plainGet_of hg).2 hf (beq_iff_eq.mp ht) (by show (PySem.W.lookIn name od).map (·.isSome)=some false;rw [hl,hv];rfl) h
theorem qd8 {ns:List Str} {Q:Unit->Shared->Prop} (X:K.In s.heap) (I:ObjM s.heap x dx C mA)
  (hs:PySem.W.findIn K (.ref C) "__setattr__" = some (some (.builtin "object.__setattr__"))) (hp:PySem.W.plainOver K C=true) (ht:PySem.W.takerIn K C name=some none) (hh:PySem.W.hasDictIn K C=true)
  (hw:PySem.Within mA ns) (hsz:ns.length<=sizeLine)
  (h:∀ h',ObjM h' x dx C (fun y=>if y=name then some v else mA y)->Heap.SameBut dx s.heap h'->Q () { s with heap:=h',toks:=s.toks+2 }) :
  wpAny (model prog w) A (setAttr (.ref x) name v) Q E s:=by
 obtain ⟨od,J,hl⟩:=I.look;refine PySem.W.set_plain X J hs (PySem.W.osa_open (s:={ s with toks:=s.toks+1 }) (r:=none) X J hp ht fun b=>?_);obtain ⟨cd,hc,hd'⟩:=PySem.W.any_some hh;have hx:s.heap.get? x=some ⟨.ref C,some dx,.plain,#[]⟩:=I.obj;refine wpAny_bind (wpAny_pure (wpAny_bind (wpAny_bind (wpAny_loadPart hx (wpAny_bind (PySem.W.Looks.here (s:={ s with toks:=s.toks+1 }) (PySem.W.looks_clsIn X hc) ?_))))));rw [hd'];refine wpAny_pure (a:=some dx) (wpAny_bind (wpAny_pure (wpAny_bind ?_)));refine wpAny_nsSet1 (s:={ s with toks:=s.toks+1 }) I.ns fun h' hn2 hs2=>?_;obtain ⟨oD,esD,epD,hoD,hdD,hcD⟩:=hn2.count (PySem.Within.cons name v hw);refine wpAny_bind (wpAny_lookBehind hoD (by rw [hdD];exact pastItsLine_dict (Nat.le_trans hcD (by rw [List.length_cons];omega))) ?_);exact wpAny_pure (h _ ⟨(hs2.2 _ (Ne.symm I.ne)).trans I.obj,hn2,I.ne⟩ hs2)
theorem qbX {R:Result->Shared->Prop} {vs:List Value} {kw:List (Str×Value)} (X:K.In s.heap) (hm:PySem.W.makesIn K C=true)
  (hi:PySem.W.findIn K (.ref C) "__init__" = some (some (.ref f))) (hf:PySem.W.typeIn K (.ref f)=some (.type "function"))
  (h:codeAny (model prog w) (A.under (.builtin "type.__call__" ⟨.ref C::vs,kw⟩)) (.call (.ref f) ⟨.ref (s.heap.objs.size+1)::vs,kw⟩) (PySem.W.InitBack (s.heap.objs.size+1) R)
   { s with heap:=(s.heap.push PySem.W.emptyDict).push (PySem.W.instObj C s.heap.objs.size) }) :
  codeAny (model prog w) A (.call (.ref C) ⟨vs,kw⟩) R s:=by
 obtain ⟨hh,g,d,t,os⟩:=s;exact PySem.W.make_core (PySem.W.makes_of X hm) (PySem.W.looks_findIn X hi) (fun self=>PySem.W.bind_fn X self hf) (.inl rfl) h
end
noncomputable def Y4 (f:Str) (v:V):List (Str×V)->List (Str×V)
 | []=>[(f,v)]
 | (g,x)::r=>if g=f then (g,v)::r else (g,x)::Y4 f v r
theorem yC (f g:Str) (v:V):∀ fs:List (Str×V),(Y4 f v fs).lookup g=if g=f then some v else fs.lookup g
 | []=>by
  show List.lookup g [(f,v)]=_
  by_cases h:g=f
  ·have hb:(g == f)=true:=beq_iff_eq.mpr h;simp only [List.lookup,hb,if_pos h]
  ·have hb:(g == f)=false:=beq_eq_false_iff_ne.mpr h;simp only [List.lookup,hb,if_neg h]
 | (k,x)::r=>by
  have ih:=yC f g v r;rw [show Y4 f v ((k,x)::r)=(if k=f then (k,v)::r else (k,x)::Y4 f v r) from rfl]
  by_cases hk:k=f
  ·rw [if_pos hk]
   by_cases h:g=k
   ·have hb:(g == k)=true:=beq_iff_eq.mpr h;simp only [List.lookup,hb,if_pos (h.trans hk)]
   ·have hb:(g == k)=false:=beq_eq_false_iff_ne.mpr h;simp only [List.lookup,hb,if_neg (fun e:g=f=>h (e.trans hk.symm))]
  ·rw [if_neg hk]
   by_cases h:g=k
   ·have hb:(g == k)=true:=beq_iff_eq.mpr h;simp only [List.lookup,hb,if_neg (fun e:g=f=>hk (h.symm.trans e))]
   ·have hb:(g == k)=false:=beq_eq_false_iff_ne.mpr h;simp only [List.lookup,hb];exact ih
theorem yD (f:Str) (v:V):∀ fs:List (Str×V),f∈(Y4 f v fs).map (·.1)/\∀ g,g∈fs.map (·.1)->g∈(Y4 f v fs).map (·.1)
 | []=>⟨by simp [Y4],fun g h=>by simp at h⟩
 | (k,x)::r=>by
  obtain ⟨i1,i2⟩:=yD f v r;rw [show Y4 f v ((k,x)::r)=(if k=f then (k,v)::r else (k,x)::Y4 f v r) from rfl]
  by_cases hk:k=f
  ·rw [if_pos hk];subst hk;exact ⟨by simp,fun g h=>by simpa using h⟩
  ·rw [if_neg hk];refine ⟨?_,fun g h=>?_⟩
   ·rw [List.map_cons];exact List.mem_cons_of_mem _ i1
   ·rw [List.map_cons] at h ⊢;rcases List.mem_cons.mp h with e | e
    ·exact List.mem_cons.mpr (.inl e)
    ·exact List.mem_cons_of_mem _ (i2 g e)
theorem yE (f:Str) (v:V):∀ fs:List (Str×V),(Y4 f v fs).length<=fs.length+1
 | []=>by simp [Y4]
 | (k,x)::r=>by
  have ih:=yE f v r;rw [show Y4 f v ((k,x)::r)=(if k=f then (k,v)::r else (k,x)::Y4 f v r) from rfl]
  by_cases hk:k=f
  ·rw [if_pos hk,List.length_cons,List.length_cons];omega
  ·rw [if_neg hk,List.length_cons,List.length_cons];omega
theorem QJ.some_of {v:V} {o:Option Value} (r:QJ (some v) o):∃ u,o=some u/\qJ v u:=by
 cases o with
 | none=>exact (show False from r).elim
 | some u=>exact ⟨u,rfl,r⟩
theorem QJ.none_of {o:Option Value} (r:QJ none o):o=none:=by
 cases o with
 | none=>rfl
 | some u=>exact (show False from r).elim
theorem qak {v:V} {u:Value} (r:qJ v u):PySem.W.handedIn u=true:=by
 cases v with
 | non=>cases (show u=Value.none from r);rfl
 | bl b=>cases (show u=Value.bool b from r);rfl
 | int i=>obtain ⟨t,e⟩:=(show ∃ t,u=Value.int i t from r);cases e;rfl
 | str x=>obtain ⟨t,e⟩:=(show ∃ t,u=Value.str x t from r);cases e;rfl
 | byt b=>obtain ⟨t,e⟩:=(show ∃ t,u=Value.bytes b t from r);cases e;rfl
 | flt b=>obtain ⟨t,e⟩:=(show ∃ t,u=Value.float b t from r);cases e;rfl
 | ref a=>cases (show u=Value.ref a from r);rfl
 | ty n=>cases (show u=Value.type n from r);rfl
section
variable {P:Program} {w:World} {H H':Hp} {h h':Heap} {a C dx:Addr} {fs fs':List (Str×V)}
theorem JC (hok:HOk P w H h) (e:H a=some (.ins C dx fs)):∃ mA,ObjM h a dx C mA/\(∀ f,QJ (fs.lookup f) (mA f))/\PySem.Within mA (fs.map (·.1))/\fs.length<=1000/\H dx=some (.own a):=by obtain ⟨d,z,ne,ob,mA,n,r,q⟩:=(show qK P w H h a (.ins C dx fs) from hok a _ e);exact ⟨mA,⟨ob,n,ne⟩,r,q,z,d⟩
end
structure Cls (K:Frag) (C:Addr):Prop where
 pg:PySem.W.plainGet K C Str.empty=true
 hd:PySem.W.hasDictIn K C=true
 po:PySem.W.plainOver K C=true
 sa:PySem.W.findIn K (.ref C) "__setattr__" = some (some (.builtin "object.__setattr__"))
theorem Cls.get {K:Frag} {C:Addr} (c:Cls K C) (f:Str):PySem.W.plainGet K C f=true:=c.pg
def zn (K:Frag) (C:Addr) (f:Str):Prop:=PySem.W.findIn K (.ref C) f=some none
theorem zn.taker {K:Frag} {C:Addr} {f:Str} (n:zn K C f):PySem.W.takerIn K C f=some none:=by unfold PySem.W.takerIn;rw [show PySem.W.findIn K (.ref C) f=some none from n];rfl
structure Meth (K:Frag) (C:Addr) (m:Str) (f:Addr):Prop where
 at_:PySem.W.findIn K (.ref C) m=some (some (.ref f))
 fn:PySem.W.isFn K (.ref f)=true
 kp:PySem.W.keepIn K (.ref f)=true
section
variable {X:Cx} {pins:PP} {σ:St} {H:Hp} {s:Shared} {a C dx:Addr} {fs:List (Str×V)} {f:Str} {v:V} {A:Around} {E:PQ}
theorem Zs {b:Bool} {Q:PQ} (I:Inv X pins σ H s) (e:H a=some (.ins C dx fs)) (c:Cls X.K C) (n:zn X.K C f) (l:fs.lookup f=some v)
  (h:∀ u s',Inv X pins σ H s'->qJ v u->Q u s'):wpAny (model X.prog X.w) A (getAttr (.ref a) f b) Q E s:=by
 obtain ⟨mA,O,r,_,_,_⟩:=JC I.hok e;obtain ⟨u,hu,ru⟩:=QJ.some_of (v:=v) (o:=mA f) (by rw [<-l];exact r f);exact qd7 I.kIn O (c.get f) c.hd n hu (qak ru) (h u _ (I.tok _) ru)
theorem Ji {m:Str} {g:Addr} {pl:Sem Bool} {Q:Value×List Value->Shared->Prop} (I:Inv X pins σ H s) (e:H a=some (.ins C dx fs)) (c:Cls X.K C) (k:Meth X.K C m g) (l:fs.lookup m=none)
  (h:Q (.ref g,[.ref a]) s):wpAny (model X.prog X.w) A (getMethod (.ref a) m pl) Q E s:=by
 obtain ⟨mA,O,r,_,_,_⟩:=JC I.hok e;have hn:mA m=none:=QJ.none_of (by rw [<-l];exact r m);exact qbW I.kIn O (c.get m) k.at_ k.fn hn h
theorem Zt {y:V} {u:Value} {Q:Unit->Shared->Prop} (I:Inv X pins σ H s) (e:H a=some (.ins C dx fs)) (c:Cls X.K C) (n:zn X.K C f) (hl:fs.length < 1000) (ry:qJ y u)
  (h:∀ s',Inv X pins σ (upd H a (.ins C dx (Y4 f y fs))) s'->Q () s'):wpAny (model X.prog X.w) A (setAttr (.ref a) f u) Q E s:=by
 obtain ⟨mA,O,r,wi,_,ho⟩:=JC I.hok e;have hz:(fs.map (·.1)).length<=sizeLine:=by rw [List.length_map,sizeLine_eq];omega
 refine qd8 I.kIn O c.sa c.po n.taker c.hd wi hz fun h' O' sb=>h _ ?_;have hd:∃ o,h'.get? dx=some o:=let ⟨o,_,_,e',_⟩:=O'.ns;⟨o,e'⟩;refine I.write (x:=a) (e:=dx) (by rw [e];exact True.intro) (.inr ho) (fun b q hb z=>(sb.2 b hb).trans z) hd ?_;refine ⟨by rw [qf O.ne];exact ho,?_,O.ne,O'.obj,_,O'.ns,fun g=>?_,fun g hg=>?_⟩
 ·have:=yE f y fs;omega
 ·show QJ ((Y4 f y fs).lookup g) (if g=f then some u else mA g);rw [yC]
  by_cases q:g=f
  ·rw [if_pos q,if_pos q];exact ry
  ·rw [if_neg q,if_neg q];exact r g
 ·by_cases q:g=f
  ·rw [q];exact (yD f y fs).1
  ·refine (yD f y fs).2 g (wi g fun z=>hg ?_);show (if g=f then some u else mA g)=none;rw [if_neg q];exact z
theorem Inv.made (I:Inv X pins σ H s):Inv X pins σ (upd (upd H s.heap.objs.size (.own (s.heap.objs.size+1))) (s.heap.objs.size+1) (.ins C s.heap.objs.size []))
  { s with heap:=(s.heap.push PySem.W.emptyDict).push (PySem.W.instObj C s.heap.objs.size) }:=by
 have e1:(s.heap.push PySem.W.emptyDict).get? s.heap.objs.size=some PySem.W.emptyDict:=Heap.get?_push_size s.heap rfl
 have e2:((s.heap.push PySem.W.emptyDict).push (PySem.W.instObj C s.heap.objs.size)).get? (s.heap.objs.size+1)=some (PySem.W.instObj C s.heap.objs.size):=by
  have:=Heap.get?_push_size (s.heap.push PySem.W.emptyDict) (o:=PySem.W.instObj C s.heap.objs.size) rfl
  rwa [Heap.size_push] at this
 have e3:(s.heap.push PySem.W.emptyDict).Ns s.heap.objs.size (fun _=>none):=⟨PySem.W.emptyDict,#[],_,e1,rfl,(fun e he=>absurd he (by simp)),fun _=>rfl⟩;have I1:=I.laid (a:=s.heap.objs.size) (o:=.own (s.heap.objs.size+1)) (h':=s.heap.push PySem.W.emptyDict) (t':=s.toks) (fun b u q=>Heap.get?_push_of_some _ q) (Nat.le_refl _) ⟨_,e1⟩;refine I1.laid (a:=s.heap.objs.size+1) (o:=.ins C s.heap.objs.size []) (t':=s.toks) (fun b u q=>Heap.get?_push_of_some _ q) (Nat.le_of_eq (Heap.size_push _ _)) ?_;have ne:s.heap.objs.size≠s.heap.objs.size+1:=Nat.ne_of_lt (Nat.lt_succ_self _);refine ⟨by rw [qf ne,qi],Nat.zero_le _,ne,e2,fun _=>none,(Heap.Ns1.of_empty e3).at fun o q=>Heap.get?_push_of_some _ q,fun _=>True.intro,fun y hy=>absurd rfl hy⟩
theorem qd9 {prog:Program} {w:World} {env:Env} {e:Expr} {f:Str} {pos:Pos} {s:Shared} {Q:PQ} (hb:attributeBase e f env (eval e env)=eval e env)
  (h:wpAny (model prog w) A (eval e env) (fun o s₁=>wpAny (model prog w) A (getAttr o f true) Q E s₁) E s):wpAny (model prog w) A (eval (.Attribute e f pos) env) Q E s:=
 Attribute_any_ h (by rw [arm_eval_Attribute,hb])
end
noncomputable def qkn (K:Frag) (ta:TE) (f:Str):TE:=fun σ H Q=>ta σ H fun x H1=>∃ a C dx fs v,x=.ref a/\H1 a=some (.ins C dx fs)/\Cls K C/\zn K C f/\fs.lookup f=some v/\Q v H1
noncomputable def qko (K:Frag) (ta tv:TE) (f:Str):TS:=fun D σ H=>tv σ H fun y H1=>ta σ H1 fun x H2=>∃ a C dx fs,x=.ref a/\H2 a=some (.ins C dx fs)/\Cls K C/\zn K C f/\fs.length < 1000/\
 D.nx σ (upd H2 a (.ins C dx (Y4 f y fs)))
section
variable {X:Cx} {o e value:Expr} {f:Str} {pos pos' tpos:Pos} {ta tv:TE}
theorem qgf (he:PE X e ta) (hb:attributeBase e f X.env (eval e X.env)=eval e X.env):PE X (.Attribute e f pos) (qkn X.K ta f):=by intro pins s σ H Q I h;refine qd9 hb (thn (he pins s σ H _ I h) fun u s1 hq1=>?_);obtain ⟨x,H1,I1,rx,a,C,dx,fs,v,ex,ea,c,n,l,q⟩:=hq1;subst ex;obtain rfl:u=Value.ref a:=rx;exact Zs I1 ea c n l fun u' s2 I2 ru=>⟨v,H1,I2,ru,q⟩
theorem Jj (ha:PE X o ta) (hv:PE X value tv) (hs:swapsWith value (some (.Attribute o f pos')) pos.line X.env=pure false):PS X (.Assign [.Attribute o f pos'] value pos) (qko X.K ta tv f):=by intro pins s σ H D I h;refine plainObj_wpAny_Assign_Attribute (thn (hv pins s σ H _ I h) fun u s1 ⟨y,H1,I1,ry,q⟩=>thn (ha pins s1 σ H1 _ I1 q) fun ov s2 ⟨x,H2,I2,rx,a,C,dx,fs,ex,ea,c,n,l,q2⟩=>?_) hs;subst ex;obtain rfl:ov=Value.ref a:=rx;exact Zt I2 ea c n l ry fun s3 I3=>⟨σ,_,I3,q2⟩
end
section
variable {X:Cx} {pins:PP} {σ:St} {H:Hp} {s:Shared} {A:Around} {E:PQ} {Q:PQ} {c:Value} {b:Bool}
inductive TyOf (K:Frag) (H:Hp):V->Value->Prop where
 | non:TyOf K H .non (.type "NoneType")
 | bl (x:Bool):TyOf K H (.bl x) (.type "bool")
 | int (i:Int):TyOf K H (.int i) (.type "int")
 | str (x:Str):TyOf K H (.str x) (.type "str")
 | flt (x:UInt64):TyOf K H (.flt x) (.type "float")
 | lst {a:Addr} {xs:List V} (e:H a=some (.lst xs)):TyOf K H (.ref a) (.type "list")
 | frz {a:Addr} {o:Obj} {xs:List V} (e:H a=some (.frz o (.lst xs))):TyOf K H (.ref a) (.type "list")
 | tup {a:Addr} {xs:List V} (e:H a=some (.tup xs)):TyOf K H (.ref a) (.type "tuple")
 | dK {a:Addr} {kvs:List (Key×V)} (e:H a=some (.dK kvs)):TyOf K H (.ref a) (.type "dict")
 | dT {a:Addr} {kvs:List (List Key×V)} (e:H a=some (.dT kvs)):TyOf K H (.ref a) (.type "dict")
 | ins {a C dx:Addr} {fs:List (Str×V)} (e:H a=some (.ins C dx fs)) (cl:Cls K C) (ha:PySem.W.findIn K (.ref C) "__class__" = some (some (.builtin "object.__class__")))
   (hn:PySem.W.specialIn K (.builtin "object.__class__") "__get__" = some (some (.builtin "getset_descriptor.__get__"))) (htk:PySem.W.takesIn K (.builtin "object.__class__")=some true)
   (hm:PySem.W.mroIn K C (.type "object")=some true):TyOf K H (.ref a) (.ref C)
theorem Yg {x:V} {u t:Value} (I:Inv X pins σ H s) (rx:qJ x u) (ty:TyOf X.K H x t) (e:PySem.W.kitOne X.K t c=some b) (h:∀ tk,Q (.bool b) { s with toks:=tk }) :
  wpAny (model X.prog X.w) A (call (.builtin "isinstance") [u,c]) Q E s:=by
 cases ty with
 | non=>cases (show u=Value.none from rx);exact PySem.W.kia_one PySem.W.kitx_none I.kIn True.intro e (fun z=>nomatch z) h
 | bl y=>cases (show u=Value.bool y from rx);exact PySem.W.kia_one PySem.W.kitx_bool I.kIn True.intro e (fun z=>nomatch z) h
 | int i=>obtain ⟨t,q⟩:=(show ∃ t,u=Value.int i t from rx);cases q;exact PySem.W.kia_one PySem.W.kitx_int I.kIn True.intro e (fun z=>nomatch z) h
 | str y=>obtain ⟨t,q⟩:=(show ∃ t,u=Value.str y t from rx);cases q;exact PySem.W.kia_one PySem.W.kitx_str I.kIn True.intro e (fun z=>nomatch z) h
 | flt y=>obtain ⟨t,q⟩:=(show ∃ t,u=Value.float y t from rx);cases q;exact PySem.W.kia_one PySem.W.kitx_float I.kIn True.intro e (fun z=>nomatch z) h
 | @lst a xs ea=>
  cases (show u=Value.ref a from rx)
  obtain ⟨_,_,n,_,h1⟩:=(show qK X.prog X.w H s.heap a (.lst xs) from I.hok a _ ea);exact PySem.W.kia_one PySem.W.kitx_list I.kIn ⟨_,h1,rfl⟩ e (fun z=>nomatch z) h
 | @frz a ob xs ea=>
  cases (show u=Value.ref a from rx)
  obtain ⟨_,_,_,n,_,h1⟩:=(show qK X.prog X.w H s.heap a (.frz ob (.lst xs)) from I.hok a _ ea);exact PySem.W.kia_one PySem.W.kitx_list I.kIn ⟨_,h1,rfl⟩ e (fun z=>nomatch z) h
 | @tup a xs ea=>
  cases (show u=Value.ref a from rx)
  obtain ⟨_,_,_,p⟩:=(show qK X.prog X.w H s.heap a (.tup xs) from I.hok a _ ea);obtain ⟨o,h1,h2,_⟩:=p;exact PySem.W.kia_one PySem.W.kitx_tuple I.kIn ⟨o,h1,h2⟩ e (fun z=>nomatch z) h
 | @dK a kvs ea=>
  cases (show u=Value.ref a from rx)
  obtain ⟨_,_,vs,_,p⟩:=(show qK X.prog X.w H s.heap a (.dK kvs) from I.hok a _ ea);obtain ⟨o,es,ep,h1,h2,_⟩:=p;exact PySem.W.kia_one PySem.W.kitx_dict I.kIn ⟨o,h1,h2.1⟩ e (fun z=>nomatch z) h
 | @dT a kvs ea=>
  cases (show u=Value.ref a from rx)
  obtain ⟨_,_,xs,_,o,es,ep,h1,h2,_⟩:=(show qK X.prog X.w H s.heap a (.dT kvs) from I.hok a _ ea);exact PySem.W.kia_one PySem.W.kitx_dict I.kIn ⟨o,h1,h2.1⟩ e (fun z=>nomatch z) h
 | @ins a C dx fs ea cl ha hn htk hm=>
  cases (show u=Value.ref a from rx)
  obtain ⟨mA,O,_⟩:=JC I.hok ea;obtain ⟨od,J,_⟩:=O.look;exact PySem.W.kia_one (PySem.W.kitx_own (cl.get _) cl.hd ha hn htk hm) I.kIn J e (fun z=>nomatch z) h
end
end L2
namespace L2
open PySem PySem.Spec PyProof.Rows
structure Room (k:Nat) (A:Around):Prop where
 hd:A.handled=none
 dp:A.depth+3 * k+5 < recursionLimit
 un:A.units+16 * k+200 < cLine
theorem Room.deeper {k:Nat} {A:Around} (r:Room (k+1) A) (env:Env):Room k (A.deeper env):=
 ⟨r.hd,by have:=r.dp;show A.depth+1+3 * k+5 < _;omega,by have:=r.un;show A.units+3+16 * k+200 < _;omega⟩
theorem Zu {A:Around} {C:Addr} {us:List Value} {kw:List (Str×Value)}:(A.under (.builtin "type.__call__" ⟨.ref C::us,kw⟩)).depth=A.depth+1:=by first | rfl | simp [Around.under,Code.weight,Code.isCreation,Code.isGuard,Code.isCaller,Code.frames,Code.isFrame,guardIds]
theorem Zv {A:Around} {C:Addr} {us:List Value} {kw:List (Str×Value)}:(A.under (.builtin "type.__call__" ⟨.ref C::us,kw⟩)).units=A.units+1:=by first | rfl | simp [Around.under,Code.cUnits,Code.frames,Code.isFrame]
theorem Room.make {k:Nat} {A:Around} (r:Room (k+1) A) (C:Addr) (us:List Value) (kw:List (Str×Value)):Room k (A.under (.builtin "type.__call__" ⟨.ref C::us,kw⟩)):=
 ⟨r.hd,by have:=r.dp;rw [Zu];omega,by have:=r.un;rw [Zv];omega⟩
theorem Room.depth {k:Nat} {A:Around} (r:Room k A):A.depth < recursionLimit:=by have:=r.dp;omega
def qbY:TA:=fun _ H Q=>Q [] H
def Zw (ta:TE) (tr:TA):TA:=fun σ H Q=>ta σ H fun x H1=>tr σ H1 fun xs H2=>Q (x::xs) H2
section
variable {X:Cx} {e:Expr} {es:List Expr} {te:TE} {t:TA} {pos:Pos}
theorem qu:PA X [] qbY:=fun _ _ _ _ H Q I h=>Calls.spliced_nil ⟨[],H,I,.nil,h⟩
theorem qg (ha:PE X e te) (hr:PA X es t) (hs:starEach (e::es) X.env=(false,eval e X.env)::starEach es X.env:=by rfl):PA X (e::es) (Zw te t):=by intro pos pins s σ H Q I h;rw [hs];show wpAny _ _ (spliced ((false,eval e X.env)::backTo pos (starEach es X.env))) _ _ s;refine Calls.spliced_cons (thn (ha pins s σ H _ I h) fun u s1 hq1=>?_);obtain ⟨x,H1,I1,r1,q1⟩:=hq1;exact thn (hr pos pins s1 σ H1 _ I1 q1) fun us s2 ⟨xs,H2,I2,r2,q2⟩=>⟨x::xs,H2,I2,.cons r1 r2,q2⟩
noncomputable def qkp (t:TA):TE:=fun σ H Q=>t σ H fun xs H1=>xs.length<=sizeLine/\∀ p,H1 p=none->Q (.ref p) (upd H1 p (.tup xs))
noncomputable def qkq (t:TA):TE:=fun σ H Q=>t σ H fun xs H1=>xs.length<=sizeLine/\∀ p,H1 p=none->Q (.ref p) (upd H1 p (.lst xs))
theorem qgg {x1} (h:PA X es t):PE X (.Tuple es x1 pos) (qkp t):=by intro pins s σ H Q I hq;refine wpAny_Tuple_spliced (thn (h pos pins s σ H _ I hq) fun us s1 ⟨xs,H1,I1,r,z,q⟩=>⟨by rw [<-r.length];exact z,?_⟩);have hf:H1 s1.heap.objs.size=none:=I1.hok.fresh (Nat.le_refl _);refine ⟨.ref s1.heap.objs.size,upd H1 s1.heap.objs.size (.tup xs),I1.laid (t':=s1.toks) (fun b u e=>Heap.get?_push_of_some _ e) (Nat.le_refl _) ?_,rfl,q _ hf⟩;exact ⟨z,us,r,⟨_,Heap.get?_push_size _ rfl,rfl,_,rfl⟩⟩
theorem qgh (h:PA X es t):PE X (.List es pos) (qkq t):=by intro pins s σ H Q I hq;refine wpAny_List_spliced (thn (h pos pins s σ H _ I hq) fun us s1 ⟨xs,H1,I1,r,z,q⟩=>⟨by rw [<-r.length];exact z,?_⟩);have hf:H1 s1.heap.objs.size=none:=I1.hok.fresh (Nat.le_refl _);refine ⟨.ref s1.heap.objs.size,upd H1 s1.heap.objs.size (.lst xs),I1.laid (t':=s1.toks) (fun b u e=>Heap.get?_push_of_some _ e) (Nat.le_refl _) ?_,rfl,q _ hf⟩;exact ⟨z,us,0,r,Heap.get?_push_size _ rfl⟩
end
abbrev Sp:=List V->Hp->VK->XK->Prop
abbrev CXT:=List Env->Hp->Shared->XK->Value->Shared->Prop
structure Env0 (P:Program) (w:World) (K:Frag) (mg:PR) (base:Heap) (A:Around) (outer:List Env) (s:Shared) (H:Hp):Prop where
 frames:A.frames=some outer
 mod:Mod K mg base
 bs:∀ b o,base.get? b=some o->s.heap.get? b=some o/\H b=none
 bsz:base.objs.size<=s.heap.objs.size
 funs:s.heap.FunFrames base outer
 frf:∀ b∈frs outer,H b=none
 hok:HOk P w H s.heap
 bare:AllBare s.gens
noncomputable def CE (outer:List Env) (P:Program) (w:World) (H:Hp) (s:Shared) (Q:VK) (u:Value) (s':Shared):Prop:=
 ∃ v H',s'.os=s.os/\AllBare s'.gens/\Un (frs outer) [] H H' s.heap s'.heap/\HOk P w H' s'.heap/\qJ v u/\Q v H'
noncomputable def CR (CX:CXT) (outer:List Env) (P:Program) (w:World) (H:Hp) (s:Shared) (Q:VK) (E:XK) (r:Result) (s':Shared):Prop:=
 match r with
 | .ok (.ret u)=>CE outer P w H s Q u s'
 | .ok _=>False
 | .error e=>CX outer H s E e s'
structure FnOk (P:Program) (w:World) (K:Frag) (mg:PR) (base:Heap) (CX:CXT) (k:Nat) (f:Addr) (fd:FuncData) (ps:List Str) (sp:Sp):Prop where
 len:∀ vs H Q E,sp vs H Q E->vs.length=ps.length
 run:∀ (A:Around) (outer:List Env) (s:Shared) (H:Hp) (args:Args) (us:List Value) (vs:List V) (Q:VK) (E:XK),Room k A->Env0 P w K mg base A outer s H->BindsTo s fd args (ps.zip us)->qD vs us->sp vs H Q E->
  codeAny (model P w) A (.call (.ref f) args) (CR CX outer P w H s Q E) s
theorem Env0.make {P:Program} {w:World} {K:Frag} {mg:PR} {base:Heap} {A:Around} {outer:List Env} {s:Shared} {H:Hp} (e:Env0 P w K mg base A outer s H) (C:Addr) (us:List Value) (kw:List (Str×Value)) :
  Env0 P w K mg base (A.under (.builtin "type.__call__" ⟨.ref C::us,kw⟩)) outer s H:=⟨by first | exact e.frames | (simpa [Around.under,Code.envs,Code.isFrame,pushEnvs] using e.frames),e.mod,e.bs,e.bsz,e.funs,e.frf,e.hok,e.bare⟩
section
variable {X:Cx} {pins:PP} {σ:St} {H:Hp} {s s':Shared}
theorem Inv.env0 (I:Inv X pins σ H s):Env0 X.prog X.w X.K X.mg X.base X.A X.stack s H:=
 ⟨I.ok.frames,I.ok.mod,I.bs,Nat.le_trans I.ok.bsz I.sz,I.stack,I.stkFree,I.hok,I.bare⟩
theorem Inv.after {Q:VK} {u:Value} (I:Inv X pins σ H s) (h:CE X.stack X.prog X.w H s Q u s'):EP X pins σ Q u s':=by obtain ⟨v,H',os,bare,un,hok,r,q⟩:=h;obtain ⟨hh,g,d,t,os'⟩:=s';obtain rfl:os'=s.os:=os;exact ⟨v,H',I.call (h':=hh) (g':=g) (d':=d) (t':=t) (ch:=[]) un hok bare (fun b z=>absurd z (by simp)),r,q⟩
end
def qbZ (sp:Sp) (dvs:List V) (E:XK) (t:TA):TE:=fun σ H Q=>t σ H fun vs H1=>sp (vs++dvs) H1 Q E
noncomputable def qb0 (C:Addr) (m:Str) (sp:Sp) (dvs:List V) (E:XK) (ta:TE) (t:TA):TE:=fun σ H Q=>ta σ H fun x H1=>∃ a dx fs,x=.ref a/\H1 a=some (.ins C dx fs)/\fs.lookup m=none/\
 t σ H1 fun vs H2=>sp (x::(vs++dvs)) H2 Q E
noncomputable def qb1 (C:Addr) (sp:Sp) (dvs:List V) (E:XK) (t:TA):TE:=fun σ H Q=>t σ H fun vs H1=>∀ x dx,H1 x=none->H1 dx=none->dx≠x->
 sp (.ref x::(vs++dvs)) (upd (upd H1 dx (.own x)) x (.ins C dx [])) (fun v H2=>v=.non/\Q (.ref x) H2) E
noncomputable def zg (K:Frag) (fd:FuncData) (ps:List Str) (ds:List Value):Prop:=
 ∀ (s:Shared) (us:List Value),K.In s.heap->(us++ds).length=ps.length->BindsTo s fd ⟨us,[]⟩ (ps.zip (us++ds))
theorem zg.all {K:Frag} {fd:FuncData} {ps:List Str} (h:∀ us:List Value,us.length=ps.length->bindArgs fd ⟨us,[]⟩=pure (ps.zip us)):zg K fd ps []:=fun s us _ hl=>by rw [List.append_nil] at hl ⊢;exact .of_eq (h us hl)
noncomputable def jq (CX:CXT) (X:Cx) (E:XK):Prop:=∀ (pins:PP) (σ:St) (H:Hp) (s:Shared) (e:Value) (s':Shared),Inv X pins σ H s->CX X.stack H s E e s'->X.xe e s'
section
variable {X:Cx} {CX:CXT} {k:Nat} {f C:Addr} {fd:FuncData} {ps:List Str} {sp:Sp} {dvs:List V} {ds:List Value} {E:XK} {x m:Str} {p pos apos:Pos} {e o:Expr} {es:List Expr} {ta:TE} {t:TA}
theorem Yh {pins:PP} {σ:St} {H:Hp} {s:Shared} {Q:VK} {us:List Value} {vs:List V} (F:FnOk X.prog X.w X.K X.mg X.base CX k f fd ps sp) (hr:Room k X.A) (hb:zg X.K fd ps ds) (hd:qD dvs ds) (hx:jq CX X E)
  (I:Inv X pins σ H s) (r:qD vs us) (h:sp (vs++dvs) H Q E):wpAny (model X.prog X.w) X.A (call (.ref f) us) (EP X pins σ Q) X.xe s:=by
 have r2:qD (vs++dvs) (us++ds):=r.append hd;have hl:(us++ds).length=ps.length:=by rw [<-r2.length];exact F.len _ _ _ _ h
 refine wpAny_call (codeAny_mono (F.run X.A X.stack s H ⟨us,[]⟩ (us++ds) (vs++dvs) Q E hr I.env0 (hb s us I.kIn hl) r2 h) fun r s' hq=>?_)
 cases r with
 | error e=>exact hx pins σ H s e s' I hq
 | ok fl=>
  cases fl with
  | ret u=>exact I.after hq
  | next=>exact False.elim hq
  | brk=>exact False.elim hq
  | cont=>exact False.elim hq
theorem jz (F:FnOk X.prog X.w X.K X.mg X.base CX k f fd ps sp) (hr:Room k X.A) (hg:Gl X x) (hm:X.mg x=some (.ref f)) (hk:PySem.W.keepIn X.K (.ref f)=true) (hb:zg X.K fd ps ds) (hd:qD dvs ds) (hx:jq CX X E)
  (ha:PA X (e::es) t) (hdb:(x == ("__debug__" : Str))=false:=by decide) (he:starEach (e::es) X.env=(false,eval e X.env)::starEach es X.env:=by rfl) (hpl:(backTo pos (starEach es X.env)).any (·.1)=false:=by rfl) :
  PE X (.Call (.Name x p) (e::es) [] pos) (qbZ sp dvs E t):=by
 intro pins s σ H Q I h;refine wpAny_Call_Name_kw (j3 I hg hm ?_ hdb);refine PySem.W.callWith_K (h₀:=X.base) I.ok.mod.kin hk (thn (ha pos pins s σ H _ I h) fun us s1 ⟨vs,H1,I1,r,q⟩=>⟨I1.kIn,?_⟩) he hpl;exact Yh F hr hb hd hx I1 r q
theorem qb2 (F:FnOk X.prog X.w X.K X.mg X.base CX k f fd ps sp) (hr:Room k X.A) (hg:Gl X x) (hm:X.mg x=some (.ref f)) (hk:PySem.W.keepIn X.K (.ref f)=true) (hb:zg X.K fd ps ds) (hd:qD dvs ds) (hx:jq CX X E)
  (hdb:(x == ("__debug__" : Str))=false:=by decide):PE X (.Call (.Name x p) [] [] pos) (qbZ sp dvs E qbY):=by
 intro pins s σ H Q I h;refine wpAny_Call_Name_kw (j3 I hg hm ?_ hdb);exact PySem.W.callWith_K0 I.kIn hk (Yh (us:=[]) F hr hb hd hx I .nil h)
theorem qea {pl:Sem Bool} (he:PE X o ta) (c:Cls X.K C) (hm:Meth X.K C m f) (F:FnOk X.prog X.w X.K X.mg X.base CX k f fd ps sp) (hr:Room k X.A) (hb:zg X.K fd ps ds) (hd:qD dvs ds) (hx:jq CX X E) (ha:PA X (e::es) t)
  (hst:starEach (e::es) X.env=(false,eval e X.env)::starEach es X.env:=by rfl) (hpl:(backTo pos (starEach es X.env)).any (·.1)=false:=by rfl)
  (ht:eval (.Call (.Attribute o m apos) (e::es) [] pos) X.env=(do
   let ov<-eval o X.env
   standAt apos.atName
   let (f,first)<-holding [ov] (getMethod ov m pl)
   callWith pos f first (backTo pos (starEach (e::es) X.env)) (backToKw pos (keywordEach [] X.env))):=by rfl) :
  PE X (.Call (.Attribute o m apos) (e::es) [] pos) (qb0 C m sp dvs E ta t):=by
 intro pins s σ H Q I h;refine PySem.W.methodCall_KW (pl:=pl) (thn (he pins s σ H _ I h) fun u s1 ⟨x,H1,I1,rx,a,dx,fs,ex,ea,l,q⟩=>?_) ht;subst ex;obtain rfl:u=Value.ref a:=rx;refine Ji I1 ea c hm l ?_;refine PySem.W.callWith_K (first:=[.ref a]) (h₀:=X.base) I.ok.mod.kin hm.kp (thn (ha pos pins s1 σ H1 _ I1 q) fun us s2 ⟨vs,H2,I2,r,q2⟩=>⟨I2.kIn,?_⟩) hst hpl;exact Yh (us:=.ref a::us) (vs:=.ref a::vs) F hr hb hd hx I2 (.cons rfl r) q2
theorem qb3 {pl:Sem Bool} (he:PE X o ta) (c:Cls X.K C) (hm:Meth X.K C m f) (F:FnOk X.prog X.w X.K X.mg X.base CX k f fd ps sp) (hr:Room k X.A) (hb:zg X.K fd ps ds) (hd:qD dvs ds) (hx:jq CX X E)
  (ht:eval (.Call (.Attribute o m apos) [] [] pos) X.env=(do
   let ov<-eval o X.env
   standAt apos.atName
   let (f,first)<-holding [ov] (getMethod ov m pl)
   callWith pos f first (backTo pos (starEach [] X.env)) (backToKw pos (keywordEach [] X.env))):=by rfl) :
  PE X (.Call (.Attribute o m apos) [] [] pos) (qb0 C m sp dvs E ta qbY):=by
 intro pins s σ H Q I h;refine PySem.W.methodCall_KW (pl:=pl) (thn (he pins s σ H _ I h) fun u s1 ⟨x,H1,I1,rx,a,dx,fs,ex,ea,l,q⟩=>?_) ht;subst ex;obtain rfl:u=Value.ref a:=rx;refine Ji I1 ea c hm l ?_;exact PySem.W.callWith_K0 (first:=[.ref a]) I1.kIn hm.kp (Yh (us:=[.ref a]) (vs:=[.ref a]) F hr hb hd hx I1 %[rfl|0] q)
structure Mk (K:Frag) (C f:Addr):Prop where
 makes:PySem.W.makesIn K C=true
 init:PySem.W.findIn K (.ref C) "__init__" = some (some (.ref f))
 fn:PySem.W.isFn K (.ref f)=true
 kp:PySem.W.keepIn K (.ref C)=true
theorem QO {pins:PP} {σ:St} {H:Hp} {s:Shared} {Q:VK} {us:List Value} {vs:List V} (M:Mk X.K C f) (F:FnOk X.prog X.w X.K X.mg X.base CX k f fd ps sp) (hr:Room (k+1) X.A) (hb:zg X.K fd ps ds) (hd:qD dvs ds)
  (hx:jq CX X E) (I:Inv X pins σ H s) (r:qD vs us)
  (h:∀ x dx,H x=none->H dx=none->dx≠x->sp (.ref x::(vs++dvs)) (upd (upd H dx (.own x)) x (.ins C dx [])) (fun v H2=>v=.non/\Q (.ref x) H2) E) :
  wpAny (model X.prog X.w) X.A (call (.ref C) us) (EP X pins σ Q) X.xe s:=by
 have hq:=h (s.heap.objs.size+1) s.heap.objs.size (I.hok.fresh (Nat.le_succ _)) (I.hok.fresh (Nat.le_refl _)) (Nat.ne_of_lt (Nat.lt_succ_self _));have I2:=Inv.made (C:=C) I;have r2:qD (V.ref (s.heap.objs.size+1)::(vs++dvs)) (Value.ref (s.heap.objs.size+1)::(us++ds)):=.cons rfl (r.append hd)
 have hl:(Value.ref (s.heap.objs.size+1)::us++ds).length=ps.length:=by have e:=r2.length;rw [F.len _ _ _ _ hq] at e;exact e.symm
 refine wpAny_call (qbX (f:=f) I.kIn M.makes M.init (beq_iff_eq.mp M.fn) (codeAny_mono (F.run _ X.stack _ _ ⟨Value.ref (s.heap.objs.size+1)::us,[]⟩ (Value.ref (s.heap.objs.size+1)::(us++ds)) _ _ E (hr.make C us [])
  (I2.env0.make C us []) (hb _ (Value.ref (s.heap.objs.size+1)::us) I2.kIn hl) r2 hq) fun r s' hq'=>?_))
 cases r with
 | error e=>exact hx pins σ _ _ e s' I2 hq'
 | ok fl=>
  cases fl with
  | ret u=>obtain ⟨v,H',I3,rv,ev,q3⟩:=I2.after hq';subst ev;exact ⟨rv,⟨V.ref (s.heap.objs.size+1),H',I3,rfl,q3⟩⟩
  | next=>exact False.elim hq'
  | brk=>exact False.elim hq'
  | cont=>exact False.elim hq'
theorem qeb (M:Mk X.K C f) (F:FnOk X.prog X.w X.K X.mg X.base CX k f fd ps sp) (hr:Room (k+1) X.A) (hg:Gl X x) (hm:X.mg x=some (.ref C)) (hb:zg X.K fd ps ds) (hd:qD dvs ds) (hx:jq CX X E)
  (ha:PA X (e::es) t) (hdb:(x == ("__debug__" : Str))=false:=by decide) (he:starEach (e::es) X.env=(false,eval e X.env)::starEach es X.env:=by rfl) (hpl:(backTo pos (starEach es X.env)).any (·.1)=false:=by rfl) :
  PE X (.Call (.Name x p) (e::es) [] pos) (qb1 C sp dvs E t):=by
 intro pins s σ H Q I h;refine wpAny_Call_Name_kw (j3 I hg hm ?_ hdb);refine PySem.W.callWith_K (h₀:=X.base) I.ok.mod.kin M.kp (thn (ha pos pins s σ H _ I h) fun us s1 ⟨vs,H1,I1,r,q⟩=>⟨I1.kIn,?_⟩) he hpl;exact QO M F hr hb hd hx I1 r q
theorem qb4 (M:Mk X.K C f) (F:FnOk X.prog X.w X.K X.mg X.base CX k f fd ps sp) (hr:Room (k+1) X.A) (hg:Gl X x) (hm:X.mg x=some (.ref C)) (hb:zg X.K fd ps ds) (hd:qD dvs ds) (hx:jq CX X E)
  (hdb:(x == ("__debug__" : Str))=false:=by decide):PE X (.Call (.Name x p) [] [] pos) (qb1 C sp dvs E qbY):=by
 intro pins s σ H Q I h;refine wpAny_Call_Name_kw (j3 I hg hm ?_ hdb);exact PySem.W.callWith_K0 I.kIn M.kp (QO (us:=[]) M F hr hb hd hx I .nil h)
end
structure FnScope (N P:List Str) (sc:Scope):Prop where
 kind:sc.kind=.function
 co:sc.isCoroutine=false
 gen:sc.isGenerator=false
 nd:N.Nodup
 pre:N.take P.length=P
 par:∀ x∈P,sc.names.lookup x=some .local\/sc.names.lookup x=some .cell
 nofree:∀ y∈sc.names,y.2≠.free
theorem Yi {kindOf:Str->Option NameKind} {x:Str}:∀ {binds:List (Str×Value)} {m:PR},(∀ v,(x,v)∉binds)->bindL kindOf binds m x=m x
 | [],_,_=>rfl
 | (n,v)::r,m,h=>by
  unfold bindL;rw [Yi fun w hw=>h w (List.mem_cons_of_mem _ hw)];split
  ·have:x≠n:=by rintro rfl;exact h v List.mem_cons_self
   simp [this]
  ·rfl
theorem Yj {kindOf:Str->Option NameKind} {x:Str}:∀ {binds:List (Str×Value)} {m:PR},(∀ v,(x,v)∉binds)->bindC kindOf binds m x=m x
 | [],_,_=>rfl
 | (n,v)::r,m,h=>by
  unfold bindC;rw [Yj fun w hw=>h w (List.mem_cons_of_mem _ hw)];split
  ·rfl
  ·have:x≠n:=by rintro rfl;exact h v List.mem_cons_self
   simp [this]
theorem Yk {kindOf:Str->Option NameKind} {x:Str} {v:Value}:∀ {P:List Str} {vs:List Value} {i:Nat} {m:PR},P.Nodup->P[i]?=some x->vs[i]?=some v->kindOf x=some .local->
  bindL kindOf (P.zip vs) m x=some v
 | [],_,_,_,_,h,_,_=>by simp at h
 | _::_,[],_,_,_,_,h,_=>by simp at h
 | p::P,w::vs,0,m,nd,h1,h2,hk=>by simp at h1 h2;subst h1;subst h2;show bindL kindOf ((p,w)::P.zip vs) m p=_;unfold bindL;rw [Yi fun v hv=>(List.nodup_cons.mp nd).1 (List.of_mem_zip hv).1,if_pos hk];simp
 | p::P,w::vs,i+1,m,nd,h1,h2,hk=>by show bindL kindOf ((p,w)::P.zip vs) m x=_;unfold bindL;exact Yk (i:=i) (List.nodup_cons.mp nd).2 (by simpa using h1) (by simpa using h2) hk
theorem Yl {kindOf:Str->Option NameKind} {x:Str} {v:Value}:∀ {P:List Str} {vs:List Value} {i:Nat} {m:PR},P.Nodup->P[i]?=some x->vs[i]?=some v->kindOf x≠some .local->
  bindC kindOf (P.zip vs) m x=some v
 | [],_,_,_,_,h,_,_=>by simp at h
 | _::_,[],_,_,_,_,h,_=>by simp at h
 | p::P,w::vs,0,m,nd,h1,h2,hk=>by simp at h1 h2;subst h1;subst h2;show bindC kindOf ((p,w)::P.zip vs) m p=_;unfold bindC;rw [Yj fun v hv=>(List.nodup_cons.mp nd).1 (List.of_mem_zip hv).1,if_neg hk];simp
 | p::P,w::vs,i+1,m,nd,h1,h2,hk=>by show bindC kindOf ((p,w)::P.zip vs) m x=_;unfold bindC;exact Yl (i:=i) (List.nodup_cons.mp nd).2 (by simpa using h1) (by simpa using h2) hk
def qm (N:List Str) (vs:List V):St:=vs.map some++List.replicate (N.length - vs.length) none
noncomputable def qec (CX:CXT) (P:Program) (w:World) (K:Frag) (mg:PR) (base:Heap) (N:List Str) (qual:Str) (scope:Scope) (f:Addr) (cd:Value) (A:Around) (outer:List Env) (s:Shared) (H:Hp) (E:XK):Cx where
 prog:=P
 w:=w
 K:=K
 mg:=mg
 base:=base
 A:=A.deeper (envOfC qual scope s.heap.objs.size f cd)
 N:=N
 s₀:=s
 H₀:=H
 env:=envOfC qual scope s.heap.objs.size f cd
 outer:=outer
 stack:=envOfC qual scope s.heap.objs.size f cd::outer
 ex:=[]
 calm:=true
 fn:=fun _=>true
 pn:=[]
 xe:=fun e s'=>wpAny (model P w) (A.deeper (envOfC qual scope s.heap.objs.size f cd)) (leaving (envOfC qual scope s.heap.objs.size f cd) e) (fun _ s''=>CX outer H s E e s'') (fun e' s''=>CX outer H s E e' s'') s'
theorem QP {sc:Scope} {n:Nat} {x:Str} (h:sc.names.lookup x=some .cell):∃ c,(cellsFrom n sc.names []).lookup x=some c:=by have q:=PySem.W.cellsFrom_some sc.names n [] (.inl h);exact Option.isSome_iff_exists.mp q
theorem qal {CX:CXT} {P:Program} {w:World} {K:Frag} {mg:PR} {base:Heap} {N ps:List Str} {qual:Str} {scope:Scope} {f:Addr} {cd:Value} {A:Around} {outer:List Env} {s s1:Shared} {H:Hp} {E:XK} {us:List Value} {vs:List V}
  (S:FnScope N ps scope) (hd:A.handled=none) (e0:Env0 P w K mg base A outer s H) (hl:vs.length=ps.length) (r:qD vs us)
  (x:InCallC s s.heap.objs.size (bindL (envOfC qual scope s.heap.objs.size f cd).kindOf (ps.zip us) fun _=>none) (cellsFrom (s.heap.objs.size+1) scope.names []) (bindC (envOfC qual scope s.heap.objs.size f cd).kindOf (ps.zip us) fun _=>none) s1) :
  Inv (qec CX P w K mg base N qual scope f cd A outer s H E) [] (qm N vs) H s1:=by
 have hpl:ps.length<=N.length:=by have:=congrArg List.length S.pre;rw [List.length_take] at this;omega
 obtain ⟨h1,tk,rfl,hk⟩:=x.done;have noA:∀ b:Addr,b∉(qec CX P w K mg base N qual scope f cd A outer s H E).ex:=fun b z=>absurd (show b∈([]:List Addr) from z) (by simp)
 refine ⟨⟨e0.mod,S.kind,rfl,rfl,Nat.le_refl _,fun y z c h1 h2=>?_,fun y hy=>?_,fun y c _ h=>?_,fun _=>hd,Around.frames_deeper e0.frames,.inr ⟨rfl,rfl⟩,fun b z=>absurd z (noA b),e0.bs,e0.bsz,fun b _ _=>noA b,fun b z=>absurd z (noA b),e0.funs,e0.frf⟩,
  rfl,e0.bare,Un.kept hk,⟨_,x.toInCall.ns,fun i y v h1 h2 h3=>?_⟩,fun y c h=>⟨_,x.cell y c h⟩,e0.hok.fresh (Nat.le_refl _),fun y c h=>?_,fun p hp=>absurd (show p∈([]:PP) from hp) (by simp),e0.hok.kept hk,?_⟩
 ·exact name_of_addr x.apart (PySem.mem_of_lookup h1) (PySem.mem_of_lookup h2)
 ·have hy:scope.names.lookup y=some .cell\/scope.names.lookup y=some .free:=hy;rcases hy with hy | hy
  ·exact QP hy
  ·exact absurd rfl (S.nofree _ (PySem.mem_of_lookup hy))
 ·exact Nat.le_of_lt (x.above y c (PySem.mem_of_lookup h))
 ·have hi:i < vs.length:=by
   unfold qm at h2
   by_cases hi:i < vs.length
   ·exact hi
   ·rw [List.getElem?_append_right (by simpa using hi)] at h2;rw [List.getElem?_replicate] at h2
    split at h2<;>cases h2
  have ha:vs[i]?=some v:=by
   unfold qm at h2;rw [List.getElem?_append_left (by simpa using hi),List.getElem?_map] at h2
   cases e:vs[i]? with
   | none=>rw [e] at h2;cases h2
   | some a=>rw [e] at h2;cases h2;rfl
  obtain ⟨u,hu,rv⟩:=r.get ha
  have hp:ps[i]?=some y:=by rw [<-S.pre,List.getElem?_take_of_lt (1:)];exact h1
  have ndP:ps.Nodup:=by rw [<-S.pre];exact S.nd.sublist (List.take_sublist _ _)
  refine ⟨u,rv,?_⟩;rcases S.par y (List.mem_of_getElem? hp) with k | k
  ·exact .inl ⟨k,Yk ndP hp hu k⟩
  ·obtain ⟨c,e⟩:=QP (n:=s.heap.objs.size+1) k;refine .inr ⟨.inl k,c,e,?_⟩;have q:=x.cell y c e;rw [Yl ndP hp hu (by show scope.names.lookup y≠_;rw [k];decide)] at q;exact q
 ·exact e0.hok.fresh (Nat.le_of_lt (x.above y c (PySem.mem_of_lookup h)))
 ·unfold qm;show _=N.length;rw [List.length_append,List.length_map,List.length_replicate];omega
theorem qi0 {CX:CXT} {P:Program} {w:World} {K:Frag} {mg:PR} {base:Heap} {k:Nat} {f:Addr} {name qual:Str} {params:Arguments} {body:List Stmt} {scope:Scope} {dV kV doc pm cdv ct oc:Value} {an od:Option Addr}
  {osl:Array (Option Value)} {N ps:List Str} {sp:Sp} (lk:K.lookup f=some ⟨oc,od,.func (PySem.W.fnOf name qual params body scope dV kV doc pm an cdv ct),osl⟩) (hcd:PySem.W.codeIn K cdv qual=true) (S:FnScope N ps scope)
  (len:∀ vs H Q E,sp vs H Q E->vs.length=ps.length)
  (hbody:∀ (A:Around) (outer:List Env) (s:Shared) (H:Hp) (vs:List V) (Q:VK) (E:XK),Room k (A.deeper (envOfC qual scope s.heap.objs.size f cdv))->sp vs H Q E->
   ∃ t,PSs (qec CX P w K mg base N qual scope f cdv A outer s H E) body t/\t { nx:=fun _ H'=>Q .non H',rt:=Q } (qm N vs) H) :
  FnOk P w K mg base CX (k+1) f (PySem.W.fnOf name qual params body scope dV kV doc pm an cdv ct) ps sp:=by
 refine ⟨len,fun A outer s H args us vs Q E hr e0 hb r hsp=>?_⟩;have hl:=len _ _ _ _ hsp;have KX:K.In s.heap:=e0.mod.kin.keeps fun b o e=>(e0.bs b o e).1;have lim:s.heap.NoLimit:=e0.mod.nolimit.keeps fun b o e=>(e0.bs b o e).1
 have hkind:∀ y∈ps.zip us,scope.names.lookup y.1=some .local\/(scope.names.lookup y.1=some .cell/\((cellsFrom (s.heap.objs.size+1) scope.names []).lookup y.1).isSome=true):=fun ⟨n,v⟩ hy=>by
  rcases S.par n (List.of_mem_zip hy).1 with q | q
  ·exact .inl q
  ·exact .inr ⟨q,PySem.W.cellsFrom_some _ _ _ (.inl q)⟩
 refine codeAny_call_function hr.depth (KX _ _ lk) rfl S.co S.gen rfl (PySem.W.codeRec_of KX hcd) (hb _ _ _ _ ?_);refine wpAny_newFunctionEnv_cells S.kind hkind fun env he s1 x=>?_;subst he;refine ⟨lim.keeps x.toInCall.keep,codeAny_func ?_⟩;obtain ⟨t,ht,hq⟩:=hbody A outer s H vs Q E (hr.deeper _) hsp;have I:Inv (qec CX P w K mg base N qual scope f cdv A outer s H E) [] (qm N vs) H s1:=qal S hr.hd e0 hl r x;refine wpAny_mono (ht [] s1 (qm N vs) H _ I hq) (fun fl s' hs=>?_) fun e s' hs=>hs
 have fin:∀ {σ':St} {H':Hp} {v:V} {u:Value},Inv (qec CX P w K mg base N qual scope f cdv A outer s H E) [] σ' H' s'->qJ v u->Q v H'->CE outer P w H s Q u s':=
  fun {σ' H' v u} J rv q=>⟨v,H',J.os,J.bare,J.base,J.hok,rv,q⟩
 cases fl with
 | ret u=>obtain ⟨v,σ',H',J,rv,q⟩:=hs;exact fin J rv q
 | next=>obtain ⟨σ',H',J,q⟩:=hs;exact fin (v:=V.non) (u:=Value.none) J rfl q
 | brk=>obtain ⟨_,_,_,q⟩:=hs;exact False.elim q
 | cont=>obtain ⟨_,_,_,q⟩:=hs;exact False.elim q
end L2
namespace L2
open PySem PySem.Spec PyProof.Rows
section
variable {X:Cx} {x:Str} {p pos:Pos} {e:Expr} {es:List Expr} {t:TA} {id T:String} {r:List V->Hp->VK->Prop}
def tCB (r:List V->Hp->VK->Prop) (t:TA):TE:=fun σ H Q=>t σ H fun vs H1=>r vs H1 Q
theorem zh (hc:qY X (.builtin id) r) (hg:Gl X x) (hm:X.mg x=none) (hv:bootBuiltins x=some (.builtin id)) (ha:PA X (e::es) t) (hn:x≠"__name__":=by decide) (hdb:(x == ("__debug__" : Str))=false:=by decide)
  (he:starEach (e::es) X.env=(false,eval e X.env)::starEach es X.env:=by rfl) (hpl:(backTo pos (starEach es X.env)).any (·.1)=false:=by rfl):PE X (.Call (.Name x p) (e::es) [] pos) (tCB r t):=by
 intro pins s σ H Q I h;refine wpAny_Call_Name_kw (jK I hg hm hv ?_ hn hdb);exact PyProof.Rows.callWith_builtin1 (thn (ha pos pins s σ H _ I h) fun us s1 ⟨vs,H1,I1,r1,q1⟩=>hc pins s1 σ H1 vs us Q I1 r1 q1) he hpl
theorem qQ (hc:qY X (.type T) r) (hg:Gl X x) (hm:X.mg x=none) (hv:bootBuiltins x=some (.type T)) (ha:PA X (e::es) t) (hn:x≠"__name__":=by decide) (hdb:(x == ("__debug__" : Str))=false:=by decide)
  (he:starEach (e::es) X.env=(false,eval e X.env)::starEach es X.env:=by rfl) (hpl:(backTo pos (starEach es X.env)).any (·.1)=false:=by rfl):PE X (.Call (.Name x p) (e::es) [] pos) (tCB r t):=by
 intro pins s σ H Q I h;refine wpAny_Call_Name_kw (jK I hg hm hv ?_ hn hdb);exact PyProof.Rows.callWith_type1 (thn (ha pos pins s σ H _ I h) fun us s1 ⟨vs,H1,I1,r1,q1⟩=>hc pins s1 σ H1 vs us Q I1 r1 q1) he hpl
end
end L2
namespace HT
open PySem PyProof.Rows
section
variable {prog:Program} {w:World} {A:Around} {E:PQ} {s:Shared}
noncomputable def sIx (n d:Nat):Option Int->Nat
 | none=>d
 | some v=>if v < 0 then (v+(n:Int)).toNat else min v.toNat n
theorem qam (n d k:Nat):sIx n d (some (k:Int))=min k n:=by show (if (k:Int) < 0 then ((k:Int)+(n:Int)).toNat else min (k:Int).toNat n)=min k n;rw [if_neg (1:),Int.toNat_natCast]
end
end HT
namespace L2
open PySem PySem.Spec PyProof.Rows
abbrev TO:=St->Hp->(Option Int->Hp->Prop)->Prop
noncomputable def PO (X:Cx) (e:Option Expr) (t:TO):Prop:=
 ∀ (pins:PP) (s:Shared) (σ:St) (H:Hp) (Q:Option Int->Hp->Prop),Inv X pins σ H s->t σ H Q->
  wpAny (model X.prog X.w) X.A (evalPart e X.env) (fun u s'=>∃ o H',Inv X pins σ H' s'/\IsPart u o/\Q o H') X.xe s
def qed:TO:=fun _ H Q=>Q none H
def qi1 (t:TE):TO:=fun σ H Q=>t σ H fun x H1=>∃ i,x=.int i/\Q (some i) H1
section
variable {X:Cx} {e:Expr} {te:TE} {lo hi:Option Expr} {tl th:TO} {pos p2:Pos}
theorem qee:PO X none qed:=by intro pins s σ H Q I h;rw [evalPart_none];exact wpAny_pure ⟨none,H,I,.none,h⟩
theorem qef (h:PE X e te):PO X (some e) (qi1 te):=by intro pins s σ H Q I hw;rw [evalPart_some];refine thn (h pins s σ H _ I hw) fun u s1 hq1=>?_;obtain ⟨x,H1,I1,r1,q1⟩:=hq1;obtain ⟨i,rfl,q⟩:=q1;obtain ⟨t,rfl⟩:=r1;exact ⟨some i,H1,I1,.int i t,q⟩
noncomputable def SlR (X:Cx) (r:V->Option Int->Option Int->Hp->VK->Prop):Prop:=
 ∀ (pins:PP) (s:Shared) (σ:St) (H:Hp) (x:V) (v vl vu:Value) (lo hi:Option Int) (sl:Addr) (Q:VK),Inv X pins σ H s->qJ x v->s.heap.IsSliceOf sl vl vu .none->IsPart vl lo->IsPart vu hi->r x lo hi H Q->
  ∃ T id,typeLookup (.type T) "__getitem__" = pure (some (.builtin id))/\s.TypeIs v T/\wpAny (model X.prog X.w) X.A (getItem v (.ref sl)) (EP X pins σ Q) X.xe s
noncomputable def tSl (r:V->Option Int->Option Int->Hp->VK->Prop) (te:TE) (tl th:TO):TE:=fun σ H Q=>te σ H fun x H1=>tl σ H1 fun l H2=>th σ H2 fun u H3=>r x l u H3 Q
theorem qb5 {r:V->Option Int->Option Int->Hp->VK->Prop} (hr:SlR X r) (he:PE X e te) (hl:PO X lo tl) (hu:PO X hi th):PE X (.Subscript e (.Slice lo hi none p2) pos) (tSl r te tl th):=by intro pins s σ H Q I h;refine Subscript_ (thn (he pins s σ H _ I h) fun v s1 hq1=>?_);obtain ⟨x,H1,I1,r1,q1⟩:=hq1;refine wpAny_Slice (thn (hl pins s1 σ H1 _ I1 q1) fun vl s2 ⟨l,H2,I2,pl,q2⟩=>thn (hu pins s2 σ H2 _ I2 q2) fun vu s3 hq1=>?_);obtain ⟨u,H3,I3,pu,q3⟩:=hq1;rw [evalPart_none];refine wpAny_pure ?_;have I4:Inv X pins σ H3 { s3 with heap:=s3.heap.push { cls:=.type "slice",data:=.fields #[vl,vu,.none] } }:=I3.kept (t':=s3.toks) fun b ob q=>Heap.get?_push_of_some _ q;obtain ⟨T,id,hT,ht,hg⟩:=hr pins { s3 with heap:=s3.heap.push { cls:=.type "slice",data:=.fields #[vl,vu,.none] } } σ H3 x v vl vu l u s3.heap.objs.size Q I4 r1 (Heap.IsSliceOf.new ..) pl pu q3;show wpAny (model X.prog X.w) X.A (subscriptTail e (.Slice lo hi none p2) v (.ref s3.heap.objs.size)) (EP X pins σ Q) X.xe { s3 with heap:=s3.heap.push { cls:=.type "slice",data:=.fields #[vl,vu,.none] } };exact tail_any (ops:=[.ref s3.heap.objs.size,v]) ht hT hg (by with_unfolding_all rfl)
noncomputable def qfH (xs:List V) (lo hi:Option Int):List V:=(xs.drop (HT.sIx xs.length 0 lo)).take (HT.sIx xs.length xs.length hi - HT.sIx xs.length 0 lo)
theorem Y9 (xs:List V) (lo hi:Option Int):(qfH xs lo hi).length<=xs.length:=by unfold qfH;rw [List.length_take,List.length_drop];omega
end
end L2
namespace L2
open PySem PySem.Spec PyProof.Rows
noncomputable def ixN (n:Nat) (i:Int):Option Nat:=if 0<=i then (if i < n then some i.toNat else none) else if -(n:Int)<=i then some (i+n).toNat else none
def atI {α:Type} (xs:List α) (i:Int):Option α:=(ixN xs.length i).bind fun j=>xs[j]?
theorem qan {n:Nat} {i:Int} {j:Nat} (h:ixN n i=some j):seqIndex? i n=some j/\j < n/\-(n:Int)<=i/\i < n:=by
 unfold ixN at h
 by_cases h0:0<=i
 ·rw [if_pos h0] at h
  by_cases h1:i < n
  ·rw [if_pos h1] at h;have e:i.toNat=j:=Option.some.inj h;exact ⟨by rw [seqIndex_of h0 h1,e],by omega,by omega,h1⟩
  ·rw [if_neg h1] at h;cases h
 ·rw [if_neg h0] at h
  by_cases h1:-(n:Int)<=i
  ·rw [if_pos h1] at h;have e:(i+n).toNat=j:=Option.some.inj h;exact ⟨by rw [seqIndex_neg (1:) h1,e],by omega,h1,by omega⟩
  ·rw [if_neg h1] at h;cases h
theorem Qa {α:Type} {xs:List α} {i:Int} {v:α} (h:atI xs i=some v):∃ j,seqIndex? i xs.length=some j/\xs[j]?=some v/\j < xs.length/\-(xs.length:Int)<=i/\i < xs.length:=by
 unfold atI at h
 cases e:ixN xs.length i with
 | none=>rw [e] at h;cases h
 | some j=>rw [e] at h;obtain ⟨h1,h2,h3,h4⟩:=qan e;exact ⟨j,h1,h,h2,h3,h4⟩
theorem qb6 {α:Type} (xs:List α) (v:α):atI (xs++[v]) (-1)=some v:=by
 have hl:(xs++[v]).length=xs.length+1:=by simp
 have e:ixN (xs++[v]).length (-1)=some xs.length:=by
  unfold ixN;rw [hl,if_neg (2:),if_pos (1:)]
  congr 1
  omega
 unfold atI;rw [e];show (xs++[v])[xs.length]?=some v;simp
def qao (b:Expr):Prop:=∀ o i,subscripted b false o i=operate [o,i] (getItem o i)
noncomputable def IxR (X:Cx) (r:R2):Prop:=
 ∀ (value slice:Expr) (pins:PP) (s:Shared) (σ:St) (H:Hp) (x y:V) (v u:Value) (Q:VK),Inv X pins σ H s->qJ x v->qJ y u->r x y H Q->
  subscripted slice false v u=operate [v,u] (getItem v u)->wpAny (model X.prog X.w) X.A (subscriptTail value slice v u) (EP X pins σ Q) X.xe s
noncomputable def MtR (X:Cx) (id:String) (r:V->List V->Hp->VK->Prop):Prop:=
 ∀ (pins:PP) (s:Shared) (σ:St) (H:Hp) (x:V) (xs:List V) (v:Value) (us:List Value) (Q:VK),Inv X pins σ H s->qJ x v->qD xs us->r x xs H Q->
  wpAny (model X.prog X.w) X.A (call (.builtin id) (v::us)) (EP X pins σ Q) X.xe s
section
variable {X:Cx} {a b:Expr} {ta tb:TE} {pos:Pos}
theorem qi2 {r:R2} (hr:IxR X r) (ha:PE X a ta) (hb:PE X b tb) (hs:qao b):PE X (.Subscript a b pos) (tOp r ta tb):=by intro pins s σ H Q I h;exact Subscript_ (qiT ha hb I h fun v u s2 x y H2 I2 rx ry q=>hr a b pins s2 σ H2 x y v u Q I2 rx ry q (hs _ _))
noncomputable def qkr (K:Frag):R2:=fun x y H Q=>∃ p xs i v,x=.ref p/\y=.int i/\SqL K H p xs/\atI xs i=some v/\Q v H
noncomputable def qks (K:Frag):R2:=fun x y H Q=>∃ p xs i v,x=.ref p/\y=.int i/\SqT K H p xs/\atI xs i=some v/\Q v H
noncomputable def qkt:R2:=fun x y H Q=>∃ z i c,x=.str z/\y=.int i/\z.length<=sizeLine/\atI z.cps.toList i=some c/\Q (.str ⟨#[c]⟩) H
theorem qeg:IxR X (qkr X.K):=by
 intro value slice pins s σ H x y v u Q I rx ry h hs;obtain ⟨p,xs,i,z,rfl,rfl,hq,he,q⟩:=h;cases rx;obtain ⟨t,rfl⟩:=ry;obtain ⟨its,r,pl,hz⟩:=I.list hq;obtain ⟨j,h1,h2,h3,h4,h5⟩:=Qa he;obtain ⟨w,ew,rw'⟩:=r.get h2;have hl:=r.length;have hn:=yB;have fin:EP X pins σ Q w s:=⟨z,H,I,rw',q⟩
 by_cases h0:0<=i
 ·have hj:i.toNat=j:=by
   rw [seqIndex_of h0 h5] at h1;exact Option.some.inj h1
  exact item_listR pl.isList h0 (1:) (by rw [hj];simpa using ew) fin hs
 ·have hj:(i+(its.toArray.size:Int)).toNat=j:=by
   rw [seqIndex_neg (1:) h4] at h1;rw [List.size_toArray,<-hl];exact Option.some.inj h1
  exact subscriptTail_builtinR (x:=w) pl.isList.typeIs slot_list_getitem.lookup
   (wpAny_getItem_list_neg (Q:=fun r s'=>r=w/\EP X pins σ Q r s') pl.isList (1:) (by rw [List.size_toArray]<;>omega) (1:) (by rw [hj];simpa using ew) ⟨rfl,fin⟩) hs
theorem qgi:IxR X (qks X.K):=by
 intro value slice pins s σ H x y v u Q I rx ry h hs;obtain ⟨p,xs,i,z,rfl,rfl,hq,he,q⟩:=h;cases rx;obtain ⟨t,rfl⟩:=ry;obtain ⟨its,r,pl,hz⟩:=I.tuple hq;obtain ⟨j,h1,h2,h3,h4,h5⟩:=Qa he;obtain ⟨w,ew,rw'⟩:=r.get h2;have hl:=r.length;have hn:=yB;have fin:EP X pins σ Q w s:=⟨z,H,I,rw',q⟩
 exact subscriptTail_builtinR (x:=w) pl.typeIs slot_tuple_getitem.lookup
  (getItem_tuple (j:=j) (Q:=fun r s'=>r=w/\EP X pins σ Q r s') pl (1:) (1:) (by rw [List.size_toArray,<-hl];exact h1) (by simpa using ew) ⟨rfl,fin⟩) hs
theorem qgj:IxR X qkt:=by
 intro value slice pins s σ H x y v u Q I rx ry h hs;obtain ⟨z,i,c,rfl,rfl,hz,he,q⟩:=h;obtain ⟨t,rfl⟩:=rx;obtain ⟨t',rfl⟩:=ry;obtain ⟨j,h1,h2,h3,h4,h5⟩:=Qa he;have hl:z.cps.toList.length=z.length:=by simp [Str.length]
 rw [hl] at h1 h4 h5;have hn:=yB
 exact tail_any (typeIs_str s z t) slot_str_getitem.lookup (getItem_str (c:=c) (by have e1:decide (i < -(2 ^ 63:Int))=false:=decide_eq_false (1:);have e2:decide (i≥2 ^ 63)=false:=decide_eq_false (1:);rw [e1,e2,Bool.or_false]) (by rw [h1];simpa using h2) ⟨.str ⟨#[c]⟩,H,I.tok _,⟨_,rfl⟩,q⟩) hs
theorem Zx (its:List Value) (n j:Nat) (u:Value):Obj.mapSeq (·.setIfInBounds j u) { cls:=.type "list",data:=.seq its.toArray n }={ cls:=.type "list",data:=.seq (its.set j u).toArray n }:=by simp [Obj.mapSeq]
theorem Inv.lst {pins:PP} {σ:St} {H:Hp} {s:Shared} {p:Addr} {xs:List V} (I:Inv X pins σ H s) (h:H p=some (.lst xs)) :
  ∃ (its:List Value) (n:Nat),qD xs its/\s.heap.get? p=some { cls:=.type "list",data:=.seq its.toArray n }/\xs.length<=sizeLine:=by
 obtain ⟨z,its,n,r,e⟩:=I.hok p _ h;exact ⟨its,n,r,e,z⟩
theorem Inv.lstUpd {pins:PP} {σ:St} {H:Hp} {s:Shared} {p:Addr} {xs ys:List V} {its its':List Value} {n n':Nat} {f:Obj->Obj} (I:Inv X pins σ H s) (h:H p=some (.lst xs))
  (ho:s.heap.get? p=some { cls:=.type "list",data:=.seq its.toArray n }) (hf:f { cls:=.type "list",data:=.seq its.toArray n }={ cls:=.type "list",data:=.seq its'.toArray n' }) (r:qD ys its') (hz:ys.length<=sizeLine) (t:Nat) :
  Inv X pins σ (upd H p (.lst ys)) { s with heap:=s.heap.update p f,toks:=t }:=by
 have e:(s.heap.update p f).get? p=some { cls:=.type "list",data:=.seq its'.toArray n' }:=by rw [Heap.get?_update_self f ho (by rw [hf]<;>rfl),hf]
 refine I.write (x:=p) (e:=p) (by rw [h];trivial) (.inl rfl) (fun b u hb q=>(Heap.get?_update_other _ _ (Ne.symm hb)).trans q) ⟨_,e⟩ ?_;exact ⟨hz,its',n',r,e⟩
noncomputable def qi3:V->V->V->Hp->(Hp->Prop)->Prop:=fun o i v H Q=>∃ p xs k j,o=.ref p/\i=.int k/\H p=some (.lst xs)/\ixN xs.length k=some j/\Q (upd H p (.lst (xs.set j v)))
theorem qb7:qjO X qi3:=by
 intro pins s σ H o i v ov iv u Q I ro ri rv h;obtain ⟨p,xs,k,j,rfl,rfl,hp,hj,q⟩:=h;cases ro;obtain ⟨t,rfl⟩:=ri;obtain ⟨its,n,r,ho,hz⟩:=I.lst hp;obtain ⟨h1,h2,h3,h4⟩:=qan hj;have hl:=r.length;have hn:=yB
 have I':Inv X pins σ (upd H p (.lst (xs.set j v))) { s with heap:=s.heap.update p (Obj.mapSeq (·.setIfInBounds j u)) }:=
  I.lstUpd hp ho (Zx its n j u) (r.set rv j) (by rw [List.length_set];exact hz) s.toks
 by_cases h0:0<=k
 ·have hk:k.toNat=j:=by
   rw [seqIndex_of h0 h4] at h1;exact Option.some.inj h1
  exact PySem.W.ki_setAt ho h0 (1:) (by rw [List.size_toArray,<-hl];exact h4) (by rw [hk];exact ⟨_,I',q⟩)
 ·have hk:(k+(its.toArray.size:Int)).toNat=j:=by
   rw [seqIndex_neg (1:) h3] at h1;rw [List.size_toArray,<-hl];exact Option.some.inj h1
  exact PySem.W.ki_setBack ho (1:) (by rw [List.size_toArray,<-hl];exact h3) (1:) (by rw [hk];exact ⟨_,I',q⟩)
theorem Ym (lo hi:Option Int) (n:Nat):(sliceBounds lo hi none n).1=((HT.sIx n 0 lo:Nat):Int)/\(sliceBounds lo hi none n).2.1=((HT.sIx n n hi:Nat):Int)/\(sliceBounds lo hi none n).2.2=1:=by
 refine ⟨?_,?_,rfl⟩
 ·cases lo with
  | none=>simp [sliceBounds,HT.sIx]
  | some i=>
   simp only [sliceBounds,HT.sIx,Option.getD_none,show (1:Int) > 0 by decide,if_true]
   by_cases h:i < 0
   ·simp only [h,if_true]<;>omega
   ·simp only [h,if_false]<;>omega
 ·cases hi with
  | none=>simp [sliceBounds,HT.sIx]
  | some i=>
   simp only [sliceBounds,HT.sIx,Option.getD_none,show (1:Int) > 0 by decide,if_true]
   by_cases h:i < 0
   ·simp only [h,if_true]<;>omega
   ·simp only [h,if_false]<;>omega
theorem JD (its:List Value) (lo hi:Option Int):slicePick its.toArray lo hi none=((its.drop (HT.sIx its.length 0 lo)).take (HT.sIx its.length its.length hi - HT.sIx its.length 0 lo)).toArray:=by obtain ⟨h1,h2,h3⟩:=Ym lo hi its.toArray.size;unfold slicePick;rw [h1,h2,h3];simp only [sliceRange_one,pick_run,List.size_toArray]<;>rfl
noncomputable def qku (K:Frag):V->Option Int->Option Int->Hp->VK->Prop:=fun x lo hi H Q=>∃ a xs,x=.ref a/\SqL K H a xs/\∀ p,H p=none->Q (.ref p) (upd H p (.lst (qfH xs lo hi)))
theorem qeh:SlR X (qku X.K):=by intro pins s σ H x v vl vu lo hi sl Q I rx hs pl pu h;obtain ⟨a,xs,rfl,hx,q⟩:=h;cases rx;obtain ⟨its,r,ht,hz⟩:=I.list hx;have hlen:=r.length;refine ⟨"list",_,slot_list_getitem.lookup,ht.isList.typeIs,?_⟩;refine wpAny_getItem_list_slice ht.isList hs pl pu .none (by simp) ?_ (by rw [List.size_toArray]<;>omega);rw [JD,<-hlen];refine ⟨.ref s.heap.objs.size,_,I.laid (t':=s.toks) (o:=.lst (qfH xs lo hi)) (fun b ob q=>Heap.get?_push_of_some _ q) (Nat.le_refl _) ?_,rfl,q _ (I.hok.fresh (Nat.le_refl _))⟩;exact ⟨Nat.le_trans (Y9 xs lo hi) hz,_,0,(r.drop (HT.sIx xs.length 0 lo)).take (HT.sIx xs.length xs.length hi - HT.sIx xs.length 0 lo),Heap.get?_push_size _ rfl⟩
def yF:V->Bool
 | .non=>true
 | .bl _=>true
 | .int _=>true
 | .str _=>true
 | _=>false
noncomputable def eqV:V->V->Bool
 | .non,.non=>true
 | .bl a,.bl b=>a == b
 | .bl a,.int b=>(if a then 1 else 0) == b
 | .int a,.bl b=>a == (if b then 1 else 0)
 | .int a,.int b=>a == b
 | .str a,.str b=>a == b
 | _,_=>false
theorem qgk {A:Around} {s:Shared} {y x:V} {u v:Value} (ry:qJ y u) (rx:qJ x v) (fy:yF y=true) (fx:yF x=true):SeqAt.EqAt A s u v (eqV y x):=by
 cases y with
 | non=>
  cases ry
  cases x with
  | non=>cases rx;exact SeqAt.EqAt.same _
  | bl b=>cases rx;exact SeqAt.EqAt.none_bool b
  | int b=>obtain ⟨t,rfl⟩:=rx;exact SeqAt.EqAt.none_int b t
  | str b=>obtain ⟨t,rfl⟩:=rx;exact SeqAt.EqAt.none_str b t
  | _=>exact absurd (show false=true from fx) Bool.false_ne_true
 | bl a=>
  cases ry
  cases x with
  | non=>cases rx;exact SeqAt.EqAt.bool_none a
  | bl b=>cases rx;exact SeqAt.EqAt.bool_bool a b
  | int b=>obtain ⟨t,rfl⟩:=rx;exact SeqAt.EqAt.bool_int a b t
  | str b=>obtain ⟨t,rfl⟩:=rx;exact SeqAt.EqAt.bool_str a b t
  | _=>exact absurd (show false=true from fx) Bool.false_ne_true
 | int a=>
  obtain ⟨t',rfl⟩:=ry
  cases x with
  | non=>cases rx;exact SeqAt.EqAt.int_none a t'
  | bl b=>cases rx;exact SeqAt.EqAt.int_bool a t' b
  | int b=>obtain ⟨t,rfl⟩:=rx;exact SeqAt.EqAt.int_int a t' b t
  | str b=>obtain ⟨t,rfl⟩:=rx;exact SeqAt.EqAt.int_str a t' b t
  | _=>exact absurd (show false=true from fx) Bool.false_ne_true
 | str a=>
  obtain ⟨t',rfl⟩:=ry
  cases x with
  | non=>cases rx;exact SeqAt.EqAt.str_none a t'
  | bl b=>cases rx;exact SeqAt.EqAt.str_bool a t' b
  | int b=>obtain ⟨t,rfl⟩:=rx;exact SeqAt.EqAt.str_int a t' b t
  | str b=>obtain ⟨t,rfl⟩:=rx;exact SeqAt.EqAt.str_str a t' b t
  | _=>exact absurd (show false=true from fx) Bool.false_ne_true
 | _=>exact absurd (show false=true from fy) Bool.false_ne_true
noncomputable def eqU (x:V) (u:Value):Bool:=match u with
 | .none=>eqV .non x
 | .bool b=>eqV (.bl b) x
 | .int i _=>eqV (.int i) x
 | .str z _=>eqV (.str z) x
 | _=>false
theorem qdl {x y:V} {u:Value} (r:qJ y u) (f:yF y=true):eqU x u=eqV y x:=by
 cases y with
 | non=>cases r;rfl
 | bl b=>cases r;rfl
 | int i=>obtain ⟨t,rfl⟩:=r;rfl
 | str z=>obtain ⟨t,rfl⟩:=r;rfl
 | _=>exact absurd (show false=true from f) Bool.false_ne_true
theorem yG {x:V}:∀ {xs:List V} {us:List Value},qD xs us->xs.all yF=true->us.any (eqU x)=xs.any fun y=>eqV y x
 | _,_,.nil,_=>rfl
 | y::xs,u::us,.cons r t,f=>by rw [List.all_cons,Bool.and_eq_true] at f;rw [List.any_cons,List.any_cons,qdl r f.1,yG t f.2]
theorem jN {A:Around} {s:Shared} {x:V} {v:Value} (rx:qJ x v) (fx:yF x=true):∀ {xs:List V} {us:List Value},qD xs us->xs.all yF=true->∀ u∈us,SeqAt.EqAt A s u v (eqU x u)
 | _,_,.nil,_=>fun u hu=>by cases hu
 | y::xs,u::us,.cons r t,f=>fun u' hu=>by
  rw [List.all_cons,Bool.and_eq_true] at f;rcases List.mem_cons.mp hu with rfl | hu
  ·rw [qdl r f.1];exact qgk r rx f.1 fx
  ·exact jN rx fx t f.2 u' hu
def inV (x:V) (xs:List V):Bool:=xs.any fun y=>eqV y x
noncomputable def rIn (K:Frag) (neg:Bool):R2:=fun x y H Q=>∃ p xs,y=.ref p/\(SqL K H p xs\/SqT K H p xs)/\yF x=true/\xs.all yF=true/\Q (.bl (if neg then !inV x xs else inV x xs)) H
theorem qap:OpR X (compareOp .In) (rIn X.K false):=by
 intro pins s σ H x y v u Q I rx ry h;obtain ⟨p,xs,rfl,hq,fx,fs,q⟩:=h;cases ry;rcases hq with hq | hq
 ·obtain ⟨its,r,pl,hz⟩:=I.list hq;refine SeqAt.in_listAt (eqU x) pl.isList (fun w hw=>jN rx fx r fs w (by simpa using hw)) ⟨.bl _,H,I,rfl,?_⟩;rw [show its.toArray.any (eqU x)=its.any (eqU x) by simp,yG r fs];exact q
 ·obtain ⟨its,r,pl,hz⟩:=I.tuple hq;refine SeqAt.in_tupleAt (eqU x) pl (fun w hw=>jN rx fx r fs w (by simpa using hw)) ⟨.bl _,H,I,rfl,?_⟩;rw [show its.toArray.any (eqU x)=its.any (eqU x) by simp,yG r fs];exact q
theorem Yn:OpR X (compareOp .NotIn) (rIn X.K true):=by
 intro pins s σ H x y v u Q I rx ry h;obtain ⟨p,xs,rfl,hq,fx,fs,q⟩:=h;cases ry;rcases hq with hq | hq
 ·obtain ⟨its,r,pl,hz⟩:=I.list hq;refine SeqAt.notIn_listAt (eqU x) pl.isList (fun w hw=>jN rx fx r fs w (by simpa using hw)) ⟨.bl _,H,I,rfl,?_⟩;rw [show its.toArray.any (eqU x)=its.any (eqU x) by simp,yG r fs];exact q
 ·obtain ⟨its,r,pl,hz⟩:=I.tuple hq;refine SeqAt.notIn_tupleAt (eqU x) pl (fun w hw=>jN rx fx r fs w (by simpa using hw)) ⟨.bl _,H,I,rfl,?_⟩;rw [show its.toArray.any (eqU x)=its.any (eqU x) by simp,yG r fs];exact q
theorem yd:qY X (.builtin "len") (fun xs H Q=>∃ p ys,xs=[.ref p]/\(SqL X.K H p ys\/SqT X.K H p ys)/\Q (.int ys.length) H):=by
 intro pins s σ H xs us Q I r h;obtain ⟨p,ys,rfl,hq,q⟩:=h;obtain ⟨u,rfl,rx⟩:=jM r;cases rx;have hn:=yB;rcases hq with hq | hq
 ·obtain ⟨its,r',pl,hz⟩:=I.list hq;have hlen:=r'.length;exact Calls.call_len_list pl.isList (by simp only [List.size_toArray]<;>omega) ⟨.int ys.length,H,I.tok _,⟨s.toks+1,by rw [List.size_toArray,hlen]⟩,q⟩
 ·obtain ⟨its,r',pl,hz⟩:=I.tuple hq;have hlen:=r'.length;exact len_tuple pl (by simp only [List.size_toArray]<;>omega) ⟨.int ys.length,H,I.tok _,⟨s.toks+1,by rw [List.size_toArray,hlen]⟩,q⟩
theorem Yo:qY X (.builtin "len") (fun xs H Q=>∃ z,xs=[.str z]/\z.length<=sizeLine/\Q (.int z.length) H):=by intro pins s σ H xs us Q I r h;obtain ⟨z,rfl,hz,q⟩:=h;obtain ⟨u,rfl,t,rfl⟩:=jM r;have hn:=yB;exact len_str (1:) ⟨.int z.length,H,I.tok _,⟨_,rfl⟩,q⟩
theorem jb:qY X (.type "list") (fun xs H Q=>∃ p ys,xs=[.ref p]/\(SqL X.K H p ys\/SqT X.K H p ys)/\∀ l,H l=none->Q (.ref l) (upd H l (.lst ys))):=by
 intro pins s σ H xs us Q I r h;obtain ⟨p,ys,rfl,hq,q⟩:=h;obtain ⟨u,rfl,rx⟩:=jM r;cases rx
 have fin:∀ (its:List Value),qD ys its->ys.length<=sizeLine->∀ (h':Heap) (c':Nat),(∀ b o',s.heap.get? b=some o'->h'.get? b=some o')->
   h'.get? s.heap.objs.size=some { cls:=.type "list",dict:=none,data:=.seq its.toArray c',slots:=#[] }->EP X pins σ Q (.ref s.heap.objs.size) { s with heap:=h' }:=fun its r' hz h' c' kp e=>
  ⟨.ref s.heap.objs.size,_,I.laid (t':=s.toks) kp (Nat.le_refl _) (show qK X.prog X.w _ h' _ (.lst ys) from ⟨hz,its,c',r',e⟩),rfl,q _ (I.hok.fresh (Nat.le_refl _))⟩
 rcases hq with hq | hq
 ·obtain ⟨its,r',pl,hz⟩:=I.list hq;have hlen:=r'.length;obtain ⟨o,ho,hc,n,hd⟩:=pl.isList;exact call_list_seq p (.inl rfl) ho hc hd (fun h' c' kp e=>fin its r' hz h' c' kp e) (by simp only [List.size_toArray]<;>omega)
 ·obtain ⟨its,r',pl,hz⟩:=I.tuple hq;have hlen:=r'.length;obtain ⟨o,ho,hc,n,hd⟩:=pl;exact call_list_seq p (.inr rfl) ho hc hd (fun h' c' kp e=>fin its r' hz h' c' kp e) (by simp only [List.size_toArray]<;>omega)
theorem JE:qY X (.type "tuple") (fun xs H Q=>∃ p ys,xs=[.ref p]/\((SqL X.K H p ys/\∀ l,H l=none->Q (.ref l) (upd H l (.tup ys)))\/(SqT X.K H p ys/\Q (.ref p) H))):=by
 intro pins s σ H xs us Q I r h;obtain ⟨p,ys,rfl,h⟩:=h;obtain ⟨u,rfl,rx⟩:=jM r;cases rx;rcases h with ⟨hq,q⟩ | ⟨hq,q⟩
 ·obtain ⟨its,r',pl,hz⟩:=I.list hq;have hlen:=r'.length;refine call_tuple_list pl.isList (fun h' kp=>?_) (by simp only [List.size_toArray]<;>omega);have I1:Inv X pins σ H { s with heap:=h' }:=I.kept (t':=s.toks) kp
  have I2:Inv X pins σ (upd H h'.objs.size (.tup ys)) { s with heap:=h'.push { cls:=.type "tuple",data:=.seq its.toArray } }:=
   I1.laid (t':=s.toks) (fun b o e=>Heap.get?_push_of_some _ e) (Nat.le_refl _) (show qK X.prog X.w _ _ _ (.tup ys) from ⟨hz,its,r',IsTup.new _ _⟩)
  exact ⟨.ref h'.objs.size,_,I2,rfl,q _ (I1.hok.fresh (Nat.le_refl _))⟩
 ·obtain ⟨its,r',pl,hz⟩:=I.tuple hq;exact call_tuple_same pl ⟨.ref p,H,I,rfl,q⟩
noncomputable def tyV (K:Frag) (T:String) (x:V) (H:Hp):Prop:=match x with
 | .str _=>T = "str"
 | .int _=>T = "int"
 | .ref p=>(T = "list"/\∃ xs,SqL K H p xs)\/(T = "tuple"/\∃ o,K.lookup p=some o/\o.cls=.type "tuple"/\o.dict=none)\/
   (T = "dict"/\((∃ kvs,H p=some (.dK kvs))\/∃ kvs,H p=some (.dT kvs)))\/(T = "set"/\∃ S n,H p=some (.set S n))
 | _=>False
theorem qdm {pins:PP} {σ:St} {H:Hp} {s:Shared} {T:String} {x:V} {v:Value} (I:Inv X pins σ H s) (r:qJ x v) (ty:tyV X.K T x H) :
  s.TypeIs v T/\∀ a,v=.ref a->∃ ob,s.heap.get? a=some ob/\ob.dict=none:=by
 cases x with
 | str z=>
  obtain ⟨t,rfl⟩:=r
  cases (show T = "str" from ty)
  exact ⟨typeIs_str s z t,fun _ e=>nomatch e⟩
 | int i=>
  obtain ⟨t,rfl⟩:=r
  cases (show T = "int" from ty)
  exact ⟨typeIs_int s i t,fun _ e=>nomatch e⟩
 | ref p=>
  cases r;rcases ty with ⟨rfl,xs,hq⟩ | ⟨rfl,o,hk,hc,hd⟩ | ⟨rfl,hk⟩ | ⟨rfl,S,n,hk⟩
  ·obtain ⟨its,_,pl,_⟩:=I.list hq;refine ⟨pl.isList.typeIs,fun a e=>?_⟩;cases e;obtain ⟨o,n,e,c,hd,_⟩:=pl;exact ⟨o,e,hd⟩
  ·refine ⟨⟨o,I.kIn p o hk,hc⟩,fun a e=>?_⟩;cases e;exact ⟨o,I.kIn _ o hk,hd⟩
  ·have z:∃ o,s.heap.get? p=some o/\o.ExactDict:=by
    rcases hk with ⟨kvs,hk⟩ | ⟨kvs,hk⟩
    ·obtain ⟨_,_,_,_,o,_,_,e,ex,_⟩:=I.hok p _ hk;exact ⟨o,e,ex⟩
    ·obtain ⟨_,_,_,_,o,_,_,e,ex,_⟩:=I.hok p _ hk;exact ⟨o,e,ex⟩
   obtain ⟨o,e,ex⟩:=z;refine ⟨⟨o,e,ex.1⟩,fun a e2=>?_⟩;cases e2;exact ⟨o,e,ex.2.1⟩
  ·obtain ⟨o,_,_,_,e,ex,_⟩:=I.hok p _ hk;refine ⟨⟨o,e,ex.1⟩,fun a e2=>?_⟩;cases e2;exact ⟨o,e,ex.2.1⟩
 | _=>exact False.elim ty
noncomputable def qkv (K:Frag) (T:String) (r:V->List V->Hp->VK->Prop) (to:TE):TE:=fun σ H Q=>to σ H fun x H1=>tyV K T x H1/\r x [] H1 Q
noncomputable def tBM (K:Frag) (T:String) (r:V->List V->Hp->VK->Prop) (to:TE) (t:TA):TE:=fun σ H Q=>to σ H fun x H1=>tyV K T x H1/\t σ H1 fun xs H2=>r x xs H2 Q
variable {o e:Expr} {es:List Expr} {to:TE} {t:TA} {name:Str} {apos cpos:Pos} {T id:String} {r:V->List V->Hp->VK->Prop}
theorem qgl (pa:PlainAttrs T) (slot:Slot T name id) (hty:typeOf (.builtin id)=pure (.type "method_descriptor")) (hm:MtR X id r) (ho:PE X o to)
  (hbase:attributeBase o name X.env (eval o X.env)=eval o X.env:=by rfl) (hline:(apos.endLine == cpos.line)=true:=by rfl):PE X (.Call (.Attribute o name apos) [] [] cpos) (qkv X.K T r to):=by
 intro pins s σ H Q I h;refine wpAny_Call_method0_late hbase hline (thn (ho pins s σ H _ I h) fun v s1 hq1=>?_);obtain ⟨x,H1,I1,r1,ty,q1⟩:=hq1;obtain ⟨h1,h2⟩:=qdm I1 r1 ty;exact ⟨T,id,pa,slot,hty,h1,h2,Calls.callWith_builtin rfl (PySem.evalArgs_none (hm pins s1 σ H1 x [] v [] Q I1 r1 .nil q1))⟩
theorem qei (pa:PlainAttrs T) (slot:Slot T name id) (hty:typeOf (.builtin id)=pure (.type "method_descriptor")) (hm:MtR X id r) (ho:PE X o to) (ha:PA X (e::es) t)
  (hbase:attributeBase o name X.env (eval o X.env)=eval o X.env:=by rfl)
  (hfew:((backTo cpos (starEach (e::es) X.env)).all (fun x=>!x.1)&&(backToKw cpos (keywordEach [] X.env)).all (fun x=>x.1.isSome)
   && decide ((e::es).length+([]:List Keyword).length+(if ([]:List Keyword).isEmpty then 0 else 1) < 30))=true:=by rfl)
  (hline:(apos.endLine == cpos.line)=true:=by rfl) (hs:starEach (e::es) X.env=(false,eval e X.env)::starEach es X.env:=by rfl) (hplain:(backTo cpos (starEach es X.env)).any (·.1)=false:=by rfl) :
  PE X (.Call (.Attribute o name apos) (e::es) [] cpos) (tBM X.K T r to t):=by
 intro pins s σ H Q I h;refine wpAny_Call_method_late hbase hfew hline rfl (thn (ho pins s σ H _ I h) fun v s1 hq1=>?_);obtain ⟨x,H1,I1,r1,ty,q1⟩:=hq1;obtain ⟨h1,h2⟩:=qdm I1 r1 ty;refine ⟨T,id,pa,slot,hty,h1,h2,?_⟩;have hA:=ha cpos pins s1 σ H1 _ I1 q1;rw [hs] at hA ⊢;refine Calls.callWith_builtin (by show (false||(backTo cpos (starEach es X.env)).any (·.1))=false;rw [hplain]<;>rfl) (Calls.evalArgs_plain ?_);exact thn hA fun us s2 ⟨vs,H2,I2,r2,q2⟩=>hm pins s2 σ H2 x vs v us Q I2 r1 r2 q2
end
end L2
namespace L2
open PySem PySem.Spec PyProof.Rows
noncomputable def MtM (X:Cx) (id:String) (r:V->List V->Hp->VK->Prop):Prop:=
 ∀ (pins:PP) (s:Shared) (σ:St) (H:Hp) (x:V) (xs:List V) (v:Value) (us:List Value) (Q:VK),Inv X pins σ H s->qJ x v->qD xs us->r x xs H Q->
  wpAny (model X.prog X.w) X.A (call (.builtin id) (v::us)) (EP X pins σ Q) X.xe s
theorem qD.one:∀ {x:V} {us:List Value},qD [x] us->∃ u,us=[u]/\qJ x u
 | _,_,.cons r .nil=>⟨_,rfl,r⟩
theorem qD.zero:∀ {us:List Value},qD [] us->us=[]
 | _,.nil=>rfl
section
variable {X:Cx} {pins:PP} {σ:St} {H:Hp} {s:Shared} {l b:Addr} {xs ys zs:List V}
theorem Inv.lset {its its':List Value} {n:Nat} {f:Array Value->Array Value} {t':Nat} (I:Inv X pins σ H s) (hH:H l=some (.lst xs))
  (e:s.heap.get? l=some { cls:=.type "list",data:=.seq its.toArray n }) (hf:f its.toArray=its'.toArray) (hv:qD ys its') (hz:ys.length<=sizeLine) :
  Inv X pins σ (upd H l (.lst ys)) { s with heap:=s.heap.update l (Obj.mapSeq f),toks:=t' }:=by
 have q:=PySem.IsL.update e f;rw [hf] at q;refine I.write (x:=l) (e:=l) (by rw [hH];exact trivial) (.inl rfl) (fun b' u hb hu=>(Heap.get?_update_other s.heap (Obj.mapSeq f) (Ne.symm hb)).trans hu) ⟨_,q⟩ ?_;exact ⟨hz,its',_,hv,q⟩
theorem Inv.lnew {its:List Value} {t':Nat} (I:Inv X pins σ H s) (hv:qD ys its) (hz:ys.length<=sizeLine) :
  Inv X pins σ (upd H s.heap.objs.size (.lst ys)) { s with heap:=s.heap.push { cls:=.type "list",data:=.seq its.toArray },toks:=t' }:=
 I.laid (fun _ _ q=>Heap.get?_push_of_some _ q) (Nat.le_refl _) ⟨hz,its,0,hv,Heap.get?_push_size _ rfl⟩
theorem Inv.fresh (I:Inv X pins σ H s):H s.heap.objs.size=none:=I.hok.fresh (Nat.le_refl _)
theorem Inv.lstM (I:Inv X pins σ H s) (hH:H l=some (.lst xs)):xs.length<=sizeLine/\∃ (its:List Value) (n:Nat),qD xs its/\xs.length=its.length/\s.heap.get? l=some { cls:=.type "list",data:=.seq its.toArray n }:=by obtain ⟨z,its,n,r,e⟩:=I.hok l _ hH;exact ⟨z,its,n,r,r.length,e⟩
theorem qb8 {n:Nat} (h:n<=sizeLine):Builtin.List.listTooLong n=false:=by unfold Builtin.List.listTooLong;exact decide_eq_false (1:)
end
section
variable {X:Cx}
noncomputable def qej:V->List V->Hp->VK->Prop:=fun x vs H Q=>∃ l xs y,x=.ref l/\vs=[y]/\H l=some (.lst xs)/\xs.length < sizeLine/\Q .non (upd H l (.lst (xs++[y])))
theorem qaq:MtM X "list.append" qej:=by intro pins s σ H x vs v us Q I rx rv h;obtain ⟨l,xs,y,rfl,rfl,hH,hz,q⟩:=h;cases rx;obtain ⟨u,rfl,ru⟩:=rv.one;obtain ⟨z,its,n,r,hl,e⟩:=I.lstM hH;refine call_meets F.slot_list_append ⟨_,e,rfl⟩ F.entry_list_append (F.args_list_append_2 _ _) (PySem.list_append l its.toArray n u (by rw [List.size_toArray];omega)) ⟨e,?_⟩;refine ⟨.non,_,I.lset (its':=its++[u]) hH e (by simp) (r.append %[ru|0]) ?_,rfl,q⟩;rw [List.length_append,List.length_singleton];omega
noncomputable def qek:V->List V->Hp->VK->Prop:=fun x vs H Q=>∃ l b xs zs,x=.ref l/\vs=[.ref b]/\H l=some (.lst xs)/\H b=some (.lst zs)/\xs.length+zs.length<=sizeLine/\Q .non (upd H l (.lst (xs++zs)))
theorem qar:MtM X "list.extend" qek:=by
 intro pins s σ H x vs v us Q I rx rv h;obtain ⟨l,b,xs,zs,rfl,rfl,hH,hB,hz,q⟩:=h;cases rx;obtain ⟨u,rfl,ru⟩:=rv.one;cases ru;obtain ⟨z,its,n,r,hl,e⟩:=I.lstM hH;obtain ⟨z2,its2,n2,r2,hl2,e2⟩:=I.lstM hB;have hsz:its.toArray.size+its2.toArray.size<=sizeLine:=by rw [List.size_toArray,List.size_toArray];omega
 have hlong:¬ (!its.toArray.isEmpty&&Builtin.List.listTooLong (its.toArray.size+its2.toArray.size))=true:=by rw [qb8 hsz,Bool.and_false];exact Bool.false_ne_true
 refine call_meets F.slot_list_extend ⟨_,e,rfl⟩ F.entry_list_extend (F.args_list_extend_2 _ _)
  (AutoSeq1.list_extend_list_list_0 l its.toArray n b its2.toArray n2 hlong (by rw [List.size_toArray];omega) (1:)) ⟨e,e2,?_⟩
 refine ⟨.non,_,I.lset (its':=its++its2) hH e (by simp) (r.append r2) ?_,rfl,q⟩;rw [List.length_append];omega
noncomputable def qgm:V->List V->Hp->VK->Prop:=fun x vs H Q=>∃ l xs,x=.ref l/\vs=[]/\H l=some (.lst xs)/\Q .non (upd H l (.lst []))
theorem qb9:MtM X "list.clear" qgm:=by intro pins s σ H x vs v us Q I rx rv h;obtain ⟨l,xs,rfl,rfl,hH,q⟩:=h;cases rx;have hus:=rv.zero;subst hus;obtain ⟨z,its,n,r,hl,e⟩:=I.lstM hH;refine call_meets F.slot_list_clear ⟨_,e,rfl⟩ F.entry_list_clear (F.args_list_clear_1 _) (AutoSeq1.list_clear_list_0 l its.toArray n (by rw [List.size_toArray];omega)) ⟨e,?_⟩;exact ⟨.non,_,I.lset (its':=[]) (ys:=[]) hH e rfl .nil (Nat.zero_le _),rfl,q⟩
noncomputable def qkw:R2:=fun x y H Q=>∃ l b xs zs,x=.ref l/\y=.ref b/\H l=some (.lst xs)/\H b=some (.lst zs)/\xs.length+zs.length<=sizeLine/\∀ p,H p=none->Q (.ref p) (upd H p (.lst (xs++zs)))
theorem qgn:OpR X (binaryOp .Add) qkw:=by
 intro pins s σ H x y v u Q I rx ry h;obtain ⟨l,b,xs,zs,rfl,rfl,hH,hB,hz,q⟩:=h;cases rx;cases ry;obtain ⟨z,its,n,r,hl,e⟩:=I.lstM hH;obtain ⟨z2,its2,n2,r2,hl2,e2⟩:=I.lstM hB;refine PySem.P.add_list e e2 ?_ (by rw [List.size_toArray,List.size_toArray];omega);have ea:its.toArray++its2.toArray=(its++its2).toArray:=by simp
 rw [ea];exact ⟨.ref _,_,I.lnew (t':=s.toks) (r.append r2) (by rw [List.length_append];omega),rfl,q _ I.fresh⟩
end
end L2
namespace Att
open PySem PySem.W PySem.Calls PyProof.Rows
theorem yH {P:Params} {h:Heap}:∀ (ns:List Int) (vs:List Value),WellAll P h vs (ns.map WData.int)->IntsAre vs ns:=by
 intro ns
 induction ns with
 | nil=>intro vs w;rw [List.map_nil] at w;cases w;exact .nil
 | cons n ns ih=>
  intro vs w;rw [List.map_cons] at w
  cases w with
  | cons a b=>cases a;exact .cons _ _ (ih _ b)
theorem qas {l:OpenLaw} {n:Nat} (hn:l.most=some n) {P:Params} {h:Heap} {args:List WData} {vals:List Value}
  (hpre:l.row.toRowW.claim.pre args=true) (hwl:WellAll P h vals args) :
  ∃ a vs ns,vals=[Value.ref a]/\args=[WData.list (ns.map WData.int)]/\h.get? a=some { cls:=.type "list",data:=.seq vs.toArray }/\IntsAre vs ns/\ns.length<=n:=by
 have hsh:WShape.hasAll [] args [.list .int]=true:=(pre_splitW hpre).1;have hc:l.pre.holds [] { args:=args }=true:=(pre_splitW hpre).2;obtain ⟨d,r,rfl,h1,h2⟩:=hasAllW_cons hsh;obtain rfl:=hasAllW_nil h2;obtain ⟨xs,rfl,h3⟩:=hasW_list h1;obtain ⟨ns,rfl⟩:=items_int h3
 have hlen:ns.length<=n:=by
  unfold OpenLaw.pre at hc
  have h4:(WTm.not (.lt (.lit (.int (n:Int))) (.len (.arg 0)))).holds [] { args:=[.list (ns.map .int)] }=true:=by have h4:=(holds_andW hc).1;rw [hn] at h4;exact h4
  have h5:=condW_of h4 (w_not (w_lt w_lit (w_len_list (w_arg rfl))));rw [List.length_map] at h5;refine Nat.le_of_not_lt fun q=>?_;have q':(n:Int) < ((ns.length:Nat):Int):=by omega
  first
   | (rw [decide_eq_true q'] at h5;exact absurd h5 (2:))
   | (simp at h5;omega)
 cases hwl with
 | cons w1 w2=>
  cases w2
  cases w1 with
  | list ho hall=>exact ⟨_,_,ns,rfl,rfl,ho,yH ns _ hall,hlen⟩
theorem qat (l:OpenLaw) (args:List WData):l.row.toRowW.claim.post args (.bool true) args=true:=
 postW_of (r:=l.row.toRowW) (X:=(true == true))
  (show WShape.has [] (.bool true) .bool=true by first | rfl | decide | simp [WShape.has,WShape.arms,WShape.armsAll])
  (show (WTm.eq .res (.lit (.bool true))).value [] { args:=args,res:=some (.bool true),after:=args }=some (.bool (true == true)) from w_eq_bool (w_res rfl) w_lit) rfl
theorem Qb {l:OpenLaw} {n:Nat} {q:Program} {loose:List Str} {XP:(Str->Option Value)->Heap->Prop} {YP:World->Heap->Prop} {d:DefRec}
  (hn:l.most=some n) (hdf:d.params.defaults=[])
  (call:∀ (w:World) (s₀ s₁:Shared) (mg mb:PR) (fa:Addr) (o:Obj) (pm cd doc:Value) (a:Addr) (vs:List Value) (ns:List Int),
   Ground q loose [] XP w s₀ mg mb s₁.heap->YP w s₁.heap->
   s₁.heap.get? fa=some o->o.data=.func (docDef d.name d.params d.body d.scope pm cd doc)->s₁.heap.CodeRec cd d.name->mg d.name=some (.ref fa)->
   s₁.heap.get? a=some { cls:=.type "list",data:=.seq vs.toArray }->IntsAre vs ns->ns.length<=n->s₁.gens=#[]->
   codeAny (model l.prog w) callerA (.call (.ref fa) ⟨[.ref a],[]⟩) (fun r s'=>r=.ok (.ret (.bool true))/\OldK s₁.heap s'.heap/\s'.os=s₁.os/\AllBare s'.gens) s₁) :
  WalkO q loose XP YP l.row.toRowW d [] (fun f vs=>PySem.call f vs):=by
 intro w s₀ s₁ mg mb G Y fa o pm cd doc dV kV ho hd hcd hD hmg hg args vals as hpre hlay hrd hwl hlo;obtain rfl:dV=.none:=Dflts.none hD hdf;obtain rfl:kV=.none:=Dflts.noKw hD;obtain ⟨a,vs,ns,rfl,rfl,hobj,hints,hlen⟩:=qas hn hpre hwl;refine enter_call (codeAny_mono (call w s₀ s₁ mg mb fa o pm cd doc a vs ns G Y ho (fd_plain hd) hcd hmg hobj hints hlen hg) fun r s' hq=>?_);obtain ⟨rfl,h2,h3,h4⟩:=hq;exact ⟨.inl ⟨.bool true,.bool true,[],rfl,fun _=>rfl,.bool true,qat l _,fun _=>⟨List.Pairwise.nil,fun _ hm=>(nomatch hm)⟩⟩,h2,h3,h4⟩
end Att
namespace L2
open PySem PySem.Spec PyProof.Rows
theorem Yp:∀ {vs:List Value} {ns:List Int},IntsAre vs ns->qD (ns.map V.int) vs
 | _,_,.nil=>.nil
 | _,_,.cons n t h=>.cons ⟨t,rfl⟩ (Yp h)
def qi4 (H:Hp):Prop:=∀ b,H b=none\/∃ o xs,H b=some (.frz o (.lst xs))
theorem qca {P:Program} {w:World} {K:Frag} {mg mb:PR} {CX:CXT} {k:Nat} {fa a:Addr} {fd:FuncData} {x:Str} {sp:Sp} {s₁:Shared} {vs:List Value} {ns:List Int}
  (KX:K.In s₁.heap) (hns:s₁.heap.Ns mainGlobals mg) (hb:s₁.heap.Ns builtinsNs mb) (hbb:∀ x:Str,x≠"__name__"->mb x=bootBuiltins x) (hlim:s₁.heap.NoLimit) (hg:s₁.gens=#[])
  (ha:s₁.heap.get? a=some { cls:=.type "list",data:=.seq vs.toArray }) (hi:IntsAre vs ns) (hl:ns.length<=sizeLine) (hr:Room k callerA)
  (F:∀ base:Heap,K.In base->base.Ns mainGlobals mg->FnOk P w K mg base CX k fa fd [x] sp) (hbind:∀ (s:Shared) (u:Value),BindsTo s fd ⟨[u],[]⟩ [(x,u)])
  (hsp:∀ H:Hp,qi4 H->SqL K H a (ns.map V.int)->sp [.ref a] H (fun v _=>v=.bl true) fun _ _ _=>False)
  (hCX:∀ H e s',CX [] H s₁ (fun _ _ _=>False) e s'->False) :
  codeAny (model P w) callerA (.call (.ref fa) ⟨[.ref a],[]⟩) (fun r s'=>r=.ok (.ret (.bool true))/\OldK s₁.heap s'.heap/\s'.os=s₁.os/\AllBare s'.gens) s₁:=by
 have rv:=Yp hi;have lenV:=hi.length
 have core:∀ H:Hp,qi4 H->SqL K H a (ns.map V.int)->HOk P w H s₁.heap->(∀ b,H b≠none->b=a)->(H a≠none->K.lookup a=none)->
   codeAny (model P w) callerA (.call (.ref fa) ⟨[.ref a],[]⟩) (fun r s'=>r=.ok (.ret (.bool true))/\OldK s₁.heap s'.heap/\s'.os=s₁.os/\AllBare s'.gens) s₁:=by
  intro H hO hS hok hA hK;have base_of:∀ {b:Addr} {o:Obj},s₁.heap.get? b=some o->H b=none->(qbO s₁.heap H).get? b=some o:=fun e n=>qbP e n
  have noA:∀ {b:Addr} {o:Obj} {es:Array DictEntry} {ep:Nat},s₁.heap.get? b=some o->o.data=.dict es ep->H b=none:=fun {b o es ep} e d=>by
   cases q:H b with
   | none=>rfl
   | some u=>have e':b=a:=hA b (by rw [q];simp);subst e';rw [ha] at e;cases e;have d':Data.seq vs.toArray _=Data.dict es ep:=d;cases d'
  have nsK:∀ {b:Addr} {m:PR},s₁.heap.Ns b m->(qbO s₁.heap H).Ns b m:=fun {b m} ⟨o,es,ep,e,d,r⟩=>⟨o,es,ep,base_of e (noA e d),d,r⟩
  have hKb:K.In (qbO s₁.heap H):=fun b o e=>base_of (KX b o e) (by
   cases q:H b with
   | none=>rfl
   | some u=>have e':b=a:=hA b (by rw [q];simp);subst e';rw [hK (by rw [q];simp)] at e;cases e)
  have hM:Mod K mg (qbO s₁.heap H):=⟨hKb,nsK hns,⟨mb,nsK hb,hbb⟩,let ⟨mc,h1,h2⟩:=hlim;⟨mc,nsK h1,h2⟩⟩;have e0:Env0 P w K mg (qbO s₁.heap H) callerA [] s₁ H:=⟨rfl,hM,fun b o e=>qdY e,Nat.le_of_eq (Z9 _ _),trivial,fun b hb=>absurd (show b∈([]:List Addr) from hb) (by simp),hok,.of_eq hg⟩;refine codeAny_mono ((F _ hKb (nsK hns)).run callerA [] s₁ H ⟨[.ref a],[]⟩ [.ref a] [.ref a] _ _ hr e0 (hbind s₁ (.ref a)) %[rfl|0] (hsp H hO hS)) fun r s' h=>?_
  cases r with
  | error e=>exact (hCX H e s' h).elim
  | ok fl=>
   cases fl with
   | next=>exact False.elim h
   | brk=>exact False.elim h
   | cont=>exact False.elim h
   | ret u=>
    obtain ⟨v,H',os,bare,un,hok',r',q⟩:=h;have q':v=.bl true:=q;subst q';obtain rfl:u=Value.bool true:=r';refine ⟨rfl,OldK.of_keep fun b o e=>?_,os,bare⟩
    cases q:H b with
    | none=>exact un.keep b o e q (by intro z;exact absurd (show b∈([]:List Addr) from z) (by simp)) (by simp)
    | some u=>
     rcases hO b with z | ⟨ob,xs,z⟩
     ·rw [q] at z;cases z
     ·have z2:=un.frzs b ob _ z;obtain ⟨e1,_⟩:=hok b _ z;obtain ⟨e2,_⟩:=hok' b _ z2;rw [e] at e1;cases e1;exact e2
 cases hk:K.lookup a with
 | some o=>have e:=KX a o hk;rw [ha] at e;cases e;refine core (fun _=>none) (fun _=>.inl rfl) (.inr ⟨_,vs.toArray,_,hk,rfl,rfl,rfl,by rw [List.size_toArray,lenV];exact hl,by simpa using rv⟩) (fun b u z=>by have z':(none:Option HO)=some u:=z;cases z') (fun b z=>absurd rfl z) fun z=>absurd rfl z
 | none=>
  refine core (fun b=>if b=a then some (.frz { cls:=.type "list",data:=.seq vs.toArray } (.lst (ns.map V.int))) else none) (fun b=>?_) (.inl (.inr ⟨{ cls:=.type "list",data:=.seq vs.toArray },if_pos rfl⟩)) (fun b u z=>?_) (fun b z=>?_) fun _=>hk
  ·by_cases hb:b=a
   ·exact .inr ⟨_,_,if_pos hb⟩
   ·exact .inl (if_neg hb)
  ·by_cases hb:b=a
   ·have z':=(if_pos hb).symm.trans z;cases z';subst hb;exact ⟨ha,by rw [List.length_map];exact hl,vs,_,rv,ha⟩
   ·have z':=(if_neg hb).symm.trans z;cases z'
  ·by_cases hb:b=a
   ·exact hb
   ·exact absurd (if_neg hb) z
end L2
namespace L2
open PySem PySem.Spec PyProof.Rows
theorem qel {l:PySem.W.OpenLaw} {n k:Nat} {q:Program} {loose:List Str} {XP:(Str->Option Value)->Heap->Prop} {YP:World->Heap->Prop} {d:DefRec} {K:Params->Frag} {CX:World->CXT} {sp:World->Sp} {x:Str}
  (hn:l.most=some n) (hn2:n<=sizeLine) (hdf:d.params.defaults=[]) (hr:Room k callerA)
  (hY:∀ (w:World) (h:Heap),YP w h->(K w.params).In h)
  (F:∀ (w:World) (mg:PR) (fa:Addr) (h:Heap),(K w.params).In h->h.Ns mainGlobals mg->mg d.name=some (.ref fa)->
   ∃ fd:FuncData,(∀ (s:Shared) (u:Value),BindsTo s fd ⟨[u],[]⟩ [(x,u)])/\
    ∀ base:Heap,(K w.params).In base->base.Ns mainGlobals mg->FnOk l.prog w (K w.params) mg base (CX w) k fa fd [x] (sp w))
  (hsp:∀ (w:World) (H:Hp) (a:Addr) (ns:List Int),ns.length<=n->qi4 H->SqL (K w.params) H a (ns.map V.int)->sp w [.ref a] H (fun v _=>v=.bl true) fun _ _ _=>False)
  (hCX:∀ (w:World) (H:Hp) (s:Shared) (e:Value) (s':Shared),CX w [] H s (fun _ _ _=>False) e s'->False) :
  PySem.W.WalkO q loose XP YP l.row.toRowW d [] (fun f vs=>PySem.call f vs):=by
 refine Att.Qb hn hdf fun w s₀ s₁ mg mb fa o pm cd doc a vs ns G Y ho hd hcd hmg hobj hints hlen hg=>?_;have KX:=hY w _ Y;obtain ⟨fd,hb,hF⟩:=F w mg fa _ KX G.T.g hmg;exact qca KX G.T.g G.T.b G.T.builtins G.T.nolimit hg hobj hints (Nat.le_trans hlen hn2) hr hF hb (fun H hO hS=>hsp w H a ns hlen hO hS) fun H e s'=>hCX w H s₁ e s'
end L2
namespace L2
open PySem PySem.Spec PyProof.Rows
noncomputable def qV (s:Stmt):Arguments:=match s with
 | .FunctionDef _ a _ _ _ _ _ _ _ _=>a
 | _=>{ posonlyargs:=[],args:=[],vararg:=none,kwonlyargs:=[],kw_defaults:=[],kwarg:=none,defaults:=[] }
def qI (s:Stmt):List Stmt:=match s with
 | .FunctionDef _ _ b _ _ _ _ _ _ _=>b
 | _=>[]
noncomputable def qp (s:Stmt):Scope:=match s with
 | .FunctionDef _ _ _ _ _ _ sc _ _ _=>sc
 | _=>{ kind:=.function,names:=[],isGenerator:=false,isCoroutine:=false }
abbrev CX0:CXT:=fun _ _ _ _ _ _=>False
abbrev E0:XK:=fun _ _ _=>False
theorem jA {X:Cx}:jq CX0 X E0:=fun _ _ _ _ _ _ _ h=>h.elim
structure Fun (K:Frag) (x qual:Str) (st:Stmt) (f:Addr) (fd:FuncData):Prop where
 ex:∃ (oc:Value) (od:Option Addr) (kV doc pm:Value) (an:Option Addr) (cdv ct:Value) (osl:Array (Option Value)),
  fd=PySem.W.fnOf x qual (qV st) (qI st) (qp st) .none kV doc pm an cdv ct/\K.lookup f=some ⟨oc,od,.func fd,osl⟩/\PySem.W.codeIn K cdv qual=true
 kp:PySem.W.keepIn K (.ref f)=true
section
variable {P:Program} {w:World} {K:Frag} {mg:PR} {base:Heap}
theorem Fun.ok {x qual:Str} {st:Stmt} {f:Addr} {fd:FuncData} {N ps:List Str} {k:Nat} {sp:Sp} (F:Fun K x qual st f fd) (S:FnScope N ps (qp st)) (len:∀ vs H Q E,sp vs H Q E->vs.length=ps.length)
  (hbody:∀ (cdv:Value) (A:Around) (outer:List Env) (s:Shared) (H:Hp) (vs:List V) (Q:VK) (E:XK),Room k (A.deeper (envOfC qual (qp st) s.heap.objs.size f cdv))->sp vs H Q E->
   ∃ t,PSs (qec CX0 P w K mg base N qual (qp st) f cdv A outer s H E).nox (qI st) t/\t { nx:=fun _ H'=>Q .non H',rt:=Q } (qm N vs) H):FnOk P w K mg base CX0 (k+1) f fd ps sp:=by
 obtain ⟨oc,od,kV,doc,pm,an,cdv,ct,osl,rfl,lk,hcd⟩:=F.ex;refine qi0 lk hcd S len fun A outer s H vs Q E hr hsp=>?_;obtain ⟨t,h,q⟩:=hbody cdv A outer s H vs Q E hr hsp;exact ⟨t,h.nox,q⟩
theorem Fun.binds {x qual:Str} {st:Stmt} {f:Addr} {fd:FuncData} {ps:List Str} (F:Fun K x qual st f fd)
  (h:∀ (kV doc pm:Value) (an:Option Addr) (cdv ct:Value) (us:List Value),us.length=ps.length->bindArgs (PySem.W.fnOf x qual (qV st) (qI st) (qp st) .none kV doc pm an cdv ct) ⟨us,[]⟩=pure (ps.zip us)):zg K fd ps []:=by
 obtain ⟨oc,od,kV,doc,pm,an,cdv,ct,osl,rfl,lk,hcd⟩:=F.ex;exact .all (h kV doc pm an cdv ct)
theorem qdn {x qual:Str} {st:Stmt} {f:Addr} {oc:Value} {od an:Option Addr} {osl:Array (Option Value)} {kV doc pm cdv ct:Value} (l:K.lookup f=some ⟨oc,od,.func (PySem.W.fnOf x qual (qV st) (qI st) (qp st) .none kV doc pm an cdv ct),osl⟩)
  (c:PySem.W.codeIn K cdv qual=true) (k:PySem.W.keepIn K (.ref f)=true):Fun K x qual st f (PySem.W.fnOf x qual (qV st) (qI st) (qp st) .none kV doc pm an cdv ct):=⟨⟨oc,od,kV,doc,pm,an,cdv,ct,osl,rfl,l,c⟩,k⟩
end
theorem Yq {n:Nat} (h:n<=1000):n < sizeLine:=Nat.lt_of_le_of_lt h (2:)
section
variable {X:Cx}
theorem pv (i:Nat) {x:Str} {pos:Pos} (hN:X.N[i]?=some x:=by rfl) (hv:Vis X.env.scope x:=by first | exact Or.inl rfl | exact Or.inr (Or.inl rfl) | exact Or.inr (Or.inr rfl)) (hd:(x == ("__debug__" : Str))=false:=by decide)
  (hcd:(x == ("__classdict__" : Str))=false:=by decide):PE X (.Name x pos) (qiH i):=Jf hN hv hd hcd
end
def qv (H H':Hp):Prop:=∀ b o,H b=some o->H' b=some o
theorem qv.seq {K:Frag} {H H':Hp} {a:Addr} {xs:List V} (e:qv H H') (h:SqL K H a xs):SqL K H' a xs:=by
 rcases h with (h | ⟨o,h⟩) | h
 ·exact .inl (.inl (e _ _ h))
 ·exact .inl (.inr ⟨o,e _ _ h⟩)
 ·exact .inr h
end L2
namespace TS
open PySem PyProof.Rows
section
variable {M:Model} {A:Around} {E:PQ} {s:Shared} {O:KeyOrd} {kf:Keyed->O.α} {κ:SortKind} {G:Keyed->Prop}
noncomputable def qcb (M:Model) (A:Around) (E:PQ) (s:Shared) (O:KeyOrd) (kf:Keyed->O.α) (κ:SortKind) (G:Keyed->Prop):Prop:=
 ∀ x y,G x->G y->∀ (st:SortSt) (Q:Option Bool->SortSt->Prop),kindOf st=κ->Q (some (O.blt (kf x) (kf y))) st->wpS M A E s (lt' x y) Q st
theorem qau {arr:Array Keyed} {p:Nat} {x:Keyed} {st:SortSt} {Q:Keyed->SortSt->Prop} (e:arr[p]?=some x) (h:Q x st):wpS M A E s (elem' arr p) Q st:=by rw [elem'_eq,e];exact wpS_pure h
variable {left:Bool} {key:Keyed} {arr:Array Keyed} {base n hint:Nat} {st:SortSt} {P:Nat->Bool}
end
end TS
namespace TS
open PySem PyProof.Rows
section
variable {O:KeyOrd} {kf:Keyed->O.α}
def le (O:KeyOrd) (kf:Keyed->O.α) (x y:Keyed):Prop:=O.kle (kf x) (kf y)
noncomputable def Srt (O:KeyOrd) (kf:Keyed->O.α) (a:Array Keyed) (lo hi:Nat):Prop:=∀ (i j:Nat) (x y:Keyed),lo<=i->i<=j->j < hi->a[i]?=some x->a[j]?=some y->le O kf x y
theorem Srt.pw {a:Array Keyed} (h:Srt O kf a 0 a.size):a.toList.Pairwise (le O kf):=by
 rw [List.pairwise_iff_getElem];intro i j hi hj hij;have hj':j < a.size:=by simpa using hj
 have hi':i < a.size:=by simpa using hi
 exact h i j _ _ (1:) (1:) hj' (by simp [hi']) (by simp [hj'])
variable {a b o:Array Keyed} {i j:Nat}
end
end TS
namespace TS
open PySem PyProof.Rows
section
variable {M:Model} {A:Around} {E:PQ} {s:Shared} {O:KeyOrd} {kf:Keyed->O.α} {κ:SortKind} {G:Keyed->Prop} {a b:Array Keyed}
theorem qav {a:Array Keyed} {i:Nat} (h:i < a.size):∃ x,a[i]?=some x/\x∈a.toList:=⟨a[i],Array.getElem?_eq_getElem h,by simp⟩
end
end TS
namespace TS
open PySem PyProof.Rows
section
variable {O:KeyOrd} {kf:Keyed->O.α}
noncomputable def KA (O:KeyOrd) (kf:Keyed->O.α) (xs:Array Keyed) (i:Nat):O.α:=kf (xs[i]?.getD (Value.none,Value.none))
noncomputable def Inc (O:KeyOrd) (kf:Keyed->O.α) (xs:Array Keyed) (lo hi:Nat):Prop:=∀ i j,lo<=i->i<=j->j < hi->O.kle (KA O kf xs i) (KA O kf xs j)
noncomputable def Dec (O:KeyOrd) (kf:Keyed->O.α) (xs:Array Keyed) (lo hi:Nat):Prop:=∀ i j,lo<=i->i<=j->j < hi->O.kle (KA O kf xs j) (KA O kf xs i)
theorem jO {xs ys:Array Keyed} {i j:Nat} (h:xs[i]?=ys[j]?):KA O kf xs i=KA O kf ys j:=by unfold KA;rw [h]
theorem qcc {xs:Array Keyed} {i:Nat} {x:Keyed} (h:xs[i]?=some x):KA O kf xs i=kf x:=by unfold KA;rw [h];rfl
theorem Inc.srt {xs:Array Keyed} {lo hi:Nat} (h:Inc O kf xs lo hi):Srt O kf xs lo hi:=fun i j x y h1 h2 h3 e1 e2=>by
 have:=h i j h1 h2 h3
 rw [qcc e1,qcc e2] at this;exact this
theorem yI {xs:Array Keyed} {i j:Nat} (hj:j<=xs.size) (k:Nat):KA O kf (mirror xs i j ((j - i) / 2)) k=if i<=k/\k < j then KA O kf xs (i+j - 1 - k) else KA O kf xs k:=by
 have e:=getElem?_mirror_all (i:=i) hj k
 by_cases h:i<=k/\k < j
 ·rw [if_pos h] at e ⊢;exact jO e
 ·rw [if_neg h] at e ⊢;exact jO e
theorem qZ {xs:Array Keyed} {i j:Nat} (hj:j<=xs.size) (heq:∀ k,i<=k->k < j->KA O kf xs k=KA O kf xs (j - 1)) (k:Nat):KA O kf (mirror xs i j ((j - i) / 2)) k=KA O kf xs k:=by
 rw [yI hj];split
 ·rw [heq _ (1:) (1:),heq k (1:) (1:)]
 ·rfl
theorem Yr {xs:Array Keyed} {src d:Nat} (hs:src < xs.size) (hd:d<=src) (k:Nat) :
  KA O kf (bubble xs src d) k=if k=src - d then KA O kf xs src else if src - d < k/\k<=src then KA O kf xs (k - 1) else KA O kf xs k:=by
 have e:=getElem?_bubble hs d hd k
 by_cases h1:k=src - d
 ·rw [if_pos h1] at e ⊢;exact jO e
 ·rw [if_neg h1] at e ⊢
  by_cases h2:src - d < k/\k<=src
  ·rw [if_pos h2] at e ⊢;exact jO e
  ·rw [if_neg h2] at e ⊢;exact jO e
structure Re (lo:Nat) (xs ys:Array Keyed):Prop where
 perm:ys.Perm xs
 keep:∀ k,k < lo->ys[k]?=xs[k]?
theorem Re.refl (lo:Nat) (xs:Array Keyed):Re lo xs xs:=⟨Array.Perm.refl _,fun _ _=>rfl⟩
theorem Re.trans {lo:Nat} {xs ys zs:Array Keyed} (a:Re lo xs ys) (b:Re lo ys zs):Re lo xs zs:=⟨b.perm.trans a.perm,fun k h=>(b.keep k h).trans (a.keep k h)⟩
theorem Re.size {lo:Nat} {xs ys:Array Keyed} (a:Re lo xs ys):ys.size=xs.size:=a.perm.size_eq
theorem Re.mirror {lo i j:Nat} {xs:Array Keyed} (hi:lo<=i) (hj:j<=xs.size):Re lo xs (mirror xs i j ((j - i) / 2)):=⟨mirror_perm _ _ _ _,fun k h=>by rw [getElem?_mirror_all hj k,if_neg (1:)]⟩
theorem Re.bubble {lo src d:Nat} {xs:Array Keyed} (hs:src < xs.size) (hd:lo+d<=src):Re lo xs (bubble xs src d):=⟨bubble_perm _ _ _,fun k h=>by rw [getElem?_bubble hs d (1:),if_neg (1:),if_neg (1:)]⟩
theorem Re.mem {lo:Nat} {xs ys:Array Keyed} (a:Re lo xs ys) {G:Keyed->Prop} (h:∀ x∈xs.toList,G x):∀ x∈ys.toList,G x:=fun x hx=>h x ((Array.perm_iff_toList_perm.mp a.perm).mem_iff.mp hx)
end
abbrev ASt:=Option (Option Nat)×Nat
abbrev BSt:=Option (Option Nat)×Nat×Nat
noncomputable def asc (lo a nrem:Nat):StateT SortSt Sem ASt:=
 forIn [a:nrem] ((none,a):ASt) fun _ c=>do
  let r<-ltAt' (lo+c.2) (lo+c.2 - 1)
  match r with
  | some sm=>if sm=true then pure (.done (none,c.2)) else pure (.yield (none,c.2+1))
  | _=>pure (.done (some none,c.2))
noncomputable def dsc (lo a nrem:Nat):StateT SortSt Sem BSt:=
 forIn [a:nrem] ((none,a,0):BSt) fun _ c=>do
  let r<-ltAt' (lo+c.2.1) (lo+c.2.1 - 1)
  match r with
  | some sm=>
   if sm=true then
    if c.2.2 > 0 then do
     reverseSlice' (lo+c.2.1 - (c.2.2+1)) (lo+c.2.1)
     pure (.yield (none,c.2.1+1,0))
    else pure (.yield (none,c.2.1+1,0))
   else do
    let r<-ltAt' (lo+c.2.1 - 1) (lo+c.2.1)
    match r with
    | some lg=>if lg=true then pure (.done (none,c.2.1,c.2.2)) else pure (.yield (none,c.2.1+1,c.2.2+1))
    | _=>pure (.done (some none,c.2.1,c.2.2))
  | _=>pure (.done (some none,c.2.1,c.2.2))
noncomputable def tl3 (lo n nrem:Nat):StateT SortSt Sem (Option Nat):=do
 reverseSlice' lo (lo+n)
 let c<-asc lo n nrem
 match c.1 with
 | some r=>pure r
 | none=>pure (some c.2)
noncomputable def dpt (lo n nrem:Nat):StateT SortSt Sem (Option Nat):=do
 rule "list.sort.descending-run"
 let c<-dsc lo (n+1) nrem
 match c.1 with
 | some r=>pure r
 | none=>if c.2.2 > 0 then do reverseSlice' (lo+c.2.1 - (c.2.2+1)) (lo+c.2.1);tl3 lo c.2.1 nrem else tl3 lo c.2.1 nrem
theorem qi5 (lo nrem:Nat):countRun' lo nrem=(do
 let c<-asc lo 1 nrem
 match c.1 with
 | some r=>pure r
 | none=>
  if (c.2 == nrem)=true then pure (some c.2)
  else if c.2 > 1 then do
   let r<-ltAt' lo (lo+c.2 - 1)
   match r with
   | some rs=>if rs=true then pure (some c.2) else do reverseSlice' lo (lo+c.2);dpt lo c.2 nrem
   | _=>pure none
  else dpt lo c.2 nrem):=by
 rw [countRun'_eq];show (forIn _ _ _ >>= _:StateT SortSt Sem (Option Nat))=asc lo 1 nrem >>= _;refine congr (congrArg Bind.bind ?_) (funext fun c=>?_)
 ·delta asc
  refine congrArg (forIn _ _) (funext fun _=>funext fun c=>?_);refine congrArg (fun z=>_ >>= z) (funext fun r=>?_)
  cases r with
  | none=>exact rfl
  | some sm=>exact rfl
 ·obtain ⟨c1,c2⟩:=c
  cases c1 with
  | some r=>rfl
  | none=>
   show (ite _ _ (ite _ _ _):StateT SortSt Sem (Option Nat))=ite _ _ (ite _ _ _);refine congrArg (ite _ _) ?_;refine congr (congrArg (ite _) ?_) ?_
   ·refine congrArg (fun z=>_ >>= z) (funext fun r=>?_)
    cases r with
    | none=>exact rfl
    | some rs=>
     show (ite _ _ _:StateT SortSt Sem (Option Nat))=ite _ _ _;refine congrArg (ite _ _) ?_;refine congrArg (fun z=>_ >>= z) (funext fun _=>?_)
     delta dpt
     refine congrArg (fun z=>_ >>= z) (funext fun _=>?_);show (forIn _ _ _ >>= _:StateT SortSt Sem (Option Nat))=dsc lo (c2+1) nrem >>= _;refine congr (congrArg Bind.bind ?_) (funext fun d=>?_)
     ·delta dsc
      refine congrArg (forIn _ _) (funext fun _=>funext fun c=>?_);refine congrArg (fun z=>_ >>= z) (funext fun r=>?_)
      cases r with
      | none=>exact rfl
      | some sm=>
       show (ite _ _ _:StateT SortSt Sem (ForInStep BSt))=ite _ _ _;refine congr (congrArg (ite _) ?_) ?_
       ·exact rfl
       ·refine congrArg (fun z=>_ >>= z) (funext fun r=>?_)
        cases r with
        | none=>exact rfl
        | some lg=>exact rfl
     ·obtain ⟨d1,d2,d3⟩:=d
      cases d1 with
      | some r=>exact rfl
      | none=>
       show (ite _ _ _:StateT SortSt Sem (Option Nat))=ite _ _ _;refine congr (congrArg (ite _) ?_) ?_
       ·refine congrArg (fun z=>_ >>= z) (funext fun _=>?_)
        delta tl3
        refine congrArg (fun z=>_ >>= z) (funext fun _=>?_);show (forIn _ _ _ >>= _:StateT SortSt Sem (Option Nat))=asc lo d2 nrem >>= _;refine congr (congrArg Bind.bind ?_) (funext fun e=>?_)
        ·delta asc
         refine congrArg (forIn _ _) (funext fun _=>funext fun c=>?_);refine congrArg (fun z=>_ >>= z) (funext fun r=>?_)
         cases r with
         | none=>exact rfl
         | some sm=>exact rfl
        ·obtain ⟨e1,e2⟩:=e
         cases e1 with
         | some r=>exact rfl
         | none=>exact rfl
       ·delta tl3
        refine congrArg (fun z=>_ >>= z) (funext fun _=>?_);show (forIn _ _ _ >>= _:StateT SortSt Sem (Option Nat))=asc lo d2 nrem >>= _;refine congr (congrArg Bind.bind ?_) (funext fun e=>?_)
        ·delta asc
         refine congrArg (forIn _ _) (funext fun _=>funext fun c=>?_);refine congrArg (fun z=>_ >>= z) (funext fun r=>?_)
         cases r with
         | none=>exact rfl
         | some sm=>exact rfl
        ·obtain ⟨e1,e2⟩:=e
         cases e1 with
         | some r=>exact rfl
         | none=>exact rfl
   ·show _=dpt lo c2 nrem
    delta dpt
    refine congrArg (fun z=>_ >>= z) (funext fun _=>?_);show (forIn _ _ _ >>= _:StateT SortSt Sem (Option Nat))=dsc lo (c2+1) nrem >>= _;refine congr (congrArg Bind.bind ?_) (funext fun d=>?_)
    ·delta dsc
     refine congrArg (forIn _ _) (funext fun _=>funext fun c=>?_);refine congrArg (fun z=>_ >>= z) (funext fun r=>?_)
     cases r with
     | none=>exact rfl
     | some sm=>
      show (ite _ _ _:StateT SortSt Sem (ForInStep BSt))=ite _ _ _;refine congr (congrArg (ite _) ?_) ?_
      ·exact rfl
      ·refine congrArg (fun z=>_ >>= z) (funext fun r=>?_)
       cases r with
       | none=>exact rfl
       | some lg=>exact rfl
    ·obtain ⟨d1,d2,d3⟩:=d
     cases d1 with
     | some r=>exact rfl
     | none=>
      show (ite _ _ _:StateT SortSt Sem (Option Nat))=ite _ _ _;refine congr (congrArg (ite _) ?_) ?_
      ·refine congrArg (fun z=>_ >>= z) (funext fun _=>?_)
       delta tl3
       refine congrArg (fun z=>_ >>= z) (funext fun _=>?_);show (forIn _ _ _ >>= _:StateT SortSt Sem (Option Nat))=asc lo d2 nrem >>= _;refine congr (congrArg Bind.bind ?_) (funext fun e=>?_)
       ·delta asc
        refine congrArg (forIn _ _) (funext fun _=>funext fun c=>?_);refine congrArg (fun z=>_ >>= z) (funext fun r=>?_)
        cases r with
        | none=>exact rfl
        | some sm=>exact rfl
       ·obtain ⟨e1,e2⟩:=e
        cases e1 with
        | some r=>exact rfl
        | none=>exact rfl
      ·delta tl3
       refine congrArg (fun z=>_ >>= z) (funext fun _=>?_);show (forIn _ _ _ >>= _:StateT SortSt Sem (Option Nat))=asc lo d2 nrem >>= _;refine congr (congrArg Bind.bind ?_) (funext fun e=>?_)
       ·delta asc
        refine congrArg (forIn _ _) (funext fun _=>funext fun c=>?_);refine congrArg (fun z=>_ >>= z) (funext fun r=>?_)
        cases r with
        | none=>exact rfl
        | some sm=>exact rfl
       ·obtain ⟨e1,e2⟩:=e
        cases e1 with
        | some r=>exact rfl
        | none=>exact rfl
section
variable {M:Model} {A:Around} {E:PQ} {s:Shared} {O:KeyOrd} {kf:Keyed->O.α} {κ:SortKind} {G:Keyed->Prop}
theorem yJ (L:qcb M A E s O kf κ G) {st:SortSt} {i j:Nat} {Q:Option Bool->SortSt->Prop} (hk:kindOf st=κ) (hG:∀ x∈(arrOf st).toList,G x) (hi:i < (arrOf st).size) (hj:j < (arrOf st).size)
  (h:Q (some (O.blt (KA O kf (arrOf st) i) (KA O kf (arrOf st) j))) st):wpS M A E s (ltAt' i j) Q st:=by
 rw [ltAt'_eq];refine wpS_bind (wpS_get ?_);obtain ⟨x,ex,mx⟩:=qav hi;obtain ⟨y,ey,my⟩:=qav hj;rw [qcc ex,qcc ey] at h;exact wpS_bind (qau ex (wpS_bind (qau ey (L x y (hG x mx) (hG y my) st Q hk h))))
theorem QQ {i j:Nat} {st:SortSt} {Q:Unit->SortSt->Prop} (h:Q () (setArr st (mirror (arrOf st) i j ((j - i) / 2)))):wpS M A E s (reverseSlice' i j) Q st:=by rw [reverseSlice'_eq];exact wpS_modify h
theorem qdo (L:qcb M A E s O kf κ G) {st:SortSt} {lo a nrem:Nat} {Q:ASt->SortSt->Prop} (hk:kindOf st=κ) (hG:∀ x∈(arrOf st).toList,G x) (hn:lo+nrem<=(arrOf st).size) (ha:1<=a) (han:a<=nrem)
  (hs:Inc O kf (arrOf st) lo (lo+a))
  (h:∀ n,a<=n->n<=nrem->Inc O kf (arrOf st) lo (lo+n)->(n=nrem\/O.klt (KA O kf (arrOf st) (lo+n)) (KA O kf (arrOf st) (lo+n - 1)))->Q (none,n) st):wpS M A E s (asc lo a nrem) Q st:=by
 unfold asc;refine wpS_forRange (I:=fun x c st'=>st'=st/\c=(none,x)/\Inc O kf (arrOf st) lo (lo+x)) ?step ?fin ⟨rfl,rfl,hs⟩
 case fin=>rintro c st' ⟨rfl,rfl,hs'⟩;rw [show max a nrem=nrem by omega] at hs' ⊢;exact h nrem han (Nat.le_refl _) hs' (.inl rfl)
 case step=>
  rintro x c st' hax hxn ⟨rfl,rfl,hs'⟩;dsimp only;refine wpS_bind (yJ L hk hG (1:) (1:) ?_)
  cases hb:O.blt (KA O kf (arrOf st') (lo+x)) (KA O kf (arrOf st') (lo+x - 1)) with
  | true=>simp only [if_true];exact wpS_pure (h x hax (1:) hs' (.inr hb))
  | false=>
   simp only [Bool.false_eq_true,if_false];refine wpS_pure ⟨rfl,rfl,fun i j h1 h2 h3=>?_⟩
   by_cases hjx:j < lo+x
   ·exact hs' i j h1 h2 hjx
   ·have:j=lo+x:=by omega
    subst this
    by_cases e:i=lo+x
    ·subst e;exact KeyOrd.kle_refl _
    ·exact KeyOrd.kle_trans (hs' i (lo+x - 1) h1 (1:) (1:)) hb
noncomputable def Zy (O:KeyOrd) (kf:Keyed->O.α) (lo nrem:Nat) (st:SortSt) (Q:Option Nat->SortSt->Prop):Prop:=
 ∀ m xs,Re lo (arrOf st) xs->1<=m->m<=nrem->Inc O kf xs lo (lo+m)->Q (some m) (setArr st xs)
theorem Zy.step {lo nrem:Nat} {st:SortSt} {Q:Option Nat->SortSt->Prop} {xs:Array Keyed} (h:Zy O kf lo nrem st Q) (r:Re lo (arrOf st) xs):Zy O kf lo nrem (setArr st xs) Q:=
 fun m ys r' h1 h2 h3=>h m ys (r.trans r') h1 h2 h3
theorem qdp (L:qcb M A E s O kf κ G) {st:SortSt} {lo n nrem:Nat} {Q:Option Nat->SortSt->Prop} (hk:kindOf st=κ) (hG:∀ x∈(arrOf st).toList,G x) (hn:lo+nrem<=(arrOf st).size) (h1:1<=n) (hnn:n<=nrem)
  (hs:Dec O kf (arrOf st) lo (lo+n)) (h:Zy O kf lo nrem st Q):wpS M A E s (tl3 lo n nrem) Q st:=by
 unfold tl3;refine wpS_bind (QQ ?_);have r:Re lo (arrOf st) (mirror (arrOf st) lo (lo+n) ((lo+n - lo) / 2)):=Re.mirror (Nat.le_refl _) (1:);refine wpS_bind (qdo L (st:=setArr st (mirror (arrOf st) lo (lo+n) ((lo+n - lo) / 2))) hk (r.mem hG) (by have:=r.size;show lo+nrem<=(mirror (arrOf st) lo (lo+n) ((lo+n - lo) / 2)).size;omega) h1 hnn ?_ fun m hm1 hm2 hs2 _=>wpS_pure (h m _ r (1:) hm2 hs2));intro i j h2 h3 h4;show O.kle (KA O kf (mirror (arrOf st) lo (lo+n) ((lo+n - lo) / 2)) i) (KA O kf (mirror (arrOf st) lo (lo+n) ((lo+n - lo) / 2)) j);rw [yI (1:),yI (1:),if_pos (1:),if_pos (1:)];exact hs _ _ (1:) (1:) (1:)
theorem qgo (L:qcb M A E s O kf κ G) {st:SortSt} {lo n nrem:Nat} {Q:BSt->SortSt->Prop} (hk:kindOf st=κ) (hG:∀ x∈(arrOf st).toList,G x) (hn:lo+nrem<=(arrOf st).size) (h1:1<=n) (hnn:n<=nrem)
  (hs:Dec O kf (arrOf st) lo (lo+n))
  (h:∀ m ne xs,Re lo (arrOf st) xs->n<=m->m<=nrem->Dec O kf xs lo (lo+m)->ne+1<=m->(∀ i,lo+m - (ne+1)<=i->i < lo+m->KA O kf xs i=KA O kf xs (lo+m - 1))->Q (none,m,ne) (setArr st xs)):wpS M A E s (dsc lo n nrem) Q st:=by
 unfold dsc
 refine wpS_forRange (I:=fun x c st'=>∃ ne xs,c=(none,x,ne)/\st'=setArr st xs/\Re lo (arrOf st) xs/\Dec O kf xs lo (lo+x)/\ne+1<=x/\(∀ i,lo+x - (ne+1)<=i->i < lo+x->KA O kf xs i=KA O kf xs (lo+x - 1))) ?step ?fin
  ⟨0,arrOf st,rfl,rfl,Re.refl _ _,hs,by omega,fun i a b=>by congr 1;omega⟩
 case fin=>rintro c st' ⟨ne,xs,rfl,rfl,r,hs',hq,he⟩;rw [show max n nrem=nrem by omega] at hs' hq he ⊢;exact h nrem ne xs r hnn (Nat.le_refl _) hs' hq he
 case step=>
  rintro x c st' hax hxn ⟨ne,xs,rfl,rfl,r,hs',hq,he⟩;dsimp only;have hsz:xs.size=(arrOf st).size:=r.size;refine wpS_bind (yJ L (st:=setArr st xs) hk (r.mem hG) (by show lo+x < xs.size;omega) (by show lo+x - 1 < xs.size;omega) ?_);show wpS M A E s _ _ _
  cases hb:O.blt (KA O kf (arrOf (setArr st xs)) (lo+x)) (KA O kf (arrOf (setArr st xs)) (lo+x - 1)) with
  | true=>
   have hb:O.blt (KA O kf xs (lo+x)) (KA O kf xs (lo+x - 1))=true:=hb;simp only [if_true]
   have step1:∀ ys:Array Keyed,(∀ k,KA O kf ys k=KA O kf xs k)->Dec O kf ys lo (lo+(x+1)):=by
    intro ys hy i j a b d;rw [hy,hy]
    by_cases hjx:j < lo+x
    ·exact hs' i j a b hjx
    ·have:j=lo+x:=by omega
     subst this
     by_cases e:i=lo+x
     ·subst e;exact KeyOrd.kle_refl _
     ·exact KeyOrd.kle_trans (KeyOrd.kle_of_klt hb) (hs' i (lo+x - 1) a (1:) (1:))
   by_cases hneq:ne > 0
   ·rw [if_pos hneq];refine wpS_bind (QQ (wpS_pure ⟨0,_,rfl,rfl,r.trans (Re.mirror (xs:=xs) (1:) (1:)),step1 _ (qZ (xs:=xs) (1:) he),by omega,fun i a b=>by congr 1;omega⟩))
   ·rw [if_neg hneq];exact wpS_pure ⟨0,xs,rfl,rfl,r,step1 _ (fun _=>rfl),by omega,fun i a b=>by congr 1;omega⟩
  | false=>
   have hb:O.blt (KA O kf xs (lo+x)) (KA O kf xs (lo+x - 1))=false:=hb;simp only [Bool.false_eq_true,if_false];refine wpS_bind (yJ L (st:=setArr st xs) hk (r.mem hG) (by show lo+x - 1 < xs.size;omega) (by show lo+x < xs.size;omega) ?_)
   cases hc:O.blt (KA O kf (arrOf (setArr st xs)) (lo+x - 1)) (KA O kf (arrOf (setArr st xs)) (lo+x)) with
   | true=>simp only [if_true];exact wpS_pure (h x ne xs r hax (1:) hs' hq he)
   | false=>
    have hc:O.blt (KA O kf xs (lo+x - 1)) (KA O kf xs (lo+x))=false:=hc;simp only [Bool.false_eq_true,if_false];have heqx:KA O kf xs (lo+x)=KA O kf xs (lo+x - 1):=KeyOrd.kle_antisymm hc hb;refine wpS_pure ⟨ne+1,xs,rfl,rfl,r,fun i j a b d=>?_,by omega,fun i a b=>?_⟩
    ·by_cases hjx:j < lo+x
     ·exact hs' i j a b hjx
     ·have:j=lo+x:=by omega
      subst this
      by_cases e:i=lo+x
      ·subst e;exact KeyOrd.kle_refl _
      ·rw [heqx];exact hs' i (lo+x - 1) a (1:) (1:)
    ·rw [show lo+(x+1) - 1=lo+x by omega]
     by_cases e:i=lo+x
     ·rw [e]
     ·rw [heqx];exact he i (1:) (1:)
theorem qdq (L:qcb M A E s O kf κ G) {st:SortSt} {lo n nrem:Nat} {Q:Option Nat->SortSt->Prop} (hk:kindOf st=κ) (hG:∀ x∈(arrOf st).toList,G x) (hn:lo+nrem<=(arrOf st).size) (hnn:n+1<=nrem)
  (hs:Dec O kf (arrOf st) lo (lo+(n+1))) (h:Zy O kf lo nrem st Q):wpS M A E s (dpt lo n nrem) Q st:=by
 unfold dpt;refine wpS_bind (wpS_lift (wpAny_rule ⟨rfl,?_⟩));refine wpS_bind (qgo L hk hG hn (1:) hnn hs fun m ne xs r h1 h2 h3 h4 h5=>?_);dsimp only;have hsz:xs.size=(arrOf st).size:=r.size
 by_cases hneq:ne > 0
 ·rw [if_pos hneq];have r2:Re lo xs (mirror xs (lo+m - (ne+1)) (lo+m) ((lo+m - (lo+m - (ne+1))) / 2)):=Re.mirror (1:) (1:);refine wpS_bind (QQ (qdp L hk (r2.mem (r.mem hG)) (by have:=r2.size;show lo+nrem<=(mirror xs (lo+m - (ne+1)) (lo+m) ((lo+m - (lo+m - (ne+1))) / 2)).size;omega) (1:) h2 ?_ ((h.step r).step r2)));intro i j a b d;show O.kle (KA O kf (mirror xs _ _ _) j) (KA O kf (mirror xs _ _ _) i);rw [qZ (1:) h5,qZ (1:) h5];exact h3 i j a b d
 ·rw [if_neg hneq];exact qdp L (st:=setArr st xs) hk (r.mem hG) (by show lo+nrem<=xs.size;omega) (1:) h2 h3 (h.step r)
theorem qi6 (L:qcb M A E s O kf κ G) {st:SortSt} {lo nrem:Nat} {Q:Option Nat->SortSt->Prop} (hk:kindOf st=κ) (hG:∀ x∈(arrOf st).toList,G x) (hn:lo+nrem<=(arrOf st).size) (h1:1<=nrem)
  (h:Zy O kf lo nrem st Q):wpS M A E s (countRun' lo nrem) Q st:=by
 rw [qi5];refine wpS_bind (qdo L hk hG hn (Nat.le_refl 1) h1 (fun i j a b d=>by have:i=j:=(1:);subst this;exact KeyOrd.kle_refl _) fun n hn1 hn2 hsn hor=>?_);dsimp only
 by_cases hnn:n=nrem
 ·rw [if_pos (by simpa using hnn)];exact wpS_pure (h n _ (Re.refl _ _) hn1 hn2 hsn)
 ·rw [if_neg (by simpa using hnn)];have hlt:=hor.resolve_left hnn
  by_cases hgt:n > 1
  ·rw [if_pos hgt];refine wpS_bind (yJ L hk hG (1:) (1:) ?_)
   cases hr:O.blt (KA O kf (arrOf st) lo) (KA O kf (arrOf st) (lo+n - 1)) with
   | true=>simp only [if_true];exact wpS_pure (h n _ (Re.refl _ _) hn1 hn2 hsn)
   | false=>
    simp only [Bool.false_eq_true,if_false]
    have hall:∀ k,lo<=k->k < lo+n->KA O kf (arrOf st) k=KA O kf (arrOf st) (lo+n - 1):=by intro k a b;exact KeyOrd.kle_antisymm (hsn k (lo+n - 1) a (1:) (1:)) (KeyOrd.kle_trans hr (hsn lo k (Nat.le_refl _) a b))
    have r:Re lo (arrOf st) (mirror (arrOf st) lo (lo+n) ((lo+n - lo) / 2)):=Re.mirror (Nat.le_refl _) (1:);refine wpS_bind (QQ (qdq L hk (r.mem hG) (by have:=r.size;show lo+nrem<=(mirror (arrOf st) lo (lo+n) ((lo+n - lo) / 2)).size;omega) (1:) ?_ (h.step r)));intro i j a b d;show O.kle (KA O kf (mirror (arrOf st) _ _ _) j) (KA O kf (mirror (arrOf st) _ _ _) i);rw [qZ (1:) hall,qZ (1:) hall]
    by_cases hjn:j < lo+n
    ·rw [hall i (1:) (1:),hall j (1:) hjn];exact KeyOrd.kle_refl _
    ·have:j=lo+n:=by omega
     subst this
     by_cases e:i=lo+n
     ·subst e;exact KeyOrd.kle_refl _
     ·rw [hall i (1:) (1:)];exact KeyOrd.kle_of_klt hlt
  ·rw [if_neg hgt]
   have:n=1:=by omega
   subst this;refine qdq L hk hG hn (1:) ?_ h;intro i j a b d
   by_cases e:i=j
   ·subst e;exact KeyOrd.kle_refl _
   ·have e1:i=lo:=by omega
    have e2:j=lo+1:=by omega
    subst e1 e2;exact KeyOrd.kle_of_klt (by simpa using hlt)
theorem qgp (L:qcb M A E s O kf κ G) {st:SortSt} {lo n ok:Nat} {Q:Bool->SortSt->Prop} (hk:kindOf st=κ) (hG:∀ x∈(arrOf st).toList,G x) (hn:lo+n<=(arrOf st).size) (hok:ok<=n) (hs:Inc O kf (arrOf st) lo (lo+ok))
  (h:∀ xs,Re lo (arrOf st) xs->Inc O kf xs lo (lo+n)->Q true (setArr st xs)):wpS M A E s (binarySort' lo n ok) Q st:=by
 rw [binarySort'_eq]
 refine wpS_bind (wpS_mono (wpS_forRange (I:=fun k c st'=>c=(none,())/\∃ xs,st'=setArr st xs/\Re lo (arrOf st) xs/\Inc O kf xs lo (lo+min k n))
  (Q:=fun c st'=>c=(none,())/\∃ xs,st'=setArr st xs/\Re lo (arrOf st) xs/\Inc O kf xs lo (lo+n)) ?step ?fin ?init) ?post)
 case post=>rintro c st' ⟨rfl,xs,rfl,r,hs'⟩;exact wpS_pure (h xs r hs')
 case init=>
  refine ⟨rfl,arrOf st,rfl,Re.refl _ _,fun i j a b d=>?_⟩
  by_cases h1:ok=0
  ·have:i=j:=by omega
   subst this;exact KeyOrd.kle_refl _
  ·exact hs i j a b (1:)
 case fin=>
  rintro c st' ⟨hc,xs,rfl,r,hs'⟩;refine ⟨hc,xs,rfl,r,?_⟩
  rwa [show min (max (max ok 1) n) n=n by omega] at hs'
 case step=>
  rintro k c st' hak hkn ⟨rfl,xs,rfl,r,hs'⟩;rw [show min k n=k by omega] at hs';have hsz:xs.size=(arrOf st).size:=r.size
  refine wpS_bind (wpS_mono (wpS_forRange (I:=fun x c st''=>st''=setArr st xs/\∃ l u,c=(none,l,u)/\l<=u/\u<=k/\u - l<=k - x/\
    (∀ i,i < l->O.kle (KA O kf xs (lo+i)) (KA O kf xs (lo+k)))/\(∀ i,u<=i->i < k->O.klt (KA O kf xs (lo+k)) (KA O kf xs (lo+i))))
   (Q:=fun c st''=>st''=setArr st xs/\∃ l u,c=(none,l,u)/\l<=k/\
    (∀ i,i < l->O.kle (KA O kf xs (lo+i)) (KA O kf xs (lo+k)))/\(∀ i,l<=i->i < k->O.klt (KA O kf xs (lo+k)) (KA O kf xs (lo+i)))) ?istep ?ifin ?iinit) ?ipost)
  case iinit=>exact ⟨rfl,0,k,rfl,by omega,by omega,by omega,fun i hi=>by omega,fun i h1 h2=>by omega⟩
  case ifin=>
   rintro c st'' ⟨rfl,l,u,rfl,a,b,d,e,f⟩
   have:l=u:=by omega
   subst this;exact ⟨rfl,l,l,rfl,b,e,f⟩
  case istep=>
   rintro x c st'' _ hxk ⟨rfl,l,u,rfl,a,b,d,e,f⟩;dsimp only
   by_cases hge:l≥u
   ·rw [if_pos hge]
    have:l=u:=by omega
    subst this;exact wpS_pure ⟨rfl,l,l,rfl,b,e,f⟩
   ·rw [if_neg hge];refine wpS_bind (yJ L (st:=setArr st xs) hk (r.mem hG) (by show lo+k < xs.size;omega) (by show lo+(l+u) / 2 < xs.size;omega) ?_)
    cases hb:O.blt (KA O kf (arrOf (setArr st xs)) (lo+k)) (KA O kf (arrOf (setArr st xs)) (lo+(l+u) / 2)) with
    | true=>have hb:O.blt (KA O kf xs (lo+k)) (KA O kf xs (lo+(l+u) / 2))=true:=hb;simp only [if_true];refine wpS_pure ⟨rfl,l,(l+u) / 2,rfl,by omega,by omega,by omega,e,fun i h1 h2=>?_⟩;exact KeyOrd.klt_of_klt_of_kle hb (hs' _ _ (1:) (1:) (1:))
    | false=>have hb:O.blt (KA O kf xs (lo+k)) (KA O kf xs (lo+(l+u) / 2))=false:=hb;simp only [Bool.false_eq_true,if_false];refine wpS_pure ⟨rfl,(l+u) / 2+1,u,rfl,by omega,by omega,by omega,fun i h1=>?_,f⟩;exact KeyOrd.kle_trans (hs' (lo+i) (lo+(l+u) / 2) (1:) (1:) (1:)) (show O.kle _ _ from hb)
  case ipost=>
   rintro c st'' ⟨rfl,l,u,rfl,hlk,hlo,hhi⟩;show wpS _ _ _ _ (do moveDown' (lo+k) (lo+l);pure (ForInStep.yield (none,()))) _ _;rw [moveDown'_eq];have hks:lo+k < xs.size:=by omega
   refine wpS_bind (wpS_modify (wpS_pure ⟨rfl,_,rfl,r.trans (Re.bubble hks (d:=lo+k - (lo+l)) (1:)),?_⟩));rw [show min (k+1) n=k+1 by omega];intro i j a b d;show O.kle (KA O kf (bubble xs (lo+k) (lo+k - (lo+l))) i) (KA O kf (bubble xs (lo+k) (lo+k - (lo+l))) j);rw [Yr hks (1:),Yr hks (1:),show lo+k - (lo+k - (lo+l))=lo+l by omega]
   have lo':∀ t,lo<=t->t < lo+l->O.kle (KA O kf xs t) (KA O kf xs (lo+k)):=fun t h1 h2=>by
    have:=hlo (t - lo) (1:)
    rwa [show lo+(t - lo)=t by omega] at this
   have hi':∀ t,lo+l<=t->t < lo+k->O.klt (KA O kf xs (lo+k)) (KA O kf xs t):=fun t h1 h2=>by
    have:=hhi (t - lo) (1:) (1:)
    rwa [show lo+(t - lo)=t by omega] at this
   repeat' split
   all_goals first
    | (exfalso;omega)
    | exact KeyOrd.kle_refl _
    | exact lo' _ (1:) (1:)
    | exact KeyOrd.kle_of_klt (hi' _ (1:) (1:))
    | exact hs' _ _ (1:) (1:) (1:)
end
end TS
namespace TS
open PySem PyProof.Rows
section
variable {prog:Program} {w:World} {A:Around} {E:PQ} {s:Shared} {O:KeyOrd} {kf:Keyed->O.α} {κ:SortKind}
def qaw (s s1:Shared):Prop:=∀ b o,s.heap.get? b=some o->s1.heap.get? b=some o
structure Sorts (prog:Program) (w:World) (s:Shared) (vs:List Value) (O:KeyOrd) (kf:Keyed->O.α) (κ:SortKind):Prop where
 kind:2<=vs.length->∀ (A:Around) (E:PQ) (s1:Shared) (Q:SortKind->Shared->Prop),qaw s s1->Q κ s1->wpAny (model prog w) A (keyKind' vs.toArray) Q E s1
 lt:∀ (A:Around) (E:PQ) (s1:Shared),qaw s s1->qcb (model prog w) A E s1 O kf κ (fun x=>x∈(pairsOf vs).toList)
end
end TS
namespace TS
open PySem PyProof.Rows
noncomputable def pO:KeyOrd where
 α:=Int×Int
 blt p q:=decide (p.1 < q.1)||(decide (p.1=q.1)&&decide (p.2 < q.2))
 irrefl a:=by simp
 trans a b c h1 h2:=by simp at h1 h2 ⊢;omega
 negTrans a b c h:=by simp at h ⊢;omega
 total a b h1 h2:=by
  obtain ⟨a1,a2⟩:=a;obtain ⟨b1,b2⟩:=b;simp at h1 h2;have e1:a1=b1:=by omega
  subst e1;have e2:a2=b2:=by omega
  rw [e2]
def nOf:Value->Int
 | .int n _=>n
 | _=>0
noncomputable def jr (h:Heap) (v:Value):Int×Int:=match v with
 | .ref a=>match h.get? a with
  | some o=>match o.data with
   | .seq xs _=>(nOf (xs.getD 0 .none),nOf (xs.getD 1 .none))
   | _=>(0,0)
  | none=>(0,0)
 | _=>(0,0)
def QR (h:Heap) (v:Value) (p:Int×Int):Prop:=∃ a t u,v=.ref a/\IsTup h a #[.int p.1 t,.int p.2 u]
theorem QR.pair {h:Heap} {v:Value} {p:Int×Int} (e:QR h v p):jr h v=p:=by obtain ⟨a,t,u,rfl,o,ho,hc,n,hd⟩:=e;unfold jr;simp only [ho,hd];rfl
theorem QR.grow {s s1:Shared} {v:Value} {p:Int×Int} (e:QR s.heap v p) (g:qaw s s1):QR s1.heap v p:=by obtain ⟨a,t,u,rfl,o,ho,hc,n,hd⟩:=e;exact ⟨a,t,u,rfl,o,g a o ho,hc,n,hd⟩
section
variable {prog:Program} {w:World} {A:Around} {E:PQ} {s:Shared}
theorem qgq {x y:Value} {p q:Int×Int} {Q:Bool->Shared->Prop} (hx:QR s.heap x p) (hy:QR s.heap y q) (h:Q (pO.blt p q) s):wpAny (model prog w) A (keyLt' (tuples' true) x y) Q E s:=by
 obtain ⟨a,t,u,rfl,o,ho,hc,n,hd⟩:=hx;obtain ⟨b,t',u',rfl,o',ho',hc',n',hd'⟩:=hy;refine PySem.W.kat_lt ho hd ho' hd' ?_;show PySem.W.KatLex prog w A true _ Q [(.int p.1 t,.int q.1 t'),(.int p.2 u,.int q.2 u')] 0 s;refine PySem.W.kat_cons (wpAny_eqBool_int ?_)
 by_cases e1:p.1=q.1
 ·rw [show (p.1 == q.1)=true by simpa using e1];refine PySem.W.kat_yes (PySem.W.kat_cons (wpAny_eqBool_int ?_))
  by_cases e2:p.2=q.2
  ·rw [show (p.2 == q.2)=true by simpa using e2];refine PySem.W.kat_yes (PySem.W.kat_nil ?_)
   have:pO.blt p q=false:=by unfold pO;simp [e1,e2]
   rw [this] at h;exact h
  ·rw [show (p.2 == q.2)=false by simpa using e2];refine PySem.W.kat_no (PySem.W.kat_one _ _ (lt_int ?_))
   have:pO.blt p q=decide (p.2 < q.2):=by unfold pO;simp [e1]
   rw [this] at h;exact h
 ·rw [show (p.1 == q.1)=false by simpa using e1];refine PySem.W.kat_no ?_
  have:pO.blt p q=decide (p.1 < q.1):=by unfold pO;simp [e1]
  rw [this] at h;exact oneLt_int h
theorem qax:∀ {vs:List Value} {ps:List (Int×Int)},Paired (QR s.heap) vs ps->∃ fs,PySem.W.KatTups s.heap vs fs/\fs.length=vs.length/\∀ v∈fs,∃ n t,v=Value.int n t
 | _,_,.nil=>⟨[],trivial,rfl,fun _ h=>nomatch h⟩
 | _,_,.cons r rs=>by
  obtain ⟨a,t,u,rfl,o,ho,hc,n,hd⟩:=r;obtain ⟨fs,h1,h2,h3⟩:=qax rs;refine ⟨_::fs,PySem.W.KatTups.cons ho hc hd rfl h1,by simp [h2],fun v hv=>?_⟩;rcases List.mem_cons.mp hv with rfl | hv
  ·exact ⟨_,_,rfl⟩
  ·exact h3 v hv
theorem Ys {vs:List Value} {x:Keyed} (h:x∈(pairsOf vs).toList):x.1=x.2/\x.1∈vs:=by rw [pairsOf_toList] at h;exact mem_zip_self h
theorem Paired.at_mem {α β:Type} {R:α->β->Prop}:∀ {l:List α} {m:List β},Paired R l m->∀ a∈l,∃ b∈m,R a b
 | _,_,.nil,_,h=>nomatch h
 | _,_,.cons r rs,a,h=>by
  rcases List.mem_cons.mp h with rfl | h
  ·exact ⟨_,List.mem_cons_self,r⟩
  ·obtain ⟨b,hb,q⟩:=Paired.at_mem rs a h;exact ⟨b,List.mem_cons_of_mem _ hb,q⟩
theorem Paired.grow2 {s s1:Shared} (g:qaw s s1):∀ {vs:List Value} {ps:List (Int×Int)},Paired (QR s.heap) vs ps->Paired (QR s1.heap) vs ps
 | _,_,.nil=>.nil
 | _,_,.cons r rs=>.cons (r.grow g) (Paired.grow2 g rs)
theorem qay {vs:List Value} {ps:List (Int×Int)} (h:Paired (QR s.heap) vs ps):Sorts prog w s vs pO (fun x=>jr s.heap x.1) (tuples' true) where
 kind:=fun h2 A E s1 Q g q=>by obtain ⟨fs,t1,t2,t3⟩:=qax (Paired.grow2 g h);refine PySem.W.kat_kind t1 (1:) (T:=Value.type "int") (fun v hv=>?_) rfl q;obtain ⟨n,t,rfl⟩:=t3 v hv;exact .now
 lt:=fun A E s1 g x y hx hy st Q hk q=>by obtain ⟨p,_,hp⟩:=Paired.at_mem h _ (Ys hx).2;obtain ⟨p',_,hp'⟩:=Paired.at_mem h _ (Ys hy).2;have q:Q (some (pO.blt (jr s.heap x.1) (jr s.heap y.1))) st:=q;rw [hp.pair,hp'.pair] at q;rw [lt'_eq];refine wpS_bind (wpS_get ?_);rw [hk];refine wpS_bind (wpS_lift (wpAny_attempt (qgq (hp.grow g) (hp'.grow g) ⟨rfl,?_⟩)));exact wpS_pure q
end
theorem Paired.perm {α β:Type} {R:α->β->Prop} {us us':List β} (p:us'.Perm us):∀ {xs:List α},Paired R xs us->∃ xs',xs'.Perm xs/\Paired R xs' us':=by
 induction p with
 | nil=>exact fun {xs} h=>⟨xs,List.Perm.refl _,h⟩
 | cons x _ ih=>
  intro xs h
  cases h with
  | cons r rs=>obtain ⟨xs',h1,h2⟩:=ih rs;exact ⟨_::xs',h1.cons _,.cons r h2⟩
 | swap x y l=>
  intro xs h
  cases h with
  | cons r rs=>
   cases rs with
   | cons r' rs=>exact ⟨_::_::_,List.Perm.swap ..,.cons r' (.cons r rs)⟩
 | trans _ _ ih1 ih2=>intro xs h;obtain ⟨x1,h1,h2⟩:=ih2 h;obtain ⟨x2,h3,h4⟩:=ih1 h2;exact ⟨x2,h3.trans h1,h4⟩
end TS
namespace L2
open PySem PySem.Spec PyProof.Rows
noncomputable def P2 (K:Frag) (H:Hp) (v:V) (p:Int×Int):Prop:=∃ a,v=.ref a/\H a=some (.tup [.int p.1,.int p.2])
def qaz (p q:Int×Int):Prop:=p.1 < q.1\/(p.1=q.1/\p.2<=q.2)
section
variable {X:Cx}
theorem P2.raw {pins:PP} {σ:St} {H:Hp} {s:Shared} {v:V} {u:Value} {p:Int×Int} (I:Inv X pins σ H s) (h:P2 X.K H v p) (r:qJ v u):TS.QR s.heap u p:=by obtain ⟨a,rfl,hq⟩:=h;obtain rfl:u=Value.ref a:=r;obtain ⟨its,rv,pl,_⟩:=I.tuple (SqT.of hq);obtain ⟨u1,u2,rfl,⟨t1,rfl⟩,⟨t2,rfl⟩⟩:=Yd rv;exact ⟨a,t1,t2,rfl,pl⟩
end
end L2
namespace L2
open PySem PySem.Spec PyProof.Rows
noncomputable def zi (env:Env) (ns:List (Str×NameKind)) (acc:List (Str×Addr)):List (Str×Addr):=ns.foldl (fun cs x=>if x.2 == .free then (x.1,(env.cells.lookup x.1).getD 0)::cs else cs) acc
theorem qdr {env:Env}:∀ (ns:List (Str×NameKind)) (acc:List (Str×Addr)),(∀ x∈ns,x.2=.free->∃ c,env.cells.lookup x.1=some c)->
  (forIn ns acc fun (x:Str×NameKind) (cs:List (Str×Addr))=>(match x with | (name,kind)=>if kind == .free then (do let c<-cellOf env name;pure (ForInStep.yield ((name,c)::cs)):Sem (ForInStep (List (Str×Addr)))) else pure (ForInStep.yield cs)))=(pure (zi env ns acc):Sem (List (Str×Addr)))
 | [],acc,_=>by rw [List.forIn_nil];rfl
 | (n,k)::r,acc,h=>by
  rw [List.forIn_cons];have hr:=qdr (env:=env) r
  by_cases hk:k=.free
  ·subst hk;obtain ⟨c,hc⟩:=h (n,.free) List.mem_cons_self rfl;have e1:cellOf env n=pure c:=by unfold cellOf;rw [hc]
   simp only [beq_self_eq_true,if_true,e1,pure_bind];rw [hr _ fun x hx=>h x (List.mem_cons_of_mem _ hx)];unfold zi;simp [hc]
  ·have hb:(k == NameKind.free)=false:=by simpa using hk
   simp only [hb,Bool.false_eq_true,if_false,pure_bind];rw [hr _ fun x hx=>h x (List.mem_cons_of_mem _ hx)];unfold zi;rw [List.foldl_cons];simp only [hb,Bool.false_eq_true,if_false]
theorem qds {env:Env} {scope:Scope} (h:∀ x∈scope.names,x.2=.free->∃ c,env.cells.lookup x.1=some c):closureFor scope env=pure (zi env scope.names []):=by
 unfold closureFor
 have:=qdr scope.names [] h
 simp only [bind_pure_comp] at this;simp only [bind_pure_comp,id_map',this];rfl
theorem qaA {env:Env}:∀ (ns:List (Str×NameKind)) (acc:List (Str×Addr)),(∀ x∈ns,x.2=.free->∃ c,env.cells.lookup x.1=some c)->(∀ x c,acc.lookup x=some c->env.cells.lookup x=some c)->
  ∀ x c,(zi env ns acc).lookup x=some c->env.cells.lookup x=some c
 | [],_,_,h=>h
 | (n,k)::r,acc,hf,h=>by
  have ih:=qaA (env:=env) r (if k == .free then (n,(env.cells.lookup n).getD 0)::acc else acc) (fun x hx=>hf x (List.mem_cons_of_mem _ hx)) (fun x c e=>by
   by_cases hk:k=.free
   ·subst hk;simp only [beq_self_eq_true,if_true] at e;obtain ⟨c',hc⟩:=hf (n,.free) List.mem_cons_self rfl;rw [List.lookup_cons] at e
    by_cases hx:x=n
    ·subst hx;simp [hc] at e;rw [hc,e]
    ·rw [show (x == n)=false by simpa using hx] at e;exact h x c e
   ·rw [show (k == NameKind.free)=false by simpa using hk] at e;exact h x c e)
  exact ih
theorem jP {env:Env} {ns:List (Str×NameKind)} (h:∀ x∈ns,x.2=.free->∃ c,env.cells.lookup x.1=some c):∀ x c,(zi env ns []).lookup x=some c->env.cells.lookup x=some c:=qaA ns [] h fun _ _ e=>by cases e
theorem JF {env:Env}:∀ (ns:List (Str×NameKind)) (acc:List (Str×Addr)) (x:Str) (c:Addr),acc.lookup x=some c->∃ c,(zi env ns acc).lookup x=some c
 | [],_,_,c,h=>⟨c,h⟩
 | (n,k)::r,acc,x,c,h=>by
  show ∃ c,(zi env r (if k == .free then (n,(env.cells.lookup n).getD 0)::acc else acc)).lookup x=some c
  by_cases hk:k=.free
  ·subst hk;simp only [beq_self_eq_true,if_true]
   by_cases hx:x=n
   ·subst hx;exact JF r _ x ((env.cells.lookup x).getD 0) (by rw [List.lookup_cons];simp)
   ·exact JF r _ x c (by rw [List.lookup_cons,show (x == n)=false by simpa using hx];exact h)
  ·rw [show (k == NameKind.free)=false by simpa using hk];exact JF r _ x c h
theorem Qc {env:Env}:∀ (ns:List (Str×NameKind)) (acc:List (Str×Addr)) (x:Str),(x,NameKind.free)∈ns->∃ c,(zi env ns acc).lookup x=some c
 | (n,k)::r,acc,x,h=>by
  show ∃ c,(zi env r (if k == .free then (n,(env.cells.lookup n).getD 0)::acc else acc)).lookup x=some c;rcases List.mem_cons.mp h with e | h
  ·injection e with e1 e2;subst e1 e2;simp only [beq_self_eq_true,if_true];exact JF r _ x ((env.cells.lookup x).getD 0) (by rw [List.lookup_cons];simp)
  ·exact Qc r _ x h
theorem yw {env:Env}:∀ {names:List (Str×NameKind)} {x:Str},names.lookup x=some .free->
  (names.map fun (n,k)=>if (k == NameKind.free&&env.scope.kind == .function&&env.kindOf n == some .cell) then (n,NameKind.cell) else (n,k)).lookup x=some .cell\/
  (names.map fun (n,k)=>if (k == NameKind.free&&env.scope.kind == .function&&env.kindOf n == some .cell) then (n,NameKind.cell) else (n,k)).lookup x=some .free
 | [],_,h=>by simp at h
 | (n,k)::r,x,h=>by
  simp only [List.map_cons]
  by_cases hx:x=n
  ·subst hx;simp [List.lookup_cons] at h;subst h
   by_cases hc:(NameKind.free == NameKind.free&&env.scope.kind == .function&&env.kindOf x == some .cell)=true
   ·rw [if_pos hc];left;simp [List.lookup_cons]
   ·rw [if_neg hc];right;simp [List.lookup_cons]
  ·have hb:(x == n)=false:=by simpa using hx
   rw [List.lookup_cons,hb] at h;have ih:=yw (env:=env) h
   by_cases hc:(k == NameKind.free&&env.scope.kind == .function&&env.kindOf n == some .cell)=true
   ·rw [if_pos hc];simp only [List.lookup_cons,hb];exact ih
   ·rw [if_neg hc];simp only [List.lookup_cons,hb];exact ih
theorem qaB {env:Env}:∀ {names:List (Str×NameKind)} {x:Str} {k':NameKind},(names.map fun (n,k)=>if (k == NameKind.free&&env.scope.kind == .function&&env.kindOf n == some .cell) then (n,NameKind.cell) else (n,k)).lookup x=some k'->
  k'=.cell\/k'=.free->(x,NameKind.free)∈names\/(x,NameKind.cell)∈names
 | [],_,_,h,_=>by simp at h
 | (n,k)::r,x,k',h,hk=>by
  simp only [List.map_cons] at h
  by_cases hx:x=n
  ·subst hx
   by_cases hc:(k == NameKind.free&&env.scope.kind == .function&&env.kindOf x == some .cell)=true
   ·have:k=.free:=by simp at hc;exact hc.1.1
    subst this;exact .inl List.mem_cons_self
   ·rw [if_neg hc] at h;simp [List.lookup_cons] at h;subst h;rcases hk with rfl | rfl
    ·exact .inr List.mem_cons_self
    ·exact .inl List.mem_cons_self
  ·have hb:(x == n)=false:=by simpa using hx
   have ih:=qaB (env:=env) (names:=r) (x:=x) (k':=k') (by
    by_cases hc:(k == NameKind.free&&env.scope.kind == .function&&env.kindOf n == some .cell)=true
    ·rw [if_pos hc] at h;simp only [List.lookup_cons,hb] at h;exact h
    ·rw [if_neg hc] at h;simp only [List.lookup_cons,hb] at h;exact h) hk
   exact ih.imp (List.mem_cons_of_mem _) (List.mem_cons_of_mem _)
noncomputable def blk (X:Cx) (N:List Str) (scope:Scope) (cl:List (Str×Addr)) (C:Addr) (fp:List Addr) (s2:Shared) (H2:Hp):Cx:=
 { X with N:=N,s₀:=s2,H₀:=H2,env:=compEnvC scope cl C X.env,outer:=X.stack,stack:=X.stack,ex:=fp,fn:=fun _=>false,pn:=[],xe:=fun _ _=>False }
structure BlkScope (X:Cx) (own:List Str) (fr:List Nat) (scope:Scope):Prop where
 kind:scope.kind=.function
 nocell:∀ x∈scope.names,x.2≠.cell
 names:∀ x∈scope.names,x.2=.local->scope.names.lookup x.1=some .local
 free:∀ x∈scope.names,x.2=.free->X.env.kindOf x.1=some .cell\/X.env.kindOf x.1=some .free
 look:∀ i∈fr,scope.names.lookup (X.N.getD i "")=some .free
def ye (X:Cx) (own:List Str) (fr:List Nat):List Str:=own++fr.map fun i=>X.N.getD i ""
def Ja (own:List Str) (fr:List Nat) (σ:St):St:=(own.map fun _=>none)++fr.map fun i=>(σ[i]?).join
section
variable {X:Cx} {pins:PP} {σ:St} {H:Hp} {s:Shared} {own:List Str} {fr:List Nat} {scope:Scope}
abbrev Z2 (its:List Value) (n:Nat):Obj:={ cls:=.type "list",data:=.seq its.toArray n }
theorem qgr {C:Addr} {fp:List Addr} (B:BlkScope X own fr scope) (I:Inv X pins σ H s) (hf:∀ b∈fp,Zm X pins H b) (hfo:∀ b∈fp,b < s.heap.objs.size) (hC:s.heap.objs.size<=C) :
  (blk X (ye X own fr) scope (zi X.env scope.names []) C fp s H).Ok where
 mod:=I.ok.mod
 kind:=B.kind
 glob:=I.ok.glob
 blt:=I.ok.blt
 above:=hC
 inj:=fun x y c h1 h2=>I.ok.inj x y c (jP (fun z hz e=>I.ok.has _ (B.free z hz e)) x c h1) (jP (fun z hz e=>I.ok.has _ (B.free z hz e)) y c h2)
 has:=fun x h=>by
  have h':(x,NameKind.free)∈scope.names\/(x,NameKind.cell)∈scope.names:=by
   rcases h with h | h
   ·exact qaB (env:=X.env) h (.inl rfl)
   ·exact qaB (env:=X.env) h (.inr rfl)
  rcases h' with h' | h'
  ·exact Qc _ _ _ h'
  ·exact absurd rfl (B.nocell _ h')
 cab:=fun x c h=>nomatch h
 hd:=I.ok.hd
 frames:=I.ok.frames
 stk:=.inl rfl
 exf:=fun b hb=>⟨Nat.ne_of_lt (Nat.lt_of_lt_of_le (hfo b hb) hC),fun x c e=>(hf b hb).2.2.2.2.1 x c (jP (fun z hz e=>I.ok.has _ (B.free z hz e)) x c e)⟩
 bs:=I.bs
 bsz:=Nat.le_trans I.ok.bsz I.sz
 noex:=fun b o e hb=>by
  rcases (hf b hb).2.2.2.1 with z | z
  ·exact I.ok.noex b o e z
  ·exact absurd (Nat.lt_of_lt_of_le (Heap.lt_size (I.ok.bs b o e).1) z) (Nat.lt_irrefl _)
 exfs:=fun b hb z=>by
  rcases List.mem_cons.mp (I.stkSub b z) with e | e
  ·exact (hf b hb).2.1 e
  ·exact (hf b hb).2.2.1 e
 funs:=I.stack
 frf:=I.stkFree
theorem qaC {C D:Addr} {fp:List Addr} {h4:Heap} {tk:Nat} {n:Nat} (B:BlkScope X own fr scope) (I:Inv X pins σ H s) (hf:∀ b∈fp,Zm X pins H b) (hfo:∀ b∈fp,b < s.heap.objs.size) (hC:s.heap.objs.size<=C) (hD:s.heap.objs.size<=D) (hDC:D≠C)
  (k:∀ b o,s.heap.get? b=some o->h4.get? b=some o) (hn:h4.Ns C fun _=>none) (hl:h4.get? D=some (Z2 [] n)) :
  Inv (blk X (ye X own fr) scope (zi X.env scope.names []) C fp s H) [(D,Z2 [] n)] (Ja own fr σ) H { s with heap:=h4,toks:=tk }:=by
 have sub:=jP (env:=X.env) (ns:=scope.names) (fun z hz e=>I.ok.has _ (B.free z hz e));refine ⟨qgr B I hf hfo hC,rfl,I.bare,Un.kept k,⟨_,hn,fun i x v h1 h2 h3=>?_⟩,fun x c e=>?_,I.hok.fresh hC,fun x c e=>I.freeC x c (sub x c e),fun p hp=>?_,I.hok.kept k,?_⟩
 ·have h1:(ye X own fr)[i]?=some x:=h1;unfold ye at h1;unfold Ja at h2
  by_cases hi:i < own.length
  ·rw [List.getElem?_append_left (by simpa using hi),List.getElem?_map] at h2
   cases q:own[i]? with
   | none=>rw [q] at h2;cases h2
   | some a=>rw [q] at h2;cases h2
  ·rw [List.getElem?_append_right (by simpa using hi),List.getElem?_map] at h2;rw [List.getElem?_append_right (by simpa using hi),List.getElem?_map] at h1;rw [List.length_map] at h2
   cases q:fr[i - own.length]? with
   | none=>rw [q] at h2;cases h2
   | some j=>
    rw [q] at h1 h2;have h1:X.N.getD j "" = x:=Option.some.inj h1;have h2:(σ[j]?).join=some v:=Option.some.inj h2
    have h2':σ[j]?=some (some v):=by
     cases w:σ[j]? with
     | none=>rw [w] at h2;cases h2
     | some y=>rw [w] at h2;cases y with
      | none=>cases h2
      | some y=>cases h2;rfl
    have hjl:j < X.N.length:=by rw [<-I.len];exact (List.getElem?_eq_some_iff.mp h2').1
    have hN:X.N[j]?=some x:=by rw [<-h1,List.getElem?_eq_getElem hjl];simp [hjl]
    have hfree:scope.names.lookup x=some .free:=by rw [<-h1];exact B.look j (List.mem_of_getElem? q)
    have hk:=B.free (x,.free) (PySem.mem_of_lookup hfree) rfl;obtain ⟨m,_,hloc⟩:=I.loc
    obtain ⟨u,r,l⟩:=hloc j x v hN h2' (by
     rcases hk with z | z
     ·exact .inr (.inl z)
     ·exact .inr (.inr z))
    refine ⟨u,r,.inr ⟨?_,?_⟩⟩
    ·exact yw (env:=X.env) hfree
    ·rcases l with ⟨l,_⟩ | ⟨_,c,hc,o,ho,hd⟩
     ·have hk:X.env.kindOf x=some .cell\/X.env.kindOf x=some .free:=hk;rw [l] at hk;rcases hk with z | z<;>cases z
     ·obtain ⟨c',hc'⟩:=Qc (env:=X.env) scope.names [] x (PySem.mem_of_lookup hfree)
      have:=sub x c' hc'
      rw [hc] at this;cases this;exact ⟨c,hc',o,k _ _ ho,hd⟩
 ·obtain ⟨v,o,ho,hd⟩:=I.cell x c (sub x c e);exact ⟨v,o,k _ _ ho,hd⟩
 ·have hp:p∈[(D,Z2 [] n)]:=by simpa [blk] using hp
  obtain rfl:=List.mem_singleton.mp hp;refine ⟨hl,I.hok.fresh hD,hDC,fun z=>?_,fun v e=>by cases e⟩;rcases List.mem_cons.mp (I.stkSub D z) with e | e
  ·exact Nat.ne_of_lt (Nat.lt_of_lt_of_le I.lt hD) e.symm
  ·exact I.nofs hD e
 ·show (Ja own fr σ).length=(ye X own fr).length;unfold Ja ye;simp
end
end L2
namespace L2
open PySem PySem.Spec PyProof.Rows
noncomputable def PIf (X:Cx) (ifs:List Expr) (t:TT):Prop:=
 ∀ (pins:PP) (s:Shared) (σ:St) (H:Hp) (Q:Bool->Hp->Prop),Inv X pins σ H s->t σ H Q->
  wpAny (model X.prog X.w) X.A (forIn ifs true fun c r=>if r=true then do let ok<-isTrue c X.env (eval c X.env);pure (ForInStep.yield ok) else pure (ForInStep.yield r)) (TP X pins σ Q) X.xe s
def qkx:TT:=fun _ H Q=>Q true H
section
variable {X:Cx} {pins:PP} {σ:St} {H:Hp} {s:Shared} {own:List Str} {fr:List Nat} {scope:Scope}
theorem qem:PIf X [] qkx:=fun _ _ _ H _ I h=>wpAny_tests_nil ⟨H,I,h⟩
theorem qen {c:Expr} {t:TT} (h:PT X c t):PIf X [c] t:=fun pins s σ H Q I hw=>wpAny_tests_one (h pins s σ H Q I hw)
noncomputable def Yt (J:It) (g:TG) (tc:TT) (te:TE) (fin:List V->Hp->Prop) (W:Nat->Nat->List V->St->Hp->Prop):Prop:=
 ∀ i m ys σ' H',W i m ys σ' H'->(J.stop i H'/\fin ys H')\/
  (J.go i H'/\ys.length < sizeLine/\∃ N:List V->St->Hp->Prop,(∀ ys' σ2 H2,N ys' σ2 H2->∃ m',m' < m/\W (i+1) m' ys' σ2 H2)/\
   ∀ x H2,J.yld i H' x H2->g x σ' H2 fun σ2 H3=>tc σ2 H3 fun b H4=>if b=true then te σ2 H4 fun y H5=>N (ys++[y]) σ2 H5 else N ys σ2 H4)
noncomputable def qeo (own:List Str) (fr:List Nat) (wi:TI) (g:TG) (tc:TT) (te:TE):TE:=fun σ H Q=>wi σ H fun J H1=>∃ W:Nat->Nat->List V->St->Hp->Prop,(∃ m,W 0 m [] (Ja own fr σ) H1)/\Yt J g tc te (fun ys H'=>∀ l,H' l=none->Q (.ref l) (upd H' l (.lst ys))) W
theorem qep {N:List Str} {cl:List (Str×Addr)} {C l:Addr} {fp:List Addr} {s4:Shared} {H':Hp} {σ':St} {its:List Value} {k:Nat} {ys:List V} (I:Inv X pins σ H s) (hf:∀ b∈fp,Zm X pins H b) (hl:s.heap.objs.size<=l)
  (I4:Inv (blk X N scope cl C fp s H) [(l,Z2 its k)] σ' H' s4) (rv:qD ys its) (hz:ys.length<=sizeLine):Inv X pins σ (upd H' l (.lst ys)) s4:=by
 have base:Un (frs X.stack) fp H H' s.heap s4.heap:=I4.base;have pin:=I4.pin (l,Z2 its k) (List.mem_append_right _ List.mem_cons_self);have nl:∀ b o,s.heap.get? b=some o->b≠l:=fun b o e=>Nat.ne_of_lt (Nat.lt_of_lt_of_le (Heap.lt_size e) hl);have nh:∀ b u,H' b=some u->b≠l:=fun b u e=>qU e pin.2.1;refine I.call' (ch:=fp) I4.os ⟨base.keep,base.slot,fun b o e n hx=>?_,base.there,fun b xs e=>?_,fun b o u e=>?_,fun b ps e=>?_⟩ (fun b u e=>?_) I4.bare (fun b hb=>⟨(hf b hb).2.2.2.1,(hf b hb).2.1,(hf b hb).2.2.2.2.1,(hf b hb).2.2.2.2.2⟩)
 ·rw [qf (nl b o e)];exact base.free b o e n hx
 ·have:=base.tups b xs e
  rw [qf (nh b _ this)];exact this
 ·have:=base.frzs b o u e
  rw [qf (nh b _ this)];exact this
 ·obtain ⟨more,this⟩:=base.tbls b ps e;exact ⟨more,by rw [qf (nh b _ this)];exact this⟩
 ·by_cases hb:b=l
  ·subst hb;rw [qi] at e;cases e;exact ⟨hz,its,k,rv,pin.1⟩
  ·rw [qf hb] at e;exact (I4.hok b u e).stay (fun c v _ q=>q) (fun c q=>by rw [qf (nh c _ q)];exact q) fun c xs q=>by rw [qf (nh c _ q)];exact q
theorem Yu {elt iter tg:Expr} {ifs:List Expr} {pos:Pos} {g:TG} {tc:TT} {te:TE} {it:Addr} {fp:List Addr} {tn:Nat->Heap->Prop} {J:It} {fin:List V->Hp->Prop} {W:Nat->Nat->List V->St->Hp->Prop} {m0:Nat}
  {RR:Value->Addr->Result->Shared->Prop} {E:PQ} (hc:X.calm=true) (B:BlkScope X own fr scope)
  (hg:∀ cl C fp s2 H2,PG (blk X (ye X own fr) scope cl C fp s2 H2) tg g) (ht:∀ cl C fp s2 H2,PIf (blk X (ye X own fr) scope cl C fp s2 H2) ifs tc) (he:∀ cl C fp s2 H2,PE (blk X (ye X own fr) scope cl C fp s2 H2) elt te)
  (I:Inv X pins σ H s) (T:Turn X.prog X.w X.K tg J fp it tn) (st0:tn 0 s.heap) (hf:∀ b∈fp,Zm X pins H b) (w0:W 0 m0 [] (Ja own fr σ) H) (hW:Yt J g tc te fin W)
  (post:∀ (l C:Addr) (s4:Shared) (ys:List V) (H':Hp) (m:PR),s.heap.objs.size<=C->H' C=none->H' l=none->l≠C->s4.heap.Ns C m->Inv X pins σ (upd H' l (.lst ys)) s4->fin ys H'->RR (.ref l) C (.ok .next) s4) :
  wpAny (model X.prog X.w) X.A (newList []) (fun acc s₃=>wpAny (model X.prog X.w) X.A (newFunctionEnv scope X.env.globals (zi X.env scope.names []) [] X.env.qual none .none (some X.env)) (fun cenv s₄=>codeAny (model X.prog X.w) X.A (.compStart (.ListComp elt [⟨tg,iter,ifs,0⟩] scope pos) 0 (.ref it) acc { cenv with scope:=relabel scope X.env }) (RR acc cenv.locals) s₄) E s₃) E s:=by
 have hfo:∀ b∈fp,b < s.heap.objs.size:=fun b hb=>by obtain ⟨o,e,_⟩:=T.obj _ _ st0 b hb;exact Heap.lt_size e
 refine wpAny_newObj_type (wpAny_newFunctionEnv B.nocell (by intro y hy;simp at hy) (fun h1 hns hsb=>?_) B.kind);dsimp only at hns hsb ⊢;generalize hH2:s.heap.push { cls:=.type "list",dict:=none,data:=.seq ([]:List Value).toArray }=h2 at hns hsb ⊢;have hC:h2.objs.size=s.heap.objs.size+1:=by rw [<-hH2,Heap.size_push]
 have hDC:s.heap.objs.size≠h2.objs.size:=by rw [hC];exact Nat.ne_of_lt (Nat.lt_succ_self _)
 have hCle:s.heap.objs.size<=h2.objs.size:=by rw [hC];exact Nat.le_succ _
 have old:∀ b o,s.heap.get? b=some o->h1.get? b=some o:=fun b o e=>hsb.extBut b o (by rw [hC];exact Nat.ne_of_lt (Nat.lt_succ_of_lt (Heap.lt_size e))) (Heap.get?_push_of_some _ (hH2▸Heap.get?_push_of_some _ e));have hacc:h1.get? s.heap.objs.size=some (Z2 [] 0):=hsb.extBut _ _ hDC (Heap.get?_push_of_some _ (hH2▸Heap.get?_push_size _ rfl));have hns':h1.Ns h2.objs.size fun _=>none:=hns;have I0:=qaC (tk:=s.toks+([]:List (Str×Value)).length) B I hf hfo hCle (Nat.le_refl _) hDC old hns' hacc;have st1:tn 0 h1:=T.keep _ _ _ st0 fun b hb o e=>old b o e
 have loop:codeAny (model X.prog X.w) X.A (.compLoop (.ListComp elt [⟨tg,iter,ifs,0⟩] scope pos) 0 (.ref it) (.ref s.heap.objs.size) (compEnvC scope (zi X.env scope.names []) h2.objs.size X.env))
   (RR (.ref s.heap.objs.size) h2.objs.size) { s with heap:=h1,toks:=s.toks+([]:List (Str×Value)).length }:=by
  generalize hl:s.heap.objs.size=l at *;generalize hCC:h2.objs.size=C at *
  have stat:∀ {H':Hp} {o:Obj},(∀ b∈fp,H' b=none)->∀ b∈fp,Zm (blk X (ye X own fr) scope (zi X.env scope.names []) C fp s H) [(l,o)] H' b:=fun {H' o} hn b hb=>by
   refine ⟨hn b hb,fun e=>?_,fun z=>?_,.inl hb,fun x c e z=>?_,fun p hp z=>?_⟩
   ·exact Nat.ne_of_lt (Nat.lt_of_lt_of_le (hfo b hb) hCle) e
   ·rcases List.mem_cons.mp (I.stkSub b z) with e | e
    ·exact (hf b hb).2.1 e
    ·exact (hf b hb).2.2.1 e
   ·exact (hf b hb).2.2.2.2.1 x c (jP (fun z hz e=>I.ok.has _ (B.free z hz e)) x c e) z
   ·have hp:p∈[(l,o)]:=by simpa [blk] using hp
    obtain rfl:=List.mem_singleton.mp hp;exact Nat.ne_of_lt (hfo b hb) z.symm
  refine codeAny_loop rfl (fun n s'=>∃ i ys σ' H' its k,Inv (blk X (ye X own fr) scope (zi X.env scope.names []) C fp s H) [(l,Z2 its k)] σ' H' s'/\qD ys its/\ys.length<=sizeLine/\tn i s'.heap/\(∀ b∈fp,H' b=none)/\W i n ys σ' H')
   (fun n s3 hI=>?_) m0 ⟨0,[],Ja own fr σ,H,[],0,I0,.nil,Nat.zero_le _,st1,fun b hb=>(hf b hb).1,w0⟩
  show wpAny _ X.A ((compTurn (.ListComp elt [⟨tg,iter,ifs,0⟩] scope pos) 0 (.ref it) (.ref l) (compEnvC scope (zi X.env scope.names []) C X.env)).onRaise (fun x=>do noteFrame x (compEnvC scope (zi X.env scope.names []) C X.env);theTreesLotGoes x)) _ _ s3;refine wpAny_noted ?_;rw [compTurn_list];obtain ⟨i,ys,σ3,H3,its,k,I3,rv,hz,st3,fr3,w3⟩:=hI;refine wpAny_bind (wpAny_standAt (wpAny_bind ?_));rcases hW i n ys σ3 H3 w3 with ⟨stop,qn⟩ | ⟨go,hlt,N,hN,step⟩
  ·refine thn (T.done (blk X (ye X own fr) scope (zi X.env scope.names []) C fp s H) rfl rfl rfl hc i _ s3 σ3 H3 _ I3 (stat fr3) st3 stop) fun r s4 hq1=>?_;obtain ⟨hr,I4⟩:=hq1;subst hr;obtain ⟨m,hm,_⟩:=I4.loc;exact wpAny_pure (post l C s4 ys H3 m hCle I4.free (I4.pin (l,Z2 its k) (List.mem_append_right _ List.mem_cons_self)).2.1 hDC hm (qep I hf (Nat.le_of_eq hl) I4 rv hz) qn)
  ·refine thn (T.item (blk X (ye X own fr) scope (zi X.env scope.names []) C fp s H) rfl rfl rfl hc i _ s3 σ3 H3 _ I3 (stat fr3) st3 go) fun r s4 hq1=>?_;obtain ⟨u,hr,h4⟩:=hq1;subst hr;refine wpAny_bind (thn h4 fun _ s5 hq1=>?_);obtain ⟨x,H5,I5,r5,y5,st5,fr5⟩:=hq1;have I5':=I5.pinned (stat fr5) (T.obj _ _ st5);refine wpAny_bind (wpAny_mono (hg _ _ _ _ _ _ s5 σ3 H5 x u _ I5' r5 (step x H5 y5)) (fun _ s6 ⟨σ6,H6,I6,q6⟩=>?_) fun _ _ z=>z.elim);refine wpAny_bind (wpAny_mono (ht _ _ _ _ _ _ s6 σ6 H6 _ I6 q6) (fun b s7 ⟨H7,I7,q7⟩=>?_) fun _ _ z=>z.elim)
   have back:∀ {σ8:St} {H8:Hp} {s8:Shared},Inv (blk X (ye X own fr) scope (zi X.env scope.names []) C fp s H) ([(l,Z2 its k)]++Yb fp s5.heap) σ8 H8 s8->(∀ b∈fp,∀ o,s5.heap.get? b=some o->s8.heap.get? b=some o)/\∀ b∈fp,H8 b=none:=fun I8=>by refine ⟨fun b hb o e=>(I8.pin (b,o) (List.mem_append_right _ (List.mem_append_right _ (jp hb e)))).1,fun b hb=>?_⟩;obtain ⟨o,e,_⟩:=T.obj _ _ st5 b hb;exact (I8.pin (b,o) (List.mem_append_right _ (List.mem_append_right _ (jp hb e)))).2.1
   cases b with
   | false=>obtain ⟨k1,k2⟩:=back I7;simp only [Bool.false_eq_true,if_false] at q7 ⊢;obtain ⟨m',hm',w7⟩:=hN _ _ _ q7;exact wpAny_pure ⟨rfl,m',hm',i+1,ys,σ6,H7,its,k,I7.unpinned,rv,hz,T.keep _ _ _ st5 k1,k2,w7⟩
   | true=>
    simp only [if_true] at q7 ⊢;refine wpAny_bind (wpAny_bind (wpAny_mono (he _ _ _ _ _ _ s7 σ6 H7 _ I7 q7) (fun w s8 ⟨y,H8,I8,r8,q8⟩=>?_) fun _ _ z=>z.elim));obtain ⟨k1,k2⟩:=back I8;obtain ⟨m',hm',w8⟩:=hN _ _ _ q8;have pin:=I8.pin (l,Z2 its k) (List.mem_append_right _ (List.mem_append_left _ List.mem_cons_self));have hil:its.length=ys.length:=rv.length.symm;refine wpAny_bind (append_at pin.1 (fun h9 hs9 hD9=>?_) (by rw [List.size_toArray,hil];exact hz));have new:h9.get? l=some (Z2 (its++[w]) (k+1)):=by rw [hD9,List.push_toArray]
    have Ia:Inv (blk X (ye X own fr) scope (zi X.env scope.names []) C fp s H) [] σ6 H8 s8:=I8.pins_of (fun p hp=>nomatch hp)
    have Ib:Inv (blk X (ye X own fr) scope (zi X.env scope.names []) C fp s H) [] σ6 H8 { s8 with heap:=h9 }:=Ia.turned (t':=s8.toks) (fun b o hb e=>hs9.extBut b o hb e) pin.2.1 pin.2.2.1 (.inr (Nat.le_of_eq hl)) (fun x c e z=>by
     obtain ⟨v,o,ho,hd⟩:=I8.cell x c e;rw [z,pin.1] at ho;cases ho
     cases hd) (fun p hp=>by
      have hp:p∈([]:PP):=by simpa [blk] using hp
      cases hp)
    have Ic:Inv (blk X (ye X own fr) scope (zi X.env scope.names []) C fp s H) [(l,Z2 (its++[w]) (k+1))] σ6 H8 { s8 with heap:=h9 }:=Ib.pins_of fun p hp=>by obtain rfl:=List.mem_singleton.mp hp;exact ⟨new,pin.2.1,pin.2.2.1,pin.2.2.2.1,fun v e=>by cases e⟩
    refine wpAny_pure (wpAny_pure ⟨rfl,m',hm',i+1,ys++[y],σ6,H8,its++[w],k+1,Ic,rv.append %[r8|0],by rw [List.length_append];exact hlt,T.keep _ _ _ st5 fun b hb o e=>?_,k2,w8⟩);exact hs9.extBut b o (Nat.ne_of_lt (hfo b hb)) (k1 b hb o e)
 exact codeAny_compStart_list loop (T.self _ 0 _ _ _ st1 loop)
theorem Inv.letgo {s2 s4:Shared} {H2 H4:Hp} {C:Addr} {h':Heap} (I2:Inv X pins σ H2 s2) {σ4:St} (I4:Inv X pins σ4 H4 s4) (hC:s2.heap.objs.size<=C) (hn:H4 C=none) (hs:Heap.SameBut C s4.heap h'):Inv X pins σ4 H4 { s4 with heap:=h' }:=by obtain ⟨f0,f1,_,f3,f4,f5⟩:=I2.fpOk hC hn;exact I4.turned (t':=s4.toks) (fun b o hb e=>hs.extBut b o hb e) f0 f1 f3 f4 f5
theorem qeq {elt iter tg:Expr} {ifs:List Expr} {pos:Pos} {g:TG} {tc:TT} {te:TE} {wi:TI} (own:List Str) (fr:List Nat) (hc:X.calm=true) (B:BlkScope X own fr scope) (hi:PI X tg iter wi)
  (hg:∀ cl C fp s2 H2,PG (blk X (ye X own fr) scope cl C fp s2 H2) tg g) (ht:∀ cl C fp s2 H2,PIf (blk X (ye X own fr) scope cl C fp s2 H2) ifs tc) (he:∀ cl C fp s2 H2,PE (blk X (ye X own fr) scope cl C fp s2 H2) elt te)
  (hs:∀ x,foldedSetIterable iter X.env x=pure x:=by intro _;rfl):PE X (.ListComp elt [⟨tg,iter,ifs,0⟩] scope pos) (qeo own fr wi g tc te):=by
 intro pins s σ H Q I h;rw [eval_ListComp];refine wpAny_comprehension_free (use:=none) rfl hs (qds fun z hz e=>I.ok.has _ (B.free z hz e)) B.kind B.names ?_;refine thn (hi pins s σ H _ I h) fun v s1 h1=>thn h1 fun itv s2 h2=>?_;obtain ⟨it,fp,tn,J,H2,e,I2,T,st2,f2,W,⟨m0,w0⟩,hW⟩:=h2;subst e;refine Yu hc B hg ht he I2 T st2 f2 w0 hW fun l C s4 ys H' m hC nC nl hlC hm I4 fin=>?_;exact ⟨m,hm,fun h' hs'=>⟨.ref l,_,I2.letgo I4 hC (by rw [qf (Ne.symm hlC)];exact nC) hs',rfl,fin l nl⟩⟩
theorem qer {elt iter tg:Expr} {ifs:List Expr} {pos pos' cpos:Pos} {g:TG} {tc:TT} {te:TE} {wi:TI} {i:Nat} {x:Str} (own:List Str) (fr:List Nat) (hN:X.N.Nodup) (hxi:X.N[i]?=some x) (hx:X.env.scope.names.lookup x=some .local) (hc:X.calm=true) (B:BlkScope X own fr scope) (hi:PI X tg iter wi)
  (hg:∀ cl C fp s2 H2,PG (blk X (ye X own fr) scope cl C fp s2 H2) tg g) (ht:∀ cl C fp s2 H2,PIf (blk X (ye X own fr) scope cl C fp s2 H2) ifs tc) (he:∀ cl C fp s2 H2,PE (blk X (ye X own fr) scope cl C fp s2 H2) elt te)
  (hsw:swapsWith (.ListComp elt [⟨tg,iter,ifs,0⟩] scope cpos) (some (.Name x pos')) pos.line X.env=pure true:=by rfl)
  (hs:∀ x,foldedSetIterable iter X.env x=pure x:=by intro _;rfl):PS X (.Assign [.Name x pos'] (.ListComp elt [⟨tg,iter,ifs,0⟩] scope cpos) pos) (qiQ (qeo own fr wi g tc te) (qbR i)):=by
 intro pins s σ H D I h;rw [exec_Assign_Name_used _ _ _ _ hsw];refine wpAny_bind (wpAny_standAt (wpAny_bind ?_));show wpAny _ X.A (do let _<-comprehension (.ListComp elt [⟨tg,iter,ifs,0⟩] scope cpos) scope X.env _ (newList []) false (eval iter X.env) (some (assign (.Name x pos') X.env))) _ _ s;refine wpAny_bind (wpAny_mono (wpAny_comprehension_free (use:=some (assign (.Name x pos') X.env)) (Q:=fun _ s'=>SP X pins D .next s') rfl hs (qds fun z hz e=>I.ok.has _ (B.free z hz e)) B.kind B.names ?_) (fun _ s' hq=>wpAny_pure (wpAny_pure hq)) fun _ _ e=>e);refine thn (hi pins s σ H _ I h) fun v s1 h1=>thn h1 fun itv s2 h2=>?_;obtain ⟨it,fp,tn,J,H2,e,I2,T,st2,f2,W,⟨m0,w0⟩,hW⟩:=h2;subst e;refine Yu (RR:=fun acc C=>compPost (model X.prog X.w) X.A X.xe (some (assign (.Name x pos') X.env)) (fun _ s'=>SP X pins D .next s') acc C) hc B hg ht he I2 T st2 f2 w0 hW fun l C s4 ys H' m hC nC nl hlC hm I4 fin=>?_;show wpAny _ X.A (assign (.Name x pos') X.env (.ref l)) _ _ s4;refine wpAny_assign_Name (J7 I4 hN hxi (.inl hx) (v:=.ref l) rfl (fun s5 I5 hsb=>?_) (.inr hx));obtain ⟨a,sb,ha⟩:=hsb
 have hCa:C≠a:=by
  rcases ha with rfl | ha
  ·exact Nat.ne_of_gt (Nat.lt_of_lt_of_le I2.lt hC)
  ·obtain ⟨v,q⟩:=I2.cell x a ha;exact Nat.ne_of_gt (Nat.lt_of_lt_of_le q.lt hC)
 exact ⟨m,hm.sameBut sb hCa,fun h' hs'=>⟨_,_,I2.letgo I5 hC (by rw [qf (Ne.symm hlC)];exact nC) hs',fin l nl⟩⟩
end
end L2
namespace L2
open PySem PySem.Spec PyProof.Rows
mutual
noncomputable def DV (K:Frag) (H:Hp):PyData->V->Prop
 | .none,v=>v=.non
 | .bool b,v=>v=.bl b
 | .int i,v=>v=.int i
 | .str x,v=>v=.str x
 | .list ds,v=>∃ a xs,v=.ref a/\SqL K H a xs/\DVs K H ds xs
 | .tuple ds,v=>∃ a xs,v=.ref a/\SqT K H a xs/\DVs K H ds xs
 | .dict _,_=>False
noncomputable def DVs (K:Frag) (H:Hp):List PyData->List V->Prop
 | [],xs=>xs=[]
 | d::ds,xs=>∃ x r,xs=x::r/\DV K H d x/\DVs K H ds r
end
section
variable {X:Cx} {pins:PP} {σ:St} {H:Hp} {s:Shared}
mutual
theorem DV.reads (I:Inv X pins σ H s):∀ {d:PyData} {v:V} {u:Value},DV X.K H d v->qJ v u->∃ as,Reads s.heap u d as
 | .none,v,u,h,r=>by
  have h:v=.non:=by simpa [DV] using h
  subst h;cases r;exact ⟨_,Reads.none⟩
 | .bool b,v,u,h,r=>by
  have h:v=.bl b:=by simpa [DV] using h
  subst h;cases r;exact ⟨_,Reads.bool b⟩
 | .int i,v,u,h,r=>by
  have h:v=.int i:=by simpa [DV] using h
  subst h;obtain ⟨t,rfl⟩:=r;exact ⟨_,Reads.int i t⟩
 | .str x,v,u,h,r=>by
  have h:v=.str x:=by simpa [DV] using h
  subst h;obtain ⟨t,rfl⟩:=r;exact ⟨_,Reads.str x t⟩
 | .list ds,v,u,h,r=>by
  have h:∃ a xs,v=.ref a/\SqL X.K H a xs/\DVs X.K H ds xs:=by simpa [DV] using h
  obtain ⟨a,xs,rfl,hq,hd⟩:=h;cases r;obtain ⟨its,rv,pl,_⟩:=I.list hq;obtain ⟨as,ra⟩:=DVs.reads I hd rv;obtain ⟨o,ho,hc,n,hdd⟩:=pl.isList;exact ⟨_,reads_list_at ho hc hdd (by simpa using ra)⟩
 | .tuple ds,v,u,h,r=>by
  have h:∃ a xs,v=.ref a/\SqT X.K H a xs/\DVs X.K H ds xs:=by simpa [DV] using h
  obtain ⟨a,xs,rfl,hq,hd⟩:=h;cases r;obtain ⟨its,rv,pl,_⟩:=I.tuple hq;obtain ⟨as,ra⟩:=DVs.reads I hd rv;obtain ⟨o,ho,hc,n,hdd⟩:=pl;exact ⟨_,reads_tuple_at ho hc hdd (by simpa using ra)⟩
 | .dict _,v,u,h,r=>by simp [DV] at h
theorem DVs.reads (I:Inv X pins σ H s):∀ {ds:List PyData} {vs:List V} {us:List Value},DVs X.K H ds vs->qD vs us->∃ as,ReadsAll s.heap us ds as
 | [],vs,us,h,r=>by
  have h:vs=[]:=by simpa [DVs] using h
  subst h;cases r;exact ⟨_,ReadsAll.nil⟩
 | d::ds,vs,us,h,r=>by
  have h:∃ x r,vs=x::r/\DV X.K H d x/\DVs X.K H ds r:=by simpa [DVs] using h
  obtain ⟨x,rr,rfl,h1,h2⟩:=h
  cases r with
  | cons r1 r2=>obtain ⟨as,ra⟩:=DV.reads I h1 r1;obtain ⟨bs,rb⟩:=DVs.reads I h2 r2;exact ⟨_,ReadsAll.cons ra rb⟩
end
noncomputable def qky (K:Frag):R2:=fun x y H Q=>∃ d e,DV K H d x/\DV K H e y/\SeqAt.shaped d=true/\SeqAt.shaped e=true/\Q (.bl (PyData.eqv d e)) H
noncomputable def qkz (K:Frag):R2:=fun x y H Q=>∃ d e,DV K H d x/\DV K H e y/\SeqAt.shaped d=true/\SeqAt.shaped e=true/\Q (.bl (!PyData.eqv d e)) H
theorem qgs (hu:X.A.units+64 < cLine):OpR X (compareOp .Eq) (qky X.K):=by intro pins s σ H x y v u Q I rx ry h;obtain ⟨d,e,hd,he,sd,se,q⟩:=h;obtain ⟨as,ra⟩:=DV.reads I hd rx;obtain ⟨bs,rb⟩:=DV.reads I he ry;exact eq_dataH ra rb sd se hu ⟨.bl _,H,I,rfl,q⟩
theorem qgt (hu:X.A.units+64 < cLine):OpR X (compareOp .NotEq) (qkz X.K):=by intro pins s σ H x y v u Q I rx ry h;obtain ⟨d,e,hd,he,sd,se,q⟩:=h;obtain ⟨as,ra⟩:=DV.reads I hd rx;obtain ⟨bs,rb⟩:=DV.reads I he ry;exact ne_dataH ra rb sd se hu ⟨.bl _,H,I,rfl,q⟩
theorem qcd:qY X (.builtin "isinstance") (fun vs H Q=>∃ x n t b,vs=[x,.ty n]/\TyOf X.K H x t/\PySem.W.kitOne X.K t (.type n)=some b/\Q (.bl b) H):=by intro pins s σ H xs us Q I r h;obtain ⟨x,n,t,b,rfl,ty,e,q⟩:=h;obtain ⟨u,w,rfl,rx,rn⟩:=Yd r;cases rn;exact Yg I rx ty e fun tk=>⟨.bl b,H,I.tok tk,rfl,q⟩
theorem Yv:∀ (bs:List Bool),((List.range bs.length).all fun i=>bs.getD i false)=bs.all id:=by
 intro bs;rw [Bool.eq_iff_iff,List.all_eq_true,List.all_eq_true];constructor
 ·intro h x hx;obtain ⟨i,hi,rfl⟩:=List.mem_iff_getElem.mp hx
  have:=h i (List.mem_range.mpr hi)
  simpa [hi] using this
 ·intro h i hi;have hi:=List.mem_range.mp hi
  have:=h bs[i] (List.getElem_mem hi)
  simpa [hi] using this
theorem Zz {p:Addr} {bs:List Bool} (hc:X.calm=true) (I:Inv X pins σ H s) (hq:SqL X.K H p (bs.map V.bl)) {Q:VK} {k:Bool} (q:Q (.bl k) H) (f:(Nat->Bool)->Bool) (hk:f (fun i=>bs.getD i false)=k) :
  wpAny (model X.prog X.w) X.A.in1 (pyIter (.ref p)) (fun it s2=>∃ I fp wr n P St tr,it=.ref I/\Walks X.prog X.w X.A.in1 I fp wr n P St/\St 0 s2.heap/\TruthOf X.prog X.w X.A.in1 P tr/\n=bs.length/\
   ∀ h' tk,(∀ b o,b∉wr->s2.heap.get? b=some o->h'.get? b=some o)->tr=(fun i=>bs.getD i false)/\EP X pins σ Q (.bool k) { s2 with heap:=h',toks:=tk }) X.xe s:=by
 obtain ⟨its,rv,pl,hz⟩:=I.list hq;have hlt:p < s.heap.objs.size:=by obtain ⟨_,e,_⟩:=pl.isList;exact Heap.lt_size e
 refine wpAny_pyIter_list pl.isList ?_;refine ⟨s.heap.objs.size,_,_,_,_,_,fun i=>bs.getD i false,rfl,Walks.list (prog:=X.prog) (w:=X.w) (A:=X.A.in1) (show X.A.in1.handled=none from I.ok.hd hc) _ p (Nat.ne_of_lt hlt) its.toArray,⟨⟨_,Heap.get?_push_size _ rfl,rfl,rfl⟩,pl.isList.push _⟩,?_,?_,fun h' tk kp=>⟨rfl,.bl k,H,?_,rfl,q⟩⟩
 ·intro i v s' Q' E' hv hq';have hv:its[i]?=some v:=by simpa using hv
  have hi:i < its.length:=(List.getElem?_eq_some_iff.mp hv).1;have hl:=rv.length;rw [List.length_map] at hl
  have hb:(bs.map V.bl)[i]?=some (.bl (bs.getD i false)):=by rw [List.getElem?_map,List.getElem?_eq_getElem (1:)];simp [show i < bs.length by omega]
  obtain ⟨u,hu,ru⟩:=rv.get hb;rw [hv] at hu;cases hu;cases ru;exact wpAny_truthy_bool hq'
 ·have hl:=rv.length;rw [List.length_map] at hl;simp [hl]
 ·refine I.kept (t':=tk) fun b o e=>kp b o (fun hb=>?_) (Heap.get?_push_of_some _ e)
  have:b=s.heap.objs.size:=by simpa using hb
  exact Nat.ne_of_lt (Heap.lt_size e) this
theorem qaD (hc:X.calm=true):qY X (.builtin "all") (fun vs H Q=>∃ (p:Addr) (bs:List Bool),vs=[.ref p]/\SqL X.K H p (bs.map V.bl)/\Q (.bl (bs.all id)) H):=by intro pins s σ H xs us Q I r h;obtain ⟨p,bs,rfl,hq,q⟩:=h;obtain ⟨u,rfl,rx⟩:=jM r;cases rx;refine call_all_walk (thn (Zz hc I hq q (fun f=>(List.range bs.length).all f) (Yv bs)) fun it s2 h2=>?_);obtain ⟨I',fp,wr,n,P,St,tr,rfl,W,st,tt,hn,fin⟩:=h2;subst hn;refine ⟨I',fp,wr,_,P,St,tr,rfl,W,st,tt,fun h' tk kp=>?_⟩;obtain ⟨rfl,e⟩:=fin h' tk kp;rw [Yv];exact e
end
end L2
set_option maxHeartbeats 4000000
namespace L2
open PySem PySem.Spec PyProof.Rows
section
variable {X:Cx}
theorem Jk:∀ {ns:List Int} {its:List Value},qD (ns.map V.int) its->∃ xs:List (Int×Tok),its=xs.map (fun p=>Value.int p.1 p.2)/\ns=xs.map (·.1)
 | [],_,.nil=>⟨[],rfl,rfl⟩
 | n::ns,_,.cons r t=>by obtain ⟨xs,rfl,rfl⟩:=Jk t;obtain ⟨k,rfl⟩:=r;exact ⟨(n,k)::xs,rfl,rfl⟩
theorem qaE (hc:X.calm=true):qY X (.builtin "sum") (fun vs H Q=>∃ (p:Addr) (ns:List Int),vs=[.ref p]/\SqL X.K H p (ns.map V.int)/\Q (.int ns.sum) H):=by
 intro pins s σ H xs us Q I r h;obtain ⟨p,ns,rfl,hq,q⟩:=h;obtain ⟨u,rfl,rx⟩:=jM r;cases rx;obtain ⟨its,rv,pl,hz⟩:=I.list hq;obtain ⟨zs,rfl,rfl⟩:=Jk rv
 have hl:s.heap.IsList p (intItems zs.toArray):=by
  have e:(zs.map fun p=>Value.int p.1 p.2).toArray=intItems zs.toArray:=by simp [intItems]
  rw [<-e];exact pl.isList
 refine sum_intListG (I.ok.hd hc) hl fun h' tk t' hk=>?_;refine ⟨.int _,H,I.kept (t':=tk) hk,⟨t',?_⟩,q⟩;rw [preSum_eq,List.take_of_length_le (by simp)]
end
end L2
namespace L2
open PySem PySem.Spec PyProof.Rows
section
variable {κ:Type} [DecidableEq κ]
def qaF (kvs:List (κ×V)) (k:κ):Option V:=(kvs.find? fun kv=>decide (kv.1=k)).map (·.2)
theorem JG {p:κ×V} {r:List (κ×V)} {k:κ} (e:p.1=k):qaF (p::r) k=some p.2:=by simp [qaF,List.find?_cons,e]
theorem JH {p:κ×V} {r:List (κ×V)} {k:κ} (e:¬ p.1=k):qaF (p::r) k=qaF r k:=by simp [qaF,List.find?_cons,e]
theorem QJ.getD {o:Option V} {u:Option Value} {d:V} {d':Value} (r:QJ o u) (rd:qJ d d'):qJ (o.getD d) (u.getD d'):=by
 cases o with
 | none=>cases u with
  | none=>exact rd
  | some _=>exact (show False from r).elim
 | some _=>cases u with
  | none=>exact (show False from r).elim
  | some _=>exact r
theorem KV.val {kvs:List (κ×V)} {vs:List (κ×Value)} (r:KV kvs vs) (k:κ):QJ (qaF kvs k) (valueAt vs k):=by
 unfold KV at r
 induction r with
 | nil=>exact True.intro
 | @cons p q ps qs h t ih=>
  obtain ⟨h1,h2⟩:=h
  by_cases e:p.1=k
  ·have e':q.1=k:=h1.symm.trans e;have b:valueAt (q::qs) k=some q.2:=by simp [valueAt,List.find?_cons,e']
   rw [JG e,b];exact h2
  ·have e':¬ q.1=k:=fun z=>e (h1.trans z);have b:valueAt (q::qs) k=valueAt qs k:=by simp [valueAt,List.find?_cons,e']
   rw [JH e,b];exact ih
theorem KV.keys {kvs:List (κ×V)} {vs:List (κ×Value)} (r:KV kvs vs):kvs.map (·.1)=vs.map (·.1):=by
 unfold KV at r
 induction r with
 | nil=>rfl
 | cons h t ih=>rw [List.map_cons,List.map_cons,ih,h.1]
theorem KV.length {kvs:List (κ×V)} {vs:List (κ×Value)} (r:KV kvs vs):kvs.length=vs.length:=Paired.length r
end
theorem qes {P:Program} {w:World} {k:Key} {u:Value} (r:qJ (kV k) u):(qx P w).is k u=true:=by
 cases k with
 | inl i=>obtain ⟨t,e⟩:=(show ∃ t,u=Value.int i t from r);subst e;exact Y7 P w i t
 | inr x=>obtain ⟨t,e⟩:=(show ∃ t,u=Value.str x t from r);subst e;exact Y8 P w x t
theorem Yw {P:Program} {w:World}:∀ {ks:List Key} {us:List Value},qD (ks.map kV) us->ItemsAre (qx P w) ks us
 | [],_,r=>by rw [List.map_nil] at r;cases r;exact .nil
 | k::ks,_,r=>by
  rw [List.map_cons] at r
  cases r with
  | cons h t=>exact .cons (qes h) (Yw t)
noncomputable abbrev KT (H:Hp):List (List Key×V)->List (List Key×Addr×Value)->Prop:=Paired fun p q=>p.1=q.1/\H q.2.1=some (.tup (p.1.map kV))/\qJ p.2 q.2.2
theorem KT.val {H:Hp} {kvs:List (List Key×V)} {xs:List (List Key×Addr×Value)} (r:KT H kvs xs) (k:List Key):QJ (qaF kvs k) ((atKey xs k).map (·.2)):=by
 induction r with
 | nil=>exact True.intro
 | @cons p q ps qs h t ih=>
  obtain ⟨h1,_,h2⟩:=h
  by_cases e:p.1=k
  ·have e':q.1=k:=h1.symm.trans e;have b:atKey (q::qs) k=some q.2:=by simp [atKey,List.find?_cons,e']
   rw [JG e,b];exact h2
  ·have e':¬ q.1=k:=fun z=>e (h1.trans z);have b:atKey (q::qs) k=atKey qs k:=by simp [atKey,List.find?_cons,e']
   rw [JH e,b];exact ih
section
variable {P:Program} {w:World} {H:Hp} {h:Heap} {a:Addr}
theorem qgu {u:HO} (ok:HOk P w H h) (e:Rd H a u):qK P w H h a u:=e.ok ok
theorem qgv {kvs:List (Key×V)} (ok:HOk P w H h) (e:Rd H a (.dK kvs)):kvs.length<=sizeLine/\(a == sysModules)=false/\∃ vs,KV kvs vs/\h.DictOf (qx P w) a vs:=
 show qK P w H h a (.dK kvs) from qgu ok e
theorem qdt {ks:List Key} (ok:HOk P w H h) (e:H a=some (.tup (ks.map kV))):(tupleKind (qx P w)).is h ks a:=by obtain ⟨_,its,r,o,h1,h2,n,h3⟩:=(show qK P w H h a (.tup (ks.map kV)) from ok a _ e);exact ⟨o,its.toArray,n,h1,h2,h3,by simpa using Yw r⟩
theorem qgw {kvs:List (List Key×V)} (ok:HOk P w H h) (e:Rd H a (.dT kvs)):kvs.length<=sizeLine/\(a == sysModules)=false/\
  ∃ xs,KT H kvs xs/\h.DictOfH (tupleKind (qx P w)) a xs:=by
 obtain ⟨z,y,xs,r,o,es,ep,h1,h2,h3,h4,h5⟩:=(show qK P w H h a (.dT kvs) from qgu ok e);refine ⟨z,y,xs,r,o,es,ep,h1,h2,h3,h4,fun x hx=>?_,h5⟩
 have all:∀ {l:List (List Key×V)} {m:List (List Key×Addr×Value)},KT H l m->∀ x∈m,(tupleKind (qx P w)).is h x.1 x.2.1:=by
  intro l m q
  induction q with
  | nil=>intro x hx;exact nomatch hx
  | @cons p q ps qs hq t ih=>
   intro x hx;rcases List.mem_cons.mp hx with e | hx
   ·subst e;exact qdt ok (by rw [<-hq.1];exact hq.2.1)
   ·exact ih x hx
 exact all r x hx
end
noncomputable def qgx (H:Hp) (a:Addr) (y:V) (r:Option V):Prop:=
 (∃ kvs k,Rd H a (.dK kvs)/\y=kV k/\r=qaF kvs k)\/∃ kvs k b,Rd H a (.dT kvs)/\y=.ref b/\H b=some (.tup (k.map kV))/\r=qaF kvs k
theorem qgx.k {H:Hp} {a:Addr} {kvs:List (Key×V)} {k:Key} (e:H a=some (.dK kvs)):qgx H a (kV k) (qaF kvs k):=.inl ⟨kvs,k,.inl e,rfl,rfl⟩
section
variable {X:Cx} {pins:PP} {σ:St} {H:Hp} {s:Shared} {a:Addr} {y v:V} {u r:Value} {o:Option V} {A:Around} {E:PQ}
theorem Inv.big (I:Inv X pins σ H s):sysModules < s.heap.objs.size:=by have h:mainGlobals < s.heap.objs.size:=(I.mod.glob.keeps I.bk).lt;exact Nat.lt_trans (2:) h
theorem qgy {P:Program} {w:World} {H':Hp} {h':Heap} {kvs:List (Key×V)} {vs:List (Key×Value)} (z:kvs.length<=sizeLine) (hd:(a == sysModules)=false) (rel:KV kvs vs) (dd:h'.DictOf (qx P w) a vs) :
  qK P w H' h' a (.dK kvs):=⟨z,hd,vs,rel,dd⟩
end
structure M2 (X:Cx) (o:Expr) (m:Str) (apos:Pos) (e f:Expr) (cpos:Pos):Prop where
 base:attributeBase o m X.env (eval o X.env)=eval o X.env
 few:((backTo cpos (starEach [e,f] X.env)).all (fun x=>!x.1)&&(backToKw cpos (keywordEach [] X.env)).all (fun x=>x.1.isSome)
  && decide (([e,f]:List Expr).length+([]:List Keyword).length+(if ([]:List Keyword).isEmpty then 0 else 1) < 30))=true
 line:(apos.endLine == cpos.line)=true
 trees:backTo cpos (starEach [e,f] X.env)=[(false,eval e X.env),(false,eval f X.env)]
def IsD (H:Hp) (a:Addr):Prop:=(∃ kvs,Rd H a (.dK kvs))\/∃ kvs,Rd H a (.dT kvs)
theorem qgz {X:Cx} {pins:PP} {σ:St} {H:Hp} {s:Shared} {a:Addr} (I:Inv X pins σ H s) (d:IsD H a) :
  s.TypeIs (.ref a) "dict"/\(∀ b,Value.ref a=.ref b->∃ ob,s.heap.get? b=some ob/\ob.dict=none)/\(a == sysModules)=false:=by
 rcases d with ⟨kvs,e⟩ | ⟨kvs,e⟩
 ·obtain ⟨_,hd,vs,_,dd⟩:=qgv I.hok e;refine ⟨dd.typeIs,fun b q=>?_,hd⟩;cases q;obtain ⟨ob,_,_,h1,h2,_⟩:=dd;exact ⟨ob,h1,h2.2.1⟩
 ·obtain ⟨_,hd,xs,_,dd⟩:=qgw I.hok e;refine ⟨dd.typeIs,fun b q=>?_,hd⟩;cases q;obtain ⟨ob,_,_,h1,h2,_⟩:=dd;exact ⟨ob,h1,h2.2.1⟩
section
variable {X:Cx} {pins:PP} {σ:St} {H:Hp} {s:Shared} {a:Addr} {y d:V} {u r:Value} {o:Option V} {A:Around} {E:PQ}
theorem qgA {Q:PQ} (hu:A.units+1 < cLine) (I:Inv X pins σ H s) (g:qgx H a y o) (ry:qJ y u) (rd:qJ d r) (h:∀ w' s',Inv X pins σ H s'->qJ (o.getD d) w'->Q w' s') :
  wpAny (model X.prog X.w) A (call (.builtin "dict.get") [.ref a,u,r]) Q E s:=by
 rcases g with ⟨kvs,k,e,ey,l⟩ | ⟨kvs,k,b,e,ey,eb,l⟩
 ·subst ey;obtain ⟨z,hd,vs,rel,dd⟩:=qgv I.hok e;refine call_meetsIn PySem.F.slot_dict_get dd.typeIs PySem.F.entry_dict_get (PySem.F.args_dict_get_3 _ _ _) (meets_dict_get_default (qx X.prog X.w) a (qes ry) hd r) ⟨_,dd.mapOf,h _ _ (I.tok _) ?_⟩;rw [l];exact (rel.val k).getD rd
 ·subst ey
  cases (show u=Value.ref b from ry)
  obtain ⟨z,hd,xs,rel,dd⟩:=qgw I.hok e;refine call_meetsIn PySem.F.slot_dict_get dd.typeIs PySem.F.entry_dict_get (PySem.F.args_dict_get_3 _ _ _) (meetsH_dict_get_default (tupleKind (qx X.prog X.w)) a b hd r) ⟨tupleKind_room_in1 hu,k,xs,qdt I.hok eb,dd,h _ _ (I.tok _) ?_⟩;rw [l];exact (rel.val k).getD rd
end
noncomputable def qgB (td ty tx:TE):TE:=fun σ H Q=>td σ H fun x H1=>∃ a,x=.ref a/\IsD H1 a/\ty σ H1 fun y H2=>tx σ H2 fun z H3=>∃ o,qgx H3 a y o/\Q (o.getD z) H3
section
variable {X:Cx} {o e f:Expr} {apos cpos:Pos} {td ty tx:TE}
theorem qce (hu:X.A.units+1 < cLine) (ho:PE X o td) (he:PE X e ty) (hf:PE X f tx) (m:M2 X o "get" apos e f cpos):PE X (.Call (.Attribute o "get" apos) [e,f] [] cpos) (qgB td ty tx):=by
 intro pins s σ H Q I h;refine wpAny_Call_method m.base m.few m.line PySem.F.plainAttrs_dict PySem.F.slot_dict_get PySem.F.type_dict_get (thn (ho pins s σ H _ I h) fun u s1 hq1=>?_);obtain ⟨x,H1,I1,rx,a,ex,d,q1⟩:=hq1;subst ex;obtain rfl:u=Value.ref a:=rx;obtain ⟨t1,t2,_⟩:=qgz I1 d;refine ⟨t1,t2,?_⟩;rw [m.trees]
 refine Calls.callWith_builtin rfl (Calls.evalArgs_plain (Calls.spliced_cons (thn (he pins s1 σ H1 _ I1 q1) fun iv s2 ⟨y,H2,I2,ry,q2⟩=>Calls.spliced_cons (thn (hf pins s2 σ H2 _ I2 q2) fun fv s3 ⟨z,H3,I3,rz,ov,g,q3⟩=>Calls.spliced_nil ?_))))
 exact qgA hu I3 g ry rz fun w' s4 I4 rw'=>⟨_,H3,I4,rw',q3⟩
end
end L2
namespace L2
open PySem PySem.Spec PyProof.Rows
noncomputable def zL (osc:Scope) (N:List Str) (fr:List Nat) (sc:Scope):Bool:=
 sc.kind == .function&&(sc.names.all fun x=>x.2 != .cell&&(x.2 != .local||sc.names.lookup x.1 == some .local)&&(x.2 != .free||(osc.names.lookup x.1 == some .cell||osc.names.lookup x.1 == some .free)))&&fr.all fun i=>sc.names.lookup (N.getD i "") == some .free
theorem qv.upd {H:Hp} {a:Addr} {o:HO} (h:H a=none):qv H (upd H a o):=fun b u e=>by rw [qf (qU e h)];exact e
end L2
namespace L2
open PySem PySem.Spec PyProof.Rows PySem.W
theorem qcf {P:Program} {w:World} {H:Hp} {h:Heap} {a:Addr} {o:HO} (x:qK P w H h a o):∃ ob,h.get? a=some ob:=by
 cases o with
 | lst xs=>obtain ⟨z,its,n,r,e⟩:=x;exact ⟨_,e⟩
 | tup xs=>obtain ⟨z,its,r,ob,e,c⟩:=x;exact ⟨_,e⟩
 | dK kvs=>obtain ⟨z,y,vs,r,ob,es,ep,e,c⟩:=x;exact ⟨_,e⟩
 | dT kvs=>obtain ⟨z,y,xs,r,ob,es,ep,e,c⟩:=x;exact ⟨_,e⟩
 | set S n=>obtain ⟨ob,es,ep,t,e,c⟩:=x;exact ⟨_,e⟩
 | ins C dx fs=>obtain ⟨d,z,ne,e,_⟩:=x;exact ⟨_,e⟩
 | own y=>obtain ⟨ob,e⟩:=x;exact ⟨_,e⟩
 | xd fs=>obtain ⟨mA,⟨od,es,ep,e,c⟩,r⟩:=x;exact ⟨_,e⟩
 | rng lo hi=>obtain ⟨t,u,v,e⟩:=x;exact ⟨_,e⟩
 | frz ob u=>obtain ⟨e,q⟩:=x;exact ⟨_,e⟩
 | tbl ps=>exact ⟨_,x⟩
 | met f y=>exact ⟨_,x⟩
 | ext φ=>obtain ⟨p,⟨o,e⟩,st⟩:=x;exact ⟨_,e⟩
section
variable {X:Cx} {pins:PP} {σ:St} {H:Hp} {s:Shared}
variable {x T':Addr} {oT:Option Addr} {oe:Obj} {vs:Array Value} {h':Heap}
theorem Inv.newH {x:Addr} (I:Inv X pins σ H s) (h:s.heap.get? x=none):H x=none:=by
 cases e:H x with
 | none=>rfl
 | some u=>obtain ⟨o,q⟩:=qcf (I.hok x u e);rw [h] at q;cases q
end
end L2
namespace L2
open PySem PySem.Spec PyProof.Rows PySem.W
noncomputable def Its (x:Str):It:=⟨fun i _=>i < x.cps.size,fun i H v H'=>H'=H/\∃ c,x.cps[i]?=some c/\v=.str ⟨#[c]⟩,fun i _=>i=x.cps.size⟩
theorem qcg {P:Program} {w:World} {K:Frag} {tg:Expr} {x:Str} {t:Tok} {it:Addr} {T:String} (hT:T = "str_ascii_iterator"\/T = "str_iterator") (W:∀ A':Around,A'.handled=none->Walks P w A' it [it] [it] x.cps.size (SignAt x) (fun i h=>h.IsStrIter it T x t i)) :
  Turn P w K tg (Its x) [it] it (fun i h=>h.IsStrIter it T x t i) where
 mem:=by simp
 obj:=fun i h st b hb=>by
  have e:b=it:=by simpa using hb
  subst e;obtain ⟨o,e,c,d⟩:=st;exact ⟨o,e,fun v z=>by rw [d] at z;cases z⟩
 keep:=fun i h h' st k=>let ⟨o,e,r⟩:=st;⟨o,k it (by simp) o e,r⟩
 item:=by intro X hP hw hK hc i pins s σ H E I hf st hg;subst hP hw hK;obtain ⟨f0,f1,f2,f3,f4,f5⟩:=hf it (by simp);refine (W X.A (I.ok.hd hc)).item i s _ _ hg st fun v h' tk hv st' kk=>?_;obtain ⟨c,u,hcx,rfl⟩:=hv;have I1:Inv X pins σ H { s with heap:=h',toks:=tk }:=I.turned (fun b o hb e=>kk b o (by simpa using hb) e) f0 f1 f3 f4 f5;obtain ⟨o,e1,e2,e3⟩:=id st';refine ⟨_,rfl,Zn (s:={ s with heap:=h',toks:=tk }) e1 e2 e3 (by rcases hT with z | z<;>(rw [z];decide)) ⟨.str ⟨#[c]⟩,H,I1,⟨u,rfl⟩,⟨rfl,c,hcx,rfl⟩,st',fun b hb=>(hf b hb).1⟩⟩
 done:=by intro X hP hw hK hc i pins s σ H E I hf st hg;subst hP hw hK;obtain rfl:i=x.cps.size:=hg;obtain ⟨f0,f1,f2,f3,f4,f5⟩:=hf it (by simp);exact (W X.A (I.ok.hd hc)).done s _ _ st fun h' tk kk=>⟨rfl,I.turned (fun b o hb e=>kk b o (by simpa using hb) e) f0 f1 f3 f4 f5⟩
 self:=fun A i s Q E st h=>by
  rcases hT with z | z
  ·subst z;exact wpAny_pyIter_striter_ascii st h
  ·subst z;exact wpAny_pyIter_striter_wide st h
end L2
namespace L2
open PySem PySem.Spec PyProof.Rows PySem.W
structure ClsFn (K:Frag) (C:Addr) (m:Str) (f:Addr):Prop where
 reads:readsIn K C (.type "type")=true
 sp:specialIn K (.ref C) "__getattribute__" = some (some (.builtin "type.__getattribute__"))
 at_:findCls K (.ref C) (.type "type") m=some (.val (.ref f))
 kp:keepIn K (.ref f)=true
section
variable {X:Cx} {CX:CXT} {k:Nat} {f C:Addr} {fd:FuncData} {ps:List Str} {sp:Sp} {dvs:List V} {ds:List Value} {E:XK} {x m:Str} {p pos apos:Pos} {e:Expr} {es:List Expr} {t:TA}
theorem JI {pl:Sem Bool} (hC:ClsFn X.K C m f) (F:FnOk X.prog X.w X.K X.mg X.base CX k f fd ps sp) (hr:Room k X.A) (hg:Gl X x) (hm:X.mg x=some (.ref C)) (hb:zg X.K fd ps ds) (hd:qD dvs ds) (hx:jq CX X E) (ha:PA X (e::es) t)
  (hdb:(x == ("__debug__" : Str))=false:=by decide) (hst:starEach (e::es) X.env=(false,eval e X.env)::starEach es X.env:=by rfl) (hpl:(backTo pos (starEach es X.env)).any (·.1)=false:=by rfl)
  (ht:eval (.Call (.Attribute (.Name x p) m apos) (e::es) [] pos) X.env=(do
   let ov<-eval (.Name x p) X.env
   standAt apos.atName
   let (f,first)<-holding [ov] (getMethod ov m pl)
   callWith pos f first (backTo pos (starEach (e::es) X.env)) (backToKw pos (keywordEach [] X.env))):=by rfl) :
  PE X (.Call (.Attribute (.Name x p) m apos) (e::es) [] pos) (qbZ sp dvs E t):=by
 intro pins s σ H Q I h;refine PySem.W.methodCall_KW (pl:=pl) (j3 I hg hm ?_ hdb) ht;refine method_cls I.kIn hC.sp (cls_value I.kIn hC.reads hC.at_ rfl ?_);have I1:=I.tok (s.toks+1);refine PySem.W.callWith_K (first:=[]) (h₀:=X.base) I.ok.mod.kin hC.kp (thn (ha pos pins _ σ H _ I1 h) fun us s2 z=>?_) hst hpl;obtain ⟨vs,H2,I2,r,q⟩:=z;exact ⟨I2.kIn,Yh F hr hb hd hx I2 r q⟩
end
end L2
namespace L2
open PySem PySem.Spec PyProof.Rows PySem.W
noncomputable def Itz (K:Frag) (a b:Addr):It:=
 ⟨fun i H=>∃ xs ys x y,SqL K H a xs/\SqL K H b ys/\xs[i]?=some x/\ys[i]?=some y,
  fun i H v H'=>∃ T x y,v=.ref T/\H T=none/\H'=upd H T (.tup [x,y])/\∀ xs ys,SqL K H a xs->SqL K H b ys->xs[i]?=some x/\ys[i]?=some y,
  fun i H=>∃ xs ys,SqL K H a xs/\SqL K H b ys/\(xs.length<=i\/ys.length<=i)⟩
noncomputable def ZSt (z TI TO i1 i2 a b:Addr) (i:Nat) (h:Heap):Prop:=IsZip h z TI TO .none/\IsPair h TI (.ref i1) (.ref i2)/\(∃ u v,IsPair h TO u v)/\h.IsListIter i1 a i/\h.IsListIter i2 b i
theorem Inv.turnedAll {X:Cx} {pins:PP} {σ:St} {H:Hp} {s:Shared} {h':Heap} {t':Nat} {ch:List Addr} (I:Inv X pins σ H s) (k:∀ b o,b∉ch->s.heap.get? b=some o->h'.get? b=some o) (hf:∀ b∈ch,Zm X pins H b):Inv X pins σ H { s with heap:=h',toks:=t' }:=by
 have nch:∀ {b:Addr} {u:HO},H b=some u->b∉ch:=fun {b u} e z=>by rw [(hf b z).1] at e;cases e
 refine I.step (g':=s.gens) (d':=s.drawn) (ch:=ch) (fun b hb=>?_) (fun b o _ _ hc e _=>k b o hc e) (fun b o _ _ hc e _=>⟨o.slots,k b o hc e⟩) (fun _ _ _ _ n=>n) (fun b o hc e=>⟨o,k b o hc e⟩) (fun _ _ e=>e) (fun _ _ _ e=>e) (fun b ps e=>⟨#[],by rw [e];simp⟩) (fun m hm=>?_) (fun b u e=>?_) I.bare
 ·obtain ⟨f0,f1,f2,f3,f4,f5⟩:=hf b hb;exact ⟨f3,f1,f4,f5⟩
 ·obtain ⟨o,es,ep,ho,r⟩:=hm;exact ⟨o,es,ep,k _ o (fun z=>(hf _ z).2.1 rfl) ho,r⟩
 ·refine (I.hok b u e).stay (fun c v hc q=>k c v ?_ q) (fun _ q=>q) fun _ _ q=>q;rcases hc with z | z
  ·rw [z];exact nch e
  ·exact nch z
theorem Inv.turnedNew {X:Cx} {pins:PP} {σ:St} {H:Hp} {s:Shared} {h':Heap} {t':Nat} {ch:List Addr} {T:Addr} {ob:HO} (I:Inv X pins σ H s) (k:∀ b o,b∉ch->s.heap.get? b=some o->h'.get? b=some o) (hf:∀ b∈ch,Zm X pins H b)
  (hT:s.heap.get? T=none) (new:qK X.prog X.w (upd H T ob) h' T ob):Inv X pins σ (upd H T ob) { s with heap:=h',toks:=t' }:=by
 have hH:H T=none:=I.newH hT;have nch:∀ {b:Addr} {u:HO},H b=some u->b∉ch:=fun {b u} e z=>by rw [(hf b z).1] at e;cases e
 have nT:∀ {b:Addr} {u:HO},H b=some u->b≠T:=fun {b u} e z=>by rw [z,hH] at e;cases e
 have up:∀ {b:Addr} {u:HO},H b=some u->upd H T ob b=some u:=fun {b u} e=>by rw [qf (nT e)];exact e
 refine I.step (g':=s.gens) (d':=s.drawn) (ch:=ch) (fun b hb=>?_) (fun b o _ _ hc e _=>k b o hc e) (fun b o _ _ hc e _=>⟨o.slots,k b o hc e⟩) (fun b o _ e n=>?_) (fun b o hc e=>⟨o,k b o hc e⟩) (fun _ _ e=>up e) (fun _ _ _ e=>up e) (fun b ps e=>⟨#[],by rw [up e];simp⟩) (fun m hm=>?_) (fun b u e=>?_) I.bare
 ·obtain ⟨f0,f1,f2,f3,f4,f5⟩:=hf b hb;exact ⟨f3,f1,f4,f5⟩
 ·rw [qf (fun z=>by rw [z,hT] at e;cases e)];exact n
 ·obtain ⟨o,es,ep,ho,r⟩:=hm;exact ⟨o,es,ep,k _ o (fun z=>(hf _ z).2.1 rfl) ho,r⟩
 ·by_cases hb:b=T
  ·subst hb;rw [qi] at e;cases e;exact new
  ·rw [qf hb] at e;refine (I.hok b u e).stay (fun c v hc q=>k c v ?_ q) (fun _ q=>up q) fun _ _ q=>up q;rcases hc with z | z
   ·rw [z];exact nch e
   ·exact nch z
theorem qch {P:Program} {w:World} {K:Frag} {elts:List Expr} {kk:Nat} {pos:Pos} {z TI TO i1 i2 a b:Addr} (D:ZipApart z TI TO i1 i2 a b) :
  Turn P w K (.Tuple elts kk pos) (Itz K a b) [z,TI,TO,i1,i2] z (ZSt z TI TO i1 i2 a b) where
 mem:=by simp
 obj:=fun i h st c hc=>by
  obtain ⟨s1,s2,⟨u,v,s3⟩,⟨o4,s4,_,d4⟩,⟨o5,s5,_,d5⟩⟩:=st;simp at hc;rcases hc with rfl | rfl | rfl | rfl | rfl
  ·exact ⟨_,s1,fun v q=>by cases q⟩
  ·exact ⟨_,s2,fun v q=>by cases q⟩
  ·exact ⟨_,s3,fun v q=>by cases q⟩
  ·exact ⟨_,s4,fun v q=>by rw [d4] at q;cases q⟩
  ·exact ⟨_,s5,fun v q=>by rw [d5] at q;cases q⟩
 keep:=fun i h h' st k=>by obtain ⟨s1,s2,⟨u,v,s3⟩,s4,s5⟩:=st;exact ⟨k z (by simp) _ s1,k TI (by simp) _ s2,⟨u,v,k TO (by simp) _ s3⟩,s4.at fun o e=>k i1 (by simp) o e,s5.at fun o e=>k i2 (by simp) o e⟩
 item:=by
  intro X hP hw hK hc i pins s σ H E I hf st hg;subst hP hw hK;obtain ⟨xs,ys,x,y,qa,qb,hx,hy⟩:=hg;obtain ⟨s1,s2,⟨u,v,s3⟩,s4,s5⟩:=st;obtain ⟨ia,ra,pa,za⟩:=I.list qa;obtain ⟨ib,rb,pb,zb⟩:=I.list qb;obtain ⟨ux,ex,rx⟩:=ra.get hx;obtain ⟨uy,ey,ry⟩:=rb.get hy;refine wpAny_pyNext_zip_item D s1 s2 s3 s4 s5 pa.isList pb.isList (x:=ux) (y:=uy) (by simpa using ex) (by simpa using ey) fun h' a1 a2 a3 a4 a5 a6 kp=>?_;refine ⟨_,rfl,wpAny_letOwnedTupleGo_zip (s:={ s with heap:=h' }) a1 fun h2 b1 b2=>?_⟩;have two:(2:Nat)<=sizeLine:=Nat.le_of_lt (Yq (2:))
  have kp2:∀ c o,c∉[z,TI,TO,i1,i2]->s.heap.get? c=some o->h2.get? c=some o:=fun c o hc e=>by simp at hc;exact b2.extBut c o hc.1 (kp c o hc.1 hc.2.2.1 hc.2.2.2.1 hc.2.2.2.2 e)
  have I1:Inv X pins σ H { s with heap:=h2 }:=I.turnedAll (t':=s.toks) kp2 hf
  have hnew:s.heap.get? s.heap.objs.size=none:=by
   cases q:s.heap.get? s.heap.objs.size with
   | none=>rfl
   | some o=>exact absurd (Heap.lt_size q) (Nat.lt_irrefl _)
  have hH:H s.heap.objs.size=none:=I.hok.fresh (Nat.le_refl _);have hTz:s.heap.objs.size≠z:=Nat.ne_of_gt (Heap.lt_size s1);have hT2:IsPair h2 s.heap.objs.size ux uy:=b2.extBut _ _ hTz a5;have hf2:=hf;have I2:Inv X pins σ (upd H s.heap.objs.size (.tup [x,y])) { s with heap:=h2 }:=I.turnedNew (t':=s.toks) kp2 hf hnew ⟨two,[ux,uy],.cons rx %[ry|0],_,hT2,rfl,0,rfl⟩;refine ⟨.ref s.heap.objs.size,_,I2,rfl,⟨_,x,y,rfl,hH,rfl,fun xs' ys' h1 h2=>?_⟩,?_,fun c hc=>?_⟩
  ·rw [I.list_inj h1 qa,I.list_inj h2 qb];exact ⟨hx,hy⟩
  ·exact ⟨b1,b2.extBut _ _ D.TIz (kp TI _ D.TIz D.TITO D.TIi1 D.TIi2 s2),⟨_,_,b2.extBut _ _ D.TOz a2⟩,a3.extBut b2.extBut D.i1z,a4.extBut b2.extBut D.i2z⟩
  ·have hc0:=(hf c hc).1;rw [qf]
   ·exact hc0
   ·intro q
    have e:∃ o,s.heap.get? c=some o:=by
     simp at hc;rcases hc with rfl | rfl | rfl | rfl | rfl
     ·exact ⟨_,s1⟩
     ·exact ⟨_,s2⟩
     ·exact ⟨_,s3⟩
     ·obtain ⟨o,e,_⟩:=s4;exact ⟨o,e⟩
     ·obtain ⟨o,e,_⟩:=s5;exact ⟨o,e⟩
    obtain ⟨o,e⟩:=e;rw [q,hnew] at e;cases e
 done:=by intro X hP hw hK hc i pins s σ H E I hf st hg;subst hP hw hK;obtain ⟨xs,ys,qa,qb,hend⟩:=hg;obtain ⟨s1,s2,⟨u,v,s3⟩,s4,s5⟩:=st;obtain ⟨ia,ra,pa,za⟩:=I.list qa;obtain ⟨ib,rb,pb,zb⟩:=I.list qb;have la:=ra.length;have lb:=rb.length;refine wpAny_pyNext_zip_end (I.ok.hd hc) D s1 s2 s3 s4 s5 pa.isList pb.isList (by simp;omega) fun h' kp=>⟨rfl,I.turnedAll (t':=s.toks) (fun c o hc e=>?_) hf⟩;simp at hc;exact kp c o hc.1 hc.2.2.1 hc.2.2.2.1 hc.2.2.2.2 e
 self:=fun A i s Q E st h=>wpAny_pyIter_zip st.1 h
noncomputable def qkA (K:Frag) (ta:TA):TI:=fun σ H R=>ta σ H fun vs H1=>∃ a b,vs=[.ref a,.ref b]/\(∃ xs,SqL K H1 a xs)/\(∃ ys,SqL K H1 b ys)/\R (Itz K a b) H1
section
variable {X:Cx}
theorem qgC {ea eb:Expr} {elts:List Expr} {kk:Nat} {tpos p pos:Pos} {ta:TA} (hg:Gl X "zip") (hm:X.mg "zip" = none) (ha:PA X [ea,eb] ta) (hs:starEach [ea,eb] X.env=[(false,eval ea X.env),(false,eval eb X.env)]:=by rfl) (hs2:starEach [eb] X.env=[(false,eval eb X.env)]:=by rfl) :
  PI X (.Tuple elts kk tpos) (.Call (.Name "zip" p) [ea,eb] [] pos) (qkA X.K ta):=by
 intro pins s σ H R I h;refine Call_ (jK I hg hm boot_zip (PyProof.Rows.callWith_type1 (thn (ha pos pins s σ H _ I h) fun us s1 z=>?_) (by rw [hs,hs2]) (by rw [hs2];rfl)));obtain ⟨vs,H1,I1,r1,a,b,rfl,⟨xs,qa⟩,⟨ys,qb⟩,q⟩:=z;obtain ⟨u,v,rfl,ru,rv⟩:=Yd r1;cases ru;cases rv;obtain ⟨ia,ra,pa,za⟩:=I1.list qa;obtain ⟨ib,rb,pb,zb⟩:=I1.list qb;have la:a < s1.heap.objs.size:=by obtain ⟨_,e,_⟩:=pa.isList;exact Heap.lt_size e
 have lb:b < s1.heap.objs.size:=by obtain ⟨_,e,_⟩:=pb.isList;exact Heap.lt_size e
 refine call_zip_2 pa.isList pb.isList fun h' z1 z2 z3 z4 z5 z6 kp=>wpAny_pyIter_zip z1 ?_
 have D:ZipApart (s1.heap.objs.size+4) (s1.heap.objs.size+2) (s1.heap.objs.size+3) s1.heap.objs.size (s1.heap.objs.size+1) a b:=by constructor<;>(first | exact Nat.ne_of_lt (Nat.lt_of_lt_of_le la (Nat.le_add_right _ _)) | exact Nat.ne_of_lt (Nat.lt_of_lt_of_le lb (Nat.le_add_right _ _)) | exact Nat.ne_of_lt la | exact Nat.ne_of_lt lb | exact Nat.ne_of_lt (1:) | exact Nat.ne_of_gt (1:))
 refine ⟨s1.heap.objs.size+4,[s1.heap.objs.size+4,s1.heap.objs.size+2,s1.heap.objs.size+3,s1.heap.objs.size,s1.heap.objs.size+1],_,_,H1,rfl,I1.kept (t':=s1.toks) kp,qch D,⟨z1,z2,⟨_,_,z3⟩,z4,z5⟩,fun c hc=>?_,q⟩
 have:s1.heap.objs.size<=c:=by
  simp at hc;rcases hc with rfl | rfl | rfl | rfl | rfl
  ·exact Nat.le_add_right _ _
  ·exact Nat.le_add_right _ _
  ·exact Nat.le_add_right _ _
  ·exact Nat.le_refl _
  ·exact Nat.le_add_right _ _
 exact I1.fpOk this (I1.hok.fresh this)
end
end L2
namespace L2
open PySem PySem.Spec PyProof.Rows PySem.W PyProof
section
variable {X:Cx}
theorem qgD:SlR X (fun x lo hi H Q=>∃ z,x=.str z/\z.length<=sizeLine/\Q (.str (Txt.slice z lo hi)) H):=by
 intro pins s σ H x v vl vu lo hi sl Q I rx hs pl pu h;obtain ⟨z,rfl,hz,q⟩:=h;obtain ⟨t,rfl⟩:=rx;refine ⟨"str",_,F.slot_str_getitem.lookup,typeIs_str _ _ _,?_⟩;obtain ⟨o,e1,e2,e3⟩:=hs
 cases pl with
 | none=>
  cases pu with
  | none=>exact wpAny_getItem_str_slice (l:=none) (u:=none) (st:=none) ⟨o,e1,e2,e3⟩ rfl (post_val_or_str ⟨Nat.le_trans (Txt.slice_le z _ _) hz,fun t' k=>⟨.str _,H,I.tok k,⟨t',rfl⟩,q⟩⟩)
  | int j uj=>exact wpAny_getItem_str_slice (l:=none) (u:=some (j,uj)) (st:=none) ⟨o,e1,e2,e3⟩ rfl (post_val_or_str ⟨Nat.le_trans (Txt.slice_le z _ _) hz,fun t' k=>⟨.str _,H,I.tok k,⟨t',rfl⟩,q⟩⟩)
 | int i ui=>
  cases pu with
  | none=>exact wpAny_getItem_str_slice (l:=some (i,ui)) (u:=none) (st:=none) ⟨o,e1,e2,e3⟩ rfl (post_val_or_str ⟨Nat.le_trans (Txt.slice_le z _ _) hz,fun t' k=>⟨.str _,H,I.tok k,⟨t',rfl⟩,q⟩⟩)
  | int j uj=>exact wpAny_getItem_str_slice (l:=some (i,ui)) (u:=some (j,uj)) (st:=none) ⟨o,e1,e2,e3⟩ rfl (post_val_or_str ⟨Nat.le_trans (Txt.slice_le z _ _) hz,fun t' k=>⟨.str _,H,I.tok k,⟨t',rfl⟩,q⟩⟩)
end
end L2
namespace L2
open PySem PySem.Spec PyProof.Rows PySem.W
noncomputable def Ite (K:Frag) (a:Addr):It:=
 ⟨fun i H=>∃ xs x,SqL K H a xs/\xs[i]?=some x,
  fun i H v H'=>∃ T x,v=.ref T/\H T=none/\H'=upd H T (.tup [.int i,x])/\∀ xs,SqL K H a xs->xs[i]?=some x,
  fun i H=>∃ xs,SqL K H a xs/\xs.length<=i⟩
noncomputable def ESt (e it a:Addr) (i:Nat) (h:Heap):Prop:=(∃ old,IsEnum h e it ((i:Nat):Int) old)/\h.IsListIter it a i
theorem qaG {P:Program} {w:World} {K:Frag} {elts:List Expr} {kk:Nat} {pos:Pos} {e it a:Addr} (hne:e≠it) :
  Turn P w K (.Tuple elts kk pos) (Ite K a) [e,it] e (ESt e it a) where
 mem:=by simp
 obj:=fun i h st c hc=>by
  obtain ⟨⟨old,s1⟩,⟨o4,s4,_,d4⟩⟩:=st;simp at hc;rcases hc with rfl | rfl
  ·exact ⟨_,s1,fun v q=>by cases q⟩
  ·exact ⟨_,s4,fun v q=>by rw [d4] at q;cases q⟩
 keep:=fun i h h' st k=>by obtain ⟨⟨old,s1⟩,s4⟩:=st;exact ⟨⟨old,k e (by simp) _ s1⟩,s4.at fun o e=>k it (by simp) o e⟩
 item:=by
  intro X hP hw hK hc i pins s σ H E I hf st hg;subst hP hw hK;obtain ⟨xs,x,qa,hx⟩:=hg;obtain ⟨⟨old,s1⟩,s4⟩:=st;obtain ⟨ia,ra,pa,za⟩:=I.list qa;obtain ⟨ux,ex,rx⟩:=ra.get hx;refine wpAny_pyNext_enum_item s1 s4 pa.isList (x:=ux) (by simpa using ex) hne fun h' a1 a2 a3 a4 kp=>?_;refine ⟨_,rfl,wpAny_letOwnedTupleGo_enum (s:={ s with heap:=h',toks:=s.toks+1 }) a1 fun h2 b1 b2=>?_⟩;have two:(2:Nat)<=sizeLine:=Nat.le_of_lt (Yq (2:))
  have kp2:∀ c o,c∉[e,it]->s.heap.get? c=some o->h2.get? c=some o:=fun c o hc q=>by simp at hc;exact b2.extBut c o hc.1 (kp c o hc.1 hc.2 q)
  have hnew:s.heap.get? s.heap.objs.size=none:=by
   cases q:s.heap.get? s.heap.objs.size with
   | none=>rfl
   | some o=>exact absurd (Heap.lt_size q) (Nat.lt_irrefl _)
  have hH:H s.heap.objs.size=none:=I.hok.fresh (Nat.le_refl _);have hTe:s.heap.objs.size≠e:=Nat.ne_of_gt (Heap.lt_size s1);have hT2:IsPair h2 s.heap.objs.size (.int i s.toks) ux:=b2.extBut _ _ hTe a3;have I2:Inv X pins σ (upd H s.heap.objs.size (.tup [.int i,x])) { s with heap:=h2,toks:=s.toks+1 }:=I.turnedNew (t':=s.toks+1) kp2 hf hnew ⟨two,[.int i s.toks,ux],.cons ⟨_,rfl⟩ %[rx|0],_,hT2,rfl,0,rfl⟩;refine ⟨.ref s.heap.objs.size,_,I2,rfl,⟨_,x,rfl,hH,rfl,fun xs' h1=>?_⟩,?_,fun c hc=>?_⟩
  ·rw [I.list_inj h1 qa];exact hx
  ·have e1:((i+1:Nat):Int)=(i:Int)+1:=by omega
   refine ⟨⟨ux,?_⟩,a2.extBut b2.extBut (Ne.symm hne)⟩;rw [e1];exact b1
  ·have hc0:=(hf c hc).1;rw [qf]
   ·exact hc0
   ·intro q
    have e:∃ o,s.heap.get? c=some o:=by
     simp at hc;rcases hc with rfl | rfl
     ·exact ⟨_,s1⟩
     ·obtain ⟨o,e,_⟩:=s4;exact ⟨o,e⟩
    obtain ⟨o,e⟩:=e;rw [q,hnew] at e;cases e
 done:=by intro X hP hw hK hc i pins s σ H E I hf st hg;subst hP hw hK;obtain ⟨xs,qa,hend⟩:=hg;obtain ⟨⟨old,s1⟩,s4⟩:=st;obtain ⟨ia,ra,pa,za⟩:=I.list qa;have la:=ra.length;refine wpAny_pyNext_enum_end (I.ok.hd hc) s1 s4 pa.isList (by simp;omega) fun h' kp=>⟨rfl,I.turnedAll (t':=s.toks) (fun c o hc e=>?_) hf⟩;simp at hc;exact kp c o hc.2 e
 self:=fun A i s Q E st h=>by obtain ⟨⟨old,s1⟩,_⟩:=st;exact wpAny_pyIter_enum s1 h
noncomputable def qi7 (K:Frag) (ta:TA):TI:=fun σ H R=>ta σ H fun vs H1=>∃ a,vs=[.ref a]/\(∃ xs,SqL K H1 a xs)/\R (Ite K a) H1
section
variable {X:Cx}
theorem qet {ea:Expr} {elts:List Expr} {kk:Nat} {tpos p pos:Pos} {ta:TA} (hg:Gl X "enumerate") (hm:X.mg "enumerate" = none) (ha:PA X [ea] ta) (hs:starEach [ea] X.env=[(false,eval ea X.env)]:=by rfl) :
  PI X (.Tuple elts kk tpos) (.Call (.Name "enumerate" p) [ea] [] pos) (qi7 X.K ta):=by
 intro pins s σ H R I h;refine Call_ (jK I hg hm boot_enumerate (PyProof.Rows.callWith_type1 (thn (ha pos pins s σ H _ I h) fun us s1 z=>?_) hs rfl));obtain ⟨vs,H1,I1,r1,a,rfl,⟨xs,qa⟩,q⟩:=z;obtain ⟨u,rfl,ru⟩:=jM r1;cases ru;obtain ⟨ia,ra,pa,za⟩:=I1.list qa;refine call_enumerate_list pa.isList fun h' z1 z2 z3 kp=>wpAny_pyIter_enum z1 ?_;refine ⟨s1.heap.objs.size+1,[s1.heap.objs.size+1,s1.heap.objs.size],_,_,H1,rfl,I1.kept (t':=s1.toks) kp,qaG (Nat.succ_ne_self _),⟨⟨_,z1⟩,z2⟩,fun c hc=>?_,q⟩
 have:s1.heap.objs.size<=c:=by
  simp at hc;rcases hc with rfl | rfl
  ·exact Nat.le_add_right _ _
  ·exact Nat.le_refl _
 exact I1.fpOk this (I1.hok.fresh this)
end
end L2
namespace L2
open PySem PySem.Spec PyProof.Rows PySem.W
noncomputable def Itv (K:Frag) (a:Addr) (xs:List V):It:=
 ⟨fun i H=>SqL K H a xs/\i < xs.length,fun i H x H'=>H'=H/\xs[xs.length - 1 - i]?=some x,fun i H=>SqL K H a xs/\xs.length=i⟩
theorem qci {P:Program} {w:World} {K:Frag} {tg:Expr} (a it:Addr) (xs:List V):Turn P w K tg (Itv K a xs) [it] it (fun i h=>h.IsRevIter it a ((xs.length:Int) - 1 - i)) where
 mem:=by simp
 obj:=fun i h st b hb=>by
  have e:b=it:=by simpa using hb
  subst e;obtain ⟨o,e,c,d⟩:=st;exact ⟨o,e,fun v z=>by rw [d] at z;cases z⟩
 keep:=fun i h h' st k=>st.at fun o e=>k it (by simp) o e
 item:=by
  intro X hP hw hK hc i pins s σ H E I hf st hg;subst hP hw hK;obtain ⟨hq,hi⟩:=hg;obtain ⟨its,rv,p,hz⟩:=I.list hq;have hx:xs[xs.length - 1 - i]?=some xs[xs.length - 1 - i]:=List.getElem?_eq_getElem (1:);obtain ⟨u,hu,ru⟩:=rv.get hx;obtain ⟨f0,f1,f2,f3,f4,f5⟩:=hf it (by simp);have e1:(xs.length:Int) - 1 - i=((xs.length - 1 - i:Nat):Int):=by omega
  rw [e1] at st;refine wpAny_pyNext_rev_item st p.isList (x:=u) (by simpa using hu) fun h' st' sb=>?_;have I1:Inv X pins σ H { s with heap:=h' }:=I.turned (t':=s.toks) (fun b o hb e=>(sb.2 b hb).trans e) f0 f1 f3 f4 f5;have e2:((xs.length - 1 - i:Nat):Int) - 1=(xs.length:Int) - 1 - ((i+1:Nat):Int):=by omega
  rw [e2] at st';obtain ⟨o,e,c,d⟩:=id st';exact ⟨u,rfl,Zn (s:={ s with heap:=h' }) e c d (2:) ⟨_,H,I1,ru,⟨rfl,hx⟩,st',fun b hb=>(hf b hb).1⟩⟩
 done:=by
  intro X hP hw hK hc i pins s σ H E I hf st hg;subst hP hw hK;obtain ⟨hq,hi⟩:=hg;obtain ⟨f0,f1,f2,f3,f4,f5⟩:=hf it (by simp);have e1:(xs.length:Int) - 1 - i = -1:=by omega
  rw [e1] at st;exact wpAny_pyNext_rev_end (I.ok.hd hc) st fun h' eb=>⟨rfl,I.turned (t':=s.toks) (fun b o hb e=>eb b o hb e) f0 f1 f3 f4 f5⟩
 self:=fun _ _ _ _ _ st h=>wpAny_pyIter_revIter st h
noncomputable def qkB (K:Frag) (ta:TA):TI:=fun σ H R=>ta σ H fun vs H1=>∃ a xs,vs=[.ref a]/\SqL K H1 a xs/\R (Itv K a xs) H1
section
variable {X:Cx}
theorem qgE {ea tg:Expr} {p pos:Pos} {ta:TA} (hg:Gl X "reversed") (hm:X.mg "reversed" = none) (ha:PA X [ea] ta) (hs:starEach [ea] X.env=[(false,eval ea X.env)]:=by rfl) :
  PI X tg (.Call (.Name "reversed" p) [ea] [] pos) (qkB X.K ta):=by
 intro pins s σ H R I h;refine Call_ (jK I hg hm boot_reversed (PyProof.Rows.callWith_type1 (thn (ha pos pins s σ H _ I h) fun us s1 z=>?_) hs rfl));obtain ⟨vs,H1,I1,r1,a,xs,rfl,qa,q⟩:=z;obtain ⟨u,rfl,ru⟩:=jM r1;cases ru;obtain ⟨ia,ra,pa,za⟩:=I1.list qa;have la:=ra.length;refine call_reversed_list pa.isList ?_;refine wpAny_pyIter_revIter ⟨_,Heap.get?_push_size _ rfl,rfl,rfl⟩ ?_;refine ⟨s1.heap.objs.size,[s1.heap.objs.size],_,_,H1,rfl,I1.kept (t':=s1.toks) fun b o e=>Heap.get?_push_of_some _ e,qci a _ xs,⟨_,Heap.get?_push_size _ rfl,rfl,?_⟩,fun b hb=>?_,q⟩
 ·show Data.fields #[.ref a,rawInt ((ia.toArray.size:Int) - 1)]=_
  have:(ia.toArray.size:Int) - 1=(xs.length:Int) - 1 - ((0:Nat):Int):=by simp;omega
  rw [this]
 ·have e:b=s1.heap.objs.size:=by simpa using hb
  subst e;exact I1.fpOk (Nat.le_refl _) (I1.hok.fresh (Nat.le_refl _))
end
end L2
namespace L2
open PySem PySem.Spec PyProof.Rows
theorem qaH:∀ {zs:List Str} {us:List Value},qD (zs.map V.str) us->StrsAre us zs
 | [],_,.nil=>.nil
 | z::zs,_,.cons r t=>by obtain ⟨k,rfl⟩:=r;exact .cons z k (qaH t)
theorem JJ (k:Str):∀ {vs:List Value} {ys:List Str},StrsAre vs ys->∀ (j:Nat) (h1:j < vs.length) (h2:j < ys.length),isStrOf k vs[j]=(ys[j] == k)
 | _,_,.cons n t _,0,_,_=>rfl
 | _,_,.cons n t r,j+1,h1,h2=>JJ k r j (Nat.lt_of_succ_lt_succ h1) (Nat.lt_of_succ_lt_succ h2)
theorem qdu {k:Str}:∀ {ns:List Str} {j:Nat},j < ns.idxOf k->∀ (h2:j < ns.length),(ns[j] == k)=false
 | n::r,0,h,_=>by
  by_cases e:n=k
  ·subst e;simp at h
  ·simpa using e
 | n::r,j+1,h,h2=>by
  by_cases e:n=k
  ·subst e;simp at h
  ·have hb:(n == k)=false:=by simpa using e
   have h':j < r.idxOf k:=by rw [List.idxOf_cons,hb] at h;exact Nat.lt_of_succ_lt_succ h
   exact qdu h' (Nat.lt_of_succ_lt_succ h2)
theorem QS:∀ {vs:List Value} {ys:List Str},StrsAre vs ys->vs.length=ys.length
 | _,_,.nil=>rfl
 | _,_,.cons _ _ r=>by rw [List.length_cons,List.length_cons,QS r]
section
variable {X:Cx}
noncomputable def qgF:V->List V->Hp->VK->Prop:=fun x vs H Q=>∃ (l:Addr) (zs:List Str) (k:Str),x=.ref l/\vs=[.str k]/\H l=some (.lst (zs.map V.str))/\k∈zs/\Q (.int (zs.idxOf k:Nat)) H
theorem qcj:MtR X "list.index" qgF:=by
 intro pins s σ H x vs v us Q I rx rv h;obtain ⟨l,zs,k,rfl,rfl,hH,hk,q⟩:=h;cases rx;obtain ⟨u,rfl,ru⟩:=rv.one;obtain ⟨z,its,n,r,hl,e⟩:=I.lstM hH;obtain ⟨t,rfl⟩:=ru;have hi:=qaH r;have hlen:=QS hi;have hj:zs.idxOf k < zs.length:=List.idxOf_lt_length_iff.mpr hk;have hz:zs.length<=sizeLine:=by simpa using z
 have hs:sizeLine < 2 ^ 62:=by decide+kernel
 refine call_meets F.slot_list_index ⟨_,e,rfl⟩ F.entry_list_index (F.args_list_index_2 _ _) (SeqAt.list_indexAt l its.toArray n _ _ (.str k t) (isStrOf k) (zs.idxOf k) (by simpa [hlen] using hj) (1:) ?_ ?_) ⟨e,fun y hy=>(eq_isStrOf k t hi y (by simpa using hy)).at _ _,?_⟩
 ·show isStrOf k its[zs.idxOf k]=true;rw [JJ k hi _ (1:) hj]
  simpa using List.getElem_idxOf hj
 ·intro j hjs hlt;show isStrOf k its[j]=false;rw [JJ k hi j (by simpa using hjs) (1:)];exact qdu hlt _
 ·exact ⟨.int _,H,I.tok _,⟨_,rfl⟩,q⟩
end
end L2
namespace L2
open PySem PySem.Spec PyProof.Rows
noncomputable def qiz (lo st:Int) (n:Nat):It:=⟨fun i _=>i < n,fun i H x H'=>H'=H/\x=.int (lo+i * st),fun i _=>n<=i⟩
theorem Qd {P:Program} {w:World} {K:Frag} {tg:Expr} (it:Addr) (lo c:Int) (n:Nat):Turn P w K tg (qiz lo c n) [it] it (fun i h=>IsRangeIter h it (lo+(i:Nat) * c) ((n:Int) - (i:Nat)) c) where
 mem:=by simp
 obj:=fun i h st b hb=>by
  have e:b=it:=by simpa using hb
  subst e
  exact ⟨_,st,fun v z=>by have z':Data.fields _=Data.cell v:=z;cases z'⟩
 keep:=fun i h h' st k=>k it (by simp) _ st
 item:=by intro X hP hw hK hc i pins s σ H E I hf st hg;subst hP hw hK;obtain ⟨f0,f1,f2,f3,f4,f5⟩:=hf it (by simp);have W:=Walks.range (prog:=X.prog) (w:=X.w) (I.ok.hd hc) it lo c n;refine W.item i s _ _ hg st fun v h' tk hv st' kk=>?_;obtain ⟨t,rfl⟩:=hv;have I1:Inv X pins σ H { s with heap:=h',toks:=tk }:=I.turned (fun b o hb e=>kk b o (by simpa using hb) e) f0 f1 f3 f4 f5;exact ⟨_,rfl,Zn (s:={ s with heap:=h',toks:=tk }) (n:="range_iterator") st' rfl rfl (2:) ⟨.int (lo+i * c),H,I1,⟨t,rfl⟩,⟨rfl,rfl⟩,st',fun b hb=>(hf b hb).1⟩⟩
 done:=by intro X hP hw hK hc i pins s σ H E I hf st hg;subst hP hw hK;obtain ⟨f0,f1,f2,f3,f4,f5⟩:=hf it (by simp);exact wpAny_pyNext_range_end (I.ok.hd hc) st (by have:n<=i:=hg;omega) fun h' eb=>⟨rfl,I.turned (t':=s.toks) (fun b o hb e=>eb b o hb e) f0 f1 f3 f4 f5⟩
 self:=fun _ _ _ _ _ st h=>wpAny_pyIter_rangeiter st h
def rsz (lo hi c:Int):Nat:=if lo < hi then ((hi - lo - 1) / c+1).toNat else 0
theorem qdv {lo hi c:Int} (hc:0 < c):Builtin.Range.rangeSize lo hi c=(rsz lo hi c:Int):=by
 unfold Builtin.Range.rangeSize rsz;rw [if_pos hc];split
 ·have:=Int.ediv_nonneg (show 0<=hi - lo - 1 by omega) (Int.le_of_lt hc)
  omega
 ·rfl
theorem qeu {a b c:Int} (ha:-(2 ^ 60)<=a) (ha':a < 2 ^ 60) (hb:-(2 ^ 60)<=b) (hb':b < 2 ^ 60) (hc:0 < c) (hc':c < 2 ^ 30):Builtin.Range.small a b c=true:=by
 have hz:=qdv (lo:=a) (hi:=b) hc
 have hl:(rsz a b c:Int)<=2 ^ 61+1:=by
  unfold rsz;split
  ·have h1:=Int.ediv_nonneg (show 0<=b - a - 1 by omega) (Int.le_of_lt hc);have h2:(b - a - 1) / c<=b - a - 1:=Int.ediv_le_self _ (1:);omega
  ·simp
 unfold Builtin.Range.small;rw [hz];simp only [Builtin.Range.rangeFitsLong,Bool.and_eq_true,Bool.or_eq_true,decide_eq_true_eq,beq_iff_eq,show c > 0 from hc,if_true];omega
section
variable {X:Cx} {tg:Expr}
theorem qaI {pins:PP} {σ:St} {H:Hp} {s:Shared} {R:It->Hp->Prop} {E:PQ} {lo hi c:Int} {t u v:Tok} {tk:Nat} (I:Inv X pins σ H s) (h1:-(2 ^ 60)<=lo) (h2:lo < 2 ^ 60) (h3:-(2 ^ 60)<=hi) (h4:hi < 2 ^ 60) (h5:0 < c) (h6:c < 2 ^ 30)
  (q:R (qiz lo c (rsz lo hi c)) H):wpAny (model X.prog X.w) X.A (pyIter (.ref s.heap.objs.size)) (PIE X pins σ tg R) E { s with heap:=s.heap.push { cls:=.type "range",data:=.fields #[.int lo t,.int hi u,.int c v] },toks:=tk }:=by
 refine wpAny_pyIter_range (IsRange.new ..) (qeu h1 h2 h3 h4 h5 h6) ?_;have I1:Inv X pins σ H { s with heap:=s.heap.push { cls:=.type "range",data:=.fields #[.int lo t,.int hi u,.int c v] },toks:=tk }:=I.kept fun b o e=>Heap.get?_push_of_some _ e
 refine ⟨(s.heap.push { cls:=.type "range",data:=.fields #[.int lo t,.int hi u,.int c v] }).objs.size,[(s.heap.push { cls:=.type "range",data:=.fields #[.int lo t,.int hi u,.int c v] }).objs.size],_,_,H,rfl,
  I1.kept (t':=tk) fun b o e=>Heap.get?_push_of_some _ e,Qd _ lo c (rsz lo hi c),?_,fun b hb=>?_,q⟩
 ·have e1:lo+((0:Nat):Int) * c=lo:=by simp
  have e2:((rsz lo hi c:Nat):Int) - ((0:Nat):Int)=Builtin.Range.rangeSize lo hi c:=by rw [qdv h5];simp
  show IsRangeIter _ _ (lo+((0:Nat):Int) * c) (((rsz lo hi c:Nat):Int) - ((0:Nat):Int)) c;rw [e1,e2];exact Heap.get?_push_size _ rfl
 ·have e:b=(s.heap.push { cls:=.type "range",data:=.fields #[.int lo t,.int hi u,.int c v] }).objs.size:=by simpa using hb
  subst e;exact I1.fpOk (Nat.le_refl _) (I1.hok.fresh (Nat.le_refl _))
noncomputable def qi8 (ta:TA):TI:=fun σ H R=>ta σ H fun vs H1=>∃ i j c:Int,vs=[.int i,.int j,.int c]/\(-(2 ^ 60)<=i/\i < 2 ^ 60/\-(2 ^ 60)<=j/\j < 2 ^ 60/\0 < c/\c < 2 ^ 30)/\R (qiz i c (rsz i j c)) H1
theorem qaJ {a b c:Expr} {ta:TA} {p pos:Pos} (hg:Gl X "range") (hm:X.mg "range" = none) (ha:PA X [a,b,c] ta) (hs:starEach [a,b,c] X.env=[(false,eval a X.env),(false,eval b X.env),(false,eval c X.env)]) (hs2:starEach [b,c] X.env=[(false,eval b X.env),(false,eval c X.env)]) :
  PI X tg (.Call (.Name "range" p) [a,b,c] [] pos) (qi8 ta):=by
 intro pins s σ H R I h;refine Call_ (jK I hg hm boot_range (PyProof.Rows.callWith_type1 (thn (ha pos pins s σ H _ I h) fun us s1 hq=>?_) (by rw [hs,hs2]) (by rw [hs2];rfl)));obtain ⟨vs,H1,I1,r1,q1⟩:=hq;obtain ⟨i,j,k,e,⟨q1,q2,q3,q4,q5,q6⟩,q⟩:=q1;subst e
 cases r1 with
 | cons r rr=>
  cases rr with
  | cons r' rr=>
   cases rr with
   | cons r'' rr=>cases rr;obtain ⟨t,rfl⟩:=r;obtain ⟨t',rfl⟩:=r';obtain ⟨t'',rfl⟩:=r'';exact call_range_3 (1:) (qaI I1 q1 q2 q3 q4 q5 q6 q) (.inl (PyProof.noPylong_small (1:)))
end
end L2
namespace L2
open PySem PySem.Spec PyProof.Rows
section
variable {prog:Program} {w:World} {A:Around} {E:PQ} {s:Shared}
theorem Yx:typeLookup (.type "list") "keys" = pure none:=am_miss_of_fast (by kernel_rfl)
theorem qgG {a:Addr} {o:Obj} {xs:Array Value} {k:Nat} {Q:Option Value->Shared->Prop} (hx:s.heap.get? a=some o) (hc:o.cls=.type "list") (hdat:o.data=.seq xs k) (hd:o.dict=none) (hA:A.handled=none)
  (h:∀ h' tk,(∀ b ob,s.heap.get? b=some ob->h'.get? b=some ob)->Q none { s with heap:=h',toks:=tk }):wpAny (model prog w) A (getAttr? (.ref a) "keys") Q E s:=by
 obtain ⟨c,dct,dat,sl⟩:=o;simp only at hc hdat hd;subst hc hdat hd;obtain ⟨hp,g,d,tk,os⟩:=s;have hT:∀ tk',(⟨hp,g,d,tk',os⟩:Shared).TypeIs (.ref a) "list":=fun _=>⟨_,hx,rfl⟩;have f1:=sub_AttributeError;have f3:=PySem.F.slot_list_getattribute.lookup;have f4:=PySem.F.slot_list_getattribute.bind (.ref a);have f5:=am_list_getattr_none;unfold getAttr? getAttrBy? getAttrBy
 repeat (any_goals (first | assumption | exact hT _ | ((with_reducible show wpAny _ _ (call (Value.builtin "list.__getattribute__") _ _) _ _ _);refine call_meets PySem.F.slot_list_getattribute (hT _) am_entry_list_getattribute (PySem.F.args_list_getattribute_2 _ _) (meets_getattribute_miss_list a xs k sl _ _ Yx (by decide+kernel)) ⟨hx,hA,fun h' tk' e hx'=>?_⟩) | wp_step))
 obtain ⟨t',u',he⟩:=hx'.there;show wpAny _ _ (getattributeRaised _ _ _ _ _ _ _) _ _ _;unfold getattributeRaised
 repeat (any_goals (first | assumption | wp_step))
 exact h _ _ hx'.keeps
theorem QT:entryFor table "dict.update.loop" = some Builtin.«dict.update.loop»:=entryFor_of_tree (by kernel_rfl)
theorem yx:plainId "dict.update.loop" = true:=by decide+kernel
noncomputable def qev (prog:Program) (w:World) (h:Heap) (items:Array Value) (ps:List (Key×Value)):Prop:=items.size=ps.length/\∀ (i:Nat) (kv:Key×Value),ps[i]?=some kv->∃ (b:Addr) (ku:Value),items[i]?=some (.ref b)/\h.IsTuple b #[ku,kv.2]/\(qx prog w).is kv.1 ku=true
theorem qgH {h0:Heap} {D I l:Addr} {items:Array Value} {ps:List (Key×Value)} {R:Result->Shared->Prop} (hD:h0.get? D=none) (hI:h0.get? I=none) (hne:D≠I) (hl:h0.IsList l items) (hps:qev prog w h0 items ps) (hz:ps.length<=sizeLine) (hh:A.handled=none) :
  ∀ (k i:Nat) (t:Tok) (s:Shared),ps.length - i=k->i<=ps.length->(∀ b o,h0.get? b=some o->s.heap.get? b=some o)->s.heap.IsListIter I l i->s.heap.DictOf (qx prog w) D (merged [] (ps.take i))->
   (∀ h' tk,(∀ b o,h0.get? b=some o->h'.get? b=some o)->h'.DictOf (qx prog w) D (merged [] ps)->R (.ok (.ret .none)) { s with heap:=h',toks:=tk })->
   codeAny (model prog w) A (.builtin "dict.update.loop" ⟨[.ref D,.ref I,.int i t,.none],[]⟩) R s:=by
 have old:∀ {b:Addr} {o:Obj},h0.get? b=some o->b≠D/\b≠I:=fun {b o} e=>⟨fun z=>(by rw [z,hD] at e;cases e),fun z=>(by rw [z,hI] at e;cases e)⟩;intro k
 induction k with
 | zero=>
  intro i t s hk hi ho it dd hR;have hin:i=ps.length:=by omega
  subst hin;refine codeAny_builtin QT ?_;rw [Around.under_plainId yx _];show wpAny _ A.in1 (pyNext (.ref I) >>= _) _ _ s;have hl':s.heap.IsList l items:=hl.at fun o e=>ho _ _ e;refine wpAny_bind (wpAny_pyNext_list_end (by simpa using hh) it hl' (by simp [hps.1]) fun h' eb=>?_);rw [List.take_length] at dd;show wpAny _ A.in1 (Builtin.Dict.addKeywords D [] >>= _) _ _ _;refine wpAny_bind (wpAny_pure (wpAny_pure (hR h' s.toks (fun b o e=>eb b o (old e).2 (ho b o e)) ?_)));obtain ⟨o,es,ep,h1,r⟩:=dd;exact ⟨o,es,ep,eb D o hne h1,r⟩
 | succ k ih=>
  intro i t s hk hi ho it dd hR;have hlt:i < ps.length:=by omega
  obtain ⟨kv,hkv⟩:∃ kv,ps[i]?=some kv:=⟨ps[i],List.getElem?_eq_getElem _⟩;obtain ⟨b,ku,h1,h2,h3⟩:=hps.2 i kv hkv;have hl':s.heap.IsList l items:=hl.at fun o e=>ho _ _ e;refine codeAny_builtin QT ?_;rw [Around.under_plainId yx _];show wpAny _ A.in1 (pyNext (.ref I) >>= _) _ _ s;refine wpAny_bind (wpAny_pyNext_list_item it hl' h1 fun h' it' sb=>?_);have ho':∀ b o,h0.get? b=some o->h'.get? b=some o:=fun b o e=>(sb.2 b (old e).2).trans (ho b o e)
  have dd':h'.DictOf (qx prog w) D (merged [] (ps.take i)):=by obtain ⟨o,es,ep,q,r⟩:=dd;exact ⟨o,es,ep,(sb.2 D hne).trans q,r⟩
  obtain ⟨ot,q1,q2,n,q3⟩:=h2;have hT:Shared.TypeIs { s with heap:=h' } (.ref b) "tuple":=⟨ot,ho' _ _ q1,q2⟩;show wpAny _ A.in1 (holding [Value.ref b] _ >>= _) _ _ _;refine wpAny_bind (wpAny_holding (wpAny_bind (wpAny_tryCatch ?_)));unfold Builtin.Dict.pairItems;refine wpAny_bind (wpAny_typeOf hT ?_);rw [if_pos (2:)];refine wpAny_bind (wpAny_seqItems (ho' _ _ q1) q3 (wpAny_pure ?_));show wpAny _ A.in1 (holding [ku,kv.2] (dictSet D ku kv.2)) _ _ _;unfold dictSet;refine wpAny_holding (wpAny_holding (wpAny_bind ((qx prog w).pyHash (k:=kv.1) h3 ?_)))
  have hmx:(merged [] (ps.take i)).length<=sizeLine:=by
   have e1:=merged_length_le ([]:List (Key×Value)) (ps.take i);have e2:(ps.take i).length<=ps.length:=by rw [List.length_take];omega
   simp only [List.length_nil] at e1;omega
  refine wpAny_dictSetHashed_pairs (s:={ s with heap:=h',toks:=s.toks+1 }) (hsz:=hmx) h3 dd' fun h'' dd'' sb'=>?_;refine wpAny_pure ⟨plainId_quiet yx _,ih (i+1) _ _ (1:) hlt (fun b o e=>(sb'.2 b (old e).1).trans (ho' b o e)) ?_ ?_ hR⟩
  ·obtain ⟨o,z,r⟩:=it';exact ⟨o,(sb'.2 I (Ne.symm hne)).trans z,r⟩
  ·rw [merged_take_succ [] ps i kv hkv];exact dd''
theorem ZB {l:Addr} {ol:Obj} {items:Array Value} {n:Nat} {ps:List (Key×Value)} {Q:PQ} (hh:A.handled=none) (hx:s.heap.get? l=some ol) (hc:ol.cls=.type "list") (hdat:ol.data=.seq items n) (hd:ol.dict=none) (hps:qev prog w s.heap items ps) (hz:ps.length<=sizeLine)
  (h:∀ h' tk,(∀ b o,s.heap.get? b=some o->h'.get? b=some o)->h'.DictOf (qx prog w) s.heap.objs.size (merged [] ps)->Q (.ref s.heap.objs.size) { s with heap:=h',toks:=tk }) :
  wpAny (model prog w) A (call (.type "dict") [.ref l]) Q E s:=by
 refine callType_codes (Q₁:=fun obj s₁=>obj=.ref s.heap.objs.size/\s₁={ s with heap:=s.heap.push { cls:=.type "dict",data:=.dict #[] } }) PySem.F.kt_called_dict (PySem.F.kt_typeCall_dict_1 _) PySem.F.entry_dict_init (kt_code_dict_new _ ⟨rfl,rfl⟩) ?_;rintro obj s₁ ⟨rfl,rfl⟩;have hnew:(s.heap.push { cls:=.type "dict",data:=.dict #[] }).DictOf (qx prog w) s.heap.objs.size []:=Heap.DictOf.new s.heap;have hx':(s.heap.push { cls:=.type "dict",data:=.dict #[] }).get? l=some ol:=Heap.get?_push_of_some _ hx;have hT:Shared.TypeIs { s with heap:=s.heap.push { cls:=.type "dict",data:=.dict #[] } } (.ref l) "list":=⟨ol,hx',hc⟩;refine ⟨hnew.typeIs,PySem.F.args_dict_init_2 _ _,?_⟩;unfold Builtin.«dict.__init__»;refine wpAny_bind ?_;unfold Builtin.Dict.selfAndRest;refine wpAny_bind (wpAny_notOrdered_dict hnew.typeIs ?_);show wpAny _ _ (pure (s.heap.objs.size,[Value.ref l])) _ _ _;refine wpAny_pure ?_;show wpAny _ _ (Builtin.Dict.updateFrom "dict.__init__" s.heap.objs.size (.ref l) [] .none) _ _ _;unfold Builtin.Dict.updateFrom;refine wpAny_bind (wpAny_typeOf hT ?_);rw [if_pos (2:)];refine wpAny_bind (qgG hx' hc hdat hd (by simpa using hh) fun h1 tk1 k1=>?_);rw [if_pos (by rfl)];refine wpAny_bind (wpAny_rule ?_);have hl1:h1.IsList l items:=⟨ol,k1 _ _ hx',hc,n,hdat⟩;refine wpAny_bind (wpAny_pyIter_list hl1 ?_);have k0:∀ b o,s.heap.get? b=some o->(h1.push { cls:=.type "list_iterator",data:=.fields #[.ref l,.int 0 0] }).get? b=some o:=fun b o e=>Heap.get?_push_of_some _ (k1 b o (Heap.get?_push_of_some _ e));obtain ⟨od,es,ep,hod,rd⟩:=hnew;have hlt:s.heap.objs.size < h1.objs.size:=Heap.lt_size (k1 _ _ hod);have hDI:s.heap.objs.size≠h1.objs.size:=Nat.ne_of_lt hlt;refine wpAny_pure ⟨plainId_quiet yx _,?_⟩;refine qgH (h0:=s.heap) (l:=l) (items:=items) (ps:=ps) (Heap.get?_none_of_le (Nat.le_refl _)) (Heap.get?_none_of_le (Nat.le_of_lt hlt)) hDI ⟨ol,hx,hc,n,hdat⟩ hps hz (by simpa using hh) _ 0 _ _ rfl (Nat.zero_le _) k0 ?_ ?_ fun h' tk ko dd=>?_
 ·exact ⟨_,Heap.get?_push_size _ rfl,rfl,rfl⟩
 ·exact ⟨od,es,ep,Heap.get?_push_of_some _ (k1 _ _ hod),rd⟩
 ·exact ⟨rfl,h h' tk ko dd⟩
end
section
variable {X:Cx}
def kvV (kv:Str×Int):Key×V:=(.inr kv.1,.int kv.2)
theorem qdw {P:Program} {w:World} {H:Hp} {h:Heap} (ok:HOk P w H h):∀ {xs:List V} {kvs:List (Str×Int)} {its:List Value},Paired (fun x (kv:Str×Int)=>∃ b,x=V.ref b/\H b=some (.tup [.str kv.1,.int kv.2])) xs kvs->qD xs its->
  ∃ ps:List (Key×Value),KV (kvs.map kvV) ps/\Paired (fun u (kv:Key×Value)=>∃ b ku,u=Value.ref b/\h.IsTuple b #[ku,kv.2]/\(qx P w).is kv.1 ku=true) its ps
 | _,_,_,.nil,.nil=>⟨[],.nil,.nil⟩
 | _,_,_,.cons (b:=kv) hx hr,.cons rx rr=>by obtain ⟨ps,h1,h2⟩:=qdw ok hr rr;obtain ⟨b,rfl,hb⟩:=hx;obtain ⟨_,its,rv,tp⟩:=(show qK P w H h b (.tup [.str kv.1,.int kv.2]) from ok b _ hb);obtain ⟨u,v,rfl,ru,rv⟩:=Yd rv;exact ⟨(.inr kv.1,v)::ps,.cons ⟨rfl,rv⟩ h1,.cons ⟨b,u,rx,tp,qes (k:=.inr kv.1) ru⟩ h2⟩
theorem Paired.ix {α β:Type} {R:α->β->Prop}:∀ {l:List α} {m:List β} {i:Nat} {b:β},Paired R l m->m[i]?=some b->∃ a,l[i]?=some a/\R a b
 | _,_,_,_,.nil,e=>by simp at e
 | _,_,0,_,.cons h t,e=>by simp at e;subst e;exact ⟨_,rfl,h⟩
 | _,_,i+1,_,.cons h t,e=>by obtain ⟨a,e1,e2⟩:=Paired.ix (i:=i) t (by simpa using e);exact ⟨a,by simpa using e1,e2⟩
theorem ZC (hc:X.calm=true):qY X (.type "dict") (fun vs H Q=>∃ (p:Addr) (xs:List V) (kvs:List (Str×Int)),vs=[.ref p]/\SqL X.K H p xs/\Paired (fun x (kv:Str×Int)=>∃ b,x=V.ref b/\H b=some (.tup [.str kv.1,.int kv.2])) xs kvs/\(kvs.map (·.1)).Nodup/\∀ q,H q=none->Q (.ref q) (upd H q (.dK (kvs.map kvV)))):=by
 intro pins s σ H xs us Q I r h;obtain ⟨p,xs,kvs,rfl,hq,hp,nd,q⟩:=h;obtain ⟨u,rfl,rx⟩:=jM r;cases rx;obtain ⟨its,rv,⟨ol,n,g1,g2,g3,g4⟩,hz⟩:=I.list hq;obtain ⟨ps,h1,h2⟩:=qdw I.hok hp rv;have e1:=h1.length;have e2:=h2.length;have e3:=rv.length;rw [List.length_map] at e1
 have hps:qev X.prog X.w s.heap its.toArray ps:=⟨by simpa using e2,fun i kv e=>by obtain ⟨u,z1,b,ku,z2,z3,z4⟩:=Paired.ix h2 e;exact ⟨b,ku,by rw [<-z2];simpa using z1,z3,z4⟩⟩
 refine ZB (I.ok.hd hc) g1 g2 g4 g3 hps (1:) fun h' tk ko dd=>?_
 have nk:(ps.map (·.1)).Nodup:=by
  rw [<-h1.keys,List.map_map]
  have:((fun x:Key×V=>x.1) ∘ kvV)=(Sum.inr:Str->Key) ∘ (fun kv:Str×Int=>kv.1):=rfl
  rw [this,<-List.map_map];exact nd.map (f:=(Sum.inr:Str->Key)) (fun a b=>by simp)
 rw [merged_nil_of_nodup ps nk] at dd;refine ⟨.ref _,_,I.laid (a:=s.heap.objs.size) (o:=.dK (kvs.map kvV)) (t':=tk) ko (Nat.le_refl _) (qgy (by rw [List.length_map];omega) (beq_eq_false_iff_ne.mpr (Ne.symm (Nat.ne_of_lt I.big))) h1 dd),rfl,q _ (I.hok.fresh (Nat.le_refl _))⟩
end
end L2
namespace L2
open PySem PySem.Spec PyProof.Rows
section
variable {X:Cx}
theorem qaK:qY X (.type "range") (fun vs H Q=>∃ j:Int,vs=[.int j]/\∀ q,H q=none->Q (.ref q) (upd H q (.rng 0 j))):=by intro pins s σ H xs us Q I r h;obtain ⟨j,rfl,q⟩:=h;obtain ⟨u,rfl,t,rfl⟩:=jM r;exact call_range_1 ⟨.ref _,_,I.laid (a:=s.heap.objs.size) (o:=.rng 0 j) (t':=_) (fun _ _ e=>Heap.get?_push_of_some _ e) (Nat.le_refl _) ⟨_,_,_,Heap.get?_push_size _ rfl⟩,rfl,q _ (I.hok.fresh (Nat.le_refl _))⟩
theorem qaL:qY X (.type "range") (fun vs H Q=>∃ i j:Int,vs=[.int i,.int j]/\∀ q,H q=none->Q (.ref q) (upd H q (.rng i j))):=by intro pins s σ H xs us Q I r h;obtain ⟨i,j,rfl,q⟩:=h;obtain ⟨u,v,rfl,⟨t,rfl⟩,⟨t',rfl⟩⟩:=Yd r;exact call_range_2 ⟨.ref _,_,I.laid (a:=s.heap.objs.size) (o:=.rng i j) (t':=_) (fun _ _ e=>Heap.get?_push_of_some _ e) (Nat.le_refl _) ⟨_,_,_,Heap.get?_push_size _ rfl⟩,rfl,q _ (I.hok.fresh (Nat.le_refl _))⟩
def rgV (i:Int) (n:Nat):List V:=(List.range n).map fun k:Nat=>V.int (i+k)
theorem ZD (hc:X.calm=true):qY X (.type "list") (fun vs H Q=>∃ (p:Addr) (i j:Int),vs=[.ref p]/\H p=some (.rng i j)/\(-(2 ^ 62)<=i/\i < 2 ^ 62/\-(2 ^ 62)<=j/\j < 2 ^ 62)/\(j - i).toNat<=10000/\∀ l,H l=none->Q (.ref l) (upd H l (.lst (rgV i (j - i).toNat)))):=by
 intro pins s σ H xs us Q I r h;obtain ⟨p,i,j,rfl,hp,⟨b1,b2,b3,b4⟩,hn,q⟩:=h;obtain ⟨u,rfl,rx⟩:=jM r;cases rx;obtain ⟨t,u,v,ho⟩:=(show qK X.prog X.w H s.heap p (.rng i j) from I.hok p _ hp);refine call_list_range (n:=(j - i).toNat) (I.ok.hd hc) ho (small_one b1 b2 b3 b4) (by rw [rangeSize_one];split<;>omega) (Nat.le_trans hn (2:)) fun h' tk acc' c' ko hl it=>?_;have hz:10000<=sizeLine:=by decide+kernel
 refine ⟨.ref _,_,I.laid (a:=s.heap.objs.size) (o:=.lst (rgV i (j - i).toNat)) (t':=tk) ko (Nat.le_refl _) ⟨by unfold rgV;rw [List.length_map,List.length_range];omega,acc'.toList,c',?_,by simpa using hl⟩,rfl,q _ (I.hok.fresh (Nat.le_refl _))⟩
 have key:∀ (n:Nat) (l:List Value) (k:Nat),l.length=n->(∀ (m:Nat) (v:Value),l[m]?=some v->∃ t,v=.int (i+((k+m:Nat):Int)) t)->qD ((List.range' k n).map fun k:Nat=>V.int (i+k)) l:=by
  intro n
  induction n with
  | zero=>intro l k h _;rw [List.length_eq_zero_iff.mp h];exact .nil
  | succ n ih=>
   intro l k h hv
   cases l with
   | nil=>cases h
   | cons x l=>rw [List.range'_succ,List.map_cons];refine .cons (by obtain ⟨t,e⟩:=hv 0 x rfl;exact ⟨t,by rw [e];rfl⟩) (ih l (k+1) (by simpa using h) fun m v e=>?_);obtain ⟨t,e'⟩:=hv (m+1) v (by simpa using e);exact ⟨t,by rw [e',show k+1+m=k+(m+1) by omega]⟩
 unfold rgV;rw [List.range_eq_range'];refine key _ _ 0 (by simpa using it.1) fun m v e=>?_;obtain ⟨t,e'⟩:=it.2 m v (by simpa using e);exact ⟨t,by rw [e',Nat.zero_add,Int.mul_one]⟩
theorem qi9 {prog:Program} {w:World} {A:Around} {E:PQ} {s:Shared} {p:Addr} {lo hi i:Int} {t u v x:Tok} {Q:PQ} (ho:s.heap.get? p=some { cls:=.type "range",data:=.fields #[.int lo t,.int hi u,.int 1 v] }) (h:Q (.bool (decide (lo<=i/\i < hi))) s) :
  wpAny (model prog w) A (call (.builtin "range.__contains__") [.ref p,.int i x]) Q E s:=by
 have hT:s.TypeIs (.ref p) "range":=⟨_,ho,rfl⟩;refine wpAny_call_entry PySem.F.slot_range_contains hT PySem.F.entry_range_contains ?_ (PySem.F.args_range_contains_2 _ _);unfold Builtin.«range.__contains__»
 have e:(Builtin.Range.rangePlace? lo hi 1 i).isSome=decide (lo<=i/\i < hi):=by
  unfold Builtin.Range.rangePlace?;simp
  split<;>simp_all
 obtain ⟨hp,g,d,tk,os⟩:=s;unfold Builtin.Range.rangeFields
 repeat (any_goals (first | assumption | wp_step))
 exact ⟨_,rfl,by rw [e];exact h⟩
theorem qaM:OpR X (compareOp .NotIn) (fun x y H Q=>∃ (i lo hi:Int) (p:Addr),x=.int i/\y=.ref p/\H p=some (.rng lo hi)/\Q (.bl (!decide (lo<=i/\i < hi))) H):=by intro pins s σ H x y v u Q I rx ry h;obtain ⟨i,lo,hi,p,rfl,rfl,hp,q⟩:=h;obtain ⟨t,rfl⟩:=rx;cases ry;obtain ⟨t1,t2,t3,ho⟩:=(show qK X.prog X.w H s.heap p (.rng lo hi) from I.hok p _ hp);exact NotIn_slot ⟨_,ho,rfl⟩ PySem.F.slot_range_contains (qi9 ho (wpAny_truthy_bool ⟨.bl _,H,I,rfl,q⟩))
end
end L2
namespace TS
open PySem PyProof.Rows
section
variable {M:Model} {A:Around} {E:PQ} {s:Shared} {O:KeyOrd} {kf:Keyed->O.α} {κ:SortKind} {G:Keyed->Prop} {a0:Array Keyed}
noncomputable def Few (O:KeyOrd) (kf:Keyed->O.α) (a0:Array Keyed) (st:SortSt):Prop:=(arrOf st).Perm a0/\failedOf st=none/\pendingOf st=#[(0,a0.size,0)]/\Srt O kf (arrOf st) 0 a0.size
theorem qaN (L:qcb M A E s O kf κ G) (h2:2<=a0.size) (h64:a0.size < 64) (h0:∀ x∈a0.toList,G x) {st:SortSt} {Q:Unit->SortSt->Prop} (hk:kindOf st=κ) (hf:failedOf st=none) (ha:arrOf st=a0) (hp:pendingOf st=#[])
  (h:∀ st',(arrOf st').Perm a0->failedOf st'=none->Srt O kf (arrOf st') 0 a0.size->Q () st'):wpS M A E s sortRuns' Q st:=by
 rw [sortRuns'_eq];refine wpS_bind (wpS_get ?_);dsimp only
 have hmr:minRun' a0.size a0.size 0=a0.size:=by
  obtain ⟨f,hf⟩:∃ f,a0.size=f+1:=⟨a0.size - 1,by omega⟩
  have:minRun' (f+1) a0.size 0=a0.size:=by rw [minRun'_succ,if_pos h64];rfl
  rwa [<-hf] at this
 simp only [ha,hmr];have done:∀ st',kindOf st'=κ->failedOf st'=none->pendingOf st'=#[]->(arrOf st').Perm a0->Srt O kf (arrOf st') 0 a0.size->Few O kf a0 (setPending st' ((pendingOf st').push (0,a0.size,0))):=fun st' _ b c d e=>⟨d,b,by show (pendingOf st').push _=_;rw [c];rfl,e⟩
 refine wpS_bind (wpS_mono (wpS_forRange
  (I:=fun x c st'=>(x=0/\c=(none,0)/\st'=st)\/(1<=x/\c=(none,a0.size)/\Few O kf a0 st'))
  (Q:=fun c st'=>c=(none,a0.size)/\Few O kf a0 st') ?step ?fin (.inl ⟨rfl,rfl,rfl⟩)) ?post)
 case fin=>
  rintro c st' (⟨hx,_,_⟩ | ⟨_,hc,hD⟩)
  ·omega
  ·exact ⟨hc,hD⟩
 case step=>
  rintro x c st' _ hx (⟨rfl,rfl,rfl⟩ | ⟨hx1,rfl,hD⟩)
  ·dsimp only;rw [if_neg (1:)];simp only [Nat.sub_zero,Nat.min_self,Nat.zero_add];refine wpS_bind (qi6 L hk (by rw [ha];exact h0) (by rw [ha];omega) (1:) fun m xs r m1 m2 im=>?_);dsimp only;rw [ha] at r;rw [Nat.zero_add] at im
   by_cases hlt:m < a0.size
   ·rw [if_pos hlt];refine wpS_bind (wpS_lift (wpAny_rule ⟨rfl,?_⟩));refine wpS_bind (qgp L (st:=setArr st' xs) hk (r.mem h0) (by show 0+a0.size<=xs.size;rw [r.size];omega) (1:) (by rw [Nat.zero_add];exact im) fun ys r2 im2=>?_);simp only [Bool.not_true,Bool.false_eq_true,if_false];refine wpS_bind (wpS_get ?_);have hb:(pendingOf (setArr (setArr st' xs) ys)).back?=none:=by rw [show pendingOf (setArr (setArr st' xs) ys)=pendingOf st' from rfl,hp];rfl
    rw [hb];dsimp only;rw [Nat.zero_add] at im2;exact wpS_bind (wpS_modify (wpS_pure (.inr ⟨by omega,rfl,done _ hk hf hp (r2.perm.trans r.perm) im2.srt⟩)))
   ·rw [if_neg hlt];have hm:m=a0.size:=by omega
    subst hm;refine wpS_bind (wpS_get ?_);have hb:(pendingOf (setArr st' xs)).back?=none:=by rw [show pendingOf (setArr st' xs)=pendingOf st' from rfl,hp];rfl
    rw [hb];dsimp only;exact wpS_bind (wpS_modify (wpS_pure (.inr ⟨by omega,rfl,done _ hk hf hp r.perm im.srt⟩)))
  ·dsimp only;rw [if_pos (Nat.le_refl _)];exact wpS_pure ⟨rfl,hD⟩
 case post=>
  rintro c st' ⟨rfl,hD⟩;dsimp only;refine wpS_bind (wpS_mono (wpS_forRange (I:=fun _ c st''=>st''=st'/\c=(none,())) (Q:=fun c st''=>st''=st'/\c=(none,())) ?_ (fun _ _ hh=>hh) ⟨rfl,rfl⟩) ?_)
  ·rintro x c st'' _ _ ⟨rfl,rfl⟩;refine wpS_bind (wpS_get ?_);rw [if_pos (by rw [hD.2.2.1];exact Nat.le_refl 1)];exact wpS_pure ⟨rfl,rfl⟩
  ·rintro c st'' ⟨rfl,rfl⟩;exact wpS_pure (h _ hD.1 hD.2.1 hD.2.2.2)
end
section
variable {prog:Program} {w:World} {A:Around} {E:PQ} {s:Shared} {O:KeyOrd} {kf:Keyed->O.α} {κ:SortKind}
theorem qaO {s0:Shared} {a:Addr} {vs:List Value} {n:Nat} {P:PySem.Fin->Shared->Prop} (S:Sorts prog w s0 vs O kf κ) (ho:s.heap.get? a=some (seqObj "list" vs.toArray n)) (hsz:vs.length<=sizeLine) (h64:vs.length < 64)
  (hg:∀ b o,s0.heap.get? b=some o->s.heap.get? b=some o/\b≠a)
  (h:∀ st':SortSt,(arrOf st').Perm (pairsOf vs)->Srt O kf (arrOf st') 0 (pairsOf vs).size->P (.done (.ret .none)) { s with heap:=sortedHeap s.heap a vs ((arrOf st').map (·.2)) }) :
  wpAny (model prog w) A (Builtin.«list.sort» ⟨[.ref a],[]⟩) P E s:=by
 rw [list_sort_plain];have ha:a < s.heap.objs.size:=Heap.lt_size ho;have hv:vs.toArray.size=vs.length:=by simp
 refine wpAny_bind (listItems_at ho rfl (wpAny_bind (listUpdate_at ho rfl ?_ (by rw [hv];exact hsz) (Nat.zero_le _))));obtain ⟨n1,ho1⟩:∃ n1,(s.heap.update a (Obj.mapSeq fun _=>#[])).get? a=some (seqObj "list" #[] n1):=⟨_,get?_update_seq ho (fun _=>#[])⟩;refine wpAny_bind (seqEpoch_at ho1 rfl (wpAny_bind (wpAny_newTuple ?_ (by simpa using hsz))));refine wpAny_bind (wpAny_newList (wpAny_holding ?_) (Nat.zero_le _));generalize hh:(((s.heap.update a (Obj.mapSeq fun _=>#[])).push (seqObj "tuple" vs.toArray 0)).push (seqObj "list" #[] 0))=h6
 have ho6:h6.get? a=some (seqObj "list" #[] n1):=by rw [<-hh];exact Heap.get?_push_of_some _ (Heap.get?_push_of_some _ ho1)
 have grown:qaw s0 { s with heap:=h6 }:=fun b o e=>by obtain ⟨e1,ne⟩:=hg b o e;show h6.get? b=some o;rw [<-hh];exact Heap.get?_push_of_some _ (Heap.get?_push_of_some _ (by rw [Heap.get?_update_ne _ _ _ _ ne];exact e1))
 have fin:∀ st':SortSt,(arrOf st').Perm (pairsOf vs)->Srt O kf (arrOf st') 0 (pairsOf vs).size->P (.done (.ret .none)) { s with heap:=h6.update a (Obj.mapSeq fun _=>(arrOf st').map (·.2)) }:=fun st' a1 a2=>by
  have:=h st' a1 a2
  unfold sortedHeap at this;rw [hh] at this;exact this
 have small:∀ st':SortSt,(arrOf st').Perm (pairsOf vs)->((arrOf st').map (·.2)).size<=sizeLine+1:=fun st' hp=>by rw [Array.size_map,hp.size_eq,pairsOf_size];omega
 show wpAny (model prog w) A _ P E { s with heap:=h6 };dsimp only
 by_cases h2:vs.toArray.size < 2
 ·rw [if_pos h2,if_pos h2];refine wpAny_bind (wpAny_pure ?_);rw [StateT.run_pure];refine wpAny_bind (wpAny_pure ?_);dsimp only;refine wpAny_bind (seqEpoch_at ho6 rfl ?_);refine wpAny_bind (listUpdate_at ho6 rfl ?_ (Nat.zero_le _) (small (SortSt.mk' general' (vs.toArray.zip vs.toArray) #[] 7 none) (Array.Perm.refl _)));simp only [bne_self_eq_false,Bool.false_eq_true,if_false];refine wpAny_pure (fin (SortSt.mk' general' (vs.toArray.zip vs.toArray) #[] 7 none) (Array.Perm.refl _) ?_);intro i j x y _ b c d e
  have:i=j:=by rw [pairsOf_size] at c;omega
  subst this;rw [d] at e;cases e;exact KeyOrd.kle_refl _
 ·rw [if_neg h2,if_neg h2];refine wpAny_bind (S.kind (1:) A E _ _ grown ?_)
  refine wpAny_bind (wpAny_mono (qaN (S.lt A E _ grown) (a0:=pairsOf vs) (by rw [pairsOf_size];omega) (by rw [pairsOf_size];exact h64) (st:=SortSt.mk' κ (vs.toArray.zip vs.toArray) #[] 7 none) (fun x hx=>hx) rfl rfl rfl rfl
   (Q:=fun _ st'=>(arrOf st').Perm (pairsOf vs)/\failedOf st'=none/\Srt O kf (arrOf st') 0 (pairsOf vs).size) fun st' a1 a2 a3=>⟨a1,a2,a3⟩) ?_ fun _ _ e=>e)
  rintro ⟨⟨⟩,st'⟩ s' ⟨rfl,hp,hf,hs⟩;dsimp only;refine wpAny_bind (seqEpoch_at ho6 rfl (wpAny_bind (listUpdate_at ho6 rfl ?_ (Nat.zero_le _) (small st' hp))));rw [hf];simp only [bne_self_eq_false,Bool.false_eq_true,if_false];exact wpAny_pure (fin st' hp hs)
theorem Yy {l:Addr} {vs:List Value} {Q:PQ} (S:Sorts prog w s vs O kf κ) (hl:s.heap.IsList l vs.toArray) (hsz:vs.length<=sizeLine) (h64:vs.length < 64)
  (h:∀ st':SortSt,(arrOf st').Perm (pairsOf vs)->Srt O kf (arrOf st') 0 (pairsOf vs).size->Q (.ref (s.heap.objs.size+1)) { s with heap:=sortedAll s.heap vs ((arrOf st').map (·.2)) }) :
  wpAny (model prog w) A (call (.builtin "sorted") [.ref l]) Q E s:=by
 refine Calls.call_function_entry kind_sorted plain_sorted entry_sorted (args_sorted1 _) ?_;unfold Builtin.«sorted»;refine wpAny_bind (m:=checkCount "sorted" 1 1 _) (wpAny_pure (wpAny_bind (collect_list hl ?_ hsz)));refine wpAny_bind (wpAny_newList ?_ hsz);have hz:((s.heap.push (seqObj "list" #[] 0)).update s.heap.objs.size (Obj.mapSeq (· ++ vs.toArray))).objs.size=s.heap.objs.size+1:=by rw [Heap.size_update,size_push']
 show wpAny _ _ _ _ _ { s with heap:=((s.heap.push (seqObj "list" #[] 0)).update s.heap.objs.size (Obj.mapSeq (· ++ vs.toArray))).push (seqObj "list" vs.toArray 0) };rw [hz];generalize hh:((s.heap.push (seqObj "list" #[] 0)).update s.heap.objs.size (Obj.mapSeq (· ++ vs.toArray))).push (seqObj "list" vs.toArray 0)=h6
 have hoL:h6.get? (s.heap.objs.size+1)=some (seqObj "list" vs.toArray 0):=by rw [<-hh,<-hz];exact Heap.get?_push_size _ rfl
 have old:∀ b o,s.heap.get? b=some o->h6.get? b=some o/\b≠s.heap.objs.size+1:=fun b o e=>by have hlt:b < s.heap.objs.size:=Heap.lt_size e;refine ⟨?_,Nat.ne_of_lt (Nat.lt_succ_of_lt hlt)⟩;rw [<-hh];refine Heap.get?_push_of_some _ ?_;rw [Heap.get?_update_ne _ _ _ _ (Nat.ne_of_lt hlt)];exact Heap.get?_push_of_some _ e
 have hr:∀ st':SortSt,(arrOf st').Perm (pairsOf vs)->Srt O kf (arrOf st') 0 (pairsOf vs).size->Q (.ref (s.heap.objs.size+1)) { s with heap:=sortedHeap h6 (s.heap.objs.size+1) vs ((arrOf st').map (·.2)) }:=fun st' a1 a2=>by
  have:=h st' a1 a2
  unfold sortedAll at this;rw [hh] at this;exact this
 refine wpAny_bind (wpAny_holding (wpAny_call_entry slot_list_sort ⟨_,hoL,rfl⟩ entry_list_sort (qaO S hoL hsz h64 old fun st' a1 a2=>⟨_,rfl,?_⟩) (args_list_sort _)));exact wpAny_pure ⟨_,rfl,hr st' a1 a2⟩
end
end TS
namespace L2
open PySem PySem.Spec PyProof.Rows
section
variable {X:Cx}
theorem JK:qY X (.builtin "sorted") (fun vs H Q=>∃ p xs ps,vs=[.ref p]/\SqL X.K H p xs/\xs.length < 64/\Paired (P2 X.K H) xs ps/\
  ∀ l ys qs,H l=none->Paired (P2 X.K H) ys qs->ys.Perm xs->qs.Perm ps->qs.Pairwise qaz->Q (.ref l) (upd H l (.lst ys))):=by
 intro pins s σ H xs us Q I r h;obtain ⟨p,xs,ps,rfl,hq,h64,hp,q⟩:=h;obtain ⟨u,rfl,rx⟩:=jM r;cases rx;obtain ⟨its,rv,pl,hz⟩:=I.list hq;have hlen:=rv.length
 have three:∀ {xs:List V} {its:List Value} {ps:List (Int×Int)},qD xs its->Paired (P2 X.K H) xs ps->Paired (fun (z:V×(Int×Int)) u=>qJ z.1 u/\P2 X.K H z.1 z.2/\TS.QR s.heap u z.2) (xs.zip ps) its/\Paired (TS.QR s.heap) its ps/\xs.length=ps.length:=by
  intro xs its ps a b
  induction a generalizing ps with
  | nil=>cases b;exact ⟨.nil,.nil,rfl⟩
  | cons r rs ih=>
   cases b with
   | cons b bs=>obtain ⟨i1,i2,i3⟩:=ih bs;have t:=P2.raw I b r;exact ⟨.cons ⟨r,b,t⟩ i1,.cons t i2,by simp [i3]⟩
 obtain ⟨t1,t2,t3⟩:=three rv hp;refine TS.Yy (TS.qay t2) pl.isList (1:) (1:) fun st' pm sr=>?_
 have hl:(arrOf st').toList.Perm (its.zip its):=by
  have:=Array.perm_iff_toList_perm.mp pm
  rwa [pairsOf_toList] at this
 have hout:((arrOf st').map (·.2)).toList.Perm its:=by
  rw [Array.toList_map]
  have:=hl.map (·.2)
  rwa [List.map_snd_zip (Nat.le_refl _)] at this
 obtain ⟨zs,z1,z2⟩:=TS.Paired.perm hout t1
 have hys:(zs.map (·.1)).Perm xs:=by
  have:=z1.map (·.1)
  rwa [List.map_fst_zip (1:)] at this
 have hqs:(zs.map (·.2)).Perm ps:=by
  have:=z1.map (·.2)
  rwa [List.map_snd_zip (1:)] at this
 have hv:qD (zs.map (·.1)) ((arrOf st').map (·.2)).toList:=by
  clear z1 hys hqs;generalize ((arrOf st').map (·.2)).toList=ol at z2
  induction z2 with
  | nil=>exact .nil
  | cons r _ ih=>exact .cons r.1 ih
 have hP:Paired (P2 X.K H) (zs.map (·.1)) (zs.map (·.2)):=by
  clear z1 hys hqs hv;generalize ((arrOf st').map (·.2)).toList=ol at z2
  induction z2 with
  | nil=>exact .nil
  | cons r _ ih=>exact .cons r.2.1 ih
 have hkeys:((arrOf st').map (·.2)).toList.map (TS.jr s.heap)=zs.map (·.2):=by
  clear z1 hys hqs hv hP;generalize ((arrOf st').map (·.2)).toList=ol at z2
  induction z2 with
  | nil=>rfl
  | cons r _ ih=>rw [List.map_cons,List.map_cons,ih,r.2.2.pair]
 have hsrt:(zs.map (·.2)).Pairwise qaz:=by
  rw [<-hkeys,Array.toList_map,List.map_map];have h0:(arrOf st').size=(pairsOf its).size:=pm.size_eq;rw [<-h0] at sr
  have:=sr.pw
  refine List.pairwise_map.mpr ?_;refine List.Pairwise.imp_of_mem (fun {a b} ha hb hab=>?_) this;have ea:=(mem_zip_self (hl.mem_iff.mp ha)).1;have eb:=(mem_zip_self (hl.mem_iff.mp hb)).1;have hab:TS.pO.blt (TS.jr s.heap b.1) (TS.jr s.heap a.1)=false:=hab;rw [ea,eb] at hab;unfold TS.pO at hab;simp at hab;show qaz (TS.jr s.heap a.2) (TS.jr s.heap b.2);unfold qaz;omega
 obtain ⟨e,he⟩:=sortedAll_at s.heap its ((arrOf st').map (·.2));have hz2:(zs.map (·.1)).length<=sizeLine:=by rw [hys.length_eq];exact hz
 refine ⟨.ref (s.heap.objs.size+1),_,I.laid (t':=s.toks) (fun b o eb=>sortedAll_old eb) (Nat.le_succ _) (show qK X.prog X.w _ _ _ (.lst (zs.map (·.1))) from ⟨hz2,_,e,hv,?_⟩),rfl,q _ _ _ (I.hok.fresh (Nat.le_succ _)) hP hys hqs hsrt⟩;rw [Array.toArray_toList];exact he
end
end L2
namespace DE
open PySem L2
inductive D where
 | non | bl (b:Bool) | int (n:Int) | str (s:Str) | lst (l:List D) | tup (l:List D) | ins (c:Str) (ns:List Str) (l:List D)
 deriving Inhabited
abbrev KC:=Str->Option Addr
mutual
noncomputable def Rep (κ:KC) (G:Hp):D->V->Prop
 | .non,v=>v=.non
 | .bl b,v=>v=.bl b
 | .int n,v=>v=.int n
 | .str s,v=>v=.str s
 | .lst ds,v=>∃ a xs,v=.ref a/\G a=some (.lst xs)/\qq κ G ds xs
 | .tup ds,v=>∃ a xs,v=.ref a/\G a=some (.tup xs)/\qq κ G ds xs
 | .ins c ns ds,v=>∃ p dx C xs,κ c=some C/\v=.ref p/\G p=some (.ins C dx (ns.zip xs))/\xs.length=ns.length/\qq κ G ds xs
noncomputable def qq (κ:KC) (G:Hp):List D->List V->Prop
 | [],xs=>xs=[]
 | d::ds,xs=>∃ x r,xs=x::r/\Rep κ G d x/\qq κ G ds r
end
mutual
theorem Rep.same {κ:KC} {G G':Hp} (e:qv G G'):∀ {d:D} {v:V},Rep κ G d v->Rep κ G' d v
 | .non,v,h=>by simp only [Rep] at h ⊢;exact h
 | .bl b,v,h=>by simp only [Rep] at h ⊢;exact h
 | .int i,v,h=>by simp only [Rep] at h ⊢;exact h
 | .str x,v,h=>by simp only [Rep] at h ⊢;exact h
 | .lst ds,v,h=>by simp only [Rep] at h ⊢;obtain ⟨a,xs,rfl,h1,h2⟩:=h;exact ⟨a,xs,rfl,e _ _ h1,qq.same e h2⟩
 | .tup ds,v,h=>by simp only [Rep] at h ⊢;obtain ⟨a,xs,rfl,h1,h2⟩:=h;exact ⟨a,xs,rfl,e _ _ h1,qq.same e h2⟩
 | .ins c ns ds,v,h=>by simp only [Rep] at h ⊢;obtain ⟨p,dx,C,xs,hc,rfl,h1,hl,h2⟩:=h;exact ⟨p,dx,C,xs,hc,rfl,e _ _ h1,hl,qq.same e h2⟩
theorem qq.same {κ:KC} {G G':Hp} (e:qv G G'):∀ {ds:List D} {vs:List V},qq κ G ds vs->qq κ G' ds vs
 | [],vs,h=>by simp only [qq] at h ⊢;exact h
 | d::ds,vs,h=>by simp only [qq] at h ⊢;obtain ⟨x,r,rfl,h1,h2⟩:=h;exact ⟨x,r,rfl,Rep.same e h1,qq.same e h2⟩
end
section
variable {κ:KC} {G G':Hp}
theorem qq.nil:qq κ G [] []:=by simp only [qq]
theorem qq.cons {d:D} {ds:List D} {v:V} {vs:List V} (h:Rep κ G d v) (t:qq κ G ds vs):qq κ G (d::ds) (v::vs):=by simp only [qq];exact ⟨v,vs,rfl,h,t⟩
theorem qq.len:∀ {ds:List D} {vs:List V},qq κ G ds vs->ds.length=vs.length
 | [],vs,h=>by simp only [qq] at h;subst h;rfl
 | d::ds,vs,h=>by simp only [qq] at h;obtain ⟨x,r,rfl,h1,h2⟩:=h;simp [qq.len h2]
theorem qq.app:∀ {ds es:List D} {vs us:List V},qq κ G ds vs->qq κ G es us->qq κ G (ds++es) (vs++us)
 | [],es,vs,us,h,h'=>by simp only [qq] at h;subst h;exact h'
 | d::ds,es,vs,us,h,h'=>by simp only [qq] at h;obtain ⟨x,r,rfl,h1,h2⟩:=h;exact qq.cons h1 (qq.app h2 h')
theorem qq.snoc {ds:List D} {vs:List V} {d:D} {v:V} (h:qq κ G ds vs) (h':Rep κ G d v):qq κ G (ds++[d]) (vs++[v]):=h.app %[h'|0]
theorem qq.drop:∀ (n:Nat) {ds:List D} {vs:List V},qq κ G ds vs->qq κ G (ds.drop n) (vs.drop n)
 | 0,_,_,h=>h
 | n+1,[],vs,h=>by simp only [qq] at h;subst h;exact .nil
 | n+1,d::ds,vs,h=>by simp only [qq] at h;obtain ⟨x,r,rfl,h1,h2⟩:=h;exact qq.drop n h2
theorem qq.take:∀ (n:Nat) {ds:List D} {vs:List V},qq κ G ds vs->qq κ G (ds.take n) (vs.take n)
 | 0,_,_,h=>by simpa using qq.nil
 | n+1,[],vs,h=>by simp only [qq] at h;subst h;exact .nil
 | n+1,d::ds,vs,h=>by simp only [qq] at h;obtain ⟨x,r,rfl,h1,h2⟩:=h;exact qq.cons h1 (qq.take n h2)
theorem qq.atD:∀ {ds:List D} {vs:List V} {i:Nat} {d:D},qq κ G ds vs->ds[i]?=some d->∃ v,vs[i]?=some v/\Rep κ G d v
 | [],vs,i,d,h,e=>by simp at e
 | d::ds,vs,0,d',h,e=>by simp only [qq] at h;obtain ⟨x,r,rfl,h1,h2⟩:=h;simp at e;subst e;exact ⟨x,rfl,h1⟩
 | d::ds,vs,i+1,d',h,e=>by simp only [qq] at h;obtain ⟨x,r,rfl,h1,h2⟩:=h;obtain ⟨v',e1,e2⟩:=qq.atD (i:=i) h2 (by simpa using e);exact ⟨v',by simpa using e1,e2⟩
theorem qq.set:∀ {ds:List D} {vs:List V} (i:Nat) {d:D} {v:V},qq κ G ds vs->Rep κ G d v->qq κ G (ds.set i d) (vs.set i v)
 | [],vs,i,d,v,h,h'=>by simp only [qq] at h;subst h;exact .nil
 | d::ds,vs,0,d',v,h,h'=>by simp only [qq] at h;obtain ⟨x,r,rfl,h1,h2⟩:=h;exact qq.cons h' h2
 | d::ds,vs,i+1,d',v,h,h'=>by simp only [qq] at h;obtain ⟨x,r,rfl,h1,h2⟩:=h;exact qq.cons h1 (qq.set i h2 h')
end
inductive Sl where
 | no | val (d:D) | own (l:List D) | bor (l:List D) | scr (l:List D)
abbrev Env:=List Sl
noncomputable def SlR (κ:KC) (K:Frag) (G H H₀:Hp):Sl->Option (Option V)->Prop
 | .no,_=>True
 | .val d,o=>∃ v,o=some (some v)/\Rep κ G d v
 | .own ds,o=>∃ a xs,o=some (some (.ref a))/\H a=some (.lst xs)/\H₀ a=none/\G a=none/\qq κ G ds xs
 | .bor ds,o=>∃ a xs,o=some (some (.ref a))/\H₀ a=some (.lst xs)/\qq κ G ds xs
 | .scr ds,o=>∃ a xs,o=some (some (.ref a))/\SqL K H₀ a xs/\qq κ G ds xs
noncomputable def ZE (ρ:Env) (σ:St) (a:Addr):Prop:=∃ (i:Nat) (l:List D),ρ[i]?=some (.own l)/\σ[i]?=some (some (.ref a))
structure ER (κ:KC) (K:Frag) (G₀ H₀ G H:Hp) (ρ:Env) (σ:St):Prop where
 len:ρ.length=σ.length
 sub:qv G H
 base:qv H₀ H
 g0:qv G₀ G
 fresh:∀ a o,G a=some o->(∃ o',G₀ a=some o')\/H₀ a=none
 sl:∀ (i:Nat) (s:Sl),ρ[i]?=some s->SlR κ K G H H₀ s σ[i]?
 ap:∀ (i j:Nat) (a:Addr) (l m:List D),ρ[i]?=some (.own l)->ρ[j]?=some (.own m)->σ[i]?=some (some (.ref a))->σ[j]?=some (some (.ref a))->i=j
structure Po (κ:KC) (K:Frag) (G₀ H₀:Hp) (σ:St) (G H:Hp) (ρ:Env) (G' H':Hp) (ρ':Env):Prop where
 er:ER κ K G₀ H₀ G' H' ρ' σ
 hs:qv H H'
 gs:qv G G'
 new:∀ a o,G' a=some o->(∃ o',G a=some o')\/H a=none\/ZE ρ σ a
 fz:∀ (i:Nat) (l:List D),ρ'[i]?=some (.own l)->ρ[i]?=some (.own l)
theorem qv.none {H H':Hp} (e:qv H H') {a:Addr} (h:H' a=none):H a=none:=by
 cases q:H a with
 | none=>rfl
 | some o=>rw [e a o q] at h;cases h
section
variable {κ:KC} {K:Frag} {G₀ H₀ G H G' H' G'' H'':Hp} {ρ ρ' ρ'':Env} {σ:St}
theorem Po.refl (h:ER κ K G₀ H₀ G H ρ σ):Po κ K G₀ H₀ σ G H ρ G H ρ:=⟨h,fun _ _ e=>e,fun _ _ e=>e,fun _ o e=>.inl ⟨o,e⟩,fun _ _ e=>e⟩
theorem Po.trans (a:Po κ K G₀ H₀ σ G H ρ G' H' ρ') (b:Po κ K G₀ H₀ σ G' H' ρ' G'' H'' ρ''):Po κ K G₀ H₀ σ G H ρ G'' H'' ρ'':=
 ⟨b.er,fun c o e=>b.hs c o (a.hs c o e),fun c o e=>b.gs c o (a.gs c o e),fun c o e=>by
  rcases b.new c o e with ⟨o',z⟩ | z | ⟨i,l,z1,z2⟩
  ·exact a.new c o' z
  ·exact .inr (.inl (qv.none a.hs z))
  ·exact .inr (.inr ⟨i,l,a.fz i l z1,z2⟩),fun i l e=>a.fz i l (b.fz i l e)⟩
theorem SlR.grow (hs:qv H H') (gs:qv G G') (nw:∀ a xs,H a=some (.lst xs)->H₀ a=none->G a=none->G' a=none) {s:Sl} {o:Option (Option V)} (h:SlR κ K G H H₀ s o):SlR κ K G' H' H₀ s o:=by
 cases s with
 | no=>trivial
 | val d=>obtain ⟨v,e,r⟩:=h;exact ⟨v,e,r.same gs⟩
 | own ds=>obtain ⟨a,xs,e,h1,h2,h3,h4⟩:=h;exact ⟨a,xs,e,hs _ _ h1,h2,nw a xs h1 h2 h3,h4.same gs⟩
 | bor ds=>obtain ⟨a,xs,e,h1,h4⟩:=h;exact ⟨a,xs,e,h1,h4.same gs⟩
 | scr ds=>obtain ⟨a,xs,e,h1,h4⟩:=h;exact ⟨a,xs,e,h1,h4.same gs⟩
theorem Po.more (h:ER κ K G₀ H₀ G H ρ σ) (hs:qv H H') (gs:qv G G') (sub:qv G' H') (new:∀ a o,G' a=some o->(∃ o',G a=some o')\/H a=none):Po κ K G₀ H₀ σ G H ρ G' H' ρ:=by
 refine ⟨⟨h.len,sub,fun b o e=>hs b o (h.base b o e),fun b o e=>gs b o (h.g0 b o e),fun a o e=>?_,fun i s e=>(h.sl i s e).grow hs gs fun a xs h1 h2 h3=>?_,h.ap⟩,hs,gs,fun a o e=>?_,fun _ _ e=>e⟩
 ·rcases new a o e with ⟨o',z⟩ | z
  ·exact h.fresh a o' z
  ·exact .inr (qv.none h.base z)
 ·cases q:G' a with
  | none=>rfl
  | some o=>
   rcases new a o q with ⟨o',z⟩ | z
   ·rw [h3] at z;cases z
   ·rw [h1] at z;cases z
 ·rcases new a o e with z | z
  ·exact .inl z
  ·exact .inr (.inl z)
theorem Po.room (h:ER κ K G₀ H₀ G H ρ σ) (hs:qv H H'):Po κ K G₀ H₀ σ G H ρ G H' ρ:=
 Po.more h hs (fun _ _ e=>e) (fun b o e=>hs b o (h.sub b o e)) fun _ o e=>.inl ⟨o,e⟩
theorem Po.lay (h:ER κ K G₀ H₀ G H ρ σ) {a:Addr} {o:HO} (ha:H a=none):Po κ K G₀ H₀ σ G H ρ (upd G a o) (upd H a o) ρ:=by
 have ga:G a=none:=qv.none h.sub ha;refine Po.more h (qv.upd ha) (qv.upd ga) (fun b u e=>?_) fun b u e=>?_
 ·by_cases hb:b=a
  ·subst hb;rw [qi] at e ⊢;exact e
  ·rw [qf hb] at e ⊢;exact h.sub b u e
 ·by_cases hb:b=a
  ·subst hb;exact .inr ha
  ·rw [qf hb] at e;exact .inl ⟨u,e⟩
end
inductive Rv where
 | val (d:D) | tmp (l:List D) | cell (l:List D) | scr (l:List D)
noncomputable def RvR (κ:KC) (K:Frag) (H₀ Hb G H:Hp) (ρ:Env) (σ:St):Rv->V->Prop
 | .val d,v=>Rep κ G d v
 | .tmp ds,v=>∃ a xs,v=.ref a/\H a=some (.lst xs)/\Hb a=none/\H₀ a=none/\G a=none/\¬ ZE ρ σ a/\qq κ G ds xs
 | .cell ds,v=>∃ a xs,v=.ref a/\H a=some (.lst xs)/\qq κ G ds xs
 | .scr ds,v=>∃ a xs,v=.ref a/\SqL K H a xs/\qq κ G ds xs
section
variable {κ:KC} {K:Frag} {G₀ H₀ Hb G H G' H':Hp} {ρ ρ':Env} {σ:St}
theorem RvR.keep {r:Rv} {v:V} (h:RvR κ K H₀ Hb G H ρ σ r v) (p:Po κ K G₀ H₀ σ G H ρ G' H' ρ'):RvR κ K H₀ Hb G' H' ρ' σ r v:=by
 cases r with
 | val d=>exact Rep.same p.gs h
 | tmp ds=>
  obtain ⟨a,xs,rfl,h1,h2,h3,h4,h5,h6⟩:=h;refine ⟨a,xs,rfl,p.hs _ _ h1,h2,h3,?_,fun ⟨i,l,z1,z2⟩=>h5 ⟨i,l,p.fz i l z1,z2⟩,h6.same p.gs⟩
  cases q:G' a with
  | none=>rfl
  | some o=>
   rcases p.new a o q with ⟨o',z⟩ | z | z
   ·rw [h4] at z;cases z
   ·rw [h1] at z;cases z
   ·exact absurd z h5
 | cell ds=>obtain ⟨a,xs,rfl,h1,h6⟩:=h;exact ⟨a,xs,rfl,p.hs _ _ h1,h6.same p.gs⟩
 | scr ds=>obtain ⟨a,xs,rfl,h1,h6⟩:=h;exact ⟨a,xs,rfl,p.hs.seq h1,h6.same p.gs⟩
theorem RvR.back {Hc:Hp} {r:Rv} {v:V} (h:RvR κ K H₀ Hc G H ρ σ r v) (e:qv Hb Hc):RvR κ K H₀ Hb G H ρ σ r v:=by
 cases r with
 | val d=>exact h
 | tmp ds=>obtain ⟨a,xs,rfl,h1,h2,h3,h4,h5,h6⟩:=h;exact ⟨a,xs,rfl,h1,qv.none e h2,h3,h4,h5,h6⟩
 | cell ds=>exact h
 | scr ds=>exact h
noncomputable def Rv.list?:Rv->Option (List D)
 | .val (.lst l)=>some l
 | .tmp l=>some l
 | .cell l=>some l
 | .scr l=>some l
 | _=>none
noncomputable def Rv.plain?:Rv->Option (List D)
 | .val (.lst l)=>some l
 | .tmp l=>some l
 | .cell l=>some l
 | _=>none
theorem RvR.plain (er:ER κ K G₀ H₀ G H ρ σ) {r:Rv} {v:V} {l:List D} (h:RvR κ K H₀ Hb G H ρ σ r v) (e:r.plain?=some l):∃ a xs,v=.ref a/\H a=some (.lst xs)/\qq κ G l xs:=by
 cases r with
 | val d=>
  cases d<;>simp only [Rv.plain?] at e<;>try (cases e)
  simp only [RvR,Rep] at h;obtain ⟨a,xs,rfl,h1,h2⟩:=h;exact ⟨a,xs,rfl,er.sub _ _ h1,h2⟩
 | tmp ds=>simp only [Rv.plain?] at e;cases e;obtain ⟨a,xs,rfl,h1,_,_,_,_,h6⟩:=h;exact ⟨a,xs,rfl,h1,h6⟩
 | cell ds=>simp only [Rv.plain?] at e;cases e;exact h
 | scr ds=>simp only [Rv.plain?] at e;cases e
theorem RvR.list (er:ER κ K G₀ H₀ G H ρ σ) {r:Rv} {v:V} {l:List D} (h:RvR κ K H₀ Hb G H ρ σ r v) (e:r.list?=some l):∃ a xs,v=.ref a/\SqL K H a xs/\qq κ G l xs:=by
 cases r with
 | scr ds=>simp only [Rv.list?] at e;cases e;exact h
 | val d=>
  have e':(Rv.val d).plain?=some l:=by cases d<;>simp only [Rv.list?] at e<;>first | (cases e;rfl) | cases e
  obtain ⟨a,xs,h1,h2,h3⟩:=h.plain er e';exact ⟨a,xs,h1,SqL.of h2,h3⟩
 | tmp ds=>obtain ⟨a,xs,h1,h2,h3⟩:=h.plain er (l:=l) e;exact ⟨a,xs,h1,SqL.of h2,h3⟩
 | cell ds=>obtain ⟨a,xs,h1,h2,h3⟩:=h.plain er (l:=l) e;exact ⟨a,xs,h1,SqL.of h2,h3⟩
theorem Po.freeze {a:Addr} {xs:List V} {G1 H1:Hp} {ρ1:Env} (p:Po κ K G₀ H₀ σ G H ρ G1 H1 ρ1) (h1:H1 a=some (.lst xs)) (h2:H a=none) (h3:H₀ a=none) (h4:G1 a=none) (h5:¬ ZE ρ1 σ a):Po κ K G₀ H₀ σ G H ρ (upd G1 a (.lst xs)) H1 ρ1:=by
 have gs:qv G1 (upd G1 a (.lst xs)):=qv.upd h4;have er:=p.er;refine ⟨⟨er.len,fun b u e=>?_,er.base,fun b o e=>gs b o (er.g0 b o e),fun b o e=>?_,fun i s e=>?_,er.ap⟩,p.hs,fun b o e=>gs b o (p.gs b o e),fun b o e=>?_,p.fz⟩
 ·by_cases hb:b=a
  ·subst hb;rw [qi] at e;cases e;exact h1
  ·rw [qf hb] at e;exact er.sub b u e
 ·by_cases hb:b=a
  ·subst hb;exact .inr h3
  ·rw [qf hb] at e;exact er.fresh b o e
 ·have q:=er.sl i s e
  cases s with
  | no=>trivial
  | val d=>obtain ⟨v,z,r⟩:=q;exact ⟨v,z,r.same gs⟩
  | own ds=>obtain ⟨b,ys,z,q1,q2,q3,q4⟩:=q;have hb:b≠a:=fun w=>h5 ⟨i,ds,e,by rw [<-w];exact z⟩;exact ⟨b,ys,z,q1,q2,by rw [qf hb];exact q3,q4.same gs⟩
  | bor ds=>obtain ⟨b,ys,z,q1,q4⟩:=q;exact ⟨b,ys,z,q1,q4.same gs⟩
  | scr ds=>obtain ⟨b,ys,z,q1,q4⟩:=q;exact ⟨b,ys,z,q1,q4.same gs⟩
 ·by_cases hb:b=a
  ·subst hb;exact .inr (.inl h2)
  ·rw [qf hb] at e;exact p.new b o e
theorem ER.froze {i:Nat} {l:List D} (h:ER κ K G₀ H₀ G H ρ σ) (e:ρ[i]?=some (.own l)):∃ a xs,σ[i]?=some (some (.ref a))/\Po κ K G₀ H₀ σ G H ρ (upd G a (.lst xs)) H (ρ.set i (.val (.lst l)))/\Rep κ (upd G a (.lst xs)) (.lst l) (.ref a):=by
 obtain ⟨a,xs,z,h1,h2,h3,h4⟩:=h.sl i _ e;have gs:qv G (upd G a (.lst xs)):=qv.upd h3;have hi:i < ρ.length:=(List.getElem?_eq_some_iff.mp e).1;have rp:Rep κ (upd G a (.lst xs)) (.lst l) (.ref a):=by simp only [Rep];exact ⟨a,xs,rfl,qi,h4.same gs⟩
 refine ⟨a,xs,z,⟨⟨by rw [List.length_set];exact h.len,fun b u q=>?_,h.base,fun b o q=>gs b o (h.g0 b o q),fun b o q=>?_,fun j s q=>?_,fun j k b m n q1 q2=>?_⟩,fun _ _ q=>q,gs,fun b o q=>?_,fun j m q=>?_⟩,rp⟩
 ·by_cases hb:b=a
  ·subst hb;rw [qi] at q;cases q;exact h1
  ·rw [qf hb] at q;exact h.sub b u q
 ·by_cases hb:b=a
  ·subst hb;exact .inr h2
  ·rw [qf hb] at q;exact h.fresh b o q
 ·by_cases hj:i=j
  ·subst hj;rw [List.getElem?_set_self hi] at q;cases q;exact ⟨_,z,rp⟩
  ·rw [List.getElem?_set_ne hj] at q;have w:=h.sl j s q
   cases s with
   | no=>trivial
   | val d=>obtain ⟨v,z,r⟩:=w;exact ⟨v,z,r.same gs⟩
   | own ds=>obtain ⟨b,ys,z',q1,q2,q3,q4⟩:=w;have hb:b≠a:=fun u=>hj (h.ap i j a l ds e q z (by rw [<-u];exact z'));exact ⟨b,ys,z',q1,q2,by rw [qf hb];exact q3,q4.same gs⟩
   | bor ds=>obtain ⟨b,ys,z,q1,q4⟩:=w;exact ⟨b,ys,z,q1,q4.same gs⟩
   | scr ds=>obtain ⟨b,ys,z,q1,q4⟩:=w;exact ⟨b,ys,z,q1,q4.same gs⟩
 ·have f:∀ {j:Nat} {m:List D},(ρ.set i (.val (.lst l)))[j]?=some (.own m)->ρ[j]?=some (.own m):=fun {j m} q=>by
   by_cases hj:i=j
   ·subst hj;rw [List.getElem?_set_self hi] at q;cases q
   ·rw [List.getElem?_set_ne hj] at q;exact q
  exact h.ap j k b m n (f q1) (f q2)
 ·by_cases hb:b=a
  ·subst hb;exact .inr (.inr ⟨i,l,e,z⟩)
  ·rw [qf hb] at q;exact .inl ⟨o,q⟩
 ·by_cases hj:i=j
  ·subst hj;rw [List.getElem?_set_self hi] at q;cases q
  ·rw [List.getElem?_set_ne hj] at q;exact q
theorem ER.setVal {i:Nat} {d:D} {v:V} (h:ER κ K G₀ H₀ G H ρ σ) (r:Rep κ G d v):ER κ K G₀ H₀ G H (ρ.set i (.val d)) (σ.set i (some v)):=by
 refine ⟨by rw [List.length_set,List.length_set];exact h.len,h.sub,h.base,h.g0,h.fresh,fun j s q=>?_,fun j k b m n q1 q2 q3 q4=>?_⟩
 ·by_cases hj:i=j
  ·subst hj;have hi:i < ρ.length:=by simpa using (List.getElem?_eq_some_iff.mp q).1
   rw [List.getElem?_set_self hi] at q;cases q;exact ⟨v,by rw [List.getElem?_set_self (by rw [<-h.len];exact hi)],r⟩
  ·rw [List.getElem?_set_ne hj] at q ⊢;exact h.sl j s q
 ·have f:∀ {j:Nat} {m:List D},(ρ.set i (.val d))[j]?=some (.own m)->i≠j/\ρ[j]?=some (.own m):=fun {j m} q=>by
   by_cases hj:i=j
   ·subst hj;have hi:i < ρ.length:=by simpa using (List.getElem?_eq_some_iff.mp q).1
    rw [List.getElem?_set_self hi] at q;cases q
   ·rw [List.getElem?_set_ne hj] at q;exact ⟨hj,q⟩
  obtain ⟨n1,e1⟩:=f q1;obtain ⟨n2,e2⟩:=f q2;rw [List.getElem?_set_ne n1] at q3;rw [List.getElem?_set_ne n2] at q4;exact h.ap j k b m n e1 e2 q3 q4
theorem ER.setOwn {i:Nat} {l:List D} {a:Addr} {xs:List V} (h:ER κ K G₀ H₀ G H ρ σ) (h1:H a=some (.lst xs)) (h2:H₀ a=none) (h3:G a=none) (h4:¬ ZE ρ σ a) (r:qq κ G l xs):ER κ K G₀ H₀ G H (ρ.set i (.own l)) (σ.set i (some (.ref a))):=by
 have f:∀ {j:Nat} {m:List D},(ρ.set i (.own l))[j]?=some (.own m)->i≠j->ρ[j]?=some (.own m):=fun {j m} q hj=>by rw [List.getElem?_set_ne hj] at q;exact q
 refine ⟨by rw [List.length_set,List.length_set];exact h.len,h.sub,h.base,h.g0,h.fresh,fun j s q=>?_,fun j k b m n q1 q2 q3 q4=>?_⟩
 ·by_cases hj:i=j
  ·subst hj;have hi:i < ρ.length:=by simpa using (List.getElem?_eq_some_iff.mp q).1
   rw [List.getElem?_set_self hi] at q;cases q;exact ⟨a,xs,by rw [List.getElem?_set_self (by rw [<-h.len];exact hi)],h1,h2,h3,r⟩
  ·rw [List.getElem?_set_ne hj] at q ⊢;exact h.sl j s q
 ·by_cases hj:i=j
  ·by_cases hk:i=k
   ·omega
   ·subst hj;have hi:i < σ.length:=by simpa using (List.getElem?_eq_some_iff.mp q3).1
    rw [List.getElem?_set_self hi] at q3;rw [List.getElem?_set_ne hk] at q4;cases q3;exact absurd ⟨k,n,f q2 hk,q4⟩ h4
  ·by_cases hk:i=k
   ·subst hk;have hi:i < σ.length:=by simpa using (List.getElem?_eq_some_iff.mp q4).1
    rw [List.getElem?_set_self hi] at q4;rw [List.getElem?_set_ne hj] at q3;cases q4;exact absurd ⟨j,m,f q1 hj,q3⟩ h4
   ·rw [List.getElem?_set_ne hj] at q3;rw [List.getElem?_set_ne hk] at q4;exact h.ap j k b m n (f q1 hj) (f q2 hk) q3 q4
theorem ER.write {i:Nat} {l m:List D} {a:Addr} {ys:List V} (h:ER κ K G₀ H₀ G H ρ σ) (e:ρ[i]?=some (.own l)) (z:σ[i]?=some (some (.ref a))) (r:qq κ G m ys):ER κ K G₀ H₀ G (upd H a (.lst ys)) (ρ.set i (.own m)) σ:=by
 obtain ⟨a',xs,z',h1,h2,h3,h4⟩:=h.sl i _ e;have ea:a'=a:=by rw [z'] at z;injection z with z;injection z with z;injection z
 subst ea;have hi:i < ρ.length:=(List.getElem?_eq_some_iff.mp e).1;refine ⟨by rw [List.length_set];exact h.len,fun b u q=>?_,fun b u q=>?_,h.g0,h.fresh,fun j s q=>?_,fun j k b m' n q1 q2=>?_⟩
 ·have hb:b≠a':=fun w=>by rw [w,h3] at q;cases q
  rw [qf hb];exact h.sub b u q
 ·have hb:b≠a':=fun w=>by rw [w,h2] at q;cases q
  rw [qf hb];exact h.base b u q
 ·by_cases hj:i=j
  ·subst hj;rw [List.getElem?_set_self hi] at q;cases q;exact ⟨a',ys,z',qi,h2,h3,r⟩
  ·rw [List.getElem?_set_ne hj] at q;have w:=h.sl j s q
   cases s with
   | no=>trivial
   | val d=>exact w
   | own ds=>obtain ⟨b,zs,z2,q1,q2,q3,q4⟩:=w;have hb:b≠a':=fun u=>hj (h.ap i j a' l ds e q z' (by rw [<-u];exact z2));exact ⟨b,zs,z2,by rw [qf hb];exact q1,q2,q3,q4⟩
   | bor ds=>exact w
   | scr ds=>exact w
 ·have f:∀ {j:Nat} {n:List D},(ρ.set i (.own m))[j]?=some (.own n)->∃ n',ρ[j]?=some (.own n'):=fun {j n} q=>by
   by_cases hj:i=j
   ·subst hj;exact ⟨l,e⟩
   ·rw [List.getElem?_set_ne hj] at q;exact ⟨n,q⟩
  obtain ⟨_,e1⟩:=f q1;obtain ⟨_,e2⟩:=f q2;exact h.ap j k b _ _ e1 e2
end
end DE
namespace DE
open PySem L2
inductive Sk where
 | lst | tup | str
def ZF (s:Str):List D:=s.cps.toList.map fun c=>D.str ⟨#[c]⟩
inductive R (α:Type) where
 | ok (a:α) | exc (c:Str) (l:List (Str×D)) | no
def R.th {α β:Type}:R α->(α->R β)->R β
 | .ok a,f=>f a
 | .exc c l,_=>.exc c l
 | .no,_=>.no
def R.of {α:Type}:Option α->R α
 | some a=>.ok a
 | none=>.no
mutual
noncomputable def toP:D->Option PyData
 | .non=>some .none
 | .bl b=>some (.bool b)
 | .int n=>some (.int n)
 | .str s=>some (.str s)
 | .lst l=>(qck l).map .list
 | .tup l=>(qck l).map .tuple
 | .ins ..=>none
noncomputable def qck:List D->Option (List PyData)
 | []=>some []
 | d::l=>(toP d).bind fun p=>(qck l).map (p :: ·)
end
def Rv.data:Rv->D
 | .val d=>d
 | .tmp l=>.lst l
 | .cell l=>.lst l
 | .scr l=>.lst l
inductive Ar where
 | val (d:D) | bor (l:List D) | scr (l:List D)
structure Cs where
 tab:List Str
 fld:Str->Str->Bool
 mt:Str->Str->Option Str
 sub:Str->Str->Option Bool
def Cs.non:Cs:=⟨[],fun _ _=>false,fun _ _=>none,fun _ _=>none⟩
structure Ct where
 N:List Str
 sc:Scope
 tab:List Str
 gl:Str->Option D
 cl:Str->List Ar->R Rv
 cs:Cs
 nw:Str->List Ar->R Rv
noncomputable def qS:List Str->Str->Option Nat
 | [],_=>none
 | y::r,x=>if y=x then some 0 else (qS r x).map (· + 1)
noncomputable def JL (sc:Scope) (x:Str):Bool:=match sc.names.lookup x with
 | some .local=>true
 | some .cell=>true
 | some .free=>true
 | _=>false
noncomputable def Z3 (sc:Scope) (x:Str):Bool:=match sc.names.lookup x with
 | some .local=>true
 | some .cell=>true
 | _=>false
def glB (sc:Scope) (x:Str):Bool:=sc.names.lookup x == some .globalImplicit
noncomputable def qo (x:Str):Bool:=!(x == ("__debug__" : Str))&&!(x == ("__classdict__" : Str))&&!(x == ("__name__" : Str))
noncomputable def jB (Γ:Ct) (x:Str) (ρ:Env):R Rv:=if qo x then (match qS Γ.N x with
 | some i=>if JL Γ.sc x then (match ρ[i]? with
  | some (.val d)=>.ok (.val d)
  | some (.own l)=>.ok (.cell l)
  | some (.bor l)=>.ok (.cell l)
  | some (.scr l)=>.ok (.scr l)
  | _=>.no) else .no
 | none=>if glB Γ.sc x then (match Γ.gl x with | some d=>.ok (.val d) | none=>.no) else .no) else .no
noncomputable def z8 (Γ:Ct) (x:Str) (ρ:Env):R (D×Env):=if qo x then (match qS Γ.N x with
 | some i=>if JL Γ.sc x then (match ρ[i]? with
  | some (.val d)=>.ok (d,ρ)
  | some (.own l)=>.ok (.lst l,ρ.set i (.val (.lst l)))
  | _=>.no) else .no
 | none=>if glB Γ.sc x then (match Γ.gl x with | some d=>.ok (d,ρ) | none=>.no) else .no) else .no
noncomputable def yK (Γ:Ct) (x:Str) (ρ:Env):R ((Sk×List D)×Env):=if qo x then (match qS Γ.N x with
 | some i=>if JL Γ.sc x then (match ρ[i]? with
  | some (.val (.lst l))=>.ok ((.lst,l),ρ)
  | some (.val (.tup l))=>.ok ((.tup,l),ρ)
  | some (.val (.str z))=>.ok ((.str,ZF z),ρ)
  | some (.own l)=>.ok ((.lst,l),ρ.set i (.val (.lst l)))
  | some (.bor l)=>.ok ((.lst,l),ρ)
  | some (.scr l)=>.ok ((.lst,l),ρ)
  | _=>.no) else .no
 | none=>.no) else .no
noncomputable def qgI:Const->R Rv
 | .none=>.ok (.val .non)
 | .bool b=>.ok (.val (.bl b))
 | .int i=>.ok (.val (.int i))
 | .str s=>.ok (.val (.str s))
 | _=>.no
def Rv.int?:Rv->Option Int
 | .val (.int i)=>some i
 | _=>none
def Rv.str?:Rv->Option Str
 | .val (.str i)=>some i
 | _=>none
def Rv.bl?:Rv->Option Bool
 | .val (.bl i)=>some i
 | _=>none
def Rv.tup?:Rv->Option (List D)
 | .val (.tup i)=>some i
 | _=>none
noncomputable def Y5 (i j:Int):Bool:=(decide (-(2 ^ 64) < i)&&decide (i < 2 ^ 64))||(decide (-(2 ^ 64) < j)&&decide (j < 2 ^ 64))
noncomputable def int2 (x y:Rv) (f:Int->Int->R Rv):R Rv:=match x.int?,y.int? with
 | some i,some j=>f i j
 | _,_=>.no
noncomputable def qja (x y:Rv):R Rv:=match x.int?,y.int? with
 | some i,some j=>.ok (.val (.int (i+j)))
 | _,_=>match x.str?,y.str? with
  | some a,some b=>if a.length+b.length<=sizeLine then .ok (.val (.str (a++b))) else .no
  | _,_=>match x.plain?,y.plain? with
   | some l,some m=>if l.length+m.length<=sizeLine then .ok (.tmp (l++m)) else .no
   | _,_=>.no
noncomputable def Qe (op:Operator) (x y:Rv):R Rv:=match op with
 | .Add=>qja x y
 | .Sub=>int2 x y fun i j=>.ok (.val (.int (i - j)))
 | .Mult=>int2 x y fun i j=>if Y5 i j=true then .ok (.val (.int (i * j))) else .no
 | .FloorDiv=>int2 x y fun i j=>if 0 < j/\j < 1073741824 then .ok (.val (.int (i / j))) else .no
 | .Mod=>int2 x y fun i j=>if 0 < j then .ok (.val (.int (i % j))) else .no
 | .Pow=>int2 x y fun i j=>if 0<=j/\j<=1000000/\i.natAbs < 2 ^ 64 then .ok (.val (.int (i ^ j.toNat))) else .no
 | _=>.no
noncomputable def eqD (x y:D):Option Bool:=match toP x,toP y with
 | some p,some q=>if SeqAt.shaped p&&SeqAt.shaped q then some (PyData.eqv p q) else none
 | _,_=>none
def Jb:D->Bool
 | .non=>true
 | .bl _=>true
 | .int _=>true
 | .str _=>true
 | _=>false
def seqD (r:Rv):Option (List D):=match r.tup? with
 | some l=>some l
 | none=>r.list?
def flV:D->V
 | .bl b=>.bl b
 | .int n=>.int n
 | .str s=>.str s
 | _=>.non
noncomputable def inD (x:D) (l:List D):Option Bool:=if (Jb x&&l.all Jb)=true then some (inV (flV x) (l.map flV)) else none
noncomputable def qfI (x y:Rv) (f:Int->Int->Bool):Option Bool:=match x.int?,y.int? with
 | some i,some j=>some (f i j)
 | _,_=>none
def Rv.non?:Rv->Bool
 | .val .non=>true
 | _=>false
def qfJ (a b:Str):Bool:=!(Builtin.Str.occurrences b a 0 b.length 1).isEmpty
noncomputable def qbL (x y:Rv):Option Bool:=match x.str?,y.str? with
 | some a,some b=>some (qfJ a b)
 | _,_=>(seqD y).bind (inD x.data)
noncomputable def jQ (op:CmpOp) (x y:Rv):Option Bool:=match op with
 | .Eq=>eqD x.data y.data
 | .NotEq=>(eqD x.data y.data).map (!·)
 | .Lt=>qfI x y fun i j=>decide (i < j)
 | .LtE=>qfI x y fun i j=>decide (i<=j)
 | .Gt=>qfI x y fun i j=>decide (j < i)
 | .GtE=>qfI x y fun i j=>decide (j<=i)
 | .Is=>if y.non? then some x.non? else none
 | .IsNot=>if y.non? then some (!x.non?) else none
 | .In=>qbL x y
 | .NotIn=>(qbL x y).map (!·)
noncomputable def idxD (x y:Rv):R Rv:=match y.int? with
 | some i=>(match x.str? with
  | some z=>if z.length<=sizeLine then (match atI z.cps.toList i with | some c=>.ok (.val (.str ⟨#[c]⟩)) | none=>.no) else .no
  | none=>match seqD x with
   | some l=>(match atI l i with | some d=>.ok (.val d) | none=>.no)
   | none=>.no)
 | none=>.no
noncomputable def qdx (l:List D) (lo hi:Option Int):List D:=(l.drop (HT.sIx l.length 0 lo)).take (HT.sIx l.length l.length hi - HT.sIx l.length 0 lo)
noncomputable def sliceD (r:Rv) (lo hi:Option Int):R Rv:=match r.str? with
 | some z=>if z.length<=sizeLine then .ok (.val (.str (Txt.slice z lo hi))) else .no
 | none=>(R.of r.list?).th fun l=>.ok (.tmp (qdx l lo hi))
noncomputable def truthD (r:Rv):Option Bool:=match r with
 | .val .non=>some false
 | .val (.bl b)=>some b
 | .val (.int i)=>some (i != 0)
 | .val (.str s)=>if s.length<=sizeLine then some ((s.length:Int) != 0) else none
 | r=>(seqD r).map fun l=>!l.isEmpty
noncomputable def qgJ (d:D) (t:Str):Option Bool:=match d with
 | .ins ..=>none
 | _=>if t = "int" then some (match d with | .int _=>true | .bl _=>true | _=>false)
  else if t = "bool" then some (match d with | .bl _=>true | _=>false)
  else if t = "str" then some (match d with | .str _=>true | _=>false)
  else if t = "list" then some (match d with | .lst _=>true | _=>false)
  else if t = "tuple" then some (match d with | .tup _=>true | _=>false)
  else none
def Z4:Rv->Str->Option Bool
 | .scr _,_=>none
 | r,t=>qgJ r.data t
def bty:List Str:=["int","bool","str","list","tuple"]
noncomputable def qbM (cs:Cs) (r:Rv) (t:Str):Option Bool:=match r with
 | .val (.ins c _ _)=>if bty.contains t then none else cs.sub c t
 | r=>Z4 r t
noncomputable def qcl (cs:Cs) (r:Rv) (x:Str):Option D:=match r with
 | .val (.ins c ns ds)=>if cs.fld c x then (ns.zip ds).lookup x else none
 | _=>none
noncomputable def mtD (cs:Cs) (r:Rv) (x:Str):Option Str:=match r with
 | .val (.ins c ns _)=>if ns.contains x then none else cs.mt c x
 | _=>none
def Qf:List D->Option (List Str)
 | []=>some []
 | .str z::l=>(Qf l).map (z :: ·)
 | _=>none
noncomputable def ixM (r:Rv) (as:List Ar):R Rv:=match r.plain?,as with
 | some l,[.val (.str s)]=>(match Qf l with | some zs=>if zs.contains s then .ok (.val (.int (zs.idxOf s:Nat))) else .no | none=>.no)
 | _,_=>.no
def qT:Expr->Bool
 | .Name ..=>true
 | .Subscript ..=>true
 | _=>false
def Rv.ar:Rv->Ar
 | .val d=>.val d
 | .tmp l=>.val (.lst l)
 | .cell l=>.bor l
 | .scr l=>.scr l
noncomputable def lenD (r:Rv):R Rv:=match r.str? with
 | some s=>if s.length<=sizeLine then .ok (.val (.int s.length)) else .no
 | none=>match seqD r with
  | some l=>.ok (.val (.int l.length))
  | none=>.no
def listD (r:Rv):R Rv:=match seqD r with
 | some l=>.ok (.tmp l)
 | none=>.no
noncomputable def intD (r:Rv):R Rv:=match r.int? with
 | some i=>.ok (.val (.int i))
 | none=>match r.bl? with
  | some b=>.ok (.val (.int (if b then 1 else 0)))
  | none=>.no
def prD:D->Option (Int×Int)
 | .tup [.int a,.int b]=>some (a,b)
 | _=>none
noncomputable def qdy:List D->Option (List (Int×Int))
 | []=>some []
 | d::l=>match prD d,qdy l with
  | some p,some ps=>some (p::ps)
  | _,_=>none
def pD (p:Int×Int):D:=.tup [.int p.1,.int p.2]
def J5 (p q:Int×Int):Bool:=decide (p.1 < q.1)||(decide (p.1=q.1)&&decide (p.2<=q.2))
def j5 (ps:List (Int×Int)):List (Int×Int):=ps.mergeSort J5
noncomputable def yL (r:Rv):R Rv:=match r.list? with
 | some l=>(match qdy l with | some ps=>if ps.length < 64 then .ok (.tmp ((j5 ps).map pD)) else .no | none=>.no)
 | none=>.no
def qaP:List D->Option (List Int)
 | []=>some []
 | .int i::l=>(qaP l).map (i :: ·)
 | _=>none
noncomputable def qiA (r:Rv):R Rv:=match r.list? with
 | some l=>(match qaP l with | some ns=>.ok (.val (.int ns.sum)) | none=>.no)
 | none=>.no
def qh:Expr->Bool
 | .Starred ..=>true
 | _=>false
def qgK:List D->Option (List Bool)
 | []=>some []
 | .bl i::l=>(qgK l).map (i :: ·)
 | _=>none
noncomputable def qiB (r:Rv):R Rv:=match r.list? with
 | some l=>(match qgK l with | some bs=>.ok (.val (.bl (bs.all id))) | none=>.no)
 | none=>.no
def kvD:D->Option (Str×Int)
 | .tup [.str s,.int n]=>some (s,n)
 | _=>none
noncomputable def qbN:List D->Option (List (Str×Int))
 | []=>some []
 | d::l=>match kvD d,qbN l with
  | some p,some ps=>some (p::ps)
  | _,_=>none
def qew (kvs:List (Str×Int)) (k:Str):Option Int:=(kvs.find? fun kv=>decide (kv.1=k)).map (·.2)
noncomputable def Yz (n:Int) (x y:Rv):R Rv:=match x.list?,y.str? with
 | some l,some k=>(match qbN l with | some kvs=>if (kvs.map (·.1)).Nodup then .ok (.val (.int ((qew kvs k).getD n))) else .no | none=>.no)
 | _,_=>.no
noncomputable def dgE (Γ:Ct) (o:Expr) (x:Str) (es:List Expr) (b:Bool):Option (Expr×Expr×Int):=match o,es with
 | .Call (.Name f _) [a] [] _,[e,.Constant (.int n) _ _]=>if f = "dict"/\x = "get"/\b=true/\glB Γ.sc "dict" = true/\qh a=false/\qh e=false then some (a,e,n) else none
 | _,_=>none
def maxD (x y:Rv):R Rv:=int2 x y fun i j=>.ok (.val (.int (if j > i then j else i)))
def minD (x y:Rv):R Rv:=int2 x y fun i j=>.ok (.val (.int (if j < i then j else i)))
noncomputable def JM (f:Str) (x:Rv):R Rv:=
 if f = "len" then lenD x else if f = "list" then listD x else if f = "int" then intD x else if f = "sorted" then yL x else if f = "sum" then qiA x else if f = "all" then qiB x else .no
def Qg (f:Str) (x y:Rv):R Rv:=
 if f = "max" then maxD x y else if f = "min" then minD x y else .no
def zE:Expr->Bool
 | .Set ..=>false
 | _=>true
noncomputable def qy:Expr->Option (List Str)
 | .Name x _=>some [x]
 | .Tuple es _ _=>es.foldr (fun e r=>match e,r with | .Name x _,some l=>some (x::l) | _,_=>none) (some [])
 | _=>none
noncomputable def Z5 (Γ:Ct) (x:Str) (d:D) (ρ:Env):R Env:=(R.of (qS Γ.N x)).th fun i=>if Z3 Γ.sc x&&qo x then .ok (ρ.set i (.val d)) else .no
noncomputable def Qh (Γ:Ct):List Str->List D->Env->R Env
 | [],[],ρ=>.ok ρ
 | x::xs,d::ds,ρ=>(Z5 Γ x d ρ).th fun ρ1=>Qh Γ xs ds ρ1
 | _,_,_=>.no
noncomputable def qex (Γ:Ct) (tg:Expr) (d:D) (ρ:Env):R Env:=match tg with
 | .Name x _=>Z5 Γ x d ρ
 | .Tuple es _ _=>(R.of (qy tg)).th fun xs=>match d with
  | .tup ds=>if es.any qh then .no else Qh Γ xs ds ρ
  | _=>.no
 | _=>.no
def J6:Expr->Bool
 | .Tuple ..=>true
 | _=>false
def qgL:Sl->Sl
 | .own l=>.bor l
 | s=>s
noncomputable def jY (N:List Str) (sc:Scope):List Nat:=(List.range N.length).filter fun i=>sc.names.lookup (N.getD i "") == some .free
noncomputable def yf (own:List Str) (fr:List Nat) (ρ:Env):Env:=(own.map fun _=>Sl.no)++fr.map fun i=>qgL (ρ.getD i .no)
def yr (l:List D):List D:=(List.range l.length).zipWith (fun (i:Nat) d=>D.tup [.int i,d]) l
def qey (l m:List D):List D:=List.zipWith (fun a b=>D.tup [a,b]) l m
def qH (lo hi:Int):List D:=(List.range (hi - lo).toNat).map fun i:Nat=>D.int (lo+i)
def zy (lo hi c:Int):List D:=(List.range (rsz lo hi c)).map fun i:Nat=>D.int (lo+i * c)
noncomputable def rgB (i j c:Int):Bool:=decide (-(2 ^ 60)<=i)&&decide (i < 2 ^ 60)&&decide (-(2 ^ 60)<=j)&&decide (j < 2 ^ 60)&&decide (0 < c)&&decide (c < 2 ^ 30)
noncomputable def rg3 (x y z:Rv):R (List D):=match x.int?,y.int?,z.int? with
 | some i,some j,some c=>if rgB i j c=true then .ok (zy i j c) else .no
 | _,_,_=>.no
def yg (i:Int):Bool:=decide (-(2 ^ 62)<=i)&&decide (i < 2 ^ 62)
noncomputable def lrE (Γ:Ct) (f:Str) (a:Expr):Option (Expr×Expr):=match a with
 | .Call (.Name g _) [x,y] [] _=>if f = "list"/\g = "range"/\glB Γ.sc "range" = true/\qh x=false/\qh y=false then some (x,y) else none
 | _=>none
noncomputable def lrD (x y:Rv):R Rv:=match x.int?,y.int? with
 | some i,some j=>if yg i=true/\yg j=true/\(j - i).toNat<=10000 then .ok (.tmp (qH i j)) else .no
 | _,_=>.no
noncomputable def irE (Γ:Ct) (op:CmpOp) (b:Expr):Option Expr:=match op,b with
 | .NotIn,.Call (.Name g _) [x] [] _=>if g = "range"/\glB Γ.sc "range" = true/\qh x=false then some x else none
 | _,_=>none
noncomputable def qdz (x y:Rv):R Rv:=match x.int?,y.int? with
 | some i,some j=>.ok (.val (.bl (!decide (0<=i/\i < j))))
 | _,_=>.no
def qN (i:Int):Bool:=decide (-(2 ^ 62)<=i)&&decide (i < 2 ^ 62)
noncomputable def YA (asg:D->Env->R Env) (test:Env->R (Bool×Env)) (elt:Env->R (D×Env)):List D->Env->List D->R (List D)
 | [],_,acc=>.ok acc
 | d::ds,ρ,acc=>(asg d ρ).th fun ρ1=>(test ρ1).th fun bt=>if bt.1 then (elt bt.2).th fun x=>if acc.length < sizeLine then YA asg test elt ds x.2 (acc++[x.1]) else .no else YA asg test elt ds bt.2 acc
mutual
noncomputable def evR:Nat->Ct->Expr->Env->R (Rv×Env)
 | 0,_,_,_=>.no
 | m+1,Γ,e,ρ=>match e with
  | .Name x _=>(jB Γ x ρ).th fun r=>.ok (r,ρ)
  | .Constant c _ _=>(qgI c).th fun r=>.ok (r,ρ)
  | .BinOp a op b _=>(evR m Γ a ρ).th fun x=>(evR m Γ b x.2).th fun y=>(Qe op x.1 y.1).th fun r=>.ok (r,y.2)
  | .UnaryOp .USub a _=>(evR m Γ a ρ).th fun x=>match x.1 with
   | .val (.int i)=>.ok (.val (.int (-i)),x.2)
   | _=>.no
  | .UnaryOp .Not a _=>(evR m Γ a ρ).th fun x=>match x.1 with
   | .val (.bl b)=>.ok (.val (.bl (!b)),x.2)
   | _=>.no
  | .BoolOp _ [a] _=>evR m Γ a ρ
  | .BoolOp .And (a::b::l) p=>(evR m Γ a ρ).th fun x=>match x.1 with
   | .val (.bl true)=>evR m Γ (.BoolOp .And (b::l) p) x.2
   | .val (.bl false)=>.ok (.val (.bl false),x.2)
   | _=>.no
  | .BoolOp .Or (a::b::l) p=>(evR m Γ a ρ).th fun x=>match x.1 with
   | .val (.bl false)=>evR m Γ (.BoolOp .Or (b::l) p) x.2
   | .val (.bl true)=>.ok (.val (.bl true),x.2)
   | _=>.no
  | .Compare a [op] [b] _=>(evR m Γ a ρ).th fun x=>(evR m Γ b x.2).th fun y=>if behindInMarks op b then .no else (R.of (jQ op x.1 y.1)).th fun r=>.ok (.val (.bl r),y.2)
  | .IfExp c a b _=>(evT m Γ c ρ).th fun t=>if t.1 then evR m Γ a t.2 else evR m Γ b t.2
  | .Subscript a (.Slice lo hi none _) _=>(evR m Γ a ρ).th fun x=>(evO m Γ lo x.2).th fun l=>(evO m Γ hi l.2).th fun h=>(sliceD x.1 l.1 h.1).th fun r=>.ok (r,h.2)
  | .Subscript a (.Slice _ _ (some _) _) _=>.no
  | .Subscript a i _=>(evR m Γ a ρ).th fun x=>(evR m Γ i x.2).th fun y=>(idxD x.1 y.1).th fun r=>.ok (r,y.2)
  | .List es _=>(qdA m Γ es ρ).th fun x=>if x.1.length<=sizeLine then .ok (.tmp x.1,x.2) else .no
  | .Tuple es _ _=>(qdA m Γ es ρ).th fun x=>if x.1.length<=sizeLine then .ok (.val (.tup x.1),x.2) else .no
  | .Call (.Name f p) es [] _=>if qo f&&glB Γ.sc f&&(qS Γ.N f).isNone then (
    if f = "isinstance" then (match es with
     | [a,b]=>(match b with
      | .Name t _=>if (qo t&&glB Γ.sc t&&(qS Γ.N t).isNone&&!qh a)=true then (evR m Γ a ρ).th fun x=>(R.of (qbM Γ.cs x.1 t)).th fun b=>.ok (.val (.bl b),x.2) else .no
      | _=>.no)
     | _=>.no)
    else if Γ.tab.contains f then (j6 m Γ es ρ).th fun x=>(Γ.cl f x.1).th fun r=>.ok (r,x.2)
    else if Γ.cs.tab.contains f then (j6 m Γ es ρ).th fun x=>(Γ.nw f x.1).th fun r=>.ok (r,x.2)
    else match es with
     | [a]=>(match lrE Γ f a with
      | some t=>(evR m Γ t.1 ρ).th fun x=>(evR m Γ t.2 x.2).th fun y=>(lrD x.1 y.1).th fun r=>.ok (r,y.2)
      | none=>if qh a then .no else (evR m Γ a ρ).th fun x=>(JM f x.1).th fun r=>.ok (r,x.2))
     | [a,b]=>if qh a||qh b then .no else (evR m Γ a ρ).th fun x=>(evR m Γ b x.2).th fun y=>(Qg f x.1 y.1).th fun r=>.ok (r,y.2)
     | _=>.no) else .no
  | .Attribute o x _=>if qT o then (evR m Γ o ρ).th fun y=>(R.of (qcl Γ.cs y.1 x)).th fun d=>.ok (.val d,y.2) else .no
  | .Call (.Attribute o x ap) es [] q=>if (qT o&&(ap.endLine == q.line)&&decide (es.length < 30))=true then (evR m Γ o ρ).th fun y=>match mtD Γ.cs y.1 x with
   | some f=>(j6 m Γ es y.2).th fun z=>(Γ.cl f (y.1.ar::z.1)).th fun r=>.ok (r,z.2)
   | none=>if x = "index" then (j6 m Γ es y.2).th fun z=>(ixM y.1 z.1).th fun r=>.ok (r,z.2) else .no
   else (R.of (dgE Γ o x es (ap.endLine == q.line))).th fun t=>(evR m Γ t.1 ρ).th fun y=>(evR m Γ t.2.1 y.2).th fun z=>(Yz t.2.2 y.1 z.1).th fun r=>.ok (r,z.2)
  | .ListComp elt [g] sc _=>if g.is_async=0 then (evI m Γ (J6 g.target) g.iter ρ).th fun x=>(R.of (qy g.target)).th fun own=>
    let fr:=jY Γ.N sc
    let Δ:Ct:={ Γ with N:=own++fr.map fun i=>Γ.N.getD i "",sc:=sc }
    if (zL Γ.sc Γ.N fr sc&&decide Δ.N.Nodup&&decide (x.1.length<=sizeLine)&&zE g.iter)=true then
     (YA (qex Δ g.target) (fun ρ1=>qgM m Δ g.ifs ρ1) (fun ρ1=>evE m Δ elt ρ1) x.1 (yf own fr x.2) []).th fun l=>.ok (.tmp l,x.2)
    else .no else .no
  | _=>.no
noncomputable def evE:Nat->Ct->Expr->Env->R (D×Env)
 | 0,_,_,_=>.no
 | m+1,Γ,e,ρ=>match e with
  | .Name x _=>z8 Γ x ρ
  | e=>(evR m Γ e ρ).th fun x=>match x.1 with
   | .val d=>.ok (d,x.2)
   | .tmp l=>.ok (.lst l,x.2)
   | _=>.no
noncomputable def evT:Nat->Ct->Expr->Env->R (Bool×Env)
 | 0,_,_,_=>.no
 | m+1,Γ,e,ρ=>match e with
  | .UnaryOp .Not a _=>(evT m Γ a ρ).th fun t=>.ok (!t.1,t.2)
  | .BoolOp _ [a] _=>evT m Γ a ρ
  | .BoolOp .And (a::b::l) p=>(evT m Γ a ρ).th fun t=>if t.1 then evT m Γ (.BoolOp .And (b::l) p) t.2 else .ok (false,t.2)
  | .BoolOp .Or (a::b::l) p=>(evT m Γ a ρ).th fun t=>if t.1 then .ok (true,t.2) else evT m Γ (.BoolOp .Or (b::l) p) t.2
  | .BoolOp _ [] _=>.no
  | .IfExp ..=>.no
  | .Compare a [op] [b] _=>(match irE Γ op b with
   | some t=>(evR m Γ a ρ).th fun x=>(evR m Γ t x.2).th fun y=>(qdz x.1 y.1).th fun r=>(R.of (truthD r)).th fun b=>.ok (b,y.2)
   | none=>(evR m Γ a ρ).th fun x=>(evR m Γ b x.2).th fun y=>if behindInMarks op b then .no else (R.of (jQ op x.1 y.1)).th fun r=>.ok (r,y.2))
  | .Compare a [op,op'] [b,c] _=>if lastMarks [op,op'] [b,c] then .no else (evR m Γ a ρ).th fun x=>(evR m Γ b x.2).th fun y=>(R.of (jQ op x.1 y.1)).th fun r=>if r=true then (evR m Γ c y.2).th fun z=>(R.of (jQ op' y.1 z.1)).th fun r'=>.ok (r',z.2) else .ok (false,y.2)
  | .Compare ..=>.no
  | e=>(evR m Γ e ρ).th fun x=>(R.of (truthD x.1)).th fun b=>.ok (b,x.2)
noncomputable def qdA:Nat->Ct->List Expr->Env->R (List D×Env)
 | 0,_,_,_=>.no
 | m+1,Γ,es,ρ=>match es with
  | []=>.ok ([],ρ)
  | e::l=>if qh e then .no else (evE m Γ e ρ).th fun x=>(qdA m Γ l x.2).th fun y=>.ok (x.1::y.1,y.2)
noncomputable def j6:Nat->Ct->List Expr->Env->R (List Ar×Env)
 | 0,_,_,_=>.no
 | m+1,Γ,es,ρ=>match es with
  | []=>.ok ([],ρ)
  | e::l=>if qh e then .no else (evR m Γ e ρ).th fun x=>(j6 m Γ l x.2).th fun y=>.ok (x.1.ar::y.1,y.2)
noncomputable def evO:Nat->Ct->Option Expr->Env->R (Option Int×Env)
 | 0,_,_,_=>.no
 | m+1,Γ,o,ρ=>match o with
  | none=>.ok (none,ρ)
  | some e=>(evR m Γ e ρ).th fun x=>match x.1 with
   | .val (.int i)=>.ok (some i,x.2)
   | _=>.no
noncomputable def qgM:Nat->Ct->List Expr->Env->R (Bool×Env)
 | 0,_,_,_=>.no
 | m+1,Γ,es,ρ=>match es with
  | []=>.ok (true,ρ)
  | [c]=>evT m Γ c ρ
  | _=>.no
noncomputable def evL:Nat->Ct->Expr->Env->R ((Sk×List D)×Env)
 | 0,_,_,_=>.no
 | m+1,Γ,e,ρ=>match e with
  | .Name x _=>yK Γ x ρ
  | e=>(evR m Γ e ρ).th fun x=>match x.1 with
   | .val (.lst l)=>.ok ((.lst,l),x.2)
   | .val (.tup l)=>.ok ((.tup,l),x.2)
   | .val (.str z)=>.ok ((.str,ZF z),x.2)
   | .tmp l=>.ok ((.lst,l),x.2)
   | _=>.no
noncomputable def evI:Nat->Ct->Bool->Expr->Env->R (List D×Env)
 | 0,_,_,_,_=>.no
 | m+1,Γ,tb,e,ρ=>match e with
  | .Call (.Name f p) es [] q=>if f = "range" || f = "enumerate" || f = "zip" || f = "reversed" then (if qo f&&glB Γ.sc f&&(qS Γ.N f).isNone then (match es with
    | [a]=>if qh a then .no else
      if f = "range" then (evR m Γ a ρ).th fun x=>(match x.1.int? with
       | some n=>if qN n=true then .ok (qH 0 n,x.2) else .no
       | none=>.no)
      else if f = "enumerate" then (if tb then (evL m Γ a ρ).th fun x=>match x.1.1 with | .lst=>.ok (yr x.1.2,x.2) | _=>.no else .no)
      else if f = "reversed" then (evL m Γ a ρ).th fun x=>match x.1.1 with | .lst=>.ok (x.1.2.reverse,x.2) | _=>.no
      else .no
    | [a,b]=>if qh a||qh b then .no else
      if f = "range" then (evR m Γ a ρ).th fun x=>(evR m Γ b x.2).th fun y=>(match x.1.int?,y.1.int? with
       | some i,some j=>if qN i=true/\qN j=true then .ok (qH i j,y.2) else .no
       | _,_=>.no)
      else if f = "zip" then (if tb then (evL m Γ a ρ).th fun x=>(evL m Γ b x.2).th fun y=>match x.1.1,y.1.1 with | .lst,.lst=>.ok (qey x.1.2 y.1.2,y.2) | _,_=>.no else .no)
      else .no
    | [a,b,c]=>if qh a||qh b||qh c then .no else
      if f = "range" then (evR m Γ a ρ).th fun x=>(evR m Γ b x.2).th fun y=>(evR m Γ c y.2).th fun z=>(rg3 x.1 y.1 z.1).th fun l=>.ok (l,z.2)
      else .no
    | _=>.no) else .no)
   else (evL m Γ (.Call (.Name f p) es [] q) ρ).th fun x=>.ok (x.1.2,x.2)
  | e=>(evL m Γ e ρ).th fun x=>.ok (x.1.2,x.2)
end
end DE
namespace DE
open PySem L2
def Wk {α:Type} (x:R α) (f:α->Prop):Prop:=match x with
 | .ok a=>f a
 | .exc _ _=>False
 | .no=>False
theorem Wk.th {α β:Type} {x:R α} {g:α->R β} {f:β->Prop} (h:Wk (x.th g) f):Wk x fun a=>Wk (g a) f:=by cases x<;>exact h
theorem Wk.mono {α:Type} {x:R α} {f g:α->Prop} (h:Wk x f) (i:∀ a,f a->g a):Wk x g:=by
 cases x with
 | ok a=>exact i a h
 | exc c l=>exact h
 | no=>exact h
theorem Wk.of {α:Type} {x:Option α} {f:α->Prop} (h:Wk (R.of x) f):∃ a,x=some a/\f a:=by
 cases x with
 | none=>exact h.elim
 | some a=>exact ⟨a,rfl,h⟩
theorem Wk.iff {α:Type} {c:Prop} [Decidable c] {x:R α} {f:α->Prop} (h:Wk (if c then x else .no) f):c/\Wk x f:=by
 by_cases hc:c
 ·rw [if_pos hc] at h;exact ⟨hc,h⟩
 ·rw [if_neg hc] at h;exact h.elim
theorem Wk.nif {α:Type} {c:Prop} [Decidable c] {x:R α} {f:α->Prop} (h:Wk (if c then .no else x) f):¬ c/\Wk x f:=by
 by_cases hc:c
 ·rw [if_pos hc] at h;exact h.elim
 ·rw [if_neg hc] at h;exact ⟨hc,h⟩
section
variable (κ:KC) (K:Frag) (G₀ H₀:Hp) (Γ:Ct) (m:Nat)
noncomputable def tR (e:Expr):TE:=fun σ H Q=>∃ ρ G,ER κ K G₀ H₀ G H ρ σ/\Wk (evR m Γ e ρ) fun x=>∀ v G' H',Po κ K G₀ H₀ σ G H ρ G' H' x.2->RvR κ K H₀ H G' H' x.2 σ x.1 v->Q v H'
noncomputable def tE (e:Expr):TE:=fun σ H Q=>∃ ρ G,ER κ K G₀ H₀ G H ρ σ/\Wk (evE m Γ e ρ) fun x=>∀ v G' H',Po κ K G₀ H₀ σ G H ρ G' H' x.2->Rep κ G' x.1 v->Q v H'
noncomputable def tT (e:Expr):TT:=fun σ H Q=>∃ ρ G,ER κ K G₀ H₀ G H ρ σ/\Wk (evT m Γ e ρ) fun x=>∀ G' H',Po κ K G₀ H₀ σ G H ρ G' H' x.2->Q x.1 H'
noncomputable def tEs (es:List Expr):TA:=fun σ H Q=>∃ ρ G,ER κ K G₀ H₀ G H ρ σ/\Wk (qdA m Γ es ρ) fun x=>∀ vs G' H',Po κ K G₀ H₀ σ G H ρ G' H' x.2->qq κ G' x.1 vs->Q vs H'
noncomputable def ArR (G H:Hp):Ar->V->Prop
 | .val d,v=>Rep κ G d v
 | .bor ds,v=>∃ a xs,v=.ref a/\H a=some (.lst xs)/\qq κ G ds xs
 | .scr ds,v=>∃ a xs,v=.ref a/\SqL K H a xs/\qq κ G ds xs
noncomputable def jZ (G H:Hp):List Ar->List V->Prop
 | [],vs=>vs=[]
 | a::l,vs=>∃ v r,vs=v::r/\ArR κ K G H a v/\jZ G H l r
noncomputable def tAs (es:List Expr):TA:=fun σ H Q=>∃ ρ G,ER κ K G₀ H₀ G H ρ σ/\Wk (j6 m Γ es ρ) fun x=>∀ vs G' H',Po κ K G₀ H₀ σ G H ρ G' H' x.2->jZ κ K G' H' x.1 vs->Q vs H'
noncomputable def tO (o:Option Expr):TO:=fun σ H Q=>∃ ρ G,ER κ K G₀ H₀ G H ρ σ/\Wk (evO m Γ o ρ) fun x=>∀ G' H',Po κ K G₀ H₀ σ G H ρ G' H' x.2->Q x.1 H'
noncomputable def tF (es:List Expr):TT:=fun σ H Q=>∃ ρ G,ER κ K G₀ H₀ G H ρ σ/\Wk (qgM m Γ es ρ) fun x=>∀ G' H',Po κ K G₀ H₀ σ G H ρ G' H' x.2->Q x.1 H'
noncomputable def SrR (G:Hp) (s:Sk×List D) (v:V):Prop:=match s.1 with
 | .str=>∃ x,v=.str x/\s.2=ZF x
 | .tup=>∃ a xs,v=.ref a/\qq κ G s.2 xs/\G a=some (.tup xs)
 | .lst=>∃ a xs,v=.ref a/\qq κ G s.2 xs/\(G a=some (.lst xs)\/SqL K H₀ a xs)
noncomputable def tL (e:Expr):TE:=fun σ H Q=>∃ ρ G,ER κ K G₀ H₀ G H ρ σ/\Wk (evL m Γ e ρ) fun x=>∀ v G' H',Po κ K G₀ H₀ σ G H ρ G' H' x.2->SrR κ K H₀ G' x.1 v->Q v H'
noncomputable def ItR (G₁:Hp) (J:It) (l:List D):Prop:=∀ (i:Nat) (G H:Hp),qv G₁ G->qv H₀ H->qv G H->
 (∀ d,l[i]?=some d->J.go i H/\∀ x H',J.yld i H x H'->∃ G',qv H H'/\qv G G'/\qv G' H'/\(∀ a o,G' a=some o->(∃ o',G a=some o')\/H a=none)/\Rep κ G' d x)/\(l.length=i->J.stop i H)
noncomputable def tI (tb:Bool) (e:Expr):TI:=fun σ H Q=>∃ ρ G,ER κ K G₀ H₀ G H ρ σ/\Wk (evI m Γ tb e ρ) fun x=>∀ J G' H',Po κ K G₀ H₀ σ G H ρ G' H' x.2->ItR κ H₀ G' J x.1->Q J H'
noncomputable def ReR (G' H' H:Hp):Rv->V->Prop
 | .val d,v=>Rep κ G' d v
 | .tmp ds,v=>∃ a xs,v=.ref a/\H' a=some (.lst xs)/\H a=none/\G' a=none/\qq κ G' ds xs
 | _,_=>False
noncomputable def spF (cl:Str->List Ar->R Rv) (f:Str):Sp:=fun vs H Q _=>∃ G args,qv G H/\jZ κ K G H args vs/\
 Wk (cl f args) fun r=>∀ v G' H',qv H H'->qv G G'->qv G' H'->(∀ a o,G' a=some o->(∃ o',G a=some o')\/H a=none)->ReR κ G' H' H r v->Q v H'
end
noncomputable def qaQ:List Str:=["len","list","tuple","int","bool","str","max","min","isinstance","range","enumerate","zip","sorted","sum","reversed","all","dict"]
structure Gd (κ:KC) (K:Frag) (k:Nat) (X:Cx) (Γ:Ct):Prop where
 hN:X.N=Γ.N
 vis:∀ x,JL Γ.sc x=true->Vis X.env.scope x
 loc:∀ x,Z3 Γ.sc x=true->L2.Loc X.env.scope x/\(X.fn x=true\/X.env.scope.names.lookup x=some .local)
 glo:∀ x,glB Γ.sc x=true->Gl X x
 cf:∀ x,(Γ.sc.names.lookup x=some .cell\/Γ.sc.names.lookup x=some .free)->X.env.kindOf x=some .cell\/X.env.kindOf x=some .free
 nd:Γ.N.Nodup
 calm:X.calm=true
 hK:X.K=K
 room:Room k X.A
 fns:∀ f,Γ.tab.contains f=true->∃ fa fd ps,FnOk X.prog X.w X.K X.mg X.base CX0 k fa fd ps (spF κ K Γ.cl f)/\X.mg f=some (.ref fa)/\PySem.W.keepIn X.K (.ref fa)=true/\zg X.K fd ps []
 blt:∀ f∈qaQ,X.mg f=none
 gl:∀ x d,Γ.gl x=some d->∃ v u,X.mg x=some u/\qJ v u/\∀ G,Rep κ G d v
 cls:∀ c C,κ c=some C->Cls X.K C
 flds:∀ c x C,Γ.cs.fld c x=true->κ c=some C->zn X.K C x
 mts:∀ c x f,Γ.cs.mt c x=some f->∃ C fa fd ps,κ c=some C/\Meth X.K C x fa/\FnOk X.prog X.w X.K X.mg X.base CX0 k fa fd ps (spF κ K Γ.cl f)/\zg X.K fd ps []
 mks:∀ f,Γ.cs.tab.contains f=true->(∀ args,Γ.nw f args=.no)\/∃ C fa fd ps sp,Mk X.K C fa/\FnOk X.prog X.w X.K X.mg X.base CX0 (k - 1) fa fd ps sp/\X.mg f=some (.ref C)/\zg X.K fd ps []/\0 < k/\
  ∀ vs H Q,spF κ K Γ.nw f vs H Q E0->∀ x dx,H x=none->H dx=none->dx≠x->sp (.ref x::vs) (upd (upd H dx (.own x)) x (.ins C dx [])) (fun v H2=>v=.non/\Q (.ref x) H2) E0
 subs:∀ c t b,Γ.cs.sub c t=some b->∃ C T,κ c=some C/\(∀ H p dx fs,H p=some (HO.ins C dx fs)->TyOf X.K H (.ref p) (.ref C))/\X.mg t=some (.ref T)/\PySem.W.kitOne X.K (.ref C) (.ref T)=some b
theorem PE.imp {X:Cx} {e:Expr} {t t':TE} (h:PE X e t') (i:∀ σ H Q,t σ H Q->t' σ H Q):PE X e t:=fun pins s σ H Q I hw=>h pins s σ H Q I (i σ H Q hw)
theorem PT.imp {X:Cx} {e:Expr} {t t':TT} (h:PT X e t') (i:∀ σ H Q,t σ H Q->t' σ H Q):PT X e t:=fun pins s σ H Q I hw=>h pins s σ H Q I (i σ H Q hw)
theorem PA.imp {X:Cx} {es:List Expr} {t t':TA} (h:PA X es t') (i:∀ σ H Q,t σ H Q->t' σ H Q):PA X es t:=fun pos pins s σ H Q I hw=>h pos pins s σ H Q I (i σ H Q hw)
theorem PO.imp {X:Cx} {o:Option Expr} {t t':TO} (h:PO X o t') (i:∀ σ H Q,t σ H Q->t' σ H Q):PO X o t:=fun pins s σ H Q I hw=>h pins s σ H Q I (i σ H Q hw)
theorem PIf.imp {X:Cx} {es:List Expr} {t t':TT} (h:PIf X es t') (i:∀ σ H Q,t σ H Q->t' σ H Q):PIf X es t:=fun pins s σ H Q I hw=>h pins s σ H Q I (i σ H Q hw)
theorem PI.imp {X:Cx} {tg e:Expr} {t t':TI} (h:PI X tg e t') (i:∀ σ H Q,t σ H Q->t' σ H Q):PI X tg e t:=fun pins s σ H Q I hw=>h pins s σ H Q I (i σ H Q hw)
theorem qj {X:Cx} {e:Expr} {t:TE} (h:∀ σ H Q,¬ t σ H Q):PE X e t:=fun pins s σ H Q I hw=>absurd hw (h σ H Q)
theorem zd {X:Cx} {e:Expr} {t:TT} (h:∀ σ H Q,¬ t σ H Q):PT X e t:=fun pins s σ H Q I hw=>absurd hw (h σ H Q)
theorem JN {X:Cx} {e:List Expr} {t:TA} (h:∀ σ H Q,¬ t σ H Q):PA X e t:=fun pos pins s σ H Q I hw=>absurd hw (h σ H Q)
theorem qjb {X:Cx} {e:Option Expr} {t:TO} (h:∀ σ H Q,¬ t σ H Q):PO X e t:=fun pins s σ H Q I hw=>absurd hw (h σ H Q)
theorem QU {X:Cx} {e:List Expr} {t:TT} (h:∀ σ H Q,¬ t σ H Q):PIf X e t:=fun pins s σ H Q I hw=>absurd hw (h σ H Q)
theorem qL {X:Cx} {tg e:Expr} {t:TI} (h:∀ σ H Q,¬ t σ H Q):PI X tg e t:=fun pins s σ H Q I hw=>absurd hw (h σ H Q)
theorem jc:∀ {N:List Str} {x:Str} {i:Nat},qS N x=some i->N[i]?=some x
 | [],x,i,h=>by cases h
 | y::r,x,i,h=>by
  unfold qS at h
  by_cases e:y=x
  ·rw [if_pos e] at h;cases h;rw [e];rfl
  ·rw [if_neg e] at h
   cases q:qS r x with
   | none=>rw [q] at h;cases h
   | some j=>rw [q] at h;cases h;show (y::r)[j+1]?=some x;rw [List.getElem?_cons_succ];exact jc q
theorem zc {x:Str} (h:qo x=true):(x == ("__debug__" : Str))=false/\(x == ("__classdict__" : Str))=false/\x≠"__name__":=by unfold qo at h;simp only [Bool.and_eq_true,Bool.not_eq_true'] at h;refine ⟨h.1.1,h.1.2,fun z=>?_⟩;rw [z] at h;exact absurd h.2 (2:)
theorem qdB {sc:Scope} {x:Str} (h:JL sc x=true):Vis sc x:=by
 unfold JL at h;unfold Vis
 split at h
 ·rename_i e;exact .inl e
 ·rename_i e;exact .inr (.inl e)
 ·rename_i e;exact .inr (.inr e)
 ·cases h
theorem qaR {sc:Scope} {x:Str} (h:Z3 sc x=true):L2.Loc sc x:=by
 unfold Z3 at h;unfold L2.Loc
 split at h
 ·rename_i e;exact .inl e
 ·rename_i e;exact .inr e
 ·cases h
theorem qe {e:Expr} {es:List Expr} {env:PySem.Env} (h:qh e=false):starEach (e::es) env=(false,eval e env)::starEach es env:=by cases e<;>first | rfl | (simp [qh] at h)
section
variable {κ:KC} {K:Frag} {G₀ H₀:Hp} {k:Nat} {X:Cx} {Γ:Ct}
theorem ER.notOwn {G H:Hp} {ρ:Env} {σ:St} (er:ER κ K G₀ H₀ G H ρ σ) {a:Addr} (h:H a=none):¬ ZE ρ σ a:=fun ⟨i,l,e,z⟩=>by obtain ⟨b,xs,z',h1,_⟩:=er.sl i _ e;rw [z] at z';injection z' with z';injection z' with z';injection z' with z';rw [<-z',h] at h1;cases h1
theorem ER.newList {G H:Hp} {ρ:Env} {σ:St} (er:ER κ K G₀ H₀ G H ρ σ) {a:Addr} {xs:List V} {l:List D} (h:H a=none) (r:qq κ G l xs) :
  Po κ K G₀ H₀ σ G H ρ G (upd H a (.lst xs)) ρ/\RvR κ K H₀ H G (upd H a (.lst xs)) ρ σ (.tmp l) (.ref a):=
 ⟨Po.room er (qv.upd h),a,xs,rfl,qi,h,qv.none er.base h,qv.none er.sub h,er.notOwn h,r⟩
theorem qcm (gd:Gd κ K k X Γ) (m:Nat) (x:Str) (pos:Pos):PE X (.Name x pos) (tR κ K G₀ H₀ Γ (m+1) (.Name x pos)):=by
 by_cases hok:qo x=true
 case neg=>refine qj fun σ H Q hq1=>?_;obtain ⟨ρ,G,er,h⟩:=hq1;have h:=Wk.th (x:=jB Γ x ρ) h;unfold jB at h;exact hok (Wk.iff h).1
 obtain ⟨n1,n2,n3⟩:=zc hok
 cases hi:qS Γ.N x with
 | some i=>
  by_cases hv:JL Γ.sc x=true
  case neg=>refine qj fun σ H Q hq1=>?_;obtain ⟨ρ,G,er,h⟩:=hq1;have h:=Wk.th (x:=jB Γ x ρ) h;unfold jB at h;rw [if_pos hok,hi] at h;exact hv (Wk.iff h).1
  have hx:=gd.vis x hv;refine PE.imp (Jf (i:=i) (by rw [gd.hN];exact jc hi) hx n1 n2) fun σ H Q hq1=>?_;obtain ⟨ρ,G,er,h⟩:=hq1;have h:=Wk.th (x:=jB Γ x ρ) h;unfold jB at h;rw [if_pos hok,hi] at h;have h:=(Wk.iff h).2
  cases q:ρ[i]? with
  | none=>rw [q] at h;exact h.elim
  | some s=>
   rw [q] at h;have w:=er.sl i s q
   cases s with
   | no=>exact h.elim
   | val d=>obtain ⟨v,z,r⟩:=w;exact ⟨v,z,h v G H (Po.refl er) r⟩
   | own l=>obtain ⟨a,xs,z,r1,r2,r3,r4⟩:=w;exact ⟨_,z,h _ G H (Po.refl er) ⟨a,xs,rfl,r1,r4⟩⟩
   | bor l=>obtain ⟨a,xs,z,r1,r4⟩:=w;exact ⟨_,z,h _ G H (Po.refl er) ⟨a,xs,rfl,er.base _ _ r1,r4⟩⟩
   | scr l=>obtain ⟨a,xs,z,r1,r4⟩:=w;exact ⟨_,z,h _ G H (Po.refl er) ⟨a,xs,rfl,er.base.seq r1,r4⟩⟩
 | none=>
  by_cases hg:glB Γ.sc x=true
  case neg=>refine qj fun σ H Q hq1=>?_;obtain ⟨ρ,G,er,h⟩:=hq1;have h:=Wk.th (x:=jB Γ x ρ) h;unfold jB at h;rw [if_pos hok,hi] at h;exact hg (Wk.iff h).1
  cases hd:Γ.gl x with
  | none=>refine qj fun σ H Q hq1=>?_;obtain ⟨ρ,G,er,h⟩:=hq1;have h:=Wk.th (x:=jB Γ x ρ) h;unfold jB at h;rw [if_pos hok,hi] at h;have h:=(Wk.iff h).2;rw [hd] at h;exact h
  | some d=>obtain ⟨v,u,e1,e2,e3⟩:=gd.gl x d hd;refine PE.imp (jy (gd.glo x hg) e1 e2 n1) fun σ H Q hq1=>?_;obtain ⟨ρ,G,er,h⟩:=hq1;have h:=Wk.th (x:=jB Γ x ρ) h;unfold jB at h;rw [if_pos hok,hi] at h;have h:=(Wk.iff h).2;rw [hd] at h;exact h v G H (Po.refl er) (e3 G)
theorem qcn (gd:Gd κ K k X Γ) (m:Nat) (x:Str) (pos:Pos):PE X (.Name x pos) (tE κ K G₀ H₀ Γ (m+1) (.Name x pos)):=by
 by_cases hok:qo x=true
 case neg=>refine qj fun σ H Q hq1=>?_;obtain ⟨ρ,G,er,h⟩:=hq1;have h:Wk (z8 Γ x ρ) _:=h;unfold z8 at h;exact hok (Wk.iff h).1
 obtain ⟨n1,n2,n3⟩:=zc hok
 cases hi:qS Γ.N x with
 | some i=>
  by_cases hv:JL Γ.sc x=true
  case neg=>refine qj fun σ H Q hq1=>?_;obtain ⟨ρ,G,er,h⟩:=hq1;have h:Wk (z8 Γ x ρ) _:=h;unfold z8 at h;rw [if_pos hok,hi] at h;exact hv (Wk.iff h).1
  have hx:=gd.vis x hv;refine PE.imp (Jf (i:=i) (by rw [gd.hN];exact jc hi) hx n1 n2) fun σ H Q hq1=>?_;obtain ⟨ρ,G,er,h⟩:=hq1;have h:Wk (z8 Γ x ρ) _:=h;unfold z8 at h;rw [if_pos hok,hi] at h;have h:=(Wk.iff h).2
  cases q:ρ[i]? with
  | none=>rw [q] at h;exact h.elim
  | some s=>
   rw [q] at h;have w:=er.sl i s q
   cases s with
   | no=>exact h.elim
   | val d=>obtain ⟨v,z,r⟩:=w;exact ⟨v,z,h v G H (Po.refl er) r⟩
   | own l=>obtain ⟨a,xs,z,p,r⟩:=er.froze q;exact ⟨_,z,h _ _ H p r⟩
   | bor l=>exact h.elim
   | scr l=>exact h.elim
 | none=>
  by_cases hg:glB Γ.sc x=true
  case neg=>refine qj fun σ H Q hq1=>?_;obtain ⟨ρ,G,er,h⟩:=hq1;have h:Wk (z8 Γ x ρ) _:=h;unfold z8 at h;rw [if_pos hok,hi] at h;exact hg (Wk.iff h).1
  cases hd:Γ.gl x with
  | none=>refine qj fun σ H Q hq1=>?_;obtain ⟨ρ,G,er,h⟩:=hq1;have h:Wk (z8 Γ x ρ) _:=h;unfold z8 at h;rw [if_pos hok,hi] at h;have h:=(Wk.iff h).2;rw [hd] at h;exact h
  | some d=>obtain ⟨v,u,e1,e2,e3⟩:=gd.gl x d hd;refine PE.imp (jy (gd.glo x hg) e1 e2 n1) fun σ H Q hq1=>?_;obtain ⟨ρ,G,er,h⟩:=hq1;have h:Wk (z8 Γ x ρ) _:=h;unfold z8 at h;rw [if_pos hok,hi] at h;have h:=(Wk.iff h).2;rw [hd] at h;exact h v G H (Po.refl er) (e3 G)
end
end DE
namespace DE
open PySem L2
section
variable {κ:KC} {K:Frag} {G₀ H₀ Hb Hc G H:Hp} {ρ:Env} {σ:St} {r s:Rv} {x y:V}
theorem RvR.int {i:Int} (h:RvR κ K H₀ Hb G H ρ σ r x) (e:r.int?=some i):x=.int i:=by
 cases r with
 | val d=>cases d<;>simp only [Rv.int?] at e<;>first | (cases e;simpa only [RvR,Rep] using h) | cases e
 | _=>cases e
theorem RvR.str {i:Str} (h:RvR κ K H₀ Hb G H ρ σ r x) (e:r.str?=some i):x=.str i:=by
 cases r with
 | val d=>cases d<;>simp only [Rv.str?] at e<;>first | (cases e;simpa only [RvR,Rep] using h) | cases e
 | _=>cases e
theorem RvR.bl {i:Bool} (h:RvR κ K H₀ Hb G H ρ σ r x) (e:r.bl?=some i):x=.bl i:=by
 cases r with
 | val d=>cases d<;>simp only [Rv.bl?] at e<;>first | (cases e;simpa only [RvR,Rep] using h) | cases e
 | _=>cases e
theorem RvR.tup {l:List D} (h:RvR κ K H₀ Hb G H ρ σ r x) (e:r.tup?=some l):∃ a xs,x=.ref a/\G a=some (.tup xs)/\qq κ G l xs:=by
 cases r with
 | val d=>cases d<;>simp only [Rv.tup?] at e<;>first | (cases e;simpa only [RvR,Rep] using h) | cases e
 | _=>cases e
theorem RvR.seq (er:ER κ K G₀ H₀ G H ρ σ) {l:List D} (h:RvR κ K H₀ Hb G H ρ σ r x) (e:seqD r=some l):∃ a xs,x=.ref a/\(SqL K H a xs\/SqT K H a xs)/\qq κ G l xs:=by
 unfold seqD at e
 cases q:r.tup? with
 | some l'=>rw [q] at e;cases e;obtain ⟨a,xs,e1,e2,e3⟩:=h.tup q;exact ⟨a,xs,e1,.inr (SqT.of (er.sub _ _ e2)),e3⟩
 | none=>rw [q] at e;obtain ⟨a,xs,e1,e2,e3⟩:=h.list er e;exact ⟨a,xs,e1,.inl e2,e3⟩
theorem RvR.non (h:RvR κ K H₀ Hb G H ρ σ r x):decide (x=.non)=r.non?:=by
 cases r with
 | val d=>
  cases d<;>simp only [RvR,Rep] at h<;>simp only [Rv.non?]
  ·subst h;rfl
  ·subst h;rfl
  ·subst h;rfl
  ·subst h;rfl
  ·obtain ⟨a,xs,rfl,_⟩:=h;rfl
  ·obtain ⟨a,xs,rfl,_⟩:=h;rfl
  ·obtain ⟨p,dx,C,xs,_,rfl,_⟩:=h;rfl
 | tmp l=>obtain ⟨a,xs,rfl,_⟩:=h;rfl
 | cell l=>obtain ⟨a,xs,rfl,_⟩:=h;rfl
 | scr l=>obtain ⟨a,xs,rfl,_⟩:=h;rfl
mutual
theorem Rep.dv (sub:qv G H):∀ {d:D} {v:V} {p:PyData},Rep κ G d v->toP d=some p->DV K H p v
 | .non,v,p,h,e=>by simp only [toP] at e;cases e;simp only [Rep] at h;simp only [DV];exact h
 | .bl b,v,p,h,e=>by simp only [toP] at e;cases e;simp only [Rep] at h;simp only [DV];exact h
 | .int b,v,p,h,e=>by simp only [toP] at e;cases e;simp only [Rep] at h;simp only [DV];exact h
 | .str b,v,p,h,e=>by simp only [toP] at e;cases e;simp only [Rep] at h;simp only [DV];exact h
 | .lst l,v,p,h,e=>by simp only [toP] at e;obtain ⟨ps,e1,rfl⟩:=Option.map_eq_some_iff.mp e;simp only [Rep] at h;obtain ⟨a,xs,rfl,h1,h2⟩:=h;simp only [DV];exact ⟨a,xs,rfl,SqL.of (sub _ _ h1),qq.dvs sub h2 e1⟩
 | .tup l,v,p,h,e=>by simp only [toP] at e;obtain ⟨ps,e1,rfl⟩:=Option.map_eq_some_iff.mp e;simp only [Rep] at h;obtain ⟨a,xs,rfl,h1,h2⟩:=h;simp only [DV];exact ⟨a,xs,rfl,SqT.of (sub _ _ h1),qq.dvs sub h2 e1⟩
 | .ins c ns l,v,p,h,e=>by simp only [toP] at e;cases e
theorem qq.dvs (sub:qv G H):∀ {ds:List D} {vs:List V} {ps:List PyData},qq κ G ds vs->qck ds=some ps->DVs K H ps vs
 | [],vs,ps,h,e=>by simp only [qck] at e;cases e;simp only [qq] at h;simp only [DVs];exact h
 | d::ds,vs,ps,h,e=>by simp only [qck] at e;obtain ⟨p,e1,e2⟩:=Option.bind_eq_some_iff.mp e;obtain ⟨qs,e3,rfl⟩:=Option.map_eq_some_iff.mp e2;simp only [qq] at h;obtain ⟨x,r,rfl,h1,h2⟩:=h;simp only [DVs];exact ⟨x,r,rfl,Rep.dv sub h1 e1,qq.dvs sub h2 e3⟩
end
theorem RvR.dv (er:ER κ K G₀ H₀ G H ρ σ) {p:PyData} (h:RvR κ K H₀ Hb G H ρ σ r x) (e:toP r.data=some p):DV K H p x:=by
 have lst:∀ {l:List D} {a:Addr} {xs:List V},SqL K H a xs->qq κ G l xs->toP (.lst l)=some p->DV K H p (.ref a):=fun {l a xs} hq hr e=>by simp only [toP] at e;obtain ⟨ps,e1,rfl⟩:=Option.map_eq_some_iff.mp e;simp only [DV];exact ⟨a,xs,rfl,hq,qq.dvs er.sub hr e1⟩
 cases r with
 | val d=>exact Rep.dv er.sub h e
 | tmp l=>obtain ⟨a,xs,rfl,h1,_,_,_,_,h6⟩:=h;exact lst (SqL.of h1) h6 e
 | cell l=>obtain ⟨a,xs,rfl,h1,h6⟩:=h;exact lst (SqL.of h1) h6 e
 | scr l=>obtain ⟨a,xs,rfl,h1,h6⟩:=h;exact lst h1 h6 e
theorem QV {d:D} {v:V} (h:Rep κ G d v) (f:Jb d=true):v=flV d/\yF v=true:=by
 cases d<;>simp only [Jb] at f<;>try (exact absurd f (2:))
 all_goals (simp only [Rep] at h;subst h;exact ⟨rfl,rfl⟩)
theorem YB:∀ {l:List D} {vs:List V},qq κ G l vs->l.all Jb=true->vs=l.map flV/\vs.all yF=true
 | [],vs,h,f=>by simp only [qq] at h;subst h;exact ⟨rfl,rfl⟩
 | d::l,vs,h,f=>by simp only [qq] at h;obtain ⟨x,r,rfl,h1,h2⟩:=h;simp only [List.all_cons,Bool.and_eq_true] at f;obtain ⟨e1,e2⟩:=QV h1 f.1;obtain ⟨e3,e4⟩:=YB h2 f.2;subst e1 e3;exact ⟨rfl,by simp only [List.all_cons,e2,e4,Bool.and_self]⟩
theorem qez (h:RvR κ K H₀ Hb G H ρ σ r x) (f:Jb r.data=true):x=flV r.data/\yF x=true:=by
 cases r with
 | val d=>exact QV h f
 | _=>simp only [Rv.data,Jb] at f;exact absurd f (2:)
theorem Qi {f:Int->Int->R Rv} {F:Rv->Prop} (h:Wk (int2 r s f) F):∃ i j,r.int?=some i/\s.int?=some j/\Wk (f i j) F:=by
 unfold int2 at h
 cases e1:r.int? with
 | none=>rw [e1] at h;exact h.elim
 | some i=>
  cases e2:s.int? with
  | none=>rw [e1,e2] at h;exact h.elim
  | some j=>rw [e1,e2] at h;exact ⟨i,j,rfl,rfl,h⟩
theorem qco {l:List D} {xs:List V} {i:Int} {d:D} (h:qq κ G l xs) (e:atI l i=some d):∃ v,atI xs i=some v/\Rep κ G d v:=by unfold atI at e ⊢;rw [<-h.len];obtain ⟨j,e1,e2⟩:=Option.bind_eq_some_iff.mp e;obtain ⟨v,e3,e4⟩:=h.atD e2;exact ⟨v,by rw [e1];exact e3,e4⟩
theorem qcp {l:List D} {xs:List V} {lo hi:Option Int} (h:qq κ G l xs):qq κ G (qdx l lo hi) (qfH xs lo hi):=by unfold qdx qfH;rw [h.len];exact (h.drop _).take _
end
section
variable (κ:KC) (K:Frag) (G₀ H₀:Hp)
noncomputable def qjc (op:Operator):R2:=fun x y H Q=>∃ (ρ:Env) (σ:St) (G Hb Hc:Hp) (r s:Rv),ER κ K G₀ H₀ G H ρ σ/\RvR κ K H₀ Hb G H ρ σ r x/\RvR κ K H₀ Hc G H ρ σ s y/\
 Wk (Qe op r s) fun z=>∀ v G' H',Po κ K G₀ H₀ σ G H ρ G' H' ρ->RvR κ K H₀ H G' H' ρ σ z v->Q v H'
noncomputable def qjd (op:CmpOp):R2:=fun x y H Q=>∃ (ρ:Env) (σ:St) (G Hb Hc:Hp) (r s:Rv) (b:Bool),ER κ K G₀ H₀ G H ρ σ/\RvR κ K H₀ Hb G H ρ σ r x/\RvR κ K H₀ Hc G H ρ σ s y/\jQ op r s=some b/\Q (.bl b) H
noncomputable def qkC:R2:=fun x y H Q=>∃ (ρ:Env) (σ:St) (G Hb Hc:Hp) (r s:Rv),ER κ K G₀ H₀ G H ρ σ/\RvR κ K H₀ Hb G H ρ σ r x/\RvR κ K H₀ Hc G H ρ σ s y/\
 Wk (idxD r s) fun z=>∀ v G' H',Po κ K G₀ H₀ σ G H ρ G' H' ρ->RvR κ K H₀ H G' H' ρ σ z v->Q v H'
noncomputable def qkD:V->Option Int->Option Int->Hp->VK->Prop:=fun x lo hi H Q=>∃ (ρ:Env) (σ:St) (G Hb:Hp) (r:Rv),ER κ K G₀ H₀ G H ρ σ/\RvR κ K H₀ Hb G H ρ σ r x/\
 Wk (sliceD r lo hi) fun z=>∀ v G' H',Po κ K G₀ H₀ σ G H ρ G' H' ρ->RvR κ K H₀ H G' H' ρ σ z v->Q v H'
noncomputable def rC1 (f:Rv->R Rv):List V->Hp->VK->Prop:=fun xs H Q=>∃ (ρ:Env) (σ:St) (G Hb:Hp) (r:Rv) (x:V),xs=[x]/\ER κ K G₀ H₀ G H ρ σ/\RvR κ K H₀ Hb G H ρ σ r x/\
 Wk (f r) fun z=>∀ v G' H',Po κ K G₀ H₀ σ G H ρ G' H' ρ->RvR κ K H₀ H G' H' ρ σ z v->Q v H'
noncomputable def rC2 (f:Rv->Rv->R Rv):List V->Hp->VK->Prop:=fun xs H Q=>∃ (ρ:Env) (σ:St) (G Hb Hc:Hp) (r s:Rv) (x y:V),xs=[x,y]/\ER κ K G₀ H₀ G H ρ σ/\RvR κ K H₀ Hb G H ρ σ r x/\RvR κ K H₀ Hc G H ρ σ s y/\
 Wk (f r s) fun z=>∀ v G' H',Po κ K G₀ H₀ σ G H ρ G' H' ρ->RvR κ K H₀ H G' H' ρ σ z v->Q v H'
end
section
variable {κ:KC} {K:Frag} {G₀ H₀:Hp} {k:Nat} {X:Cx} {Γ:Ct}
theorem yM (op:Operator) {f:Int->Int->R Rv} {C:Int->Int->Prop} {g:Int->Int->Int} (hop:OpR X (binaryOp op) (rI C fun i j=>.int (g i j))) (hf:∀ r s,Qe op r s=int2 r s f) (hw:∀ i j F,Wk (f i j) F->C i j/\F (.val (.int (g i j)))) :
  OpR X (binaryOp op) (qjc κ K G₀ H₀ op):=by
 rintro pins st σ' H x y v u Q I rx ry ⟨ρ,σ,G,Hb,Hc,r,s,er,h1,h2,h⟩;rw [hf] at h;obtain ⟨i,j,e1,e2,h⟩:=Qi h;obtain ⟨hc,h⟩:=hw i j _ h;exact hop pins st σ' H x y v u Q I rx ry ⟨i,j,h1.int e1,h2.int e2,hc,h _ G H (Po.refl er) (by simp only [RvR,Rep])⟩
theorem qje {f:Value->Value->Sem Value} {g:Int->Int->V} (h:OpR X f (rI0 g)):OpR X f (rI (fun _ _=>True) g):=fun pins st σ' H x y v u Q I rx ry ⟨i,j,e1,e2,_,q⟩=>h pins st σ' H x y v u Q I rx ry ⟨i,j,e1,e2,q⟩
theorem qgN:OpR X (binaryOp .Add) (qjc κ K G₀ H₀ .Add):=by
 rintro pins st σ' H x y v u Q I rx ry ⟨ρ,σ,G,Hb,Hc,r,s,er,h1,h2,h⟩;have h:Wk (qja r s) _:=h;unfold qja at h
 have cat:Wk (match r.plain?,s.plain? with
   | some l,some m=>if l.length+m.length<=sizeLine then R.ok (Rv.tmp (l++m)) else .no
   | _,_=>.no) (fun z=>∀ v G' H',Po κ K G₀ H₀ σ G H ρ G' H' ρ->RvR κ K H₀ H G' H' ρ σ z v->Q v H')->wpAny (model X.prog X.w) X.A (binaryOp .Add v u) (EP X pins σ' Q) X.xe st:=fun h=>by
  cases e1:r.plain? with
  | none=>rw [e1] at h;exact h.elim
  | some l=>
   cases e2:s.plain? with
   | none=>rw [e1,e2] at h;exact h.elim
   | some m=>rw [e1,e2] at h;obtain ⟨hz,h⟩:=Wk.iff h;obtain ⟨a,xs,q1,q2,q3⟩:=h1.plain er e1;obtain ⟨b,ys,p1,p2,p3⟩:=h2.plain er e2;refine qgn pins st σ' H x y v u Q I rx ry ⟨a,b,xs,ys,q1,p1,q2,p2,by rw [<-q3.len,<-p3.len];exact hz,fun p hp=>?_⟩;obtain ⟨z1,z2⟩:=er.newList hp (q3.app p3);exact h _ _ _ z1 z2
 have txt:Wk (match r.str?,s.str? with
   | some a,some b=>if a.length+b.length<=sizeLine then R.ok (Rv.val (.str (a++b))) else .no
   | _,_=>match r.plain?,s.plain? with
    | some l,some m=>if l.length+m.length<=sizeLine then R.ok (Rv.tmp (l++m)) else .no
    | _,_=>.no) (fun z=>∀ v G' H',Po κ K G₀ H₀ σ G H ρ G' H' ρ->RvR κ K H₀ H G' H' ρ σ z v->Q v H')->wpAny (model X.prog X.w) X.A (binaryOp .Add v u) (EP X pins σ' Q) X.xe st:=fun h=>by
  cases e1:r.str? with
  | none=>rw [e1] at h;exact cat h
  | some l=>
   cases e2:s.str? with
   | none=>rw [e1,e2] at h;exact cat h
   | some m=>rw [e1,e2] at h;obtain ⟨hz,h⟩:=Wk.iff h;exact Zr pins st σ' H x y v u Q I rx ry ⟨l,m,h1.str e1,h2.str e2,hz,h _ G H (Po.refl er) (by simp only [RvR,Rep])⟩
 cases e1:r.int? with
 | none=>rw [e1] at h;exact txt h
 | some i=>
  cases e2:s.int? with
  | none=>rw [e1,e2] at h;exact txt h
  | some j=>rw [e1,e2] at h;exact qf5 pins st σ' H x y v u Q I rx ry ⟨i,j,h1.int e1,h2.int e2,h _ G H (Po.refl er) (by simp only [RvR,Rep])⟩
theorem qeA {i j:Int} (h:Y5 i j=true):qix i j:=by unfold Y5 at h;simp only [Bool.or_eq_true,Bool.and_eq_true,decide_eq_true_eq] at h;exact h
theorem qgO (op:Operator):OpR X (binaryOp op) (qjc κ K G₀ H₀ op):=by
 cases op with
 | Add=>exact qgN
 | Sub=>exact yM .Sub (qje qf6) (fun _ _=>rfl) fun i j F h=>⟨trivial,h⟩
 | Mult=>exact yM .Mult qf7 (fun _ _=>rfl) fun i j F h=>⟨qeA (Wk.iff h).1,(Wk.iff h).2⟩
 | FloorDiv=>exact yM .FloorDiv qd4 (fun _ _=>rfl) fun i j F h=>⟨(Wk.iff h).1,(Wk.iff h).2⟩
 | Mod=>exact yM .Mod qf8 (fun _ _=>rfl) fun i j F h=>⟨(Wk.iff h).1,(Wk.iff h).2⟩
 | Pow=>exact yM .Pow qf9 (fun _ _=>rfl) fun i j F h=>⟨(Wk.iff h).1,(Wk.iff h).2⟩
 | _=>exact fun _ _ _ _ _ _ _ _ _ _ _ _ h=>Exists.elim h fun _ h=>Exists.elim h fun _ h=>Exists.elim h fun _ h=>Exists.elim h fun _ h=>Exists.elim h fun _ h=>Exists.elim h fun _ h=>Exists.elim h fun _ h=>h.2.2.2.elim
theorem JO (op:CmpOp) {g:Int->Int->Bool} (hop:OpR X (compareOp op) (rI0 fun i j=>.bl (g i j))) (hf:∀ r s,jQ op r s=qfI r s g):OpR X (compareOp op) (qjd κ K G₀ H₀ op):=by
 rintro pins st σ' H x y v u Q I rx ry ⟨ρ,σ,G,Hb,Hc,r,s,b,er,h1,h2,h,q⟩;rw [hf] at h;unfold qfI at h
 cases e1:r.int? with
 | none=>rw [e1] at h;cases h
 | some i=>
  cases e2:s.int? with
  | none=>rw [e1,e2] at h;cases h
  | some j=>rw [e1,e2] at h;cases h;exact hop pins st σ' H x y v u Q I rx ry ⟨i,j,h1.int e1,h2.int e2,q⟩
theorem qdC {x y:D} {b:Bool} (h:eqD x y=some b):∃ p q,toP x=some p/\toP y=some q/\SeqAt.shaped p=true/\SeqAt.shaped q=true/\b=PyData.eqv p q:=by
 unfold eqD at h
 cases e1:toP x with
 | none=>rw [e1] at h;cases h
 | some p=>
  cases e2:toP y with
  | none=>rw [e1,e2] at h;cases h
  | some q=>
   rw [e1,e2] at h;dsimp only at h
   by_cases hs:(SeqAt.shaped p&&SeqAt.shaped q)=true
   ·rw [if_pos hs] at h;cases h;rw [Bool.and_eq_true] at hs;exact ⟨p,q,rfl,rfl,hs.1,hs.2,rfl⟩
   ·rw [if_neg hs] at h;cases h
theorem qdD (gd:Gd κ K k X Γ) (neg:Bool) (op:CmpOp) (hs:OpR X (compareOp op) (fun x y H Q=>∃ i j,x=.str i/\y=.str j/\Q (.bl (if neg then !qfJ i j else qfJ i j)) H)) (hl:OpR X (compareOp op) (rIn X.K neg))
  (hf:∀ r s,jQ op r s=(qbL r s).map fun b=>if neg then !b else b):OpR X (compareOp op) (qjd κ K G₀ H₀ op):=by
 rintro pins st σ' H x y v u Q I rx ry ⟨ρ,σ,G,Hb,Hc,r,s,b,er,h1,h2,h,q⟩;rw [hf] at h;obtain ⟨b',hb',rfl⟩:=Option.map_eq_some_iff.mp h
 replace h:=hb'
 unfold qbL at h
 have sq:(seqD s).bind (inD r.data)=some b'->wpAny (model X.prog X.w) X.A (compareOp op v u) (EP X pins σ' Q) X.xe st:=fun h=>by
  obtain ⟨l,e1,e2⟩:=Option.bind_eq_some_iff.mp h;unfold inD at e2
  by_cases hc:(Jb r.data&&l.all Jb)=true
  ·rw [if_pos hc] at e2;cases e2;rw [Bool.and_eq_true] at hc;obtain ⟨a,xs,p1,p2,p3⟩:=h2.seq er e1;obtain ⟨f1,f2⟩:=qez h1 hc.1;obtain ⟨f3,f4⟩:=YB p3 hc.2;refine hl pins st σ' H x y v u Q I rx ry ⟨a,xs,p1,by rw [gd.hK];exact p2,f2,f4,?_⟩;rw [f1,f3];exact q
  ·rw [if_neg hc] at e2;cases e2
 cases e1:r.str? with
 | none=>rw [e1] at h;exact sq h
 | some i=>
  cases e2:s.str? with
  | none=>rw [e1,e2] at h;exact sq h
  | some j=>rw [e1,e2] at h;cases h;exact hs pins st σ' H x y v u Q I rx ry ⟨i,j,h1.str e1,h2.str e2,q⟩
theorem QW (gd:Gd κ K k X Γ) (op:CmpOp):OpR X (compareOp op) (qjd κ K G₀ H₀ op):=by
 have hu:X.A.units+64 < cLine:=by have:=gd.room.un;omega
 cases op with
 | Eq=>rintro pins st σ' H x y v u Q I rx ry ⟨ρ,σ,G,Hb,Hc,r,s,b,er,h1,h2,h,q⟩;obtain ⟨p,p',e1,e2,e3,e4,rfl⟩:=qdC h;exact qgs hu pins st σ' H x y v u Q I rx ry ⟨p,p',by rw [gd.hK];exact h1.dv er e1,by rw [gd.hK];exact h2.dv er e2,e3,e4,q⟩
 | NotEq=>rintro pins st σ' H x y v u Q I rx ry ⟨ρ,σ,G,Hb,Hc,r,s,b,er,h1,h2,h,q⟩;obtain ⟨b',h',rfl⟩:=Option.map_eq_some_iff.mp h;obtain ⟨p,p',e1,e2,e3,e4,rfl⟩:=qdC h';exact qgt hu pins st σ' H x y v u Q I rx ry ⟨p,p',by rw [gd.hK];exact h1.dv er e1,by rw [gd.hK];exact h2.dv er e2,e3,e4,q⟩
 | Lt=>exact JO .Lt qiW fun _ _=>rfl
 | LtE=>exact JO .LtE qiX fun _ _=>rfl
 | Gt=>exact JO .Gt qiY fun _ _=>rfl
 | GtE=>exact JO .GtE qiZ fun _ _=>rfl
 | Is=>
  rintro pins st σ' H x y v u Q I rx ry ⟨ρ,σ,G,Hb,Hc,r,s,b,er,h1,h2,h,q⟩;have h:(if s.non?=true then some r.non? else none)=some b:=h
  by_cases hn:s.non?=true
  ·rw [if_pos hn] at h;cases h;refine qgb pins st σ' H x y v u Q I rx ry ⟨of_decide_eq_true (h2.non.trans hn),?_⟩;rw [h1.non];exact q
  ·rw [if_neg hn] at h;cases h
 | IsNot=>
  rintro pins st σ' H x y v u Q I rx ry ⟨ρ,σ,G,Hb,Hc,r,s,b,er,h1,h2,h,q⟩;have h:(if s.non?=true then some (!r.non?) else none)=some b:=h
  by_cases hn:s.non?=true
  ·rw [if_pos hn] at h;cases h;refine qd5 pins st σ' H x y v u Q I rx ry ⟨of_decide_eq_true (h2.non.trans hn),?_⟩;rw [h1.non];exact q
  ·rw [if_neg hn] at h;cases h
 | In=>exact qdD gd false .In qaf qap fun r s=>by show qbL r s=_;cases qbL r s<;>rfl
 | NotIn=>exact qdD gd true .NotIn Yc Yn fun r s=>rfl
theorem qgP (gd:Gd κ K k X Γ):IxR X (qkC κ K G₀ H₀):=by
 rintro value slice pins st σ' H x y v u Q I rx ry ⟨ρ,σ,G,Hb,Hc,r,s,er,h1,h2,h⟩ hs;unfold idxD at h
 cases e1:s.int? with
 | none=>rw [e1] at h;exact h.elim
 | some i=>
  rw [e1] at h;dsimp only at h
  cases e2:r.str? with
  | some z=>
   rw [e2] at h;dsimp only at h;obtain ⟨hz,h⟩:=Wk.iff h
   cases e3:atI z.cps.toList i with
   | none=>rw [e3] at h;exact h.elim
   | some c=>rw [e3] at h;exact qgj value slice pins st σ' H x y v u Q I rx ry ⟨z,i,c,h1.str e2,h2.int e1,hz,e3,h _ G H (Po.refl er) (by simp only [RvR,Rep])⟩ hs
  | none=>
   rw [e2] at h;dsimp only at h
   cases e3:seqD r with
   | none=>rw [e3] at h;exact h.elim
   | some l=>
    rw [e3] at h;dsimp only at h
    cases e4:atI l i with
    | none=>rw [e4] at h;exact h.elim
    | some d=>
     rw [e4] at h;obtain ⟨a,xs,p1,p2,p3⟩:=h1.seq er e3;obtain ⟨w,p4,p5⟩:=qco p3 e4;rcases p2 with p2 | p2
     ·exact qeg value slice pins st σ' H x y v u Q I rx ry ⟨a,xs,i,w,p1,h2.int e1,by rw [gd.hK];exact p2,p4,h w G H (Po.refl er) p5⟩ hs
     ·exact qgi value slice pins st σ' H x y v u Q I rx ry ⟨a,xs,i,w,p1,h2.int e1,by rw [gd.hK];exact p2,p4,h w G H (Po.refl er) p5⟩ hs
theorem qgQ (gd:Gd κ K k X Γ):L2.SlR X (qkD κ K G₀ H₀):=by
 rintro pins st σ' H x v vl vu lo hi sl Q I rx hs pl pu ⟨ρ,σ,G,Hb,r,er,h1,h⟩;unfold sliceD at h
 cases e2:r.str? with
 | some z=>rw [e2] at h;dsimp only at h;obtain ⟨hz,h⟩:=Wk.iff h;exact qgD pins st σ' H x v vl vu lo hi sl Q I rx hs pl pu ⟨z,h1.str e2,hz,h _ G H (Po.refl er) (by simp only [RvR,Rep])⟩
 | none=>rw [e2] at h;dsimp only at h;obtain ⟨l,e1,h⟩:=Wk.of (Wk.th h);obtain ⟨a,xs,p1,p2,p3⟩:=h1.list er e1;refine qeh pins st σ' H x v vl vu lo hi sl Q I rx hs pl pu ⟨a,xs,p1,by rw [gd.hK];exact p2,fun p hp=>?_⟩;obtain ⟨z1,z2⟩:=er.newList hp (qcp (lo:=lo) (hi:=hi) p3);exact h _ _ _ z1 z2
theorem qgR (gd:Gd κ K k X Γ):qY X (.builtin "len") (rC1 κ K G₀ H₀ lenD):=by
 rintro pins st σ' H xs us Q I rs ⟨ρ,σ,G,Hb,r,x,hx,er,h1,h⟩;unfold lenD at h
 cases e2:r.str? with
 | some z=>rw [e2] at h;dsimp only at h;obtain ⟨hz,h⟩:=Wk.iff h;exact Yo pins st σ' H xs us Q I rs ⟨z,by rw [hx,h1.str e2],hz,h _ G H (Po.refl er) (by simp only [RvR,Rep])⟩
 | none=>
  rw [e2] at h;dsimp only at h
  cases e3:seqD r with
  | none=>rw [e3] at h;exact h.elim
  | some l=>rw [e3] at h;obtain ⟨a,ys,p1,p2,p3⟩:=h1.seq er e3;refine yd pins st σ' H xs us Q I rs ⟨a,ys,by rw [hx,p1],by rw [gd.hK];exact p2,?_⟩;rw [<-p3.len];exact h _ G H (Po.refl er) (by simp only [RvR,Rep])
theorem qeB (gd:Gd κ K k X Γ):qY X (.type "list") (rC1 κ K G₀ H₀ listD):=by
 rintro pins st σ' H xs us Q I rs ⟨ρ,σ,G,Hb,r,x,hx,er,h1,h⟩;unfold listD at h
 cases e3:seqD r with
 | none=>rw [e3] at h;exact h.elim
 | some l=>rw [e3] at h;obtain ⟨a,ys,p1,p2,p3⟩:=h1.seq er e3;refine jb pins st σ' H xs us Q I rs ⟨a,ys,by rw [hx,p1],by rw [gd.hK];exact p2,fun p hp=>?_⟩;obtain ⟨z1,z2⟩:=er.newList hp p3;exact h _ _ _ z1 z2
theorem ZG (a b c:Int×Int) (h1:J5 a b=true) (h2:J5 b c=true):J5 a c=true:=by simp only [J5,Bool.or_eq_true,Bool.and_eq_true,decide_eq_true_eq] at *;omega
theorem ZH (a b:Int×Int):(J5 a b||J5 b a)=true:=by simp only [J5,Bool.or_eq_true,Bool.and_eq_true,decide_eq_true_eq] at *;omega
theorem qcq {ps qs:List (Int×Int)} (p:qs.Perm ps) (s:qs.Pairwise qaz):j5 ps=qs:=by
 have s1:(j5 ps).Pairwise fun a b=>J5 a b=true:=List.pairwise_mergeSort ZG ZH ps
 have s2:qs.Pairwise fun a b=>J5 a b=true:=s.imp fun {a b} h=>by simp only [J5,Bool.or_eq_true,Bool.and_eq_true,decide_eq_true_eq];exact h
 refine List.Perm.eq_of_pairwise (fun a b _ _ h1 h2=>?_) s1 s2 ((List.mergeSort_perm ps J5).trans p.symm);simp only [J5,Bool.or_eq_true,Bool.and_eq_true,decide_eq_true_eq] at h1 h2;exact Prod.ext (1:) (1:)
theorem QX {G:Hp}:∀ {l:List D} {xs:List V} {ps:List (Int×Int)},qq κ G l xs->qdy l=some ps->Paired (fun x (p:Int×Int)=>∃ a,x=V.ref a/\G a=some (.tup [.int p.1,.int p.2])) xs ps
 | [],xs,ps,r,h=>by simp only [qq] at r;subst r;cases h;exact .nil
 | d::l,xs,ps,r,h=>by
  simp only [qq] at r;obtain ⟨x,us,rfl,r1,r2⟩:=r;unfold qdy at h
  cases e1:prD d with
  | none=>rw [e1] at h;cases h
  | some p=>
   cases e2:qdy l with
   | none=>rw [e1,e2] at h;cases h
   | some qs=>
    rw [e1,e2] at h;cases h;refine .cons ?_ (QX r2 e2);unfold prD at e1
    split at e1
    ·cases e1;simp only [Rep,qq] at r1;obtain ⟨a,ys,rfl,h1,x1,z1,rfl,rfl,x2,z2,rfl,rfl,rfl⟩:=r1;exact ⟨a,rfl,h1⟩
    ·cases e1
theorem Paired.memL {α β:Type} {R:α->β->Prop}:∀ {l:List α} {m:List β},Paired R l m->∀ a∈l,∃ b,R a b
 | _,_,.nil,a,h=>by cases h
 | _,_,.cons r rs,a,h=>by
  cases h with
  | head=>exact ⟨_,r⟩
  | tail _ h=>exact Paired.memL rs a h
theorem ZI {G H:Hp} (sub:qv G H) {xs:List V} (f:∀ x∈xs,∃ p:Int×Int,∃ a,x=V.ref a/\G a=some (.tup [.int p.1,.int p.2])) {ys:List V} {qs:List (Int×Int)} (hm:∀ y∈ys,y∈xs) (h:Paired (P2 K H) ys qs):qq κ G (qs.map pD) ys:=by
 induction h with
 | nil=>exact .nil
 | cons r rs ih=>refine .cons ?_ (ih fun z hz=>hm z (List.mem_cons_of_mem _ hz));obtain ⟨p,a,rfl,ga⟩:=f _ (hm _ (List.mem_cons_self ..));obtain ⟨b,eb,hb⟩:=r;cases eb;rw [sub _ _ ga] at hb;rw [hb] at ga;simp only [pD,Rep,qq];exact ⟨a,_,rfl,ga,_,_,rfl,rfl,_,_,rfl,rfl,rfl⟩
theorem qaS (gd:Gd κ K k X Γ):qY X (.builtin "sorted") (rC1 κ K G₀ H₀ yL):=by
 rintro pins st σ' H xs us Q I rs ⟨ρ,σ,G,Hb,r,x,hx,er,h1,h⟩;unfold yL at h
 cases e3:r.list? with
 | none=>rw [e3] at h;exact h.elim
 | some l=>
  rw [e3] at h;dsimp only at h
  cases e4:qdy l with
  | none=>rw [e4] at h;exact h.elim
  | some ps=>
   rw [e4] at h;dsimp only at h;obtain ⟨h64,h⟩:=Wk.iff h;obtain ⟨a,ys,p1,p2,p3⟩:=h1.list er e3;have pr:=QX p3 e4
   have hlen:ys.length < 64:=by
    have:∀ {xs:List V} {ps:List (Int×Int)} {R:V->Int×Int->Prop},Paired R xs ps->xs.length=ps.length:=by
     intro xs ps R q
     induction q with
     | nil=>rfl
     | cons _ _ ih=>simp [ih]
    rw [this pr];exact h64
   have pr2:Paired (P2 X.K H) ys ps:=by
    have:∀ {ys:List V} {ps:List (Int×Int)},Paired (fun x (p:Int×Int)=>∃ a,x=V.ref a/\G a=some (.tup [.int p.1,.int p.2])) ys ps->Paired (P2 X.K H) ys ps:=by
     intro ys ps q
     induction q with
     | nil=>exact .nil
     | cons r rs ih=>obtain ⟨a,e,ga⟩:=r;exact .cons ⟨a,e,er.sub _ _ ga⟩ ih
    exact this pr
   refine JK pins st σ' H xs us Q I rs ⟨a,ys,ps,by rw [hx,p1],by rw [gd.hK];exact p2,hlen,pr2,fun p zs qs hp z1 z2 z3 z4=>?_⟩;have e5:j5 ps=qs:=qcq z3 z4
   have rr:qq κ G ((j5 ps).map pD) zs:=by rw [e5];refine ZI (K:=X.K) er.sub (fun x hx=>?_) (fun y hy=>z2.mem_iff.mp hy) z1;obtain ⟨p,hp⟩:=Paired.memL pr x hx;exact ⟨p,hp⟩
   obtain ⟨w1,w2⟩:=er.newList hp rr;exact h _ _ _ w1 w2
theorem qaT {G:Hp}:∀ {l:List D} {xs:List V} {ns:List Int},qq κ G l xs->qaP l=some ns->xs=ns.map V.int
 | [],xs,ns,r,h=>by simp only [qq] at r;subst r;cases h;rfl
 | d::l,xs,ns,r,h=>by
  simp only [qq] at r;obtain ⟨x,us,rfl,r1,r2⟩:=r
  cases d with
  | int i=>unfold qaP at h;obtain ⟨ms,e1,rfl⟩:=Option.map_eq_some_iff.mp h;simp only [Rep] at r1;rw [r1,qaT r2 e1];rfl
  | _=>cases h
theorem qgS (gd:Gd κ K k X Γ):qY X (.builtin "sum") (rC1 κ K G₀ H₀ qiA):=by
 rintro pins st σ' H xs us Q I rs ⟨ρ,σ,G,Hb,r,x,hx,er,h1,h⟩;unfold qiA at h
 cases e3:r.list? with
 | none=>rw [e3] at h;exact h.elim
 | some l=>
  rw [e3] at h;dsimp only at h
  cases e4:qaP l with
  | none=>rw [e4] at h;exact h.elim
  | some ns=>rw [e4] at h;obtain ⟨a,ys,p1,p2,p3⟩:=h1.list er e3;rw [qaT p3 e4] at p2;exact qaE gd.calm pins st σ' H xs us Q I rs ⟨a,ns,by rw [hx,p1],by rw [gd.hK];exact p2,h _ G H (Po.refl er) (by simp only [RvR,Rep])⟩
theorem qdE {G:Hp}:∀ {l:List D} {xs:List V} {ns:List Bool},qq κ G l xs->qgK l=some ns->xs=ns.map V.bl
 | [],xs,ns,r,h=>by simp only [qq] at r;subst r;cases h;rfl
 | d::l,xs,ns,r,h=>by
  simp only [qq] at r;obtain ⟨x,us,rfl,r1,r2⟩:=r
  cases d with
  | bl i=>unfold qgK at h;obtain ⟨ms,e1,rfl⟩:=Option.map_eq_some_iff.mp h;simp only [Rep] at r1;rw [r1,qdE r2 e1];rfl
  | _=>cases h
theorem qgT (gd:Gd κ K k X Γ):qY X (.builtin "all") (rC1 κ K G₀ H₀ qiB):=by
 rintro pins st σ' H xs us Q I rs ⟨ρ,σ,G,Hb,r,x,hx,er,h1,h⟩;unfold qiB at h
 cases e3:r.list? with
 | none=>rw [e3] at h;exact h.elim
 | some l=>
  rw [e3] at h;dsimp only at h
  cases e4:qgK l with
  | none=>rw [e4] at h;exact h.elim
  | some ns=>rw [e4] at h;obtain ⟨a,ys,p1,p2,p3⟩:=h1.list er e3;rw [qdE p3 e4] at p2;exact qaD gd.calm pins st σ' H xs us Q I rs ⟨a,ns,by rw [hx,p1],by rw [gd.hK];exact p2,h _ G H (Po.refl er) (by simp only [RvR,Rep])⟩
theorem QY {G:Hp}:∀ {l:List D} {xs:List V} {ps:List (Str×Int)},qq κ G l xs->qbN l=some ps->Paired (fun x (p:Str×Int)=>∃ a,x=V.ref a/\G a=some (.tup [.str p.1,.int p.2])) xs ps
 | [],xs,ps,r,h=>by simp only [qq] at r;subst r;cases h;exact .nil
 | d::l,xs,ps,r,h=>by
  simp only [qq] at r;obtain ⟨x,us,rfl,r1,r2⟩:=r;unfold qbN at h
  cases e1:kvD d with
  | none=>rw [e1] at h;cases h
  | some p=>
   cases e2:qbN l with
   | none=>rw [e1,e2] at h;cases h
   | some qs=>
    rw [e1,e2] at h;cases h;refine .cons ?_ (QY r2 e2);unfold kvD at e1
    split at e1
    ·cases e1;simp only [Rep,qq] at r1;obtain ⟨a,ys,rfl,h1,x1,z1,rfl,rfl,x2,z2,rfl,rfl,rfl⟩:=r1;exact ⟨a,rfl,h1⟩
    ·cases e1
theorem qcr {n:Int} {x y r:Rv} (h:Yz n x y=.ok r):∃ l k kvs,x.list?=some l/\y.str?=some k/\qbN l=some kvs/\(kvs.map (·.1)).Nodup/\r=.val (.int ((qew kvs k).getD n)):=by
 unfold Yz at h
 cases e1:x.list? with
 | none=>rw [e1] at h;cases h
 | some l=>
  cases e2:y.str? with
  | none=>rw [e1,e2] at h;cases h
  | some k=>
   rw [e1,e2] at h;dsimp only at h
   cases e3:qbN l with
   | none=>rw [e3] at h;cases h
   | some kvs=>
    rw [e3] at h;dsimp only at h
    split at h
    ·rename_i nd;cases h;exact ⟨l,k,kvs,rfl,rfl,e3,nd,rfl⟩
    ·cases h
theorem qaU (k:Str):∀ kvs:List (Str×Int),qaF (kvs.map kvV) (.inr k)=(qew kvs k).map V.int
 | []=>rfl
 | kv::l=>by
  have ih:=qaU k l;unfold qew at ih ⊢
  by_cases e:kv.1=k
  ·rw [List.map_cons,JG (show (kvV kv).1=.inr k by rw [<-e];rfl),List.find?_cons,show decide (kv.1=k)=true from decide_eq_true e];rfl
  ·rw [List.map_cons,JH (show ¬ (kvV kv).1=.inr k from fun z=>e (by cases z;rfl)),List.find?_cons,show decide (kv.1=k)=false from decide_eq_false e];exact ih
theorem qgU:qY X (.type "int") (rC1 κ K G₀ H₀ intD):=by
 rintro pins st σ' H xs us Q I rs ⟨ρ,σ,G,Hb,r,x,hx,er,h1,h⟩;unfold intD at h
 cases e3:r.int? with
 | some i=>rw [e3] at h;exact Ye pins st σ' H xs us Q I rs (.inl ⟨i,by rw [hx,h1.int e3],h _ G H (Po.refl er) (by simp only [RvR,Rep])⟩)
 | none=>
  rw [e3] at h;dsimp only at h
  cases e4:r.bl? with
  | none=>rw [e4] at h;exact h.elim
  | some b=>rw [e4] at h;exact Ye pins st σ' H xs us Q I rs (.inr ⟨b,by rw [hx,h1.bl e4],h _ G H (Po.refl er) (by simp only [RvR,Rep])⟩)
theorem qgV (gd:Gd κ K k X Γ):qY X (.builtin "max") (rC2 κ K G₀ H₀ maxD):=by rintro pins st σ' H xs us Q I rs ⟨ρ,σ,G,Hb,Hc,r,s,x,y,hx,er,h1,h2,h⟩;obtain ⟨i,j,e1,e2,h⟩:=Qi h;exact qah gd.calm pins st σ' H xs us Q I rs ⟨i,j,by rw [hx,h1.int e1,h2.int e2],h _ G H (Po.refl er) (by simp only [RvR,Rep])⟩
theorem qgW (gd:Gd κ K k X Γ):qY X (.builtin "min") (rC2 κ K G₀ H₀ minD):=by rintro pins st σ' H xs us Q I rs ⟨ρ,σ,G,Hb,Hc,r,s,x,y,hx,er,h1,h2,h⟩;obtain ⟨i,j,e1,e2,h⟩:=Qi h;exact qai gd.calm pins st σ' H xs us Q I rs ⟨i,j,by rw [hx,h1.int e1,h2.int e2],h _ G H (Po.refl er) (by simp only [RvR,Rep])⟩
theorem qcs (gd:Gd κ K k X Γ) {G H Hb:Hp} {ρ:Env} {σ:St} {r:Rv} {x:V} {b:Bool} (er:ER κ K G₀ H₀ G H ρ σ) (h:RvR κ K H₀ Hb G H ρ σ r x) (e:truthD r=some b):qiy X.K x H b:=by
 have sq:∀ {r:Rv},RvR κ K H₀ Hb G H ρ σ r x->(seqD r).map (fun l=>!l.isEmpty)=some b->qiy X.K x H b:=fun {r} h e=>by
  obtain ⟨l,e1,rfl⟩:=Option.map_eq_some_iff.mp e;obtain ⟨a,xs,rfl,p2,p3⟩:=h.seq er e1
  have hl:(!l.isEmpty) = !xs.isEmpty:=by
   have:=p3.len
   cases l<;>cases xs<;>simp_all
  rw [hl,gd.hK];rcases p2 with p2 | p2
  ·exact .inl ⟨xs,p2,rfl⟩
  ·exact .inr (.inl ⟨xs,p2,rfl⟩)
 cases r with
 | val d=>
  cases d with
  | non=>simp only [RvR,Rep] at h;subst h;simp only [truthD] at e;cases e;exact rfl
  | bl c=>simp only [RvR,Rep] at h;subst h;simp only [truthD] at e;cases e;exact rfl
  | int c=>simp only [RvR,Rep] at h;subst h;simp only [truthD] at e;cases e;exact rfl
  | str c=>
   simp only [RvR,Rep] at h;subst h;simp only [truthD] at e
   by_cases hz:c.length<=sizeLine
   ·rw [if_pos hz] at e;cases e;exact ⟨hz,rfl⟩
   ·rw [if_neg hz] at e;cases e
  | lst l=>exact sq h e
  | tup l=>exact sq h e
  | ins c ns l=>exact sq h e
 | tmp l=>exact sq h e
 | cell l=>exact sq h e
 | scr l=>exact sq h e
end
end DE
namespace DE
open PySem PySem.Spec PyProof.Rows L2
structure All (κ:KC) (K:Frag) (k:Nat) (X:Cx) (Γ:Ct) (m:Nat):Prop where
 r:∀ G₀ H₀ e,PE X e (tR κ K G₀ H₀ Γ m e)
 e:∀ G₀ H₀ e,PE X e (tE κ K G₀ H₀ Γ m e)
 t:∀ G₀ H₀ e,PT X e (tT κ K G₀ H₀ Γ m e)
 es:∀ G₀ H₀ es,PA X es (tEs κ K G₀ H₀ Γ m es)
 as:∀ G₀ H₀ es,PA X es (tAs κ K G₀ H₀ Γ m es)
 o:∀ G₀ H₀ o,PO X o (tO κ K G₀ H₀ Γ m o)
 f:∀ G₀ H₀ es,PIf X es (tF κ K G₀ H₀ Γ m es)
 l:∀ G₀ H₀ e,PE X e (tL κ K G₀ H₀ Γ m e)
 i:∀ G₀ H₀ tg e,PI X tg e (tI κ K G₀ H₀ Γ m (J6 tg) e)
section
variable {κ:KC} {K:Frag} {G₀ H₀:Hp} {k m:Nat} {X:Cx} {Γ:Ct}
theorem qjf:All κ K k X Γ 0:=
 ⟨fun _ _ e=>qj fun _ _ _ ⟨_,_,_,h⟩=>h,fun _ _ e=>qj fun _ _ _ ⟨_,_,_,h⟩=>h,fun _ _ e=>zd fun _ _ _ ⟨_,_,_,h⟩=>h,fun _ _ e=>JN fun _ _ _ ⟨_,_,_,h⟩=>h,fun _ _ e=>JN fun _ _ _ ⟨_,_,_,h⟩=>h,
  fun _ _ e=>qjb fun _ _ _ ⟨_,_,_,h⟩=>h,fun _ _ e=>QU fun _ _ _ ⟨_,_,_,h⟩=>h,fun _ _ e=>qj fun _ _ _ ⟨_,_,_,h⟩=>h,fun _ _ _ e=>qL fun _ _ _ ⟨_,_,_,h⟩=>h⟩
theorem QZ (c:Const) (j:Nat) (pos:Pos):PE X (.Constant c j pos) (tR κ K G₀ H₀ Γ (m+1) (.Constant c j pos)):=by
 cases c with
 | none=>exact PE.imp qfT fun σ H Q ⟨ρ,G,er,h⟩=>h _ G H (Po.refl er) (by simp only [RvR,Rep])
 | bool b=>exact PE.imp qiI fun σ H Q ⟨ρ,G,er,h⟩=>h _ G H (Po.refl er) (by simp only [RvR,Rep])
 | int b=>exact PE.imp J8 fun σ H Q ⟨ρ,G,er,h⟩=>h _ G H (Po.refl er) (by simp only [RvR,Rep])
 | str b=>exact PE.imp qfU fun σ H Q ⟨ρ,G,er,h⟩=>h _ G H (Po.refl er) (by simp only [RvR,Rep])
 | _=>exact qj fun σ H Q h=>Exists.elim h fun _ h=>Exists.elim h fun _ h=>h.2
theorem qct (A:All κ K k X Γ m) (a b:Expr) (op:Operator) (pos:Pos):PE X (.BinOp a op b pos) (tR κ K G₀ H₀ Γ (m+1) (.BinOp a op b pos)):=by refine PE.imp (qiU (qgO (κ:=κ) (K:=K) (G₀:=G₀) (H₀:=H₀) op) (A.r G₀ H₀ a) (A.r G₀ H₀ b)) fun σ H Q hq1=>?_;obtain ⟨ρ,G,er,h⟩:=hq1;refine ⟨ρ,G,er,Wk.mono (Wk.th (x:=evR m Γ a ρ) h) fun x h v G1 H1 p1 r1=>⟨x.2,G1,p1.er,Wk.mono (Wk.th h) fun y h w G2 H2 p2 r2=>?_⟩⟩;exact ⟨y.2,σ,G2,H,H1,x.1,y.1,p2.er,r1.keep p2,r2,Wk.mono (Wk.th h) fun z h u G3 H3 p3 r3=>h u G3 H3 (p1.trans (p2.trans p3)) (r3.back (p1.trans p2).hs)⟩
theorem qgX (A:All κ K k X Γ m) (a:Expr) (pos:Pos):PE X (.UnaryOp .USub a pos) (tR κ K G₀ H₀ Γ (m+1) (.UnaryOp .USub a pos)):=by
 refine PE.imp (qiV qga (A.r G₀ H₀ a)) fun σ H Q hq1=>?_;obtain ⟨ρ,G,er,h⟩:=hq1;refine ⟨ρ,G,er,Wk.mono (Wk.th (x:=evR m Γ a ρ) h) fun x h v G1 H1 p1 r1=>?_⟩;obtain ⟨rv,ρ1⟩:=x
 cases rv with
 | val d=>
  cases d with
  | int i=>exact ⟨i,by simpa only [RvR,Rep] using r1,h _ G1 H1 p1 (by simp only [RvR,Rep])⟩
  | _=>exact False.elim h
 | _=>exact False.elim h
theorem qeC (A:All κ K k X Γ m) (a:Expr) (pos:Pos):PE X (.UnaryOp .Not a pos) (tR κ K G₀ H₀ Γ (m+1) (.UnaryOp .Not a pos)):=by
 refine PE.imp (qfY (A.r G₀ H₀ a)) fun σ H Q hq1=>?_;obtain ⟨ρ,G,er,h⟩:=hq1;refine ⟨ρ,G,er,Wk.mono (Wk.th (x:=evR m Γ a ρ) h) fun x h v G1 H1 p1 r1=>?_⟩;obtain ⟨rv,ρ1⟩:=x
 cases rv with
 | val d=>
  cases d with
  | bl i=>exact ⟨i,by simpa only [RvR,Rep] using r1,h _ G1 H1 p1 (by simp only [RvR,Rep])⟩
  | _=>exact False.elim h
 | _=>exact False.elim h
theorem qeD (gd:Gd κ K k X Γ) (A:All κ K k X Γ m) (a b:Expr) (op:CmpOp) (pos:Pos):PE X (.Compare a [op] [b] pos) (tR κ K G₀ H₀ Γ (m+1) (.Compare a [op] [b] pos)):=by
 by_cases hm:behindInMarks op b=true
 ·refine qj fun σ H Q hq1=>?_;obtain ⟨ρ,G,er,h⟩:=hq1;have h:=Wk.th (x:=evR m Γ a ρ) h
  cases e1:evR m Γ a ρ with
  | ok x=>
   rw [e1] at h;have h:=Wk.th (x:=evR m Γ b x.2) h
   cases e2:evR m Γ b x.2 with
   | ok y=>rw [e2] at h;exact (Wk.nif h).1 hm
   | exc c l=>rw [e2] at h;exact h
   | no=>rw [e2] at h;exact h
  | exc c l=>rw [e1] at h;exact h
  | no=>rw [e1] at h;exact h
 refine PE.imp (qd6 (QW (G₀:=G₀) (H₀:=H₀) gd op) (A.r G₀ H₀ a) (A.r G₀ H₀ b) (Bool.eq_false_iff.mpr hm)) fun σ H Q hq1=>?_;obtain ⟨ρ,G,er,h⟩:=hq1;refine ⟨ρ,G,er,Wk.mono (Wk.th (x:=evR m Γ a ρ) h) fun x h v G1 H1 p1 r1=>⟨x.2,G1,p1.er,Wk.mono (Wk.th (x:=evR m Γ b x.2) h) fun y h w G2 H2 p2 r2=>?_⟩⟩;obtain ⟨c,e,h⟩:=Wk.of (Wk.th (Wk.nif h).2);exact ⟨y.2,σ,G2,H,H1,x.1,y.1,c,p2.er,r1.keep p2,r2,e,h _ G2 H2 (p1.trans p2) (by simp only [RvR,Rep])⟩
theorem qcu (gd:Gd κ K k X Γ) (A:All κ K k X Γ m) (a b:Expr) (op:CmpOp) (pos:Pos) (he:∀ ρ,evT (m+1) Γ (.Compare a [op] [b] pos) ρ=(evR m Γ a ρ).th fun x=>(evR m Γ b x.2).th fun y=>if behindInMarks op b then .no else (R.of (jQ op x.1 y.1)).th fun r=>.ok (r,y.2)):PT X (.Compare a [op] [b] pos) (tT κ K G₀ H₀ Γ (m+1) (.Compare a [op] [b] pos)):=by
 by_cases hm:behindInMarks op b=true
 ·refine zd fun σ H Q hq1=>?_;obtain ⟨ρ,G,er,h⟩:=hq1;rw [he] at h;have h:=Wk.th (x:=evR m Γ a ρ) h
  cases e1:evR m Γ a ρ with
  | ok x=>
   rw [e1] at h;have h:=Wk.th (x:=evR m Γ b x.2) h
   cases e2:evR m Γ b x.2 with
   | ok y=>rw [e2] at h;exact (Wk.nif h).1 hm
   | exc c l=>rw [e2] at h;exact h
   | no=>rw [e2] at h;exact h
  | exc c l=>rw [e1] at h;exact h
  | no=>rw [e1] at h;exact h
 refine PT.imp (qag (QW (G₀:=G₀) (H₀:=H₀) gd op) (A.r G₀ H₀ a) (A.r G₀ H₀ b) (Bool.eq_false_iff.mpr hm)) fun σ H Q hq1=>?_;obtain ⟨ρ,G,er,h⟩:=hq1;rw [he] at h;refine ⟨ρ,G,er,Wk.mono (Wk.th (x:=evR m Γ a ρ) h) fun x h v G1 H1 p1 r1=>⟨x.2,G1,p1.er,Wk.mono (Wk.th (x:=evR m Γ b x.2) h) fun y h w G2 H2 p2 r2=>?_⟩⟩;obtain ⟨c,e,h⟩:=Wk.of (Wk.th (Wk.nif h).2);exact ⟨y.2,σ,G2,H,H1,x.1,y.1,c,p2.er,r1.keep p2,r2,e,c,rfl,h G2 H2 (p1.trans p2)⟩
theorem qgY {op:CmpOp} {b t:Expr} (h:irE Γ op b=some t):op=.NotIn/\∃ p q,b=.Call (.Name "range" p) [t] [] q/\glB Γ.sc "range" = true/\qh t=false:=by
 unfold irE at h
 split at h
 ·split at h
  ·rename_i hc;cases h;obtain ⟨rfl,h1,h2⟩:=hc;exact ⟨rfl,_,_,rfl,h1,h2⟩
  ·cases h
 ·cases h
theorem qeE {x y r:Rv} (h:qdz x y=.ok r):∃ i j,x.int?=some i/\y.int?=some j/\r=.val (.bl (!decide (0<=i/\i < j))):=by
 unfold qdz at h
 split at h
 ·rename_i i j e1 e2;cases h;exact ⟨i,j,e1,e2,rfl⟩
 ·cases h
theorem qeF (gd:Gd κ K k X Γ) (A:All κ K k X Γ m) (a b:Expr) (op:CmpOp) (pos:Pos):PT X (.Compare a [op] [b] pos) (tT κ K G₀ H₀ Γ (m+1) (.Compare a [op] [b] pos)):=by
 cases hi:irE Γ op b with
 | none=>refine qcu gd A a b op pos fun ρ=>?_;show (match irE Γ op b with | some t=>_ | none=>_)=_;rw [hi]
 | some t=>
  have he:∀ ρ,evT (m+1) Γ (.Compare a [op] [b] pos) ρ=(evR m Γ a ρ).th fun x=>(evR m Γ t x.2).th fun y=>(qdz x.1 y.1).th fun r=>(R.of (truthD r)).th fun b=>.ok (b,y.2):=fun ρ=>by show (match irE Γ op b with | some t=>_ | none=>_)=_;rw [hi]
  obtain ⟨rfl,p,q,rfl,hg,s1⟩:=qgY hi;refine PT.imp (qag qaM (A.r G₀ H₀ a) (qQ qaK (gd.glo _ hg) (gd.blt _ (2:)) PyProof.Rows.boot_range (qg (A.r G₀ H₀ t) qu (qe s1)) (2:) (2:) (qe s1) rfl) rfl) fun σ H Q hq1=>?_;obtain ⟨ρ,G,er,h⟩:=hq1;rw [he] at h;refine ⟨ρ,G,er,Wk.mono (Wk.th (x:=evR m Γ a ρ) h) fun x h v G1 H1 p1 r1=>⟨x.2,G1,p1.er,Wk.mono (Wk.th (x:=evR m Γ t x.2) h) fun y h w G2 H2 p2 r2=>?_⟩⟩;have h:=Wk.th (x:=qdz x.1 y.1) h
  cases e3:qdz x.1 y.1 with
  | exc c l=>rw [e3] at h;exact h.elim
  | no=>rw [e3] at h;exact h.elim
  | ok r=>
  rw [e3] at h;obtain ⟨i,j,z1,z2,rfl⟩:=qeE e3;refine ⟨j,by rw [r2.int z2],fun d hd=>⟨i,0,j,d,(r1.keep p2).int z1,rfl,qi,_,rfl,?_⟩⟩;exact h G2 _ (p1.trans (p2.trans (Po.room p2.er (qv.upd hd))))
theorem qaV (gd:Gd κ K k X Γ) (A:All κ K k X Γ m) (a b c:Expr) (op op':CmpOp) (pos:Pos):PT X (.Compare a [op,op'] [b,c] pos) (tT κ K G₀ H₀ Γ (m+1) (.Compare a [op,op'] [b,c] pos)):=by
 by_cases hm:lastMarks [op,op'] [b,c]=true
 ·refine zd fun σ H Q hq1=>?_;obtain ⟨ρ,G,er,h⟩:=hq1;exact (Wk.nif (c:=lastMarks [op,op'] [b,c]=true) h).1 hm
 refine PT.imp (qbU (QW (G₀:=G₀) (H₀:=H₀) gd op) (QW (G₀:=G₀) (H₀:=H₀) gd op') (A.r G₀ H₀ a) (A.r G₀ H₀ b) (A.r G₀ H₀ c) (Bool.eq_false_iff.mpr hm)) fun σ H Q hq1=>?_;obtain ⟨ρ,G,er,h⟩:=hq1;have h:=(Wk.nif (c:=lastMarks [op,op'] [b,c]=true) h).2;refine ⟨ρ,G,er,Wk.mono (Wk.th (x:=evR m Γ a ρ) h) fun x h v G1 H1 p1 r1=>⟨x.2,G1,p1.er,Wk.mono (Wk.th (x:=evR m Γ b x.2) h) fun y h w G2 H2 p2 r2=>?_⟩⟩;obtain ⟨c1,e,h⟩:=Wk.of (Wk.th h);refine ⟨y.2,σ,G2,H,H1,x.1,y.1,c1,p2.er,r1.keep p2,r2,e,c1,rfl,?_⟩
 cases c1 with
 | true=>rw [if_pos rfl] at h ⊢;refine ⟨y.2,G2,p2.er,Wk.mono (Wk.th (x:=evR m Γ c y.2) h) fun z h w' G3 H3 p3 r3=>?_⟩;obtain ⟨c2,e2,h⟩:=Wk.of (Wk.th h);exact ⟨z.2,σ,G3,H1,H2,y.1,z.1,c2,p3.er,r2.keep p3,r3,e2,c2,rfl,h G3 H3 (p1.trans (p2.trans p3))⟩
 | false=>rw [if_neg (by simp)] at h ⊢;exact ⟨false,rfl,h G2 H2 (p1.trans p2)⟩
theorem qgZ (A:All κ K k X Γ m) (a b:Expr) (l:List Expr) (pos:Pos):PE X (.BoolOp .And (a::b::l) pos) (tR κ K G₀ H₀ Γ (m+1) (.BoolOp .And (a::b::l) pos)):=by
 refine PE.imp (qfX (A.r G₀ H₀ a) (A.r G₀ H₀ (.BoolOp .And (b::l) pos))) fun σ H Q hq1=>?_;obtain ⟨ρ,G,er,h⟩:=hq1;refine ⟨ρ,G,er,Wk.mono (Wk.th (x:=evR m Γ a ρ) h) fun x h v G1 H1 p1 r1=>?_⟩;obtain ⟨rv,ρ1⟩:=x
 cases rv with
 | val d=>
  cases d with
  | bl c=>
   refine ⟨c,by simpa only [RvR,Rep] using r1,?_⟩
   cases c with
   | true=>rw [if_pos rfl];exact ⟨ρ1,G1,p1.er,Wk.mono h fun y h w G2 H2 p2 r2=>h w G2 H2 (p1.trans p2) (r2.back p1.hs)⟩
   | false=>rw [if_neg (fun z=>by cases z)];exact h _ G1 H1 p1 (by simp only [RvR,Rep])
  | _=>exact False.elim h
 | _=>exact False.elim h
theorem qjg (A:All κ K k X Γ m) (a b:Expr) (l:List Expr) (pos:Pos):PE X (.BoolOp .Or (a::b::l) pos) (tR κ K G₀ H₀ Γ (m+1) (.BoolOp .Or (a::b::l) pos)):=by
 refine PE.imp (qiL (A.r G₀ H₀ a) (A.r G₀ H₀ (.BoolOp .Or (b::l) pos))) fun σ H Q hq1=>?_;obtain ⟨ρ,G,er,h⟩:=hq1;refine ⟨ρ,G,er,Wk.mono (Wk.th (x:=evR m Γ a ρ) h) fun x h v G1 H1 p1 r1=>?_⟩;obtain ⟨rv,ρ1⟩:=x
 cases rv with
 | val d=>
  cases d with
  | bl c=>
   refine ⟨c,by simpa only [RvR,Rep] using r1,?_⟩
   cases c with
   | false=>rw [if_neg (fun z=>by cases z)];exact ⟨ρ1,G1,p1.er,Wk.mono h fun y h w G2 H2 p2 r2=>h w G2 H2 (p1.trans p2) (r2.back p1.hs)⟩
   | true=>rw [if_pos rfl];exact h _ G1 H1 p1 (by simp only [RvR,Rep])
  | _=>exact False.elim h
 | _=>exact False.elim h
theorem qg0 (A:All κ K k X Γ m) (c a b:Expr) (pos:Pos):PE X (.IfExp c a b pos) (tR κ K G₀ H₀ Γ (m+1) (.IfExp c a b pos)):=by
 refine PE.imp (qbQ (A.t G₀ H₀ c) (A.r G₀ H₀ a) (A.r G₀ H₀ b)) fun σ H Q hq1=>?_;obtain ⟨ρ,G,er,h⟩:=hq1;refine ⟨ρ,G,er,Wk.mono (Wk.th (x:=evT m Γ c ρ) h) fun x h G1 H1 p1=>?_⟩;obtain ⟨d,ρ1⟩:=x
 cases d with
 | true=>rw [if_pos rfl];exact ⟨ρ1,G1,p1.er,Wk.mono h fun y h w G2 H2 p2 r2=>h w G2 H2 (p1.trans p2) (r2.back p1.hs)⟩
 | false=>rw [if_neg (fun z=>by cases z)];exact ⟨ρ1,G1,p1.er,Wk.mono h fun y h w G2 H2 p2 r2=>h w G2 H2 (p1.trans p2) (r2.back p1.hs)⟩
theorem ZJ {b:Expr} (h:∀ lo hi st p,b≠.Slice lo hi st p):qao b:=fun o i=>by cases b<;>first | rfl | exact absurd rfl (h _ _ _ _)
theorem qg1 (gd:Gd κ K k X Γ) (A:All κ K k X Γ m) (a b:Expr) (pos:Pos):PE X (.Subscript a b pos) (tR κ K G₀ H₀ Γ (m+1) (.Subscript a b pos)):=by
 have gen:(∀ lo hi st p,b≠.Slice lo hi st p)->(∀ ρ,evR (m+1) Γ (.Subscript a b pos) ρ=(evR m Γ a ρ).th fun x=>(evR m Γ b x.2).th fun y=>(idxD x.1 y.1).th fun r=>.ok (r,y.2))->PE X (.Subscript a b pos) (tR κ K G₀ H₀ Γ (m+1) (.Subscript a b pos)):=fun hb he=>by refine PE.imp (qi2 (qgP (G₀:=G₀) (H₀:=H₀) gd) (A.r G₀ H₀ a) (A.r G₀ H₀ b) (ZJ hb)) fun σ H Q hq1=>?_;obtain ⟨ρ,G,er,h⟩:=hq1;rw [he] at h;refine ⟨ρ,G,er,Wk.mono (Wk.th h) fun x h v G1 H1 p1 r1=>⟨x.2,G1,p1.er,Wk.mono (Wk.th h) fun y h w G2 H2 p2 r2=>?_⟩⟩;exact ⟨y.2,σ,G2,H,H1,x.1,y.1,p2.er,r1.keep p2,r2,Wk.mono (Wk.th h) fun z h u G3 H3 p3 r3=>h u G3 H3 (p1.trans (p2.trans p3)) (r3.back (p1.trans p2).hs)⟩
 cases b with
 | Slice lo hi st p=>
  cases st with
  | some st=>exact qj fun σ H Q h=>Exists.elim h fun _ h=>Exists.elim h fun _ h=>h.2
  | none=>refine PE.imp (qb5 (qgQ (G₀:=G₀) (H₀:=H₀) gd) (A.r G₀ H₀ a) (A.o G₀ H₀ lo) (A.o G₀ H₀ hi)) fun σ H Q hq1=>?_;obtain ⟨ρ,G,er,h⟩:=hq1;refine ⟨ρ,G,er,Wk.mono (Wk.th (x:=evR m Γ a ρ) h) fun x h v G1 H1 p1 r1=>⟨x.2,G1,p1.er,Wk.mono (Wk.th (x:=evO m Γ lo x.2) h) fun y h G2 H2 p2=>⟨y.2,G2,p2.er,Wk.mono (Wk.th (x:=evO m Γ hi y.2) h) fun z h G3 H3 p3=>?_⟩⟩⟩;exact ⟨z.2,σ,G3,H,x.1,p3.er,(r1.keep p2).keep p3,Wk.mono (Wk.th h) fun u h w G4 H4 p4 r4=>h w G4 H4 (p1.trans (p2.trans (p3.trans p4))) (r4.back (p1.trans (p2.trans p3)).hs)⟩
 | _=>exact gen (fun _ _ _ _ z=>by cases z) fun _=>rfl
theorem qg2 (A:All κ K k X Γ m) (es:List Expr) (pos:Pos):PE X (.List es pos) (tR κ K G₀ H₀ Γ (m+1) (.List es pos)):=by refine PE.imp (qgh (A.es G₀ H₀ es)) fun σ H Q hq1=>?_;obtain ⟨ρ,G,er,h⟩:=hq1;refine ⟨ρ,G,er,Wk.mono (Wk.th (x:=qdA m Γ es ρ) h) fun x h vs G1 H1 p1 r1=>?_⟩;obtain ⟨hz,h⟩:=Wk.iff h;refine ⟨by rw [<-r1.len];exact hz,fun p hp=>?_⟩;obtain ⟨z1,z2⟩:=p1.er.newList hp r1;exact h _ _ _ (p1.trans z1) (z2.back p1.hs)
theorem qg3 (A:All κ K k X Γ m) (es:List Expr) (j:Nat) (pos:Pos):PE X (.Tuple es j pos) (tR κ K G₀ H₀ Γ (m+1) (.Tuple es j pos)):=by refine PE.imp (qgg (A.es G₀ H₀ es)) fun σ H Q hq1=>?_;obtain ⟨ρ,G,er,h⟩:=hq1;refine ⟨ρ,G,er,Wk.mono (Wk.th (x:=qdA m Γ es ρ) h) fun x h vs G1 H1 p1 r1=>?_⟩;obtain ⟨hz,h⟩:=Wk.iff h;refine ⟨by rw [<-r1.len];exact hz,fun p hp=>?_⟩;have z1:=Po.lay (o:=.tup vs) p1.er hp;refine h _ _ _ (p1.trans z1) ?_;simp only [RvR,Rep];exact ⟨p,vs,rfl,qi,r1.same z1.gs⟩
theorem qkE (gd:Gd κ K k X Γ) (A:All κ K k X Γ m) (e:Expr):PE X e (tE κ K G₀ H₀ Γ (m+1) e):=by
 have gen:(∀ ρ,evE (m+1) Γ e ρ=(evR m Γ e ρ).th fun x=>match x.1 with
   | .val d=>.ok (d,x.2)
   | .tmp l=>.ok (.lst l,x.2)
   | _=>.no)->PE X e (tE κ K G₀ H₀ Γ (m+1) e):=fun he=>by
  refine PE.imp (A.r G₀ H₀ e) fun σ H Q hq1=>?_;obtain ⟨ρ,G,er,h⟩:=hq1;rw [he] at h;refine ⟨ρ,G,er,Wk.mono (Wk.th h) fun x h v G1 H1 p1 r1=>?_⟩;obtain ⟨rv,ρ1⟩:=x
  cases rv with
  | val d=>exact h v G1 H1 p1 r1
  | tmp l=>obtain ⟨a,xs,rfl,h1,h2,h3,h4,h5,h6⟩:=r1;have p2:=p1.freeze h1 h2 h3 h4 h5;refine h _ _ H1 p2 ?_;simp only [Rep];exact ⟨a,xs,rfl,qi,h6.same (qv.upd h4)⟩
  | cell l=>exact False.elim h
  | scr l=>exact False.elim h
 cases e with
 | Name x pos=>exact qcn gd m x pos
 | _=>exact gen fun _=>rfl
theorem qjh (A:All κ K k X Γ m):∀ es,PA X es (tEs κ K G₀ H₀ Γ (m+1) es)
 | []=>PA.imp qu fun σ H Q ⟨ρ,G,er,h⟩=>h [] G H (Po.refl er) .nil
 | e::l=>by
  by_cases hs:qh e=true
  ·exact JN fun σ H Q ⟨ρ,G,er,h⟩=>(Wk.nif (c:=qh e=true) h).1 hs
  refine PA.imp (qg (A.e G₀ H₀ e) (A.es G₀ H₀ l) (qe (Bool.eq_false_iff.mpr hs))) fun σ H Q hq1=>?_;obtain ⟨ρ,G,er,h⟩:=hq1;have h:=(Wk.nif (c:=qh e=true) h).2;refine ⟨ρ,G,er,Wk.mono (Wk.th h) fun x h v G1 H1 p1 r1=>⟨x.2,G1,p1.er,Wk.mono (Wk.th h) fun y h vs G2 H2 p2 r2=>?_⟩⟩;exact h _ G2 H2 (p1.trans p2) (.cons (r1.same p2.gs) r2)
theorem qji (A:All κ K k X Γ m):∀ es,PA X es (tAs κ K G₀ H₀ Γ (m+1) es)
 | []=>PA.imp qu fun σ H Q ⟨ρ,G,er,h⟩=>h [] G H (Po.refl er) rfl
 | e::l=>by
  by_cases hs:qh e=true
  ·exact JN fun σ H Q ⟨ρ,G,er,h⟩=>(Wk.nif (c:=qh e=true) h).1 hs
  refine PA.imp (qg (A.r G₀ H₀ e) (A.as G₀ H₀ l) (qe (Bool.eq_false_iff.mpr hs))) fun σ H Q hq1=>?_;obtain ⟨ρ,G,er,h⟩:=hq1;have h:=(Wk.nif (c:=qh e=true) h).2;refine ⟨ρ,G,er,Wk.mono (Wk.th h) fun x h v G1 H1 p1 r1=>?_⟩;obtain ⟨rv,ρ1⟩:=x
  cases rv with
  | val d=>exact ⟨ρ1,G1,p1.er,Wk.mono (Wk.th h) fun y h vs G2 H2 p2 r2=>h _ G2 H2 (p1.trans p2) ⟨v,vs,rfl,Rep.same p2.gs r1,r2⟩⟩
  | tmp ds=>obtain ⟨a,xs,rfl,h1,h2,h3,h4,h5,h6⟩:=r1;have p1':=p1.freeze h1 h2 h3 h4 h5;refine ⟨ρ1,_,p1'.er,Wk.mono (Wk.th h) fun y h vs G2 H2 p2 r2=>h _ G2 H2 (p1'.trans p2) ⟨_,vs,rfl,?_,r2⟩⟩;show Rep κ G2 (.lst ds) (.ref a);simp only [Rep];exact ⟨a,xs,rfl,p2.gs _ _ qi,(h6.same (qv.upd h4)).same p2.gs⟩
  | cell ds=>obtain ⟨a,xs,rfl,h1,h6⟩:=r1;exact ⟨ρ1,G1,p1.er,Wk.mono (Wk.th h) fun y h vs G2 H2 p2 r2=>h _ G2 H2 (p1.trans p2) ⟨_,vs,rfl,⟨a,xs,rfl,p2.hs _ _ h1,h6.same p2.gs⟩,r2⟩⟩
  | scr ds=>obtain ⟨a,xs,rfl,h1,h6⟩:=r1;exact ⟨ρ1,G1,p1.er,Wk.mono (Wk.th h) fun y h vs G2 H2 p2 r2=>h _ G2 H2 (p1.trans p2) ⟨_,vs,rfl,⟨a,xs,rfl,p2.hs.seq h1,h6.same p2.gs⟩,r2⟩⟩
theorem qkF (A:All κ K k X Γ m):∀ o,PO X o (tO κ K G₀ H₀ Γ (m+1) o)
 | none=>PO.imp qee fun σ H Q ⟨ρ,G,er,h⟩=>h G H (Po.refl er)
 | some e=>by
  refine PO.imp (qef (A.r G₀ H₀ e)) fun σ H Q hq1=>?_;obtain ⟨ρ,G,er,h⟩:=hq1;refine ⟨ρ,G,er,Wk.mono (Wk.th (x:=evR m Γ e ρ) h) fun x h v G1 H1 p1 r1=>?_⟩;obtain ⟨rv,ρ1⟩:=x
  cases rv with
  | val d=>
   cases d with
   | int i=>exact ⟨i,by simpa only [RvR,Rep] using r1,h G1 H1 p1⟩
   | _=>exact False.elim h
  | _=>exact False.elim h
theorem qkG (A:All κ K k X Γ m):∀ es,PIf X es (tF κ K G₀ H₀ Γ (m+1) es)
 | []=>PIf.imp qem fun σ H Q ⟨ρ,G,er,h⟩=>h G H (Po.refl er)
 | [c]=>PIf.imp (qen (A.t G₀ H₀ c)) fun σ H Q h=>h
 | _::_::_=>QU fun σ H Q h=>Exists.elim h fun _ h=>Exists.elim h fun _ h=>h.2
noncomputable def qdF:Expr->Bool
 | .UnaryOp .Not _ _=>false
 | .BoolOp ..=>false
 | .IfExp ..=>false
 | .Compare ..=>false
 | _=>true
theorem qaW {e:Expr} (h:qdF e=true) (env:PySem.Env):∀ whole,isTrue e env whole=(do let v<-whole;standAt e.pos;holding [v] (truthy v)):=by
 intro whole
 cases e with
 | UnaryOp op a pos=>cases op<;>first | rfl | cases h
 | BoolOp=>cases h
 | IfExp=>cases h
 | Compare=>cases h
 | _=>rfl
theorem qkH (gd:Gd κ K k X Γ) (A:All κ K k X Γ m) (e:Expr):PT X e (tT κ K G₀ H₀ Γ (m+1) e):=by
 have gen:qdF e=true->(∀ ρ,evT (m+1) Γ e ρ=(evR m Γ e ρ).th fun x=>(R.of (truthD x.1)).th fun b=>.ok (b,x.2))->PT X e (tT κ K G₀ H₀ Γ (m+1) e):=fun hp he=>by refine PT.imp (qbV (A.r G₀ H₀ e) (qaW hp X.env)) fun σ H Q hq1=>?_;obtain ⟨ρ,G,er,h⟩:=hq1;rw [he] at h;refine ⟨ρ,G,er,Wk.mono (Wk.th h) fun x h v G1 H1 p1 r1=>?_⟩;obtain ⟨b,e1,h⟩:=Wk.of (Wk.th h);exact ⟨b,qcs gd p1.er r1 e1,h G1 H1 p1⟩
 cases e with
 | UnaryOp op a pos=>
  cases op with
  | Not=>refine PT.imp (Jg (A.t G₀ H₀ a)) fun σ H Q hq1=>?_;obtain ⟨ρ,G,er,h⟩:=hq1;exact ⟨ρ,G,er,Wk.mono (Wk.th (x:=evT m Γ a ρ) h) fun x h G1 H1 p1=>h G1 H1 p1⟩
  | _=>exact gen rfl fun _=>rfl
 | BoolOp op vs pos=>
  cases vs with
  | nil=>exact zd fun σ H Q ⟨ρ,G,er,h⟩=>by cases op<;>exact h
  | cons a vs=>
   cases vs with
   | nil=>
    cases op with
    | And=>exact PT.imp (PW.pt (qdZ (A.t G₀ H₀ a))) fun σ H Q h=>h
    | Or=>exact PT.imp (PW.pt (qfV (A.t G₀ H₀ a))) fun σ H Q h=>h
   | cons b l=>
    cases op with
    | And=>
     intro pins s σ H Q I hw;obtain ⟨ρ,G,er,h⟩:=hw;refine isTrue_and (thn (A.t G₀ H₀ a pins s σ H (fun c H1=>if c=true then tT κ K G₀ H₀ Γ m (.BoolOp .And (b::l) pos) σ H1 Q else Q false H1) I ?_) fun c s1 ⟨H1,I1,q1⟩=>?_)
     ·refine ⟨ρ,G,er,Wk.mono (Wk.th (x:=evT m Γ a ρ) h) fun x h G1 H1 p1=>?_⟩;obtain ⟨d,ρ1⟩:=x
      cases d with
      | true=>rw [if_pos rfl];exact ⟨ρ1,G1,p1.er,Wk.mono h fun y h G2 H2 p2=>h G2 H2 (p1.trans p2)⟩
      | false=>rw [if_neg (fun z=>by cases z)];exact h G1 H1 p1
     ·cases c with
      | true=>exact A.t G₀ H₀ (.BoolOp .And (b::l) pos) pins s1 σ H1 Q I1 q1
      | false=>exact ⟨H1,I1,q1⟩
    | Or=>
     intro pins s σ H Q I hw;obtain ⟨ρ,G,er,h⟩:=hw;refine isTrue_or (thn (A.t G₀ H₀ a pins s σ H (fun c H1=>if c=true then Q true H1 else tT κ K G₀ H₀ Γ m (.BoolOp .Or (b::l) pos) σ H1 Q) I ?_) fun c s1 ⟨H1,I1,q1⟩=>?_)
     ·refine ⟨ρ,G,er,Wk.mono (Wk.th (x:=evT m Γ a ρ) h) fun x h G1 H1 p1=>?_⟩;obtain ⟨d,ρ1⟩:=x
      cases d with
      | false=>rw [if_neg (fun z=>by cases z)];exact ⟨ρ1,G1,p1.er,Wk.mono h fun y h G2 H2 p2=>h G2 H2 (p1.trans p2)⟩
      | true=>rw [if_pos rfl];exact h G1 H1 p1
     ·cases c with
      | true=>exact ⟨H1,I1,q1⟩
      | false=>exact A.t G₀ H₀ (.BoolOp .Or (b::l) pos) pins s1 σ H1 Q I1 q1
 | IfExp c a b pos=>exact zd fun σ H Q h=>Exists.elim h fun _ h=>Exists.elim h fun _ h=>h.2
 | Compare a ops bs pos=>
  cases ops with
  | nil=>exact zd fun σ H Q h=>Exists.elim h fun _ h=>Exists.elim h fun _ h=>h.2
  | cons op ops=>
   cases ops with
   | nil=>
    cases bs with
    | nil=>exact zd fun σ H Q h=>Exists.elim h fun _ h=>Exists.elim h fun _ h=>h.2
    | cons b bs=>
     cases bs with
     | nil=>exact qeF gd A a b op pos
     | cons c bs=>exact zd fun σ H Q h=>Exists.elim h fun _ h=>Exists.elim h fun _ h=>h.2
   | cons op' ops=>
    match ops,bs with
    | [],[b,c]=>exact qaV gd A a b c op op' pos
    | [],[]=>exact zd fun σ H Q h=>Exists.elim h fun _ h=>Exists.elim h fun _ h=>h.2
    | [],[b]=>exact zd fun σ H Q h=>Exists.elim h fun _ h=>Exists.elim h fun _ h=>h.2
    | [],_::_::_::_=>exact zd fun σ H Q h=>Exists.elim h fun _ h=>Exists.elim h fun _ h=>h.2
    | _::_,_=>exact zd fun σ H Q h=>Exists.elim h fun _ h=>Exists.elim h fun _ h=>h.2
 | _=>exact gen rfl fun _=>rfl
end
end DE
namespace DE
open PySem PySem.Spec PyProof.Rows L2
section
variable {κ:KC} {K:Frag} {G₀ H₀:Hp} {k m:Nat} {X:Cx} {Γ:Ct}
theorem qg4 {tg l:Expr} {tl:TE} (hl:PE X l tl):PI X tg l (fun σ H R=>tl σ H fun x H1=>(∃ a,x=.ref a/\(((∃ xs,SqL X.K H1 a xs)/\R (Itl X.K a) H1)\/((∃ xs,SqT X.K H1 a xs)/\R (Itt X.K a) H1)))\/∃ z,x=.str z/\R (Its z) H1):=by
 intro pins s σ H R I h;refine thn (hl pins s σ H _ I h) fun v s1 hq1=>?_;obtain ⟨x,H1,I1,r1,q1⟩:=hq1;rcases q1 with ⟨a,e,q⟩ | ⟨x,rfl,q⟩
 ·subst e;cases r1;rcases q with ⟨⟨xs,hq⟩,q⟩ | ⟨⟨xs,hq⟩,q⟩
  ·obtain ⟨its,rv,p,hz⟩:=I1.list hq;refine wpAny_pyIter_list p.isList ?_;refine ⟨s1.heap.objs.size,[s1.heap.objs.size],_,_,H1,rfl,I1.kept (t':=s1.toks) fun b o e=>Heap.get?_push_of_some _ e,qab a _,⟨_,Heap.get?_push_size _ rfl,rfl,rfl⟩,fun b hb=>?_,q⟩;have e:b=s1.heap.objs.size:=by simpa using hb
   subst e;exact I1.fpOk (Nat.le_refl _) (I1.hok.fresh (Nat.le_refl _))
  ·obtain ⟨its,rv,p,hz⟩:=I1.tuple hq;refine wpAny_pyIter_tuple (show s1.heap.IsTuple a its.toArray from p) ?_;refine ⟨s1.heap.objs.size,[s1.heap.objs.size],_,_,H1,rfl,I1.kept (t':=s1.toks) fun b o e=>Heap.get?_push_of_some _ e,Zo a _,⟨_,Heap.get?_push_size _ rfl,rfl,rfl⟩,fun b hb=>?_,q⟩;have e:b=s1.heap.objs.size:=by simpa using hb
   subst e;exact I1.fpOk (Nat.le_refl _) (I1.hok.fresh (Nat.le_refl _))
 ·obtain ⟨t,rfl⟩:=r1
  have fin:∀ (T:String) (o:Obj),(T = "str_ascii_iterator"\/T = "str_iterator")->(∀ A':Around,A'.handled=none->Walks X.prog X.w A' s1.heap.objs.size [s1.heap.objs.size] [s1.heap.objs.size] x.cps.size (SignAt x) (fun i h=>h.IsStrIter s1.heap.objs.size T x t i))->
    (s1.heap.push o).IsStrIter s1.heap.objs.size T x t 0->PIE X pins σ tg R (.ref s1.heap.objs.size) { s1 with heap:=s1.heap.push o }:=fun T o hT W st=>by
   refine ⟨s1.heap.objs.size,[s1.heap.objs.size],_,_,H1,rfl,I1.kept (t':=s1.toks) fun b o e=>Heap.get?_push_of_some _ e,qcg hT W,st,fun b hb=>?_,q⟩;have e:b=s1.heap.objs.size:=by simpa using hb
   subst e;exact I1.fpOk (Nat.le_refl _) (I1.hok.fresh (Nat.le_refl _))
  cases ha:x.cps.all (· < 128)
  ·exact wpAny_pyIter_wide ha (fin _ _ (.inr rfl) (fun A' hA=>Walks.strWide hA _ x t) ⟨_,Heap.get?_push_size _ rfl,rfl,rfl⟩)
  ·exact wpAny_pyIter_ascii ha (fin _ _ (.inl rfl) (fun A' hA=>Walks.strAscii hA _ x t) ⟨_,Heap.get?_push_size _ rfl,rfl,rfl⟩)
theorem qcv (gd:Gd κ K k X Γ) (m:Nat) (x:Str) (pos:Pos):PE X (.Name x pos) (tL κ K G₀ H₀ Γ (m+1) (.Name x pos)):=by
 by_cases hok:qo x=true
 case neg=>refine qj fun σ H Q hq1=>?_;obtain ⟨ρ,G,er,h⟩:=hq1;have h:Wk (yK Γ x ρ) _:=h;unfold yK at h;exact hok (Wk.iff h).1
 obtain ⟨n1,n2,n3⟩:=zc hok
 cases hi:qS Γ.N x with
 | none=>refine qj fun σ H Q hq1=>?_;obtain ⟨ρ,G,er,h⟩:=hq1;have h:Wk (yK Γ x ρ) _:=h;unfold yK at h;rw [if_pos hok,hi] at h;exact h
 | some i=>
  by_cases hv:JL Γ.sc x=true
  case neg=>refine qj fun σ H Q hq1=>?_;obtain ⟨ρ,G,er,h⟩:=hq1;have h:Wk (yK Γ x ρ) _:=h;unfold yK at h;rw [if_pos hok,hi] at h;exact hv (Wk.iff h).1
  have hx:=gd.vis x hv;refine PE.imp (Jf (i:=i) (by rw [gd.hN];exact jc hi) hx n1 n2) fun σ H Q hq1=>?_;obtain ⟨ρ,G,er,h⟩:=hq1;have h:Wk (yK Γ x ρ) _:=h;unfold yK at h;rw [if_pos hok,hi] at h;have h:=(Wk.iff h).2
  cases q:ρ[i]? with
  | none=>rw [q] at h;exact False.elim h
  | some s=>
   rw [q] at h;have w:=er.sl i s q
   cases s with
   | no=>exact False.elim h
   | val d=>
    obtain ⟨v,z,r⟩:=w
    cases d with
    | lst l=>simp only [Rep] at r;obtain ⟨a,xs,rfl,r1,r2⟩:=r;exact ⟨_,z,h _ G H (Po.refl er) ⟨a,xs,rfl,r2,.inl r1⟩⟩
    | str y=>simp only [Rep] at r;subst r;exact ⟨_,z,h _ G H (Po.refl er) ⟨y,rfl,rfl⟩⟩
    | tup l=>simp only [Rep] at r;obtain ⟨a,xs,rfl,r1,r2⟩:=r;exact ⟨_,z,h _ G H (Po.refl er) ⟨a,xs,rfl,r2,r1⟩⟩
    | _=>exact False.elim h
   | own l=>obtain ⟨a,xs,z,p,r⟩:=er.froze q;simp only [Rep] at r;obtain ⟨a',xs',e,r1,r2⟩:=r;cases e;exact ⟨_,z,h _ _ H p ⟨a,xs',rfl,r2,.inl r1⟩⟩
   | bor l=>obtain ⟨a,xs,z,r1,r4⟩:=w;exact ⟨_,z,h _ G H (Po.refl er) ⟨a,xs,rfl,r4,.inr (SqL.of r1)⟩⟩
   | scr l=>obtain ⟨a,xs,z,r1,r4⟩:=w;exact ⟨_,z,h _ G H (Po.refl er) ⟨a,xs,rfl,r4,.inr r1⟩⟩
theorem qkI (gd:Gd κ K k X Γ) (A:All κ K k X Γ m) (e:Expr):PE X e (tL κ K G₀ H₀ Γ (m+1) e):=by
 have gen:(∀ ρ,evL (m+1) Γ e ρ=(evR m Γ e ρ).th fun x=>match x.1 with
   | .val (.lst l)=>.ok ((.lst,l),x.2)
   | .val (.tup l)=>.ok ((.tup,l),x.2)
   | .val (.str z)=>.ok ((.str,ZF z),x.2)
   | .tmp l=>.ok ((.lst,l),x.2)
   | _=>.no)->PE X e (tL κ K G₀ H₀ Γ (m+1) e):=fun he=>by
  refine PE.imp (A.r G₀ H₀ e) fun σ H Q hq1=>?_;obtain ⟨ρ,G,er,h⟩:=hq1;rw [he] at h;refine ⟨ρ,G,er,Wk.mono (Wk.th h) fun x h v G1 H1 p1 r1=>?_⟩;obtain ⟨rv,ρ1⟩:=x
  cases rv with
  | val d=>
   cases d with
   | lst l=>simp only [RvR,Rep] at r1;obtain ⟨a,xs,rfl,q1,q2⟩:=r1;exact h _ G1 H1 p1 ⟨a,xs,rfl,q2,.inl q1⟩
   | str y=>simp only [RvR,Rep] at r1;subst r1;exact h _ G1 H1 p1 ⟨y,rfl,rfl⟩
   | tup l=>simp only [RvR,Rep] at r1;obtain ⟨a,xs,rfl,q1,q2⟩:=r1;exact h _ G1 H1 p1 ⟨a,xs,rfl,q2,q1⟩
   | _=>exact False.elim h
  | tmp l=>obtain ⟨a,xs,rfl,h1,h2,h3,h4,h5,h6⟩:=r1;exact h _ _ H1 (p1.freeze h1 h2 h3 h4 h5) ⟨a,xs,rfl,h6.same (qv.upd h4),.inl qi⟩
  | cell l=>exact False.elim h
  | scr l=>exact False.elim h
 cases e with
 | Name x pos=>exact qcv gd m x pos
 | _=>exact gen fun _=>rfl
theorem qg5 {G:Hp} {a:Addr} {xs:List V} {l:List D} (h:G a=some (.lst xs)\/SqL K H₀ a xs) (r:qq κ G l xs):ItR κ H₀ G (Itl K a) l:=by
 intro i G1 H1 s1 s2 s3;have hq:SqL K H1 a xs:=h.elim (fun z=>SqL.of (s3 _ _ (s1 _ _ z))) fun z=>s2.seq z;refine ⟨fun d e=>?_,fun e=>⟨xs,hq,by rw [<-r.len];omega⟩⟩;obtain ⟨v,e1,e2⟩:=r.atD e;refine ⟨⟨xs,v,hq,e1⟩,fun x H' ⟨z1,z2⟩=>⟨G1,by rw [z1];exact fun _ _ q=>q,fun _ _ q=>q,by rw [z1];exact s3,fun _ o q=>.inl ⟨o,q⟩,?_⟩⟩
 have:=z2 xs hq
 rw [e1] at this;cases this;exact e2.same s1
theorem qg6 {G:Hp} {a:Addr} {xs:List V} {l:List D} (h:G a=some (.lst xs)\/SqL K H₀ a xs) (r:qq κ G l xs):ItR κ H₀ G (Itv K a xs) l.reverse:=by
 intro i G1 H1 s1 s2 s3;have hq:SqL K H1 a xs:=h.elim (fun z=>SqL.of (s3 _ _ (s1 _ _ z))) fun z=>s2.seq z;have hl:=r.len;refine ⟨fun d e=>?_,fun e=>⟨hq,by simp at e;omega⟩⟩;have hi:i < l.length:=by simpa using (List.getElem?_eq_some_iff.mp e).1
 rw [List.getElem?_reverse hi] at e;obtain ⟨v,e1,e2⟩:=r.atD e;refine ⟨⟨hq,by omega⟩,fun x H' ⟨z1,z2⟩=>⟨G1,by rw [z1];exact fun _ _ q=>q,fun _ _ q=>q,by rw [z1];exact s3,fun _ o q=>.inl ⟨o,q⟩,?_⟩⟩;rw [<-hl,e1] at z2;cases z2;exact e2.same s1
theorem qg7 {G:Hp} {a:Addr} {xs:List V} {l:List D} (h:G a=some (.tup xs)) (r:qq κ G l xs):ItR κ H₀ G (Itt K a) l:=by
 intro i G1 H1 s1 s2 s3;have hq:SqT K H1 a xs:=SqT.of (s3 _ _ (s1 _ _ h));refine ⟨fun d e=>?_,fun e=>⟨xs,hq,by rw [<-r.len];omega⟩⟩;obtain ⟨v,e1,e2⟩:=r.atD e;refine ⟨⟨xs,v,hq,e1⟩,fun x H' ⟨z1,z2⟩=>⟨G1,by rw [z1];exact fun _ _ q=>q,fun _ _ q=>q,by rw [z1];exact s3,fun _ o q=>.inl ⟨o,q⟩,?_⟩⟩
 have:=z2 xs hq
 rw [e1] at this;cases this;exact e2.same s1
theorem qg8 {G:Hp} {x:Str}:ItR κ H₀ G (Its x) (ZF x):=by
 intro i G1 H1 s1 s2 s3;have hl:(ZF x).length=x.cps.size:=by simp [ZF]
 refine ⟨fun d e=>?_,fun e=>by rw [<-e,hl];rfl⟩;unfold ZF at e;rw [List.getElem?_map] at e;obtain ⟨c,e1,rfl⟩:=Option.map_eq_some_iff.mp e;rw [Array.getElem?_toList] at e1;refine ⟨(Array.getElem?_eq_some_iff.mp e1).1,fun v H' ⟨z1,c',z2,z3⟩=>⟨G1,by rw [z1];exact fun _ _ q=>q,fun _ _ q=>q,by rw [z1];exact s3,fun _ o q=>.inl ⟨o,q⟩,?_⟩⟩;rw [e1] at z2;cases z2;rw [z3];simp only [Rep]
theorem qdG {G:Hp} {lo hi:Int}:ItR κ H₀ G (Itr lo (hi - lo).toNat) (qH lo hi):=by
 intro i G1 H1 s1 s2 s3;refine ⟨fun d e=>?_,fun e=>?_⟩
 ·unfold qH at e;rw [List.getElem?_map] at e;obtain ⟨j,e1,rfl⟩:=Option.map_eq_some_iff.mp e;obtain ⟨h1,h2⟩:=List.getElem?_eq_some_iff.mp e1;have hi':i < (hi - lo).toNat:=by simpa using h1
  have hj:j=i:=by rw [<-h2];simp
  subst hj;refine ⟨hi',fun x H' ⟨z1,z2⟩=>⟨G1,by rw [z1];exact fun _ _ q=>q,fun _ _ q=>q,by rw [z1];exact s3,fun _ o q=>.inl ⟨o,q⟩,?_⟩⟩;rw [z2];simp only [Rep]
 ·have hl:(qH lo hi).length=(hi - lo).toNat:=by simp only [qH,List.length_map,List.length_range]
  show (hi - lo).toNat<=i;omega
theorem qeG {G:Hp} {lo hi c:Int}:ItR κ H₀ G (qiz lo c (rsz lo hi c)) (zy lo hi c):=by
 intro i G1 H1 s1 s2 s3;refine ⟨fun d e=>?_,fun e=>?_⟩
 ·unfold zy at e;rw [List.getElem?_map] at e;obtain ⟨j,e1,rfl⟩:=Option.map_eq_some_iff.mp e;obtain ⟨h1,h2⟩:=List.getElem?_eq_some_iff.mp e1;have hi':i < rsz lo hi c:=by simpa using h1
  have hj:j=i:=by rw [<-h2];simp
  subst hj;refine ⟨hi',fun x H' hq=>?_⟩;obtain ⟨z1,z2⟩:=hq;refine ⟨G1,by rw [z1];exact fun _ _ q=>q,fun _ _ q=>q,by rw [z1];exact s3,fun _ o q=>.inl ⟨o,q⟩,?_⟩;rw [z2];simp only [Rep]
 ·have hl:(zy lo hi c).length=rsz lo hi c:=by simp only [zy,List.length_map,List.length_range]
  show rsz lo hi c<=i;omega
theorem qaX {G H:Hp} {T:Addr} {x y:V} {d e:D} (sub:qv G H) (hT:H T=none) (hx:Rep κ G d x) (hy:Rep κ G e y) :
  ∃ G',qv H (upd H T (.tup [x,y]))/\qv G G'/\qv G' (upd H T (.tup [x,y]))/\(∀ a o,G' a=some o->(∃ o',G a=some o')\/H a=none)/\Rep κ G' (.tup [d,e]) (.ref T):=by
 have gT:G T=none:=qv.none sub hT;have gs:qv G (upd G T (.tup [x,y])):=qv.upd gT;refine ⟨upd G T (.tup [x,y]),qv.upd hT,gs,fun b u q=>?_,fun b u q=>?_,?_⟩
 ·by_cases hb:b=T
  ·subst hb;rw [qi] at q ⊢;exact q
  ·rw [qf hb] at q ⊢;exact sub b u q
 ·by_cases hb:b=T
  ·subst hb;exact .inr hT
  ·rw [qf hb] at q;exact .inl ⟨u,q⟩
 ·simp only [Rep];exact ⟨T,_,rfl,qi,.cons (hx.same gs) %[hy.same gs|0]⟩
theorem qg9 {G:Hp} {a:Addr} {xs:List V} {l:List D} (h:G a=some (.lst xs)\/SqL K H₀ a xs) (r:qq κ G l xs):ItR κ H₀ G (Ite K a) (yr l):=by
 intro i G1 H1 s1 s2 s3;have hq:SqL K H1 a xs:=h.elim (fun z=>SqL.of (s3 _ _ (s1 _ _ z))) fun z=>s2.seq z;have hlen:(yr l).length=l.length:=by simp [yr]
 refine ⟨fun d e=>?_,fun e=>⟨xs,hq,by rw [<-r.len];omega⟩⟩;have hi:i < l.length:=by rw [<-hlen];exact (List.getElem?_eq_some_iff.mp e).1
 have e0:(yr l)[i]?=some (.tup [.int i,l[i]]):=by unfold yr;rw [List.getElem?_zipWith];simp [hi]
 rw [e0] at e;cases e;obtain ⟨v,e1,e2⟩:=r.atD (List.getElem?_eq_getElem hi);refine ⟨⟨xs,v,hq,e1⟩,fun x H' z=>?_⟩;obtain ⟨T,x',rfl,hT,rfl,z2⟩:=z
 have:=z2 xs hq
 rw [e1] at this;cases this;exact qaX s3 hT (by simp only [Rep]) (e2.same s1)
theorem qha {G:Hp} {a b:Addr} {xs ys:List V} {l n:List D} (h:G a=some (.lst xs)\/SqL K H₀ a xs) (r:qq κ G l xs) (h':G b=some (.lst ys)\/SqL K H₀ b ys) (r':qq κ G n ys):ItR κ H₀ G (Itz K a b) (qey l n):=by
 intro i G1 H1 s1 s2 s3;have hq:SqL K H1 a xs:=h.elim (fun z=>SqL.of (s3 _ _ (s1 _ _ z))) fun z=>s2.seq z;have hq':SqL K H1 b ys:=h'.elim (fun z=>SqL.of (s3 _ _ (s1 _ _ z))) fun z=>s2.seq z;have hlen:(qey l n).length=min l.length n.length:=by simp [qey]
 have l1:=r.len;have l2:=r'.len;refine ⟨fun d e=>?_,fun e=>⟨xs,ys,hq,hq',by omega⟩⟩;have hi:i < min l.length n.length:=by rw [<-hlen];exact (List.getElem?_eq_some_iff.mp e).1
 have i1:i < l.length:=by omega
 have i2:i < n.length:=by omega
 have e0:(qey l n)[i]?=some (.tup [l[i],n[i]]):=by unfold qey;rw [List.getElem?_zipWith];simp [i1,i2]
 rw [e0] at e;cases e;obtain ⟨v,e1,e2⟩:=r.atD (List.getElem?_eq_getElem i1);obtain ⟨w,e3,e4⟩:=r'.atD (List.getElem?_eq_getElem i2);refine ⟨⟨xs,ys,v,w,hq,hq',e1,e3⟩,fun x H' z=>?_⟩;obtain ⟨T,x',y',rfl,hT,rfl,z2⟩:=z;obtain ⟨z3,z4⟩:=z2 xs ys hq hq';rw [e1] at z3;rw [e3] at z4;cases z3;cases z4;exact qaX s3 hT (e2.same s1) (e4.same s1)
theorem yN {i:Int} (h:qN i=true):-(2 ^ 62)<=i/\i < 2 ^ 62:=by
 unfold qN at h
 simpa [Bool.and_eq_true] using h
theorem qcw (gd:Gd κ K k X Γ) (A:All κ K k X Γ m) (tg e:Expr) (he:∀ ρ,evI (m+1) Γ (J6 tg) e ρ=(evL m Γ e ρ).th fun x=>.ok (x.1.2,x.2)):PI X tg e (tI κ K G₀ H₀ Γ (m+1) (J6 tg) e):=by
 refine PI.imp (qg4 (A.l G₀ H₀ e)) fun σ H Q hq1=>?_;obtain ⟨ρ,G,er,h⟩:=hq1;rw [he] at h;refine ⟨ρ,G,er,Wk.mono (Wk.th h) fun x h v G1 H1 p1 r1=>?_⟩;obtain ⟨⟨b,l⟩,ρ1⟩:=x
 cases b with
 | str=>obtain ⟨y,rfl,rfl⟩:=r1;exact .inr ⟨y,rfl,h _ G1 H1 p1 qg8⟩
 | tup=>obtain ⟨a,xs,rfl,r2,r3⟩:=r1;exact .inl ⟨a,rfl,.inr ⟨⟨xs,SqT.of (p1.er.sub _ _ r3)⟩,h _ G1 H1 p1 (by rw [gd.hK];exact qg7 r3 r2)⟩⟩
 | lst=>obtain ⟨a,xs,rfl,r2,r3⟩:=r1;refine .inl ⟨a,rfl,.inl ⟨⟨xs,?_⟩,h _ G1 H1 p1 (by rw [gd.hK];exact qg5 r3 r2)⟩⟩;rw [gd.hK];exact r3.elim (fun z=>SqL.of (p1.er.sub _ _ z)) fun z=>p1.er.base.seq z
theorem JP {a b:Expr} {env:PySem.Env} (h1:qh a=false) (h2:qh b=false):starEach [a,b] env=[(false,eval a env),(false,eval b env)]:=by rw [qe h1,qe h2];rfl
theorem qeH (gd:Gd κ K k X Γ) (A:All κ K k X Γ m) (tg a:Expr) (f:Str) (p q:Pos) (hf:f = "range"\/f = "enumerate"\/f = "zip"\/f = "reversed") :
  PI X tg (.Call (.Name f p) [a] [] q) (tI κ K G₀ H₀ Γ (m+1) (J6 tg) (.Call (.Name f p) [a] [] q)):=by
 by_cases hn:(qo f&&glB Γ.sc f&&(qS Γ.N f).isNone)=true
 case neg=>refine qL fun σ H Q hq1=>?_;obtain ⟨ρ,G,er,h⟩:=hq1;rcases hf with rfl | rfl | rfl | rfl<;>exact hn (Wk.iff (show Wk (if (_&&_&&_)=true then _ else R.no) _ from h)).1
 have hn':=hn;simp only [Bool.and_eq_true] at hn';have hg:=gd.glo _ hn'.1.2
 by_cases hs:qh a=true
 ·refine qL fun σ H Q hq1=>?_;obtain ⟨ρ,G,er,h⟩:=hq1;rcases hf with rfl | rfl | rfl | rfl
  all_goals
   have h:=(Wk.iff (show Wk (if (_&&_&&_)=true then _ else R.no) _ from h)).2;exact (Wk.nif (c:=qh a=true) h).1 hs
 have hs:=Bool.eq_false_iff.mpr hs;rcases hf with rfl | rfl | rfl | rfl
 ·refine PI.imp (qac hg (gd.blt _ (2:)) (qg (A.r G₀ H₀ a) qu (qe hs)) (qe hs)) fun σ H Q hq1=>?_;obtain ⟨ρ,G,er,h⟩:=hq1;have h:=(Wk.iff (show Wk (if (_&&_&&_)=true then _ else R.no) _ from h)).2;have h:=(Wk.nif (c:=qh a=true) h).2;refine ⟨ρ,G,er,Wk.mono (Wk.th (x:=evR m Γ a ρ) h) fun x h v G1 H1 p1 r1=>?_⟩
  cases e1:x.1.int? with
  | none=>rw [e1] at h;exact False.elim h
  | some n=>
   rw [e1] at h;obtain ⟨hz,h⟩:=Wk.iff h;obtain ⟨z1,z2⟩:=yN hz;refine ⟨n,by rw [r1.int e1],z1,z2,h _ G1 H1 p1 ?_⟩
   have:=qdG (κ:=κ) (H₀:=H₀) (G:=G1) (lo:=0) (hi:=n)
   rw [Int.sub_zero] at this;exact this
 ·cases tg with
  | Tuple es j tp=>
   refine PI.imp (qet hg (gd.blt _ (2:)) (qg (A.l G₀ H₀ a) qu (qe hs)) (qe hs)) fun σ H Q hq1=>?_;obtain ⟨ρ,G,er,h⟩:=hq1;have h:=(Wk.iff (show Wk (if (_&&_&&_)=true then _ else R.no) _ from h)).2;have h:=(Wk.nif (c:=qh a=true) h).2;refine ⟨ρ,G,er,Wk.mono (Wk.th (x:=evL m Γ a ρ) h) fun x h v G1 H1 p1 r1=>?_⟩;obtain ⟨⟨b,l⟩,ρ1⟩:=x
   cases b with
   | str=>exact False.elim h
   | tup=>exact False.elim h
   | lst=>obtain ⟨c,xs,rfl,r2,r3⟩:=r1;refine ⟨c,rfl,⟨xs,?_⟩,h _ G1 H1 p1 (by rw [gd.hK];exact qg9 r3 r2)⟩;rw [gd.hK];exact r3.elim (fun z=>SqL.of (p1.er.sub _ _ z)) fun z=>p1.er.base.seq z
  | _=>refine qL fun σ H Q hq1=>?_;obtain ⟨ρ,G,er,h⟩:=hq1;have h:=(Wk.iff (show Wk (if (_&&_&&_)=true then _ else R.no) _ from h)).2;exact (Wk.nif (c:=qh a=true) h).2
 ·refine qL fun σ H Q hq1=>?_;obtain ⟨ρ,G,er,h⟩:=hq1;have h:=(Wk.iff (show Wk (if (_&&_&&_)=true then _ else R.no) _ from h)).2;exact (Wk.nif (c:=qh a=true) h).2
 ·refine PI.imp (qgE hg (gd.blt _ (2:)) (qg (A.l G₀ H₀ a) qu (qe hs)) (qe hs)) fun σ H Q hq1=>?_;obtain ⟨ρ,G,er,h⟩:=hq1;have h:=(Wk.iff (show Wk (if (_&&_&&_)=true then _ else R.no) _ from h)).2;have h:=(Wk.nif (c:=qh a=true) h).2;refine ⟨ρ,G,er,Wk.mono (Wk.th (x:=evL m Γ a ρ) h) fun x h v G1 H1 p1 r1=>?_⟩;obtain ⟨⟨b,l⟩,ρ1⟩:=x
  cases b with
  | str=>exact False.elim h
  | tup=>exact False.elim h
  | lst=>obtain ⟨c,xs,rfl,r2,r3⟩:=r1;refine ⟨c,xs,rfl,?_,h _ G1 H1 p1 (by rw [gd.hK];exact qg6 r3 r2)⟩;rw [gd.hK];exact r3.elim (fun z=>SqL.of (p1.er.sub _ _ z)) fun z=>p1.er.base.seq z
theorem qeI (gd:Gd κ K k X Γ) (A:All κ K k X Γ m) (tg a b:Expr) (f:Str) (p q:Pos) (hf:f = "range"\/f = "enumerate"\/f = "zip"\/f = "reversed") :
  PI X tg (.Call (.Name f p) [a,b] [] q) (tI κ K G₀ H₀ Γ (m+1) (J6 tg) (.Call (.Name f p) [a,b] [] q)):=by
 by_cases hn:(qo f&&glB Γ.sc f&&(qS Γ.N f).isNone)=true
 case neg=>refine qL fun σ H Q hq1=>?_;obtain ⟨ρ,G,er,h⟩:=hq1;rcases hf with rfl | rfl | rfl | rfl<;>exact hn (Wk.iff (show Wk (if (_&&_&&_)=true then _ else R.no) _ from h)).1
 have hn':=hn;simp only [Bool.and_eq_true] at hn';have hg:=gd.glo _ hn'.1.2
 by_cases hs:(qh a||qh b)=true
 ·refine qL fun σ H Q hq1=>?_;obtain ⟨ρ,G,er,h⟩:=hq1;rcases hf with rfl | rfl | rfl | rfl
  all_goals
   have h:=(Wk.iff (show Wk (if (_&&_&&_)=true then _ else R.no) _ from h)).2;exact (Wk.nif (c:=(qh a||qh b)=true) h).1 hs
 have hsf:=Bool.eq_false_iff.mpr hs;rw [Bool.or_eq_false_iff] at hsf;obtain ⟨s1,s2⟩:=hsf;rcases hf with rfl | rfl | rfl | rfl
 ·refine PI.imp (qad hg (gd.blt _ (2:)) (qg (A.r G₀ H₀ a) (qg (A.r G₀ H₀ b) qu (qe s2)) (qe s1)) (JP s1 s2) (qe s2)) fun σ H Q hq1=>?_;obtain ⟨ρ,G,er,h⟩:=hq1;have h:=(Wk.iff (show Wk (if (_&&_&&_)=true then _ else R.no) _ from h)).2;have h:=(Wk.nif (c:=(qh a||qh b)=true) h).2;refine ⟨ρ,G,er,Wk.mono (Wk.th (x:=evR m Γ a ρ) h) fun x h v G1 H1 p1 r1=>⟨x.2,G1,p1.er,Wk.mono (Wk.th (x:=evR m Γ b x.2) h) fun y h w G2 H2 p2 r2=>?_⟩⟩
  cases e1:x.1.int? with
  | none=>rw [e1] at h;exact False.elim h
  | some i=>
   cases e2:y.1.int? with
   | none=>rw [e1,e2] at h;exact False.elim h
   | some j=>rw [e1,e2] at h;obtain ⟨hz,h⟩:=Wk.iff h;obtain ⟨z1,z2⟩:=yN hz.1;obtain ⟨z3,z4⟩:=yN hz.2;exact ⟨i,j,by rw [r1.int e1,r2.int e2],⟨z1,z2,z3,z4⟩,h _ G2 H2 (p1.trans p2) qdG⟩
 ·refine qL fun σ H Q hq1=>?_;obtain ⟨ρ,G,er,h⟩:=hq1;have h:=(Wk.iff (show Wk (if (_&&_&&_)=true then _ else R.no) _ from h)).2;exact (Wk.nif (c:=(qh a||qh b)=true) h).2
 ·cases tg with
  | Tuple es j tp=>
   refine PI.imp (qgC hg (gd.blt _ (2:)) (qg (A.l G₀ H₀ a) (qg (A.l G₀ H₀ b) qu (qe s2)) (qe s1)) (JP s1 s2) (qe s2)) fun σ H Q hq1=>?_;obtain ⟨ρ,G,er,h⟩:=hq1;have h:=(Wk.iff (show Wk (if (_&&_&&_)=true then _ else R.no) _ from h)).2;have h:=(Wk.nif (c:=(qh a||qh b)=true) h).2;refine ⟨ρ,G,er,Wk.mono (Wk.th (x:=evL m Γ a ρ) h) fun x h v G1 H1 p1 r1=>⟨x.2,G1,p1.er,Wk.mono (Wk.th (x:=evL m Γ b x.2) h) fun y h w G2 H2 p2 r2=>?_⟩⟩;obtain ⟨⟨bx,l⟩,ρ1⟩:=x;obtain ⟨⟨by',n⟩,ρ2⟩:=y
   cases bx with
   | str=>exact False.elim h
   | tup=>exact False.elim h
   | lst=>
    cases by' with
    | str=>exact False.elim h
    | tup=>exact False.elim h
    | lst=>
     obtain ⟨c,xs,rfl,r3,r4⟩:=r1;obtain ⟨d,ys,rfl,r5,r6⟩:=r2;have r4':G2 c=some (.lst xs)\/SqL K H₀ c xs:=r4.imp (fun z=>p2.gs _ _ z) id;have r6:G2 d=some (.lst ys)\/SqL K H₀ d ys:=r6;refine ⟨c,d,rfl,⟨xs,?_⟩,⟨ys,?_⟩,h _ G2 H2 (p1.trans p2) (by rw [gd.hK];exact qha r4' (r3.same p2.gs) r6 r5)⟩
     ·rw [gd.hK];exact r4'.elim (fun z=>SqL.of (p2.er.sub _ _ z)) fun z=>p2.er.base.seq z
     ·rw [gd.hK];exact r6.elim (fun z=>SqL.of (p2.er.sub _ _ z)) fun z=>p2.er.base.seq z
  | _=>refine qL fun σ H Q hq1=>?_;obtain ⟨ρ,G,er,h⟩:=hq1;have h:=(Wk.iff (show Wk (if (_&&_&&_)=true then _ else R.no) _ from h)).2;exact (Wk.nif (c:=(qh a||qh b)=true) h).2
 ·refine qL fun σ H Q hq1=>?_;obtain ⟨ρ,G,er,h⟩:=hq1;have h:=(Wk.iff (show Wk (if (_&&_&&_)=true then _ else R.no) _ from h)).2;exact (Wk.nif (c:=(qh a||qh b)=true) h).2
theorem qhb {x y z:Rv} {l:List D} (h:rg3 x y z=.ok l):∃ i j c,x.int?=some i/\y.int?=some j/\z.int?=some c/\(-(2 ^ 60)<=i/\i < 2 ^ 60/\-(2 ^ 60)<=j/\j < 2 ^ 60/\0 < c/\c < 2 ^ 30)/\l=zy i j c:=by
 unfold rg3 at h
 split at h
 ·rename_i i j c e1 e2 e3
  split at h
  ·rename_i hb;cases h;unfold rgB at hb;simp only [Bool.and_eq_true,decide_eq_true_eq] at hb;exact ⟨i,j,c,e1,e2,e3,by omega,rfl⟩
  ·cases h
 ·cases h
theorem qeJ (gd:Gd κ K k X Γ) (A:All κ K k X Γ m) (tg a b c:Expr) (f:Str) (p q:Pos) (hf:f = "range"\/f = "enumerate"\/f = "zip"\/f = "reversed") :
  PI X tg (.Call (.Name f p) [a,b,c] [] q) (tI κ K G₀ H₀ Γ (m+1) (J6 tg) (.Call (.Name f p) [a,b,c] [] q)):=by
 by_cases hn:(qo f&&glB Γ.sc f&&(qS Γ.N f).isNone)=true
 case neg=>refine qL fun σ H Q hq1=>?_;obtain ⟨ρ,G,er,h⟩:=hq1;rcases hf with rfl | rfl | rfl | rfl<;>exact hn (Wk.iff (show Wk (if (_&&_&&_)=true then _ else R.no) _ from h)).1
 have hn':=hn;simp only [Bool.and_eq_true] at hn';have hg:=gd.glo _ hn'.1.2
 by_cases hs:(qh a||qh b||qh c)=true
 ·refine qL fun σ H Q hq1=>?_;obtain ⟨ρ,G,er,h⟩:=hq1;rcases hf with rfl | rfl | rfl | rfl
  all_goals
   have h:=(Wk.iff (show Wk (if (_&&_&&_)=true then _ else R.no) _ from h)).2;exact (Wk.nif (c:=(qh a||qh b||qh c)=true) h).1 hs
 have hsf:=Bool.eq_false_iff.mpr hs;rw [Bool.or_eq_false_iff,Bool.or_eq_false_iff] at hsf;obtain ⟨⟨s1,s2⟩,s3⟩:=hsf
 by_cases hr:f = "range"
 case neg=>
  refine qL fun σ H Q hq1=>?_;obtain ⟨ρ,G,er,h⟩:=hq1;rcases hf with rfl | rfl | rfl | rfl
  ·exact absurd rfl hr
  all_goals
   have h:=(Wk.iff (show Wk (if (_&&_&&_)=true then _ else R.no) _ from h)).2;exact (Wk.nif (c:=(qh a||qh b||qh c)=true) h).2
 subst hr;have two:starEach [b,c] X.env=[(false,eval b X.env),(false,eval c X.env)]:=JP s2 s3
 have three:starEach [a,b,c] X.env=[(false,eval a X.env),(false,eval b X.env),(false,eval c X.env)]:=by rw [qe s1,two]
 refine PI.imp (qaJ hg (gd.blt _ (2:)) (qg (A.r G₀ H₀ a) (qg (A.r G₀ H₀ b) (qg (A.r G₀ H₀ c) qu (qe s3)) (qe s2)) (qe s1)) three two) fun σ H Q hq1=>?_;obtain ⟨ρ,G,er,h⟩:=hq1;have h:=(Wk.iff (show Wk (if (_&&_&&_)=true then _ else R.no) _ from h)).2;have h:=(Wk.nif (c:=(qh a||qh b||qh c)=true) h).2;refine ⟨ρ,G,er,Wk.mono (Wk.th (x:=evR m Γ a ρ) h) fun x h v G1 H1 p1 r1=>⟨x.2,G1,p1.er,Wk.mono (Wk.th (x:=evR m Γ b x.2) h) fun y h w G2 H2 p2 r2=>⟨y.2,G2,p2.er,Wk.mono (Wk.th (x:=evR m Γ c y.2) h) fun z h u G3 H3 p3 r3=>?_⟩⟩⟩;have h:=Wk.th (x:=rg3 x.1 y.1 z.1) h
 cases e:rg3 x.1 y.1 z.1 with
 | ok l=>rw [e] at h;obtain ⟨i,j,k',e1,e2,e3,hb,rfl⟩:=qhb e;exact ⟨i,j,k',by rw [r1.int e1,r2.int e2,r3.int e3],hb,h _ G3 H3 ((p1.trans p2).trans p3) qeG⟩
 | exc c l=>rw [e] at h;exact False.elim h
 | no=>rw [e] at h;exact False.elim h
theorem qkJ (gd:Gd κ K k X Γ) (A:All κ K k X Γ m) (tg e:Expr):PI X tg e (tI κ K G₀ H₀ Γ (m+1) (J6 tg) e):=by
 cases e with
 | Call fn es kws q=>
  cases fn with
  | Name f p=>
   cases kws with
   | nil=>
    by_cases hf:f = "range"\/f = "enumerate"\/f = "zip"\/f = "reversed"
    ·match es with
     | []=>exact qL fun σ H Q ⟨ρ,G,er,h⟩=>by rcases hf with rfl | rfl | rfl | rfl<;>exact (Wk.iff (show Wk (if (_&&_&&_)=true then _ else R.no) _ from h)).2
     | [a]=>exact qeH gd A tg a f p q hf
     | [a,b]=>exact qeI gd A tg a b f p q hf
     | [a,b,c]=>exact qeJ gd A tg a b c f p q hf
     | _::_::_::_::_=>exact qL fun σ H Q ⟨ρ,G,er,h⟩=>by rcases hf with rfl | rfl | rfl | rfl<;>exact (Wk.iff (show Wk (if (_&&_&&_)=true then _ else R.no) _ from h)).2
    ·refine qcw gd A tg _ fun ρ=>?_
     have hc:¬ ((decide (f = "range")||decide (f = "enumerate")||decide (f = "zip")||decide (f = "reversed"))=true):=by simp only [Bool.or_eq_true,decide_eq_true_eq];intro z;exact hf (by rcases z with ((z | z) | z) | z<;>simp [z])
     show (if (decide (f = "range")||decide (f = "enumerate")||decide (f = "zip")||decide (f = "reversed"))=true then _ else _)=_;rw [if_neg hc]
   | cons kw kws=>exact qcw gd A tg _ fun _=>rfl
  | _=>exact qcw gd A tg _ fun _=>rfl
 | _=>exact qcw gd A tg _ fun _=>rfl
end
end DE
namespace DE
open PySem PySem.Spec PyProof.Rows L2
section
variable {κ:KC} {K:Frag} {G₀ H₀:Hp} {k m:Nat} {X:Cx} {Γ:Ct}
theorem YC:∀ {es:List Expr} {m:Nat} {ρ:Env} {F:List Ar×Env->Prop},Wk (j6 m Γ es ρ) F->es.any qh=false
 | [],_,_,_,_=>rfl
 | e::l,0,ρ,F,h=>False.elim h
 | e::l,m+1,ρ,F,h=>by
  obtain ⟨h1,h⟩:=Wk.nif (c:=qh e=true) h;have h:=Wk.th (x:=evR m Γ e ρ) h
  cases e1:evR m Γ e ρ with
  | ok x=>rw [e1] at h;have h2:=YC (es:=l) (m:=m) (ρ:=x.2) (Wk.th (x:=j6 m Γ l x.2) h);simp only [List.any_cons,Bool.eq_false_iff.mpr h1,h2,Bool.or_self]
  | exc c l=>rw [e1] at h;exact False.elim h
  | no=>rw [e1] at h;exact False.elim h
theorem zj {env:PySem.Env} {pos:Pos}:∀ {es:List Expr},es.any qh=false->(backTo pos (starEach es env)).any (·.1)=false
 | [],_=>rfl
 | e::l,h=>by simp only [List.any_cons,Bool.or_eq_false_iff] at h;rw [qe h.1];show (false||(backTo pos (starEach l env)).any (·.1))=false;rw [zj h.2];rfl
theorem ReR.rv {G H G1 H1 G2 H2:Hp} {ρ ρ1:Env} {σ:L2.St} {r:Rv} {v:V} (p:Po κ K G₀ H₀ σ G H ρ G1 H1 ρ1) (hs:qv H1 H2) (gs:qv G1 G2) (sub:qv G2 H2) (new:∀ a o,G2 a=some o->(∃ o',G1 a=some o')\/H1 a=none) (h:ReR κ G2 H2 H1 r v) :
  Po κ K G₀ H₀ σ G H ρ G2 H2 ρ1/\RvR κ K H₀ H G2 H2 ρ1 σ r v:=by
 refine ⟨p.trans (Po.more p.er hs gs sub new),?_⟩
 cases r with
 | val d=>exact h
 | tmp ds=>obtain ⟨a,xs,rfl,h1,h2,h3,h4⟩:=h;exact ⟨a,xs,rfl,h1,qv.none p.hs h2,qv.none p.er.base h2,h3,p.er.notOwn h2,h4⟩
 | cell ds=>exact False.elim h
 | scr ds=>exact False.elim h
theorem qcx (gd:Gd κ K k X Γ) (A:All κ K k X Γ m) (f:Str) (es:List Expr) (p q:Pos) (hok:qo f=true) (hgl:glB Γ.sc f=true) (ht:Γ.tab.contains f=true)
  (he:∀ ρ,evR (m+1) Γ (.Call (.Name f p) es [] q) ρ=(j6 m Γ es ρ).th fun x=>(Γ.cl f x.1).th fun r=>.ok (r,x.2)):PE X (.Call (.Name f p) es [] q) (tR κ K G₀ H₀ Γ (m+1) (.Call (.Name f p) es [] q)):=by
 by_cases hs:es.any qh=false
 case neg=>refine qj fun σ H Q hq1=>?_;obtain ⟨ρ,G,er,h⟩:=hq1;rw [he] at h;exact hs (YC (Wk.th h))
 obtain ⟨fa,fd,ps,F,hm,hk,hb⟩:=gd.fns f ht;obtain ⟨n1,n2,n3⟩:=zc hok
 have key:∀ σ H Q,tR κ K G₀ H₀ Γ (m+1) (.Call (.Name f p) es [] q) σ H Q->qbZ (spF κ K Γ.cl f) [] E0 (tAs κ K G₀ H₀ Γ m es) σ H Q:=fun σ H Q ⟨ρ,G,er,h⟩=>by rw [he] at h;refine ⟨ρ,G,er,Wk.mono (Wk.th h) fun x h vs G1 H1 p1 r1=>?_⟩;show spF κ K Γ.cl f (vs++[]) H1 Q E0;rw [List.append_nil];refine ⟨G1,x.1,p1.er.sub,r1,Wk.mono (Wk.th h) fun r h v G2 H2 hs gs sub new rr=>?_⟩;obtain ⟨z1,z2⟩:=ReR.rv p1 hs gs sub new rr;exact h v G2 H2 z1 z2
 cases es with
 | nil=>
  refine PE.imp (qb2 F gd.room (gd.glo f hgl) hm hk hb .nil jA n1) fun σ H Q h=>?_;obtain ⟨ρ,G,er,h⟩:=key σ H Q h
  have hz:∀ {m:Nat},Wk (j6 m Γ [] ρ) (fun x=>∀ vs G' H',Po κ K G₀ H₀ σ G H ρ G' H' x.2->jZ κ K G' H' x.1 vs->spF κ K Γ.cl f (vs++[]) H' Q E0)->spF κ K Γ.cl f ([]++[]) H Q E0:=fun {m} h=>by
   cases m with
   | zero=>exact False.elim h
   | succ m=>exact h [] G H (Po.refl er) rfl
  exact hz h
 | cons e l=>simp only [List.any_cons,Bool.or_eq_false_iff] at hs;exact PE.imp (jz F gd.room (gd.glo f hgl) hm hk hb .nil jA (A.as G₀ H₀ (e::l)) n1 (qe hs.1) (zj hs.2)) key
theorem qcy (gd:Gd κ K k X Γ) (A:All κ K k X Γ m) (f:Str) (a:Expr) (p q:Pos) (hgl:glB Γ.sc f=true)
  (he:∀ ρ,evR (m+1) Γ (.Call (.Name f p) [a] [] q) ρ=if qh a=true then .no else (evR m Γ a ρ).th fun x=>(JM f x.1).th fun r=>.ok (r,x.2)):PE X (.Call (.Name f p) [a] [] q) (tR κ K G₀ H₀ Γ (m+1) (.Call (.Name f p) [a] [] q)):=by
 by_cases hs:qh a=true
 ·refine qj fun σ H Q hq1=>?_;obtain ⟨ρ,G,er,h⟩:=hq1;rw [he,if_pos hs] at h;exact h
 have s1:=Bool.eq_false_iff.mpr hs
 have key:∀ (g:Rv->R Rv),(∀ r,JM f r=g r)->∀ σ H Q,tR κ K G₀ H₀ Γ (m+1) (.Call (.Name f p) [a] [] q) σ H Q->tCB (rC1 κ K G₀ H₀ g) (Zw (tR κ K G₀ H₀ Γ m a) qbY) σ H Q:=fun g hg σ H Q ⟨ρ,G,er,h⟩=>by rw [he,if_neg hs] at h;refine ⟨ρ,G,er,Wk.mono (Wk.th h) fun x h v G1 H1 p1 r1=>?_⟩;rw [hg] at h;exact ⟨x.2,σ,G1,H,x.1,v,rfl,p1.er,r1,Wk.mono (Wk.th h) fun z h u G2 H2 p2 r2=>h u G2 H2 (p1.trans p2) (r2.back p1.hs)⟩
 by_cases h1:f = "len"
 ·subst h1;exact PE.imp (zh (qgR (G₀:=G₀) (H₀:=H₀) gd) (gd.glo _ hgl) (gd.blt _ (2:)) PySem.boot_len (qg (A.r G₀ H₀ a) qu (qe s1)) (2:) (2:) (qe s1) rfl) (key _ fun r=>rfl)
 by_cases h2:f = "list"
 ·subst h2;exact PE.imp (qQ (qeB (G₀:=G₀) (H₀:=H₀) gd) (gd.glo _ hgl) (gd.blt _ (2:)) PyProof.Rows.boot_list (qg (A.r G₀ H₀ a) qu (qe s1)) (2:) (2:) (qe s1) rfl) (key _ fun r=>rfl)
 by_cases h3:f = "int"
 ·subst h3;exact PE.imp (qQ (qgU (κ:=κ) (K:=K) (G₀:=G₀) (H₀:=H₀)) (gd.glo _ hgl) (gd.blt _ (2:)) PyProof.Rows.boot_int (qg (A.r G₀ H₀ a) qu (qe s1)) (2:) (2:) (qe s1) rfl) (key _ fun r=>rfl)
 by_cases h4:f = "sorted"
 ·subst h4;exact PE.imp (zh (qaS (G₀:=G₀) (H₀:=H₀) gd) (gd.glo _ hgl) (gd.blt _ (2:)) PyProof.Rows.boot_sorted (qg (A.r G₀ H₀ a) qu (qe s1)) (2:) (2:) (qe s1) rfl) (key _ fun r=>rfl)
 by_cases h5:f = "sum"
 ·subst h5;exact PE.imp (zh (qgS (G₀:=G₀) (H₀:=H₀) gd) (gd.glo _ hgl) (gd.blt _ (2:)) PyProof.Rows.boot_sum (qg (A.r G₀ H₀ a) qu (qe s1)) (2:) (2:) (qe s1) rfl) (key _ fun r=>rfl)
 by_cases h6:f = "all"
 ·subst h6;exact PE.imp (zh (qgT (G₀:=G₀) (H₀:=H₀) gd) (gd.glo _ hgl) (gd.blt _ (2:)) PyProof.Rows.boot_all (qg (A.r G₀ H₀ a) qu (qe s1)) (2:) (2:) (qe s1) rfl) (key _ fun r=>rfl)
 refine qj fun σ H Q hq1=>?_;obtain ⟨ρ,G,er,h⟩:=hq1;rw [he,if_neg hs] at h;have h:=Wk.th h
 cases e1:evR m Γ a ρ with
 | ok x=>
  rw [e1] at h;have e2:JM f x.1=.no:=by unfold JM;rw [if_neg h1,if_neg h2,if_neg h3,if_neg h4,if_neg h5,if_neg h6]
  have h:=Wk.th (x:=JM f x.1) h;rw [e2] at h;exact h
 | exc c l=>rw [e1] at h;exact h
 | no=>rw [e1] at h;exact h
theorem qhc {f:Str} {a:Expr} {t:Expr×Expr} (h:lrE Γ f a=some t):f = "list"/\∃ p q,a=.Call (.Name "range" p) [t.1,t.2] [] q/\glB Γ.sc "range" = true/\qh t.1=false/\qh t.2=false:=by
 unfold lrE at h
 split at h
 ·split at h
  ·rename_i hc;cases h;obtain ⟨h0,rfl,h1,h2,h3⟩:=hc;exact ⟨h0,_,_,rfl,h1,h2,h3⟩
  ·cases h
 ·cases h
theorem qhd {x y r:Rv} (h:lrD x y=.ok r):∃ i j,x.int?=some i/\y.int?=some j/\yg i=true/\yg j=true/\(j - i).toNat<=10000/\r=.tmp (qH i j):=by
 unfold lrD at h
 split at h
 ·rename_i i j e1 e2
  split at h
  ·rename_i hc;cases h;exact ⟨i,j,e1,e2,hc.1,hc.2.1,hc.2.2,rfl⟩
  ·cases h
 ·cases h
theorem qeK (G:Hp) (i:Int) (l:List Nat):qq κ G (l.map fun k:Nat=>D.int (i+k)) (l.map fun k:Nat=>V.int (i+k)):=by
 induction l with
 | nil=>exact .nil
 | cons k l ih=>exact .cons (by simp only [Rep]) ih
theorem qjj (gd:Gd κ K k X Γ) (A:All κ K k X Γ m) (f:Str) (a:Expr) (p q:Pos) (hgl:glB Γ.sc f=true) {t:Expr×Expr} (ht:lrE Γ f a=some t)
  (he:∀ ρ,evR (m+1) Γ (.Call (.Name f p) [a] [] q) ρ=(evR m Γ t.1 ρ).th fun x=>(evR m Γ t.2 x.2).th fun y=>(lrD x.1 y.1).th fun r=>.ok (r,y.2)):PE X (.Call (.Name f p) [a] [] q) (tR κ K G₀ H₀ Γ (m+1) (.Call (.Name f p) [a] [] q)):=by
 obtain ⟨rfl,p',q',rfl,hg,s1,s2⟩:=qhc ht;refine PE.imp (qQ (ZD gd.calm) (gd.glo _ hgl) (gd.blt _ (2:)) PyProof.Rows.boot_list (qg (qQ qaL (gd.glo _ hg) (gd.blt _ (2:)) PyProof.Rows.boot_range (qg (A.r G₀ H₀ t.1) (qg (A.r G₀ H₀ t.2) qu (qe s2)) (qe s1)) (2:) (2:) (qe s1) (zj (by simp [s2]))) qu rfl) (2:) (2:) rfl rfl) fun σ H Q hq1=>?_;obtain ⟨ρ,G,er,h⟩:=hq1;rw [he] at h;refine ⟨ρ,G,er,Wk.mono (Wk.th (x:=evR m Γ t.1 ρ) h) fun x h v G1 H1 p1 r1=>⟨x.2,G1,p1.er,Wk.mono (Wk.th (x:=evR m Γ t.2 x.2) h) fun y h w G2 H2 p2 r2=>?_⟩⟩;have h:=Wk.th (x:=lrD x.1 y.1) h
 cases e3:lrD x.1 y.1 with
 | exc c l=>rw [e3] at h;exact h.elim
 | no=>rw [e3] at h;exact h.elim
 | ok r=>
 rw [e3] at h;obtain ⟨i,j,z1,z2,z3,z4,z5,rfl⟩:=qhd e3;refine ⟨i,j,by rw [(r1.keep p2).int z1,r2.int z2],fun d hd=>⟨d,i,j,rfl,qi,?_,z5,fun c hc=>?_⟩⟩
 ·unfold yg at z3 z4;simp only [Bool.and_eq_true,decide_eq_true_eq] at z3 z4;exact ⟨z3.1,z3.2,z4.1,z4.2⟩
 ·have p3:=Po.room p2.er (qv.upd (o:=HO.rng i j) hd);have rr:qq κ G2 (qH i j) (rgV i (j - i).toNat):=qeK G2 i _;obtain ⟨y1,y2⟩:=p3.er.newList hc rr;exact h _ _ _ (p1.trans (p2.trans (p3.trans y1))) (y2.back (p1.trans (p2.trans p3)).hs)
theorem qcz (gd:Gd κ K k X Γ) (A:All κ K k X Γ m) (f:Str) (a b:Expr) (p q:Pos) (hgl:glB Γ.sc f=true)
  (he:∀ ρ,evR (m+1) Γ (.Call (.Name f p) [a,b] [] q) ρ=if (qh a||qh b)=true then .no else (evR m Γ a ρ).th fun x=>(evR m Γ b x.2).th fun y=>(Qg f x.1 y.1).th fun r=>.ok (r,y.2)):PE X (.Call (.Name f p) [a,b] [] q) (tR κ K G₀ H₀ Γ (m+1) (.Call (.Name f p) [a,b] [] q)):=by
 by_cases hs:(qh a||qh b)=true
 ·refine qj fun σ H Q hq1=>?_;obtain ⟨ρ,G,er,h⟩:=hq1;rw [he,if_pos hs] at h;exact h
 have hsf:=Bool.eq_false_iff.mpr hs;rw [Bool.or_eq_false_iff] at hsf;obtain ⟨s1,s2⟩:=hsf
 have key:∀ (g:Rv->Rv->R Rv),(∀ r s,Qg f r s=g r s)->∀ σ H Q,tR κ K G₀ H₀ Γ (m+1) (.Call (.Name f p) [a,b] [] q) σ H Q->tCB (rC2 κ K G₀ H₀ g) (Zw (tR κ K G₀ H₀ Γ m a) (Zw (tR κ K G₀ H₀ Γ m b) qbY)) σ H Q:=fun g hg σ H Q ⟨ρ,G,er,h⟩=>by rw [he,if_neg hs] at h;refine ⟨ρ,G,er,Wk.mono (Wk.th h) fun x h v G1 H1 p1 r1=>⟨x.2,G1,p1.er,Wk.mono (Wk.th h) fun y h w G2 H2 p2 r2=>?_⟩⟩;rw [hg] at h;exact ⟨y.2,σ,G2,H,H1,x.1,y.1,v,w,rfl,p2.er,r1.keep p2,r2,Wk.mono (Wk.th h) fun z h u G3 H3 p3 r3=>h u G3 H3 (p1.trans (p2.trans p3)) (r3.back (p1.trans p2).hs)⟩
 have sa:(backTo q (starEach [b] X.env)).any (·.1)=false:=zj (by simp [s2])
 by_cases h1:f = "max"
 ·subst h1;exact PE.imp (zh (qgV (G₀:=G₀) (H₀:=H₀) gd) (gd.glo _ hgl) (gd.blt _ (2:)) PyProof.Rows.boot_max (qg (A.r G₀ H₀ a) (qg (A.r G₀ H₀ b) qu (qe s2)) (qe s1)) (2:) (2:) (qe s1) sa) (key _ fun r s=>rfl)
 by_cases h2:f = "min"
 ·subst h2;exact PE.imp (zh (qgW (G₀:=G₀) (H₀:=H₀) gd) (gd.glo _ hgl) (gd.blt _ (2:)) PyProof.Rows.boot_min (qg (A.r G₀ H₀ a) (qg (A.r G₀ H₀ b) qu (qe s2)) (qe s1)) (2:) (2:) (qe s1) sa) (key _ fun r s=>rfl)
 refine qj fun σ H Q hq1=>?_;obtain ⟨ρ,G,er,h⟩:=hq1;rw [he,if_neg hs] at h;have h:=Wk.th h
 cases e1:evR m Γ a ρ with
 | ok x=>
  rw [e1] at h;have h:=Wk.th (x:=evR m Γ b x.2) h
  cases e2:evR m Γ b x.2 with
  | ok y=>
   rw [e2] at h;have e3:Qg f x.1 y.1=.no:=by unfold Qg;rw [if_neg h1,if_neg h2]
   have h:=Wk.th (x:=Qg f x.1 y.1) h;rw [e3] at h;exact h
  | exc c l=>rw [e2] at h;exact h
  | no=>rw [e2] at h;exact h
 | exc c l=>rw [e1] at h;exact h
 | no=>rw [e1] at h;exact h
noncomputable def tyN:D->String
 | .non=>"NoneType" | .bl _=>"bool" | .int _=>"int" | .str _=>"str" | .lst _=>"list" | .tup _=>"tuple" | .ins ..=>"object"
theorem qjk {G H Hb:Hp} {ρ:Env} {σ:L2.St} {r:Rv} {x:V} {t:Str} {b:Bool} (er:ER κ K G₀ H₀ G H ρ σ) (h:RvR κ K H₀ Hb G H ρ σ r x) (e:Z4 r t=some b):TyOf K H x (.type (tyN r.data)):=by
 cases r with
 | val d=>
  cases d<;>simp only [RvR,Rep] at h
  ·subst h;exact .non
  ·subst h;exact .bl _
  ·subst h;exact .int _
  ·subst h;exact .str _
  ·obtain ⟨a,xs,rfl,h1,_⟩:=h;exact .lst (er.sub _ _ h1)
  ·obtain ⟨a,xs,rfl,h1,_⟩:=h;exact .tup (er.sub _ _ h1)
  ·simp only [Z4,Rv.data,qgJ] at e;cases e
 | tmp l=>obtain ⟨a,xs,rfl,h1,_⟩:=h;exact .lst h1
 | cell l=>obtain ⟨a,xs,rfl,h1,_⟩:=h;exact .lst h1
 | scr l=>simp only [Z4] at e;cases e
theorem qdH {r:Rv} {t:Str} {b:Bool} (e:Z4 r t=some b):∃ n:String,t=(n:Str)/\n∈["int","bool","str","list","tuple"]/\PySem.W.kitOne K (.type (tyN r.data)) (.type n)=some b:=by
 have main:∀ d:D,qgJ d t=some b->∃ n:String,t=(n:Str)/\n∈["int","bool","str","list","tuple"]/\PySem.W.kitOne K (.type (tyN d)) (.type n)=some b:=fun d e=>by
  have e':=e;unfold qgJ at e
  cases d<;>dsimp only at e
  case ins=>cases e
  all_goals
   split at e
   ·rename_i ht;cases e;exact ⟨"int",ht,by decide,rfl⟩
   split at e
   ·rename_i ht;cases e;exact ⟨"bool",ht,by decide,rfl⟩
   split at e
   ·rename_i ht;cases e;exact ⟨"str",ht,by decide,rfl⟩
   split at e
   ·rename_i ht;cases e;exact ⟨"list",ht,by decide,rfl⟩
   split at e
   ·rename_i ht;cases e;exact ⟨"tuple",ht,by decide,rfl⟩
   cases e
 cases r with
 | val d=>exact main d e
 | tmp l=>exact main (.lst l) e
 | cell l=>exact main (.lst l) e
 | scr l=>simp only [Z4] at e;cases e
theorem qcA:∀ n∈["int","bool","str","list","tuple"],∀ n'∈["int","bool","str","list","tuple"],(Str.ofString n)=(Str.ofString n')->n=n':=by decide+kernel
theorem qaY {X:Cx}:qY X (.builtin "isinstance") (fun vs H Q=>∃ x c t cv b,vs=[x,c]/\TyOf X.K H x t/\qJ c cv/\(∀ u,qJ c u->u=cv)/\PySem.W.kitOne X.K t cv=some b/\Q (.bl b) H):=by intro pins s σ H xs us Q I r h;obtain ⟨x,c,t,cv,b,rfl,ty,rc,uq,e,q⟩:=h;obtain ⟨u,v,rfl,ru,rv⟩:=Yd r;obtain rfl:v=cv:=uq v rv;exact Yg I ru ty e fun tk=>⟨.bl b,H,I.tok tk,rfl,q⟩
noncomputable def qjl (κ:KC) (K:Frag) (G₀ H₀:Hp) (Γ:Ct) (m:Nat) (a:Expr) (t:Str):TE:=fun σ H Q=>∃ ρ G,ER κ K G₀ H₀ G H ρ σ/\Wk (if (qo t&&glB Γ.sc t&&(qS Γ.N t).isNone&&!qh a)=true then (evR m Γ a ρ).th fun x=>(R.of (Z4 x.1 t)).th fun b=>.ok (Rv.val (.bl b),x.2) else .no) fun x=>∀ v G' H',Po κ K G₀ H₀ σ G H ρ G' H' x.2->RvR κ K H₀ H G' H' x.2 σ x.1 v->Q v H'
theorem qeL (gd:Gd κ K k X Γ) (A:All κ K k X Γ m) (a:Expr) (t:Str) (p tp q:Pos) (hgl:glB Γ.sc "isinstance" = true) :
  PE X (.Call (.Name "isinstance" p) [a,.Name t tp] [] q) (qjl κ K G₀ H₀ Γ m a t):=by
 by_cases hc:(qo t&&glB Γ.sc t&&(qS Γ.N t).isNone&&!qh a)=true
 case neg=>refine qj fun σ H Q hq1=>?_;obtain ⟨ρ,G,er,h⟩:=hq1;rw [if_neg hc] at h;exact h
 have hc':=hc;simp only [Bool.and_eq_true,Bool.not_eq_true'] at hc';obtain ⟨⟨⟨c1,c2⟩,c3⟩,s1⟩:=hc'
 have key:∀ n:String,n∈["int","bool","str","list","tuple"]->t=(n:Str)->∀ σ H Q,qjl κ K G₀ H₀ Γ m a t σ H Q->
   tCB (fun vs H Q=>∃ x n t b,vs=[x,.ty n]/\TyOf X.K H x t/\PySem.W.kitOne X.K t (.type n)=some b/\Q (.bl b) H) (Zw (tR κ K G₀ H₀ Γ m a) (Zw (tC (.ty n)) qbY)) σ H Q:=fun n hm hn σ H Q ⟨ρ,G,er,h⟩=>by
  rw [if_pos hc] at h;refine ⟨ρ,G,er,Wk.mono (Wk.th h) fun x h v G1 H1 p1 r1=>?_⟩;obtain ⟨b,e1,h⟩:=Wk.of (Wk.th h);obtain ⟨n',hn',hm',kt⟩:=qdH (K:=K) e1
  have:n=n':=qcA n hm n' hm' (hn.symm.trans hn')
  subst this;exact ⟨v,n,_,b,rfl,by rw [gd.hK];exact qjk p1.er r1 e1,by rw [gd.hK];exact kt,h _ G1 H1 p1 (by simp only [RvR,Rep])⟩
 have go:∀ n:String,n∈["int","bool","str","list","tuple"]->t=(n:Str)->(hb:PE X (.Name t tp) (tC (.ty n)))->PE X (.Call (.Name "isinstance" p) [a,.Name t tp] [] q) (qjl κ K G₀ H₀ Γ m a t):=fun n hm hn hb=>PE.imp (zh qcd (gd.glo _ hgl) (gd.blt _ (2:)) PyProof.Rows.boot_isinstance (qg (A.r G₀ H₀ a) (qg hb qu rfl) (qe s1)) (2:) (2:) (qe s1) rfl) (key n hm hn)
 by_cases h1:t = "int"
 ·subst h1;exact go "int" (2:) rfl (yA (gd.glo _ c2) (gd.blt _ (2:)) PyProof.Rows.boot_int rfl)
 by_cases h2:t = "bool"
 ·subst h2;exact go "bool" (2:) rfl (yA (gd.glo _ c2) (gd.blt _ (2:)) PyProof.Rows.boot_bool rfl)
 by_cases h3:t = "str"
 ·subst h3;exact go "str" (2:) rfl (yA (gd.glo _ c2) (gd.blt _ (2:)) PyProof.Rows.boot_str rfl)
 by_cases h4:t = "list"
 ·subst h4;exact go "list" (2:) rfl (yA (gd.glo _ c2) (gd.blt _ (2:)) PyProof.Rows.boot_list rfl)
 by_cases h5:t = "tuple"
 ·subst h5;exact go "tuple" (2:) rfl (yA (gd.glo _ c2) (gd.blt _ (2:)) PyProof.Rows.boot_tuple rfl)
 refine qj fun σ H Q hq1=>?_;obtain ⟨ρ,G,er,h⟩:=hq1;rw [if_pos hc] at h;have h:=Wk.th h
 cases e1:evR m Γ a ρ with
 | ok x=>
  rw [e1] at h;obtain ⟨b,e2,h⟩:=Wk.of (Wk.th (x:=R.of (Z4 x.1 t)) h);obtain ⟨n,hn,hm,_⟩:=qdH (K:=K) e2;simp only [List.mem_cons,List.not_mem_nil,or_false] at hm;rcases hm with rfl | rfl | rfl | rfl | rfl
  ·exact h1 hn
  ·exact h2 hn
  ·exact h3 hn
  ·exact h4 hn
  ·exact h5 hn
 | exc c l=>rw [e1] at h;exact h
 | no=>rw [e1] at h;exact h
theorem qhe (gd:Gd κ K k X Γ) (A:All κ K k X Γ m) (a:Expr) (t:Str) (p tp q:Pos) (hgl:glB Γ.sc "isinstance" = true)
  (he:∀ ρ,evR (m+1) Γ (.Call (.Name "isinstance" p) [a,.Name t tp] [] q) ρ=if (qo t&&glB Γ.sc t&&(qS Γ.N t).isNone&&!qh a)=true then (evR m Γ a ρ).th fun x=>(R.of (qbM Γ.cs x.1 t)).th fun b=>.ok (.val (.bl b),x.2) else .no) :
  PE X (.Call (.Name "isinstance" p) [a,.Name t tp] [] q) (tR κ K G₀ H₀ Γ (m+1) (.Call (.Name "isinstance" p) [a,.Name t tp] [] q)):=by
 rintro pins s σ H Q I ⟨ρ,G,er,h⟩;rw [he] at h;obtain ⟨hc,h'⟩:=Wk.iff (c:=(qo t&&glB Γ.sc t&&(qS Γ.N t).isNone&&!qh a)=true) h;have hc':=hc;simp only [Bool.and_eq_true,Bool.not_eq_true'] at hc';obtain ⟨⟨⟨c1,c2⟩,c3⟩,s1⟩:=hc';have h2:=Wk.th h'
 cases e1:evR m Γ a ρ with
 | exc c l=>rw [e1] at h2;exact h2.elim
 | no=>rw [e1] at h2;exact h2.elim
 | ok x=>
  rw [e1] at h2;obtain ⟨b,e2,h3⟩:=Wk.of (Wk.th (x:=R.of (qbM Γ.cs x.1 t)) h2)
  by_cases hi:∃ c ns ds,x.1=.val (.ins c ns ds)
  ·obtain ⟨c,ns,ds,ex⟩:=hi;rw [ex] at e2;have e2:(if bty.contains t=true then none else Γ.cs.sub c t)=some b:=e2
   have e2:Γ.cs.sub c t=some b:=by
    by_cases hb:bty.contains t=true
    ·rw [if_pos hb] at e2;cases e2
    ·rw [if_neg hb] at e2;exact e2
   obtain ⟨C,T,hC,hty,hT,kt⟩:=gd.subs c t b e2;refine (zh qaY (gd.glo _ hgl) (gd.blt _ (2:)) PyProof.Rows.boot_isinstance (qg (A.r G₀ H₀ a) (qg (jy (v:=.ref T) (gd.glo _ c2) hT rfl (zc c1).1) qu rfl) (qe s1)) (2:) (2:) (qe s1) rfl) pins s σ H Q I ⟨ρ,G,er,?_⟩;rw [e1];intro v G1 H1 p1 r1;rw [ex] at r1;simp only [RvR,Rep] at r1;obtain ⟨p',dx,C',xs,hc',rfl,h4,hl,h5⟩:=r1;rw [hC] at hc';cases hc';exact ⟨.ref p',.ref T,.ref C,.ref T,b,rfl,hty _ _ _ _ (p1.er.sub _ _ h4),rfl,fun u hu=>hu,kt,h3 _ G1 H1 p1 (by simp only [RvR,Rep])⟩
  ·have e3:Z4 x.1 t=some b:=by
    rw [<-e2];obtain ⟨r,env⟩:=x
    cases r with
    | val d=>cases d<;>first | rfl | exact absurd ⟨_,_,_,rfl⟩ hi
    | _=>rfl
   refine qeL gd A a t p tp q hgl pins s σ H Q I ⟨ρ,G,er,?_⟩;rw [if_pos hc,e1];show Wk ((R.of (Z4 x.1 t)).th _) _;rw [e3];exact h3
theorem Qj {o:Expr} (h:qT o=true) (x:Str) (env:PySem.Env):attributeBase o x env (eval o env)=eval o env:=by cases o<;>first | rfl | (simp [qT] at h)
theorem qeM {cs:Cs} {r:Rv} {x:Str} {d:D} (h:qcl cs r x=some d):∃ c ns ds,r=.val (.ins c ns ds)/\cs.fld c x=true/\(ns.zip ds).lookup x=some d:=by
 cases r with
 | val e=>
  cases e with
  | ins c ns ds=>
   have h:(if cs.fld c x=true then (ns.zip ds).lookup x else none)=some d:=h
   by_cases hf:cs.fld c x=true
   ·rw [if_pos hf] at h;exact ⟨c,ns,ds,rfl,hf,h⟩
   ·rw [if_neg hf] at h;cases h
  | _=>cases h
 | _=>cases h
theorem qhf {cs:Cs} {r:Rv} {x f:Str} (h:mtD cs r x=some f):∃ c ns ds,r=.val (.ins c ns ds)/\ns.contains x=false/\cs.mt c x=some f:=by
 cases r with
 | val e=>
  cases e with
  | ins c ns ds=>
   have h:(if ns.contains x=true then none else cs.mt c x)=some f:=h
   by_cases hf:ns.contains x=true
   ·rw [if_pos hf] at h;cases h
   ·rw [if_neg hf] at h;exact ⟨c,ns,ds,rfl,by simpa using hf,h⟩
  | _=>cases h
 | _=>cases h
theorem Q0 {G:Hp} {x:Str} {d:D}:∀ {ns:List Str} {ds:List D} {xs:List V},qq κ G ds xs->(ns.zip ds).lookup x=some d->∃ v,(ns.zip xs).lookup x=some v/\Rep κ G d v
 | [],_,_,_,h=>by simp at h
 | n::ns,[],_,_,h=>by simp at h
 | n::ns,e::ds,xs,r,h=>by
  simp only [qq] at r;obtain ⟨v,us,rfl,r1,r2⟩:=r;rw [List.zip_cons_cons,List.lookup_cons] at h
  cases hx:(x == n) with
  | true=>rw [hx] at h;cases h;exact ⟨v,by rw [List.zip_cons_cons,List.lookup_cons,hx],r1⟩
  | false=>rw [hx] at h;obtain ⟨u,z1,z2⟩:=Q0 r2 h;exact ⟨u,by rw [List.zip_cons_cons,List.lookup_cons,hx];exact z1,z2⟩
theorem Q1 {x:Str}:∀ {ns:List Str} {xs:List V},ns.contains x=false->(ns.zip xs).lookup x=none
 | [],_,_=>by simp
 | n::ns,[],_=>by simp
 | n::ns,v::xs,h=>by simp only [List.contains_cons,Bool.or_eq_false_iff] at h;rw [List.zip_cons_cons,List.lookup_cons,h.1];exact Q1 h.2
theorem qhg (gd:Gd κ K k X Γ) (A:All κ K k X Γ m) (o:Expr) (x:Str) (pos:Pos):PE X (.Attribute o x pos) (tR κ K G₀ H₀ Γ (m+1) (.Attribute o x pos)):=by
 by_cases ho:qT o=true
 case neg=>exact qj fun σ H Q ⟨ρ,G,er,h⟩=>ho (Wk.iff (show Wk (if qT o=true then _ else R.no) _ from h)).1
 refine PE.imp (qgf (A.r G₀ H₀ o) (Qj ho x X.env)) fun σ H Q hq1=>?_;obtain ⟨ρ,G,er,h⟩:=hq1;have h:=(Wk.iff (show Wk (if qT o=true then _ else R.no) _ from h)).2;refine ⟨ρ,G,er,Wk.mono (Wk.th (x:=evR m Γ o ρ) h) fun y h v G1 H1 p1 r1=>?_⟩;obtain ⟨d,e1,h⟩:=Wk.of (Wk.th h);obtain ⟨c,ns,ds,e2,e3,e4⟩:=qeM e1;rw [e2] at r1;simp only [RvR,Rep] at r1;obtain ⟨p,dx,C,xs,hc,rfl,h1,hl,h2⟩:=r1;obtain ⟨u,e5,ru⟩:=Q0 h2 e4;exact ⟨p,C,dx,_,u,rfl,p1.er.sub _ _ h1,gd.cls c C hc,gd.flds c x C e3 hc,e5,h u G1 H1 p1 ru⟩
theorem YD {o:Expr} {x:Str} {ap q:Pos} {es:List Expr} {env:PySem.Env} (ho:qT o=true) (hs:es.any qh=false) (hl:es.length < 30) (hp:(ap.endLine == q.line)=true) :
  eval (.Call (.Attribute o x ap) es [] q) env=(do
   let ov<-eval o env
   standAt ap.atName
   let (f,first)<-holding [ov] (getMethod ov x (do return (<-importBound o env).getD true))
   callWith q f first (backTo q (starEach es env)) (backToKw q (keywordEach [] env))):=by
 have hm:methodCallForm (es.length+([]:List Keyword).length) (backTo q (starEach es env)) (backToKw q (keywordEach [] env))=true:=by
  have e:=zj (pos:=q) (env:=env) hs;unfold methodCallForm;simp only [Bool.and_eq_true,decide_eq_true_eq];refine ⟨⟨?_,rfl⟩,?_⟩
  ·rw [List.all_eq_true];intro y hy
   have:=List.any_eq_false.mp e y hy
   simpa using this
  ·show es.length+0+0 < 30;omega
 show (do
  let ov<-attributeBase o x env (eval o env)
  standAt ap.atName
  methodCall o x ap q env ov (es.length+([]:List Keyword).length) (backTo q (starEach es env)) (backToKw q (keywordEach [] env)))=_
 rw [Qj ho];unfold methodCall;simp only [hm,calleeOf,methodCallPos,if_true,hp,Bool.not_true,Bool.false_or];rfl
theorem YE {G:Hp}:∀ {l:List D} {xs:List V} {zs:List Str},qq κ G l xs->Qf l=some zs->xs=zs.map V.str
 | [],xs,zs,h,e=>by simp only [qq] at h;cases e;exact h
 | d::l,xs,zs,h,e=>by
  simp only [qq] at h;obtain ⟨v,r,rfl,h1,h2⟩:=h
  cases d with
  | str z=>
   simp only [Rep] at h1;subst h1;have e:(Qf l).map (z :: ·)=some zs:=e
   cases q:Qf l with
   | none=>rw [q] at e;cases e
   | some ys=>rw [q] at e;cases e;rw [YE h2 q];rfl
  | _=>cases e
theorem qhh {r:Rv} {as:List Ar} {x:Rv} (h:ixM r as=.ok x):∃ l zs s,r.plain?=some l/\as=[.val (.str s)]/\Qf l=some zs/\s∈zs/\x=.val (.int (zs.idxOf s:Nat)):=by
 unfold ixM at h
 split at h
 ·rename_i l s e
  cases q:Qf l with
  | none=>rw [q] at h;cases h
  | some zs=>
   rw [q] at h;dsimp only at h
   split at h
   ·rename_i hc;cases h;exact ⟨l,zs,s,e,rfl,q,by simpa using hc,rfl⟩
   ·cases h
 ·cases h
theorem qhi {r:Rv} (as:List Ar) (h:r.plain?=none):ixM r as=.no:=by unfold ixM;rw [h]
theorem qcB {pins:PP} {s:Shared} {σ:L2.St} {H G:Hp} {Q:VK} {ρ:Env} {y:Rv×Env} {o:Expr} {ap q:Pos} {es:List Expr} (A:All κ K k X Γ m) (ho:qT o=true) (hp:(ap.endLine == q.line)=true) (hl:es.length < 30)
  (er:ER κ K G₀ H₀ G H ρ σ) (e1:evR m Γ o ρ=.ok y) (h:Wk (j6 m Γ es y.2) (fun z=>Wk ((ixM y.1 z.1).th fun r=>R.ok (r,z.2)) (fun x=>∀ v G' H',Po κ K G₀ H₀ σ G H ρ G' H' x.2->RvR κ K H₀ H G' H' x.2 σ x.1 v->Q v H'))) (I:Inv X pins σ H s) :
  wpAny (model X.prog X.w) X.A (eval (.Call (.Attribute o "index" ap) es [] q) X.env) (EP X pins σ Q) X.xe s:=by
 cases e3:y.1.plain? with
 | none=>
  refine False.elim ?_
  cases e4:j6 m Γ es y.2 with
  | ok z=>rw [e4] at h;have h:Wk ((ixM y.1 z.1).th fun r=>R.ok (r,z.2)) _:=h;rw [qhi z.1 e3] at h;exact h
  | exc c l=>rw [e4] at h;exact h
  | no=>rw [e4] at h;exact h
 | some l0=>
  have hs:=YC h
  cases es with
  | nil=>
   refine False.elim ?_
   have hz:∀ {m:Nat},Wk (j6 m Γ [] y.2) (fun z=>Wk ((ixM y.1 z.1).th fun r=>R.ok (r,z.2)) (fun x=>∀ v G' H',Po κ K G₀ H₀ σ G H ρ G' H' x.2->RvR κ K H₀ H G' H' x.2 σ x.1 v->Q v H'))->False:=fun {m} h=>by
    cases m with
    | zero=>exact h
    | succ m=>
     have h:Wk ((ixM y.1 []).th fun r=>R.ok (r,y.2)) _:=h
     have:ixM y.1 []=.no:=by unfold ixM;rw [e3]
     rw [this] at h;exact h
   exact hz h
  | cons e l=>
   have hs':=hs;simp only [List.any_cons,Bool.or_eq_false_iff] at hs
   have few:((backTo q (starEach (e::l) X.env)).all (fun x=>!x.1)&&(backToKw q (keywordEach [] X.env)).all (fun x=>x.1.isSome)&&decide ((e::l).length+([]:List Keyword).length+(if ([]:List Keyword).isEmpty then 0 else 1) < 30))=true:=by
    have e:=zj (pos:=q) (env:=X.env) hs';simp only [Bool.and_eq_true,decide_eq_true_eq];refine ⟨⟨?_,rfl⟩,?_⟩
    ·rw [List.all_eq_true];intro y hy
     have:=List.any_eq_false.mp e y hy
     simpa using this
    ·show _+0+0 < 30;omega
   refine qei PySem.F.plainAttrs_list PySem.F.slot_list_index PySem.F.type_list_index qcj (A.r G₀ H₀ o) (A.as G₀ H₀ (e::l)) (Qj ho _ _) few hp (qe hs.1) (zj hs.2) pins s σ H Q I ?_;refine ⟨ρ,G,er,?_⟩;rw [e1];intro v G1 H1 p1 r1;obtain ⟨a,xs,rfl,h1,h2⟩:=r1.plain p1.er e3;refine ⟨.inl ⟨rfl,xs,SqL.of h1⟩,y.2,G1,p1.er,Wk.mono h fun z h vs G2 H2 p2 r2=>?_⟩
   cases e5:ixM y.1 z.1 with
   | ok x=>
    rw [e5] at h;obtain ⟨l1,zs,s1,q1,q2,q3,q4,rfl⟩:=qhh e5;rw [e3] at q1;cases q1;rw [q2] at r2;obtain ⟨u,r,rfl,ru,rfl⟩:=r2;have ru:u=.str s1:=by simpa only [ArR,Rep] using ru
    subst ru;refine ⟨a,zs,s1,rfl,rfl,?_,q4,?_⟩
    ·rw [<-YE h2 q3];exact p2.hs _ _ h1
    ·exact h _ G2 H2 (p1.trans p2) (by simp only [RvR,Rep])
   | exc c l=>rw [e5] at h;exact False.elim h
   | no=>rw [e5] at h;exact False.elim h
theorem qhj {o:Expr} {x:Str} {es:List Expr} {b:Bool} {t:Expr×Expr×Int} (h:dgE Γ o x es b=some t):∃ p q i j,o=.Call (.Name "dict" p) [t.1] [] q/\x = "get"/\es=[t.2.1,.Constant (.int t.2.2) i j]/\b=true/\glB Γ.sc "dict" = true/\qh t.1=false/\qh t.2.1=false:=by
 unfold dgE at h
 split at h
 ·split at h
  ·rename_i hc;cases h;obtain ⟨rfl,h1,h2,h3,h4,h5⟩:=hc;exact ⟨_,_,_,_,rfl,h1,rfl,h2,h3,h4,h5⟩
  ·cases h
 ·cases h
theorem qeN (gd:Gd κ K k X Γ) (A:All κ K k X Γ m) (o:Expr) (x:Str) (ap:Pos) (es:List Expr) (q:Pos)
  (he:∀ ρ,evR (m+1) Γ (.Call (.Attribute o x ap) es [] q) ρ=(R.of (dgE Γ o x es (ap.endLine == q.line))).th fun t=>(evR m Γ t.1 ρ).th fun y=>(evR m Γ t.2.1 y.2).th fun z=>(Yz t.2.2 y.1 z.1).th fun r=>.ok (r,z.2)) :
  PE X (.Call (.Attribute o x ap) es [] q) (tR κ K G₀ H₀ Γ (m+1) (.Call (.Attribute o x ap) es [] q)):=by
 cases hd:dgE Γ o x es (ap.endLine == q.line) with
 | none=>refine qj fun σ H Q hq1=>?_;obtain ⟨ρ,G,er,h⟩:=hq1;rw [he,hd] at h;exact h
 | some t=>
  simp only [hd] at he;obtain ⟨a,e,n⟩:=t;obtain ⟨p',q',i,j,rfl,rfl,rfl,hl,hg,s1,s2⟩:=qhj hd;have hu:X.A.units+1 < cLine:=by have:=gd.room.un;omega
  have st:starEach [e,Expr.Constant (.int n) i j] X.env=[(false,eval e X.env),(false,eval (Expr.Constant (.int n) i j) X.env)]:=by rw [qe s2];rfl
  refine PE.imp (qce hu (qQ (ZC gd.calm) (gd.glo _ hg) (gd.blt _ (2:)) PyProof.Rows.boot_dict (qg (A.r G₀ H₀ a) qu (qe s1)) (2:) (2:) (qe s1) rfl) (A.r G₀ H₀ e) (QZ (κ:=κ) (K:=K) (G₀:=G₀) (H₀:=H₀) (Γ:=Γ) (m:=0) (.int n) i j) ⟨rfl,?_,hl,?_⟩) fun σ H Q hq1=>?_
  ·rw [st];rfl
  ·rw [st];rfl
  obtain ⟨ρ,G,er,h⟩:=hq1;rw [he] at h;refine ⟨ρ,G,er,Wk.mono (Wk.th (x:=evR m Γ a ρ) h) fun y h v G1 H1 p1 r1=>?_⟩;have h:=Wk.th (x:=evR m Γ e y.2) h
  cases e2:evR m Γ e y.2 with
  | exc c l=>rw [e2] at h;exact h.elim
  | no=>rw [e2] at h;exact h.elim
  | ok z=>
  rw [e2] at h;have h:=Wk.th (x:=Yz n y.1 z.1) h
  cases e3:Yz n y.1 z.1 with
  | exc c l=>rw [e3] at h;exact h.elim
  | no=>rw [e3] at h;exact h.elim
  | ok r=>
  rw [e3] at h;obtain ⟨l,k',kvs,z1,z2,z3,z4,rfl⟩:=qcr e3;obtain ⟨b,xs,rfl,q1,q2⟩:=r1.list p1.er z1;refine ⟨b,xs,kvs,rfl,by rw [gd.hK];exact q1,Paired.mapP (QY q2 z3) fun _ _ ⟨c,w1,w2⟩=>⟨c,w1,p1.er.sub _ _ w2⟩,z4,fun d hd'=>?_⟩;have p2:=Po.room p1.er (qv.upd (o:=HO.dK (kvs.map kvV)) hd');refine ⟨d,rfl,.inl ⟨_,.inl qi⟩,y.2,G1,p2.er,?_⟩;rw [e2];intro u G3 H3 p3 r3;refine ⟨z.2,G3,p3.er,fun w G4 H4 p4 r4=>?_⟩;have hw:w=.int n:=by simpa only [RvR,Rep] using r4
  have hu':u=.str k':=r3.str z2;subst hw hu';refine ⟨_,qgx.k (k:=.inr k') (p4.hs _ _ (p3.hs _ _ qi)),?_⟩;rw [qaU];refine h _ G4 H4 (p1.trans (p2.trans (p3.trans p4))) ?_
  cases qew kvs k'<;>simp only [RvR,Rep,Option.map,Option.getD]
theorem qeO (gd:Gd κ K k X Γ) (A:All κ K k X Γ m) (o:Expr) (x:Str) (ap:Pos) (es:List Expr) (q:Pos):PE X (.Call (.Attribute o x ap) es [] q) (tR κ K G₀ H₀ Γ (m+1) (.Call (.Attribute o x ap) es [] q)):=by
 by_cases hc:(qT o&&(ap.endLine == q.line)&&decide (es.length < 30))=true
 case neg=>refine qeN gd A o x ap es q fun ρ=>?_;show (if (qT o&&(ap.endLine == q.line)&&decide (es.length < 30))=true then _ else _)=_;rw [if_neg hc]
 rintro pins s σ H Q I ⟨ρ,G,er,h⟩;have h:Wk (if (qT o&&(ap.endLine == q.line)&&decide (es.length < 30))=true then _ else _) _:=h;rw [if_pos hc] at h;have h:=Wk.th (x:=evR m Γ o ρ) h;simp only [Bool.and_eq_true,decide_eq_true_eq] at hc;obtain ⟨⟨ho,hp⟩,hl⟩:=hc
 cases e1:evR m Γ o ρ with
 | exc c l=>rw [e1] at h;exact h.elim
 | no=>rw [e1] at h;exact h.elim
 | ok y=>
  rw [e1] at h
  cases e2:mtD Γ.cs y.1 x with
  | none=>
   have h:Wk (if x = "index" then (j6 m Γ es y.2).th fun z=>(ixM y.1 z.1).th fun r=>R.ok (r,z.2) else R.no) (fun x=>∀ v G' H',Po κ K G₀ H₀ σ G H ρ G' H' x.2->RvR κ K H₀ H G' H' x.2 σ x.1 v->Q v H'):=by
    have h:Wk (match mtD Γ.cs y.1 x with
     | some f=>(j6 m Γ es y.2).th fun z=>(Γ.cl f (y.1.ar::z.1)).th fun r=>R.ok (r,z.2)
     | none=>if x = "index" then (j6 m Γ es y.2).th fun z=>(ixM y.1 z.1).th fun r=>R.ok (r,z.2) else R.no) _:=h
    rw [e2] at h;exact h
   obtain ⟨hx,h⟩:=Wk.iff h;subst hx;have h:=Wk.th h;exact qcB A ho hp hl er e1 h I
  | some f=>
  have h:Wk ((j6 m Γ es y.2).th fun z=>(Γ.cl f (y.1.ar::z.1)).th fun r=>R.ok (r,z.2)) (fun x=>∀ v G' H',Po κ K G₀ H₀ σ G H ρ G' H' x.2->RvR κ K H₀ H G' H' x.2 σ x.1 v->Q v H'):=by
   have h:Wk (match mtD Γ.cs y.1 x with
    | some f=>(j6 m Γ es y.2).th fun z=>(Γ.cl f (y.1.ar::z.1)).th fun r=>R.ok (r,z.2)
    | none=>if x = "index" then (j6 m Γ es y.2).th fun z=>(ixM y.1 z.1).th fun r=>R.ok (r,z.2) else R.no) _:=h
   rw [e2] at h;exact h
  obtain ⟨c,ns,ds,e3,e4,e5⟩:=qhf e2;obtain ⟨C,fa,fd,ps,hC,M,F,B⟩:=gd.mts c x f e5;have h:=Wk.th (x:=j6 m Γ es y.2) h;have hs:=YC h;have hs0:=hs
  have key:∀ v G1 H1,Po κ K G₀ H₀ σ G H ρ G1 H1 y.2->RvR κ K H₀ H G1 H1 y.2 σ y.1 v->∃ a dx fs,v=.ref a/\H1 a=some (.ins C dx fs)/\fs.lookup x=none/\tAs κ K G₀ H₀ Γ m es σ H1 fun vs H2=>spF κ K Γ.cl f (v::(vs++[])) H2 Q E0:=fun v G1 H1 p1 r1=>by
   have r1':=r1;rw [e3] at r1';simp only [RvR,Rep] at r1';obtain ⟨p',dx,C',xs,hc',rfl,h4,hl,h5⟩:=r1';rw [hC] at hc';cases hc';refine ⟨p',dx,_,rfl,p1.er.sub _ _ h4,Q1 e4,y.2,G1,p1.er,Wk.mono h fun z h vs G2 H2 p2 r2=>?_⟩;show spF κ K Γ.cl f (V.ref p'::(vs++[])) H2 Q E0;rw [List.append_nil];refine ⟨G2,y.1.ar::z.1,p2.er.sub,⟨_,_,rfl,?_,r2⟩,Wk.mono (Wk.th h) fun r h v G3 H3 hs gs sub new rr=>?_⟩
   ·rw [e3] at r1 ⊢;exact Rep.same p2.gs r1
   ·obtain ⟨z1,z2⟩:=ReR.rv (p1.trans p2) hs gs sub new rr;exact h v G3 H3 z1 z2
  have all:qb0 C x (spF κ K Γ.cl f) [] E0 (tR κ K G₀ H₀ Γ m o) (tAs κ K G₀ H₀ Γ m es) σ H Q:=⟨ρ,G,er,by rw [e1];exact key⟩
  cases es with
  | nil=>
   have qjf:qb0 C x (spF κ K Γ.cl f) [] E0 (tR κ K G₀ H₀ Γ m o) qbY σ H Q:=by
    refine ⟨ρ,G,er,?_⟩;rw [e1];intro v G1 H1 p1 r1;obtain ⟨a,dx,fs,z1,z2,z3,ρ',G',er',z⟩:=key v G1 H1 p1 r1;refine ⟨a,dx,fs,z1,z2,z3,?_⟩
    have hz:∀ {m:Nat},Wk (j6 m Γ [] ρ') (fun x=>∀ vs G'' H',Po κ K G₀ H₀ σ G' H1 ρ' G'' H' x.2->jZ κ K G'' H' x.1 vs->spF κ K Γ.cl f (v::(vs++[])) H' Q E0)->spF κ K Γ.cl f (v::([]++[])) H1 Q E0:=fun {m} h=>by
     cases m with
     | zero=>exact False.elim h
     | succ m=>exact h [] G' H1 (Po.refl er') rfl
    exact hz z
   exact qb3 (A.r G₀ H₀ _) (gd.cls c C hC) M F gd.room B .nil jA (ht:=YD ho hs0 hl hp) pins s σ H Q I qjf
  | cons e l=>simp only [List.any_cons,Bool.or_eq_false_iff] at hs;exact qea (A.r G₀ H₀ _) (gd.cls c C hC) M F gd.room B .nil jA (A.as G₀ H₀ (e::l)) (qe hs.1) (zj hs.2) (ht:=YD ho hs0 hl hp) pins s σ H Q I all
theorem qeP (gd:Gd κ K k X Γ) (A:All κ K k X Γ m) (f:Str) (es:List Expr) (p q:Pos) (hok:qo f=true) (hgl:glB Γ.sc f=true) (ht:Γ.cs.tab.contains f=true)
  (he:∀ ρ,evR (m+1) Γ (.Call (.Name f p) es [] q) ρ=(j6 m Γ es ρ).th fun x=>(Γ.nw f x.1).th fun r=>.ok (r,x.2)):PE X (.Call (.Name f p) es [] q) (tR κ K G₀ H₀ Γ (m+1) (.Call (.Name f p) es [] q)):=by
 by_cases hs:es.any qh=false
 case neg=>refine qj fun σ H Q hq1=>?_;obtain ⟨ρ,G,er,h⟩:=hq1;rw [he] at h;exact hs (YC (Wk.th h))
 rcases gd.mks f ht with hno | ⟨C,fa,fd,ps,sp,M,F,hm,hb,hk,hsp⟩
 ·refine qj fun σ H Q hq1=>?_;obtain ⟨ρ,G,er,h⟩:=hq1;rw [he] at h;have h:=Wk.th (x:=j6 m Γ es ρ) h
  cases e1:j6 m Γ es ρ with
  | ok x=>rw [e1] at h;have h:Wk ((Γ.nw f x.1).th _) _:=h;rw [hno] at h;exact h
  | exc c l=>rw [e1] at h;exact h
  | no=>rw [e1] at h;exact h
 obtain ⟨n1,n2,n3⟩:=zc hok
 have rm:Room (k - 1+1) X.A:=by rw [show k - 1+1=k by omega];exact gd.room
 have key:∀ σ H Q,tR κ K G₀ H₀ Γ (m+1) (.Call (.Name f p) es [] q) σ H Q->qb1 C sp [] E0 (tAs κ K G₀ H₀ Γ m es) σ H Q:=fun σ H Q ⟨ρ,G,er,h⟩=>by rw [he] at h;refine ⟨ρ,G,er,Wk.mono (Wk.th h) fun x h vs G1 H1 p1 r1=>?_⟩;show ∀ x dx,H1 x=none->H1 dx=none->dx≠x->sp (.ref x::(vs++[])) _ _ E0;rw [List.append_nil];refine hsp vs H1 Q ⟨G1,x.1,p1.er.sub,r1,Wk.mono (Wk.th h) fun r h v G2 H2 hs gs sub new rr=>?_⟩;obtain ⟨z1,z2⟩:=ReR.rv p1 hs gs sub new rr;exact h v G2 H2 z1 z2
 cases es with
 | nil=>
  refine PE.imp (qb4 M F rm (gd.glo f hgl) hm hb .nil jA n1) fun σ H Q h=>?_;obtain ⟨ρ,G,er,h⟩:=key σ H Q h
  have hz:∀ {m:Nat},Wk (j6 m Γ [] ρ) (fun x=>∀ vs G' H',Po κ K G₀ H₀ σ G H ρ G' H' x.2->jZ κ K G' H' x.1 vs->∀ x dx,H' x=none->H' dx=none->dx≠x->sp (.ref x::(vs++[])) (upd (upd H' dx (.own x)) x (.ins C dx [])) (fun v H2=>v=.non/\Q (.ref x) H2) E0)->qb1 C sp [] E0 qbY σ H Q:=fun {m} h=>by
   cases m with
   | zero=>exact False.elim h
   | succ m=>exact h [] G H (Po.refl er) rfl
  exact hz h
 | cons e l=>simp only [List.any_cons,Bool.or_eq_false_iff] at hs;exact PE.imp (qeb M F rm (gd.glo f hgl) hm hb .nil jA (A.as G₀ H₀ (e::l)) n1 (qe hs.1) (zj hs.2)) key
end
end DE
namespace DE
open PySem PySem.Spec PyProof.Rows L2
noncomputable def gT (κ:KC) (K:Frag) (Γ:Ct) (tg:Expr):TG:=fun v σ H Q=>∃ (G₀ H₀:Hp) (ρ:Env) (G:Hp) (d:D),ER κ K G₀ H₀ G H ρ σ/\Rep κ G d v/\Wk (qex Γ tg d ρ) fun ρ'=>∀ σ',ER κ K G₀ H₀ G H ρ' σ'->Q σ' H
noncomputable def gN (κ:KC) (K:Frag) (Γ:Ct) (x:Str):TG:=fun v σ H Q=>∃ (G₀ H₀:Hp) (ρ:Env) (G:Hp) (d:D),ER κ K G₀ H₀ G H ρ σ/\Rep κ G d v/\Wk (Z5 Γ x d ρ) fun ρ'=>∀ σ',ER κ K G₀ H₀ G H ρ' σ'->Q σ' H
noncomputable def gNs (κ:KC) (K:Frag) (Γ:Ct) (xs:List Str):TGs:=fun vs σ H Q=>∃ (G₀ H₀:Hp) (ρ:Env) (G:Hp) (ds:List D),ER κ K G₀ H₀ G H ρ σ/\qq κ G ds vs/\Wk (Qh Γ xs ds ρ) fun ρ'=>∀ σ',ER κ K G₀ H₀ G H ρ' σ'->Q σ' H
theorem PG.imp {X:Cx} {tg:Expr} {t t':TG} (h:PG X tg t') (i:∀ v σ H Q,t v σ H Q->t' v σ H Q):PG X tg t:=fun pins s σ H v u Q I r hw=>h pins s σ H v u Q I r (i v σ H Q hw)
theorem PGs.imp {X:Cx} {tg:List Expr} {t t':TGs} (h:PGs X tg t') (i:∀ v σ H Q,t v σ H Q->t' v σ H Q):PGs X tg t:=fun pins s σ H v u Q I r hw=>h pins s σ H v u Q I r (i v σ H Q hw)
theorem yP {X:Cx} {tg:Expr} {t:TG} (h:∀ v σ H Q,¬ t v σ H Q):PG X tg t:=fun pins s σ H v u Q I r hw=>absurd hw (h v σ H Q)
section
variable {κ:KC} {K:Frag} {G₀ H₀:Hp} {k m:Nat} {X:Cx} {Γ:Ct}
theorem qhk (gd:Gd κ K k X Γ) (x:Str) (pos:Pos):PG X (.Name x pos) (gN κ K Γ x):=by
 cases hi:qS Γ.N x with
 | none=>refine yP fun v σ H Q hq1=>?_;obtain ⟨G₀,H₀,ρ,G,d,er,r,h⟩:=hq1;unfold Z5 at h;rw [hi] at h;exact h
 | some i=>
  by_cases hc:(Z3 Γ.sc x&&qo x)=true
  case neg=>refine yP fun v σ H Q hq1=>?_;obtain ⟨G₀,H₀,ρ,G,d,er,r,h⟩:=hq1;unfold Z5 at h;rw [hi] at h;exact hc (Wk.iff (Wk.th (x:=R.of (some i)) h)).1
  have hc':=hc;rw [Bool.and_eq_true] at hc';obtain ⟨l1,l2⟩:=gd.loc x hc'.1;refine PG.imp (qd2 (i:=i) (by rw [gd.hN];exact gd.nd) (by rw [gd.hN];exact jc hi) l1 l2) fun v σ H Q hq1=>?_;obtain ⟨G₀,H₀,ρ,G,d,er,r,h⟩:=hq1;unfold Z5 at h;rw [hi] at h;exact (Wk.iff (Wk.th (x:=R.of (some i)) h)).2 _ (er.setVal r)
theorem Q2 {e:Expr} {es:List Expr} {j:Nat} {p:Pos} {xs:List Str} (h:qy (.Tuple (e::es) j p)=some xs):∃ x pos r,e=.Name x pos/\xs=x::r/\qy (.Tuple es j p)=some r:=by
 have q0:qy (.Tuple es j p)=(es.foldr (fun e r=>match e,r with | .Name x _,some l=>some (x::l) | _,_=>none) (some []):Option (List Str)):=rfl
 cases e with
 | Name x pos=>
  cases q:(es.foldr (fun e r=>match e,r with | .Name x _,some l=>some (x::l) | _,_=>none) (some []):Option (List Str)) with
  | none=>have h':(match (Expr.Name x pos:Expr),(es.foldr (fun e r=>match e,r with | .Name x _,some l=>some (x::l) | _,_=>none) (some []):Option (List Str)) with | .Name x _,some l=>some (x::l) | _,_=>none)=some xs:=h;rw [q] at h';cases h'
  | some l=>have h':(match (Expr.Name x pos:Expr),(es.foldr (fun e r=>match e,r with | .Name x _,some l=>some (x::l) | _,_=>none) (some []):Option (List Str)) with | .Name x _,some l=>some (x::l) | _,_=>none)=some xs:=h;rw [q] at h';cases h';exact ⟨x,pos,l,rfl,rfl,q0.trans q⟩
 | _=>cases h
theorem qdI (gd:Gd κ K k X Γ) {j:Nat} {p:Pos}:∀ {es:List Expr} {xs:List Str},qy (.Tuple es j p)=some xs->PGs X es (gNs κ K Γ xs)
 | [],xs,h=>by
  have e:xs=[]:=by unfold qy at h;cases h;rfl
  subst e;refine PGs.imp qd3 fun vs σ H Q hq1=>?_;obtain ⟨G₀,H₀,ρ,G,ds,er,r,h⟩:=hq1
  cases ds with
  | nil=>simp only [qq] at r;exact ⟨r,h σ er⟩
  | cons d ds=>exact False.elim h
 | e::es,xs,h=>by
  obtain ⟨x,pos,r,rfl,rfl,h'⟩:=Q2 h;refine PGs.imp (qbS (qhk gd x pos) (qdI gd h')) fun vs σ H Q hq1=>?_;obtain ⟨G₀,H₀,ρ,G,ds,er,rr,h⟩:=hq1
  cases ds with
  | nil=>exact False.elim h
  | cons d ds=>simp only [qq] at rr;obtain ⟨v,vr,rfl,r1,r2⟩:=rr;exact ⟨v,vr,rfl,G₀,H₀,ρ,G,d,er,r1,Wk.mono (Wk.th (x:=Z5 Γ x d ρ) h) fun ρ1 h σ1 er1=>⟨G₀,H₀,ρ1,G,ds,er1,r2,h⟩⟩
theorem YF {env:PySem.Env} {j:Nat} {p:Pos}:∀ {es:List Expr} {xs:List Str},qy (.Tuple es j p)=some xs->(assignEach es env).length=xs.length/\(assignEach es env).findIdx? (·.1)=none
 | [],xs,h=>by unfold qy at h;cases h;exact ⟨rfl,rfl⟩
 | e::es,xs,h=>by obtain ⟨x,pos,r,rfl,rfl,h'⟩:=Q2 h;obtain ⟨h1,h2⟩:=YF (env:=env) h';have e:assignEach (.Name x pos::es) env=(false,assign (.Name x pos) env)::assignEach es env:=rfl;rw [e];refine ⟨by simp [h1],?_⟩;rw [List.findIdx?_cons];simp [h2]
theorem qaZ {xs:List Str}:∀ {ds:List D} {ρ:Env} {F:Env->Prop},Wk (Qh Γ xs ds ρ) F->ds.length=xs.length:=by
 induction xs with
 | nil=>intro ds ρ F h;cases ds with
  | nil=>rfl
  | cons d ds=>exact False.elim h
 | cons x xs ih=>intro ds ρ F h;cases ds with
  | nil=>exact False.elim h
  | cons d ds=>
   have h:=Wk.th (x:=Z5 Γ x d ρ) h
   cases e:Z5 Γ x d ρ with
   | ok ρ1=>rw [e] at h;simp [ih h]
   | exc c l=>rw [e] at h;exact False.elim h
   | no=>rw [e] at h;exact False.elim h
theorem qcC (gd:Gd κ K k X Γ) (tg:Expr):PG X tg (gT κ K Γ tg):=by
 cases tg with
 | Name x pos=>exact qhk gd x pos
 | Tuple es j p=>
  cases hx:qy (.Tuple es j p) with
  | none=>refine yP fun v σ H Q hq1=>?_;obtain ⟨G₀,H₀,ρ,G,d,er,r,h⟩:=hq1;have h:Wk ((R.of (qy (.Tuple es j p))).th _) _:=h;rw [hx] at h;exact h
  | some xs=>
   obtain ⟨t1,t2⟩:=YF (env:=X.env) hx;refine PG.imp (qf1 (n:=xs.length) gd.calm (qdI gd hx) t1 t2) fun v σ H Q hq1=>?_;obtain ⟨G₀,H₀,ρ,G,d,er,r,h⟩:=hq1;have h:Wk ((R.of (qy (.Tuple es j p))).th _) _:=h;rw [hx] at h
   cases d with
   | tup ds=>have h:=(Wk.nif (c:=es.any qh=true) h).2;simp only [Rep] at r;obtain ⟨a,ys,rfl,r1,r2⟩:=r;exact ⟨a,ys,rfl,SqT.of (er.sub _ _ r1),by rw [<-r2.len];exact qaZ h,G₀,H₀,ρ,G,ds,er,r2,h⟩
   | _=>exact False.elim h
 | _=>exact yP fun v σ H Q h=>Exists.elim h fun _ h=>Exists.elim h fun _ h=>Exists.elim h fun _ h=>Exists.elim h fun _ h=>Exists.elim h fun _ h=>h.2.2
theorem qdJ {env:PySem.Env}:∀ {names:List (Str×NameKind)} {x:Str},names.lookup x=some .globalImplicit->
  (names.map fun (n,k)=>if (k == NameKind.free&&env.scope.kind == .function&&env.kindOf n == some .cell) then (n,NameKind.cell) else (n,k)).lookup x=some .globalImplicit
 | [],_,h=>by simp at h
 | (n,k)::r,x,h=>by
  simp only [List.map_cons]
  by_cases hx:x=n
  ·subst hx;simp [List.lookup_cons] at h;subst h;rw [if_neg (by simp)];simp [List.lookup_cons]
  ·have hb:(x == n)=false:=by simpa using hx
   rw [List.lookup_cons,hb] at h;have ih:=qdJ (env:=env) h
   by_cases hc:(k == NameKind.free&&env.scope.kind == .function&&env.kindOf n == some .cell)=true
   ·rw [if_pos hc];simp only [List.lookup_cons,hb];exact ih
   ·rw [if_neg hc];simp only [List.lookup_cons,hb];exact ih
theorem YG (gd:Gd κ K k X Γ) {own:List Str} {fr:List Nat} {sc:Scope} (h:zL Γ.sc Γ.N fr sc=true):BlkScope X own fr sc:=by
 unfold zL at h;simp only [Bool.and_eq_true,List.all_eq_true] at h;obtain ⟨⟨hk,hn⟩,hf⟩:=h;refine ⟨by simpa using hk,fun x hx=>by simpa using (hn x hx).1.1,fun x hx e=>?_,fun x hx e=>?_,fun i hi=>?_⟩
 ·have:=(hn x hx).1.2
  simpa [e] using this
 ·have:=(hn x hx).2
  exact gd.cf x.1 (by simpa [e] using this)
 ·rw [gd.hN]
  simpa using hf i hi
theorem Jl (gd:Gd κ K k X Γ) {own:List Str} {fr:List Nat} {sc:Scope} (B:BlkScope X own fr sc) (hnd:(own++fr.map fun i=>Γ.N.getD i "").Nodup) (cl:List (Str×Addr)) (C:Addr) (fp:List Addr) (s2:Shared) (H2:Hp) :
  Gd κ K k (blk X (ye X own fr) sc cl C fp s2 H2) { Γ with N:=own++fr.map fun i=>Γ.N.getD i "",sc:=sc } where
 hN:=by show ye X own fr=_;unfold ye;rw [gd.hN]
 vis:=fun x h=>by
  have h:=qdB h;rcases h with h | h | h
  ·exact .inl (lookup_relabel_local h)
  ·exact absurd rfl (B.nocell _ (PySem.mem_of_lookup h))
  ·rcases yw (env:=X.env) h with z | z
   ·exact .inr (.inl z)
   ·exact .inr (.inr z)
 loc:=fun x h=>by
  have h:=qaR h;rcases h with h | h
  ·have z:(relabel sc X.env).names.lookup x=some .local:=lookup_relabel_local h;exact ⟨.inl z,.inr z⟩
  ·exact absurd rfl (B.nocell _ (PySem.mem_of_lookup h))
 glo:=fun x h=>by unfold glB at h;exact qdJ (env:=X.env) (by simpa using h)
 cf:=fun x h=>by
  rcases h with h | h
  ·exact absurd rfl (B.nocell _ (PySem.mem_of_lookup h))
  ·exact yw (env:=X.env) h
 nd:=hnd
 calm:=gd.calm
 hK:=gd.hK
 room:=gd.room
 fns:=gd.fns
 blt:=gd.blt
 gl:=gd.gl
 cls:=gd.cls
 flds:=gd.flds
 mts:=gd.mts
 mks:=gd.mks
 subs:=gd.subs
theorem qhl {G H:Hp} {ρ:Env} {σ:L2.St} (er:ER κ K G₀ H₀ G H ρ σ) (own:List Str) (fr:List Nat):ER κ K G H G H (yf own fr ρ) (Ja own fr σ):=by
 refine ⟨by simp [yf,Ja],er.sub,fun _ _ e=>e,fun _ _ e=>e,fun a o e=>.inl ⟨o,e⟩,fun i s e=>?_,fun i j a l n e1=>?_⟩
 ·unfold yf at e;unfold Ja
  by_cases hi:i < own.length
  ·rw [List.getElem?_append_left (by simpa using hi)] at e;rw [List.getElem?_map] at e;obtain ⟨_,_,rfl⟩:=Option.map_eq_some_iff.mp e;trivial
  ·rw [List.getElem?_append_right (by simpa using hi)] at e ⊢;simp only [List.length_map] at e ⊢;rw [List.getElem?_map] at e ⊢;obtain ⟨j,e1,rfl⟩:=Option.map_eq_some_iff.mp e;rw [e1];show SlR κ K G H H (qgL (ρ.getD j .no)) (some (σ[j]?).join)
   cases q:ρ[j]? with
   | none=>rw [List.getD_eq_getElem?_getD,q];trivial
   | some s=>
    rw [List.getD_eq_getElem?_getD,q];have w:=er.sl j s q
    cases s with
    | no=>trivial
    | val d=>obtain ⟨v,z,r⟩:=w;exact ⟨v,by rw [z];rfl,r⟩
    | own l=>obtain ⟨a,xs,z,r1,r2,r3,r4⟩:=w;exact ⟨a,xs,by rw [z];rfl,r1,r4⟩
    | bor l=>obtain ⟨a,xs,z,r1,r4⟩:=w;exact ⟨a,xs,by rw [z];rfl,er.base _ _ r1,r4⟩
    | scr l=>obtain ⟨a,xs,z,r1,r4⟩:=w;exact ⟨a,xs,by rw [z];rfl,er.base.seq r1,r4⟩
 ·exfalso;unfold yf at e1
  by_cases hi:i < own.length
  ·rw [List.getElem?_append_left (by simpa using hi),List.getElem?_map] at e1;obtain ⟨_,_,z⟩:=Option.map_eq_some_iff.mp e1;cases z
  ·rw [List.getElem?_append_right (by simpa using hi),List.getElem?_map] at e1;obtain ⟨j,_,z⟩:=Option.map_eq_some_iff.mp e1
   cases q:ρ.getD j .no<;>rw [q] at z<;>cases z
theorem Qk {it:Expr} (h:zE it=true) (env:PySem.Env):∀ x,foldedSetIterable it env x=pure x:=by
 intro x
 cases it<;>first | rfl | (simp [zE] at h)
theorem qhm (A:All κ K k X Γ m) (e:Expr):PE X e (fun σ H Q=>∃ G₀ H₀,tE κ K G₀ H₀ Γ m e σ H Q):=fun pins s σ H Q I ⟨G₀,H₀,h⟩=>A.e G₀ H₀ e pins s σ H Q I h
theorem qdK (A:All κ K k X Γ m) (es:List Expr):PIf X es (fun σ H Q=>∃ G₀ H₀,tF κ K G₀ H₀ Γ m es σ H Q):=fun pins s σ H Q I ⟨G₀,H₀,h⟩=>A.f G₀ H₀ es pins s σ H Q I h
structure CompS (Γ:Ct) (tg it:Expr) (sc:Scope) (own:List Str):Prop where
 nm:qy tg=some own
 chk:zL Γ.sc Γ.N (jY Γ.N sc) sc=true
 nd:(own++(jY Γ.N sc).map fun i=>Γ.N.getD i "").Nodup
 fold:zE it=true
theorem qa0 (elt tg it:Expr) (ifs:List Expr) (sc:Scope) (pos:Pos):(∃ own,CompS Γ tg it sc own)\/∀ σ H Q,¬ tR κ K G₀ H₀ Γ (m+1) (.ListComp elt [⟨tg,it,ifs,0⟩] sc pos) σ H Q:=by
 cases hown:qy tg with
 | none=>
  refine .inr fun σ H Q hq1=>?_;obtain ⟨ρ,G,er,h⟩:=hq1;have h:=(Wk.iff (show Wk (if (0:Int)=0 then _ else R.no) _ from h)).2;have h:=Wk.th (x:=evI m Γ (J6 tg) it ρ) h
  cases e1:evI m Γ (J6 tg) it ρ with
  | ok x=>rw [e1] at h;obtain ⟨own,e2,_⟩:=Wk.of (Wk.th (x:=R.of (qy tg)) h);rw [hown] at e2;cases e2
  | exc c l=>rw [e1] at h;exact h
  | no=>rw [e1] at h;exact h
 | some own=>
  by_cases hst:(zL Γ.sc Γ.N (jY Γ.N sc) sc&&decide (own++(jY Γ.N sc).map fun i=>Γ.N.getD i "").Nodup&&zE it)=true
  case neg=>
   refine .inr fun σ H Q hq1=>?_;obtain ⟨ρ,G,er,h⟩:=hq1;have h:=(Wk.iff (show Wk (if (0:Int)=0 then _ else R.no) _ from h)).2;have h:=Wk.th (x:=evI m Γ (J6 tg) it ρ) h
   cases e1:evI m Γ (J6 tg) it ρ with
   | ok x=>rw [e1] at h;obtain ⟨own',e2,h⟩:=Wk.of (Wk.th (x:=R.of (qy tg)) h);rw [hown] at e2;cases e2;obtain ⟨hc,_⟩:=Wk.iff h;simp only [Bool.and_eq_true] at hc hst;exact hst ⟨hc.1.1,hc.2⟩
   | exc c l=>rw [e1] at h;exact h
   | no=>rw [e1] at h;exact h
  simp only [Bool.and_eq_true] at hst;exact .inl ⟨own,hown,hst.1.1,of_decide_eq_true hst.1.2,hst.2⟩
theorem Q3 {own:List Str} (elt tg it:Expr) (ifs:List Expr) (sc:Scope) (pos:Pos) (S:CompS Γ tg it sc own):∀ σ H Q,tR κ K G₀ H₀ Γ (m+1) (.ListComp elt [⟨tg,it,ifs,0⟩] sc pos) σ H Q->
  qeo own (jY Γ.N sc) (tI κ K G₀ H₀ Γ m (J6 tg) it) (gT κ K { Γ with N:=own++(jY Γ.N sc).map fun i=>Γ.N.getD i "",sc:=sc } tg) (fun σ H Q=>∃ G₀ H₀,tF κ K G₀ H₀ { Γ with N:=own++(jY Γ.N sc).map fun i=>Γ.N.getD i "",sc:=sc } m ifs σ H Q)
   (fun σ H Q=>∃ G₀ H₀,tE κ K G₀ H₀ { Γ with N:=own++(jY Γ.N sc).map fun i=>Γ.N.getD i "",sc:=sc } m elt σ H Q) σ H Q:=fun σ H Q ⟨ρ,G,er,h⟩=>by
 have h:=(Wk.iff (show Wk (if (0:Int)=0 then _ else R.no) _ from h)).2;refine ⟨ρ,G,er,Wk.mono (Wk.th (x:=evI m Γ (J6 tg) it ρ) h) fun x h J G1 H1 p1 it1=>?_⟩;obtain ⟨own',e2,h⟩:=Wk.of (Wk.th (x:=R.of (qy tg)) h);rw [S.nm] at e2;cases e2;obtain ⟨hc,h⟩:=Wk.iff h;simp only [Bool.and_eq_true] at hc;have hz:x.1.length<=sizeLine:=by simpa using hc.1.2
 have h:=Wk.th h
 refine ⟨fun i mm ys σ' H'=>mm=x.1.length - i/\i<=x.1.length/\∃ ρb Gb ds,ER κ K G1 H1 Gb H' ρb σ'/\qq κ Gb ds ys/\ds.length<=i/\
   Wk (YA (qex { Γ with N:=own++(jY Γ.N sc).map fun i=>Γ.N.getD i "",sc:=sc } tg) (fun ρ1=>qgM m { Γ with N:=own++(jY Γ.N sc).map fun i=>Γ.N.getD i "",sc:=sc } ifs ρ1) (fun ρ1=>evE m { Γ with N:=own++(jY Γ.N sc).map fun i=>Γ.N.getD i "",sc:=sc } elt ρ1) (x.1.drop i) ρb ds)
    (fun l=>∀ v G' H',Po κ K G₀ H₀ σ G H ρ G' H' x.2->RvR κ K H₀ H G' H' x.2 σ (.tmp l) v->Q v H'),
  ⟨x.1.length,by simp,Nat.zero_le _,yf own (jY Γ.N sc) x.2,G1,[],qhl p1.er own (jY Γ.N sc),.nil,Nat.le_refl _,?_⟩,?_⟩
 ·rw [List.drop_zero];exact h
 rintro i mm ys σ' H' ⟨rfl,hi,ρb,Gb,ds,erb,rds,hdl,hw⟩;have it2:=it1 i Gb H' erb.g0 (fun b o e=>erb.base b o (p1.er.base b o e)) erb.sub
 by_cases hlt:i < x.1.length
 ·obtain ⟨go,yl⟩:=it2.1 x.1[i] (List.getElem?_eq_getElem hlt);have hyl:=rds.len;refine .inr ⟨go,by omega,_,fun ys' σ2 H2 w=>⟨x.1.length - (i+1),by omega,w⟩,fun v H2 hy=>?_⟩;obtain ⟨G',hs,gs,sub,new,rep⟩:=yl v H2 hy;have p2:=Po.more erb hs gs sub new;rw [List.drop_eq_getElem_cons hlt] at hw;refine ⟨G1,H1,ρb,G',x.1[i],p2.er,rep,Wk.mono (Wk.th hw) fun ρ1 hw σ1 er1=>⟨G1,H1,ρ1,G',er1,Wk.mono (Wk.th hw) fun bt hw G2 H3 p3=>?_⟩⟩;obtain ⟨b,ρ2⟩:=bt
  cases b with
  | true=>rw [if_pos rfl];refine ⟨G1,H1,ρ2,G2,p3.er,Wk.mono (Wk.th hw) fun y hw w G3 H4 p4 rep4=>⟨rfl,hlt,y.2,G3,ds++[y.1],p4.er,?_,by simp;omega,(Wk.iff hw).2⟩⟩;exact (((rds.same gs).same p3.gs).same p4.gs).snoc rep4
  | false=>rw [if_neg (fun z=>by cases z)];exact ⟨rfl,hlt,ρ2,G2,ds,p3.er,(rds.same gs).same p3.gs,by omega,hw⟩
 ·have e:i=x.1.length:=by omega
  subst e;refine .inl ⟨it2.2 rfl,fun p hp=>?_⟩;rw [List.drop_length] at hw;have p2:=p1.trans (Po.more p1.er erb.base erb.g0 erb.sub erb.fresh);obtain ⟨z1,z2⟩:=p2.er.newList hp rds;exact hw _ _ _ (p2.trans z1) (z2.back p2.hs)
theorem qeQ (gd:Gd κ K k X Γ) (A:All κ K k X Γ m) (ih:∀ X' Γ',Gd κ K k X' Γ'->All κ K k X' Γ' m) (elt tg it:Expr) (ifs:List Expr) (sc:Scope) (pos:Pos) :
  PE X (.ListComp elt [⟨tg,it,ifs,0⟩] sc pos) (tR κ K G₀ H₀ Γ (m+1) (.ListComp elt [⟨tg,it,ifs,0⟩] sc pos)):=by
 rcases qa0 (κ:=κ) (K:=K) (G₀:=G₀) (H₀:=H₀) (m:=m) (Γ:=Γ) elt tg it ifs sc pos with ⟨own,S⟩ | no
 ·have B:BlkScope X own (jY Γ.N sc) sc:=YG gd S.chk
  exact PE.imp (qeq own (jY Γ.N sc) gd.calm B (A.i G₀ H₀ tg it) (fun cl C fp s2 H2=>qcC (Jl gd B S.nd cl C fp s2 H2) tg) (fun cl C fp s2 H2=>qdK (ih _ _ (Jl gd B S.nd cl C fp s2 H2)) ifs)
   (fun cl C fp s2 H2=>qhm (ih _ _ (Jl gd B S.nd cl C fp s2 H2)) elt) (Qk S.fold X.env)) (Q3 elt tg it ifs sc pos S)
 ·exact qj no
theorem qeR (gd:Gd κ K k X Γ) (A:All κ K k X Γ m) (f:Str) (es:List Expr) (p q:Pos):PE X (.Call (.Name f p) es [] q) (tR κ K G₀ H₀ Γ (m+1) (.Call (.Name f p) es [] q)):=by
 by_cases hn:(qo f&&glB Γ.sc f&&(qS Γ.N f).isNone)=true
 case neg=>exact qj fun σ H Q ⟨ρ,G,er,h⟩=>hn (Wk.iff (show Wk (if (qo f&&glB Γ.sc f&&(qS Γ.N f).isNone)=true then _ else R.no) _ from h)).1
 have hn':=hn;simp only [Bool.and_eq_true] at hn';obtain ⟨⟨h1,h2⟩,h3⟩:=hn'
 by_cases hi:f = "isinstance"
 ·subst hi
  match es with
  | [a,b]=>
   have non:(∀ ρ,evR (m+1) Γ (.Call (.Name "isinstance" p) [a,b] [] q) ρ=.no)->PE X (.Call (.Name "isinstance" p) [a,b] [] q) (tR κ K G₀ H₀ Γ (m+1) (.Call (.Name "isinstance" p) [a,b] [] q)):=fun he=>qj fun σ H Q ⟨ρ,G,er,h⟩=>by rw [he] at h;exact h
   cases b with
   | Name t tp=>refine qhe gd A a t p tp q h2 fun ρ=>?_;show (if (qo "isinstance" && glB Γ.sc "isinstance" && (qS Γ.N "isinstance").isNone)=true then _ else R.no)=_;rw [if_pos hn];rfl
   | _=>refine non fun ρ=>?_;show (if (qo "isinstance" && glB Γ.sc "isinstance" && (qS Γ.N "isinstance").isNone)=true then _ else R.no)=_;rw [if_pos hn];rfl
  | []=>exact qj fun σ H Q ⟨ρ,G,er,h⟩=>(Wk.iff (show Wk (if (qo "isinstance" && glB Γ.sc "isinstance" && (qS Γ.N "isinstance").isNone)=true then _ else R.no) _ from h)).2
  | [_]=>exact qj fun σ H Q ⟨ρ,G,er,h⟩=>(Wk.iff (show Wk (if (qo "isinstance" && glB Γ.sc "isinstance" && (qS Γ.N "isinstance").isNone)=true then _ else R.no) _ from h)).2
  | a::b::c::l=>exact qj fun σ H Q ⟨ρ,G,er,h⟩=>(Wk.iff (show Wk (if (qo "isinstance" && glB Γ.sc "isinstance" && (qS Γ.N "isinstance").isNone)=true then _ else R.no) _ from h)).2
 by_cases ht:Γ.tab.contains f=true
 ·refine qcx gd A f es p q h1 h2 ht fun ρ=>?_;show (if (qo f&&glB Γ.sc f&&(qS Γ.N f).isNone)=true then _ else R.no)=_;rw [if_pos hn,if_neg hi,if_pos ht]
 by_cases hk:Γ.cs.tab.contains f=true
 ·refine qeP gd A f es p q h1 h2 hk fun ρ=>?_;show (if (qo f&&glB Γ.sc f&&(qS Γ.N f).isNone)=true then _ else R.no)=_;rw [if_pos hn,if_neg hi,if_neg ht,if_pos hk]
 match es with
 | [a]=>
  have e1:∀ ρ,evR (m+1) Γ (.Call (.Name f p) [a] [] q) ρ=(match lrE Γ f a with
    | some t=>(evR m Γ t.1 ρ).th fun x=>(evR m Γ t.2 x.2).th fun y=>(lrD x.1 y.1).th fun r=>.ok (r,y.2)
    | none=>if qh a=true then .no else (evR m Γ a ρ).th fun x=>(JM f x.1).th fun r=>.ok (r,x.2)):=fun ρ=>by
   show (if (qo f&&glB Γ.sc f&&(qS Γ.N f).isNone)=true then _ else R.no)=_;rw [if_pos hn,if_neg hi,if_neg ht,if_neg hk]
   all_goals (dsimp only;cases lrE Γ f a<;>rfl)
  cases hl:lrE Γ f a with
  | some t=>refine qjj gd A f a p q h2 hl fun ρ=>?_;rw [e1,hl]
  | none=>refine qcy gd A f a p q h2 fun ρ=>?_;rw [e1,hl]
 | [a,b]=>refine qcz gd A f a b p q h2 fun ρ=>?_;show (if (qo f&&glB Γ.sc f&&(qS Γ.N f).isNone)=true then _ else R.no)=_;rw [if_pos hn,if_neg hi,if_neg ht,if_neg hk]
 | []=>refine qj fun σ H Q hq1=>?_;obtain ⟨ρ,G,er,h⟩:=hq1;have h:=(Wk.iff (show Wk (if (qo f&&glB Γ.sc f&&(qS Γ.N f).isNone)=true then _ else R.no) _ from h)).2;rw [if_neg hi,if_neg ht,if_neg hk] at h;exact h
 | a::b::c::l=>refine qj fun σ H Q hq1=>?_;obtain ⟨ρ,G,er,h⟩:=hq1;have h:=(Wk.iff (show Wk (if (qo f&&glB Γ.sc f&&(qS Γ.N f).isNone)=true then _ else R.no) _ from h)).2;rw [if_neg hi,if_neg ht,if_neg hk] at h;exact h
theorem qkK (gd:Gd κ K k X Γ) (A:All κ K k X Γ m) (ih:∀ X' Γ',Gd κ K k X' Γ'->All κ K k X' Γ' m) (e:Expr):PE X e (tR κ K G₀ H₀ Γ (m+1) e):=by
 cases e with
 | Name x pos=>exact qcm gd m x pos
 | Constant c j pos=>exact QZ c j pos
 | BinOp a op b pos=>exact qct A a b op pos
 | UnaryOp op a pos=>
  cases op with
  | USub=>exact qgX A a pos
  | Not=>exact qeC A a pos
  | _=>exact qj fun σ H Q h=>Exists.elim h fun _ h=>Exists.elim h fun _ h=>h.2
 | BoolOp op vs pos=>
  cases vs with
  | nil=>exact qj fun σ H Q ⟨ρ,G,er,h⟩=>by cases op<;>exact h
  | cons a vs=>
   cases vs with
   | nil=>cases op<;>exact PE.imp (qfW (A.r G₀ H₀ a)) fun σ H Q h=>h
   | cons b l=>
    cases op with
    | And=>exact qgZ A a b l pos
    | Or=>exact qjg A a b l pos
 | Compare a ops bs pos=>
  cases ops with
  | nil=>exact qj fun σ H Q h=>Exists.elim h fun _ h=>Exists.elim h fun _ h=>h.2
  | cons op ops=>
   cases ops with
   | nil=>
    cases bs with
    | nil=>exact qj fun σ H Q h=>Exists.elim h fun _ h=>Exists.elim h fun _ h=>h.2
    | cons b bs=>
     cases bs with
     | nil=>exact qeD gd A a b op pos
     | cons c bs=>exact qj fun σ H Q h=>Exists.elim h fun _ h=>Exists.elim h fun _ h=>h.2
   | cons op' ops=>exact qj fun σ H Q h=>Exists.elim h fun _ h=>Exists.elim h fun _ h=>h.2
 | IfExp c a b pos=>exact qg0 A c a b pos
 | Subscript a b pos=>exact qg1 gd A a b pos
 | List es pos=>exact qg2 A es pos
 | Tuple es j pos=>exact qg3 A es j pos
 | Call fn es kws q=>
  cases fn with
  | Name f p=>
   cases kws with
   | nil=>exact qeR gd A f es p q
   | cons kw kws=>exact qj fun σ H Q h=>Exists.elim h fun _ h=>Exists.elim h fun _ h=>h.2
  | Attribute o x ap=>
   cases kws with
   | nil=>exact qeO gd A o x ap es q
   | cons kw kws=>exact qj fun σ H Q h=>Exists.elim h fun _ h=>Exists.elim h fun _ h=>h.2
  | _=>exact qj fun σ H Q h=>Exists.elim h fun _ h=>Exists.elim h fun _ h=>h.2
 | Attribute o x pos=>exact qhg gd A o x pos
 | ListComp elt gens sc pos=>
  cases gens with
  | nil=>exact qj fun σ H Q h=>Exists.elim h fun _ h=>Exists.elim h fun _ h=>h.2
  | cons g gens=>
   obtain ⟨tg,it,ifs,as⟩:=g
   cases gens with
   | nil=>
    by_cases ha:as=0
    ·subst ha;exact qeQ gd A ih elt tg it ifs sc pos
    ·exact qj fun σ H Q ⟨ρ,G,er,h⟩=>ha (Wk.iff (show Wk (if as=0 then _ else R.no) _ from h)).1
   | cons g' gens=>exact qj fun σ H Q h=>Exists.elim h fun _ h=>Exists.elim h fun _ h=>h.2
 | _=>exact qj fun σ H Q h=>Exists.elim h fun _ h=>Exists.elim h fun _ h=>h.2
theorem all:∀ (m:Nat) (X:Cx) (Γ:Ct),Gd κ K k X Γ->All κ K k X Γ m
 | 0,_,_,_=>qjf
 | m+1,X,Γ,gd=>
  have A:=all m X Γ gd
  ⟨fun G₀ H₀ e=>qkK gd A (all m) e,fun G₀ H₀ e=>qkE gd A e,fun G₀ H₀ e=>qkH gd A e,fun G₀ H₀ es=>qjh A es,fun G₀ H₀ es=>qji A es,fun G₀ H₀ o=>qkF A o,fun G₀ H₀ es=>qkG A es,fun G₀ H₀ e=>qkI gd A e,fun G₀ H₀ tg e=>qkJ gd A tg e⟩
end
end DE
namespace DE
open PySem PySem.Spec PyProof.Rows L2
inductive Fl where
 | next (ρ:Env) | ret (r:Rv)
def qA:Expr->Bool
 | .ListComp ..=>false
 | .SetComp ..=>false
 | .DictComp ..=>false
 | _=>true
def yh:Expr->Bool
 | .Tuple ..=>false
 | _=>true
def zu:Expr->Bool
 | .Slice ..=>false
 | _=>true
noncomputable def jC (Γ:Ct) (x:Str) (ρ:Env):R Rv:=if qo x then (match qS Γ.N x with
 | some i=>if JL Γ.sc x then (match ρ[i]? with
  | some (.val d)=>.ok (.val d)
  | some (.own l)=>.ok (.tmp l)
  | _=>.no) else .no
 | none=>if glB Γ.sc x then (match Γ.gl x with | some d=>.ok (.val d) | none=>.no) else .no) else .no
noncomputable def evX (m:Nat) (Γ:Ct) (e:Expr) (ρ:Env):R Rv:=match e with
 | .Name x _=>jC Γ x ρ
 | e=>(evR m Γ e ρ).th fun x=>match x.1 with
  | .val d=>.ok (.val d)
  | .tmp l=>.ok (.tmp l)
  | _=>.no
noncomputable def evA (m:Nat) (Γ:Ct) (e:Expr) (ρ:Env):R (Sl×Env):=match e with
 | .Name x _=>(z8 Γ x ρ).th fun r=>.ok (.val r.1,r.2)
 | e=>(evR m Γ e ρ).th fun x=>match x.1 with
  | .val d=>.ok (.val d,x.2)
  | .tmp l=>.ok (.own l,x.2)
  | _=>.no
noncomputable def qM (Γ:Ct) (x:Str) (ρ:Env):Option (Nat×List D):=if qo x&&JL Γ.sc x then (match qS Γ.N x with
 | some i=>(match ρ[i]? with
  | some (.own l)=>some (i,l)
  | _=>none)
 | none=>none) else none
noncomputable def jD (m:Nat) (Γ:Ct) (x meth:Str) (a:Expr) (ρ:Env):R Env:=match qM Γ x ρ with
 | none=>.no
 | some _=>if qh a then .no else
  if meth = "append" then (evE m Γ a ρ).th fun y=>(match qM Γ x y.2 with
   | some (i,l)=>if l.length < sizeLine then .ok (y.2.set i (.own (l++[y.1]))) else .no
   | none=>.no)
  else if meth = "extend" then (evR m Γ a ρ).th fun y=>(match qM Γ x y.2,y.1.plain? with
   | some (i,l),some n=>if l.length+n.length<=sizeLine then .ok (y.2.set i (.own (l++n))) else .no
   | _,_=>.no)
  else .no
noncomputable def qfK (m:Nat) (Γ:Ct) (x:Str) (i:Expr) (d:D) (ρ:Env):R Env:=match qM Γ x ρ with
 | none=>.no
 | some _=>(evR m Γ i ρ).th fun y=>(match qM Γ x y.2,y.1.int? with
  | some (j,l),some n=>(match ixN l.length n with
   | some k=>.ok (y.2.set j (.own (l.set k d)))
   | none=>.no)
  | _,_=>.no)
noncomputable def qeS (step:D->Env->R Fl):List D->Env->R Fl
 | [],ρ=>.ok (.next ρ)
 | d::ds,ρ=>(step d ρ).th fun f=>match f with
  | .next ρ1=>qeS step ds ρ1
  | .ret r=>.ok (.ret r)
noncomputable def whL (test:Env->R (Bool×Env)) (body:Env->R Fl):Nat->Env->R Fl
 | 0,_=>.no
 | n+1,ρ=>(test ρ).th fun b=>if b.1 then (body b.2).th fun f=>(match f with
  | .next ρ1=>whL test body n ρ1
  | .ret r=>.ok (.ret r)) else .ok (.next b.2)
mutual
noncomputable def evS:Nat->Nat->Ct->Stmt->Env->R Fl
 | 0,_,_,_,_=>.no
 | m+1,w,Γ,st,ρ=>match st with
  | .Pass _=>.ok (.next ρ)
  | .Expr e _=>(match e with
   | .Call (.Attribute (.Name x _) meth ap) [a] [] cp=>if (ap.endLine == cp.line)=true then (jD m Γ x meth a ρ).th fun ρ1=>.ok (.next ρ1) else .no
   | .Call (.Attribute (.Name x _) meth ap) [] [] cp=>if (ap.endLine == cp.line)=true/\meth = "clear" then (match qM Γ x ρ with
    | some (i,_)=>.ok (.next (ρ.set i (.own [])))
    | none=>.no) else .no
   | e=>if qA e=true then (evR m Γ e ρ).th fun x=>.ok (.next x.2) else .no)
  | .Return (some e) _=>(evX m Γ e ρ).th fun r=>.ok (.ret r)
  | .Return none _=>.ok (.ret (.val .non))
  | .Assign [tg] e _=>(match tg with
   | .Name x _=>(evA m Γ e ρ).th fun s=>(R.of (qS Γ.N x)).th fun i=>if (Z3 Γ.sc x&&qo x)=true then .ok (.next (s.2.set i s.1)) else .no
   | .Tuple es j p=>if qA e=true/\yh e=true then (evE m Γ e ρ).th fun x=>(qex Γ (.Tuple es j p) x.1 x.2).th fun ρ1=>.ok (.next ρ1) else .no
   | .Subscript (.Name x _) i _=>if qA e=true/\zu i=true then (evE m Γ e ρ).th fun y=>(qfK m Γ x i y.1 y.2).th fun ρ1=>.ok (.next ρ1) else .no
   | _=>.no)
  | .If c a b _=>(evT m Γ c ρ).th fun t=>if t.1 then qa1 m w Γ a t.2 else qa1 m w Γ b t.2
  | .For tg it body [] _=>if zE it=true then (evI m Γ (J6 tg) it ρ).th fun x=>qeS (fun d ρ1=>(qex Γ tg d ρ1).th fun ρ2=>qa1 m w Γ body ρ2) x.1 x.2 else .no
  | .While c body [] _=>whL (fun ρ1=>evT m Γ c ρ1) (fun ρ1=>qa1 m w Γ body ρ1) w ρ
  | _=>.no
noncomputable def qa1:Nat->Nat->Ct->List Stmt->Env->R Fl
 | 0,_,_,_,_=>.no
 | m+1,w,Γ,l,ρ=>match l with
  | []=>.ok (.next ρ)
  | st::l=>(evS m w Γ st ρ).th fun f=>match f with
   | .next ρ1=>qa1 m w Γ l ρ1
   | .ret r=>.ok (.ret r)
end
section
variable (κ:KC) (K:Frag) (G₀ H₀:Hp)
noncomputable def FlP (G:Hp) (D:Ends):Fl->Prop
 | .next ρ'=>∀ σ' G' H',ER κ K G₀ H₀ G' H' ρ' σ'->qv G G'->D.nx σ' H'
 | .ret r=>∀ v G' H',qv H₀ H'->qv G₀ G'->qv G' H'->(∀ a o,G' a=some o->(∃ o',G₀ a=some o')\/H₀ a=none)->ReR κ G' H' H₀ r v->D.rt v H'
noncomputable def tS (Γ:Ct) (m w:Nat) (st:Stmt):TS:=fun D σ H=>∃ ρ G,ER κ K G₀ H₀ G H ρ σ/\Wk (evS m w Γ st ρ) (FlP κ K G₀ H₀ G D)
noncomputable def tSs (Γ:Ct) (m w:Nat) (l:List Stmt):TS:=fun D σ H=>∃ ρ G,ER κ K G₀ H₀ G H ρ σ/\Wk (qa1 m w Γ l ρ) (FlP κ K G₀ H₀ G D)
end
structure Gs (κ:KC) (K:Frag) (k:Nat) (X:Cx) (Γ:Ct):Prop extends Gd κ K k X Γ where
 own:PassesOwn (model X.prog X.w) X.A X.env X.xe
 sceq:X.env.scope=Γ.sc
 fnk:Γ.sc.kind=.function
theorem PS.imp {X:Cx} {st:Stmt} {t t':TS} (h:PS X st t') (i:∀ D σ H,t D σ H->t' D σ H):PS X st t:=fun pins s σ H D I hw=>h pins s σ H D I (i D σ H hw)
theorem PSs.imp {X:Cx} {st:List Stmt} {t t':TS} (h:PSs X st t') (i:∀ D σ H,t D σ H->t' D σ H):PSs X st t:=fun pins s σ H D I hw=>h pins s σ H D I (i D σ H hw)
theorem qr {X:Cx} {st:Stmt} {t:TS} (h:∀ D σ H,¬ t D σ H):PS X st t:=fun pins s σ H D I hw=>absurd hw (h D σ H)
theorem qcD {X:Cx} {st:List Stmt} {t:TS} (h:∀ D σ H,¬ t D σ H):PSs X st t:=fun pins s σ H D I hw=>absurd hw (h D σ H)
theorem Q4 {e:Expr} (h:qA e=true) (t:Option Expr) (l:Nat) (env:PySem.Env):swapsWith e t l env=pure false:=by cases e<;>first | rfl | (simp [qA] at h)
section
variable {κ:KC} {K:Frag} {G₀ H₀:Hp} {k m w:Nat} {X:Cx} {Γ:Ct}
theorem qF {x:Str} {ρ:Env} {i:Nat} {l:List D} (h:qM Γ x ρ=some (i,l)):qo x=true/\JL Γ.sc x=true/\qS Γ.N x=some i/\ρ[i]?=some (.own l):=by
 unfold qM at h
 by_cases hc:(qo x&&JL Γ.sc x)=true
 ·rw [if_pos hc] at h;rw [Bool.and_eq_true] at hc
  cases e1:qS Γ.N x with
  | none=>rw [e1] at h;cases h
  | some j=>
   rw [e1] at h;dsimp only at h
   split at h
   ·rename_i l' e2;cases h;exact ⟨hc.1,hc.2,rfl,e2⟩
   ·cases h
 ·rw [if_neg hc] at h;cases h
theorem qa2 {x:Str} {ρ ρ':Env} {i j:Nat} {l n:List D} (h:qM Γ x ρ=some (i,l)) (h':qM Γ x ρ'=some (j,n)):i=j:=by
 have:=(qF h).2.2.1.symm.trans (qF h').2.2.1
 cases this;rfl
def jR (Γ:Ct) (x:Str):Option Nat:=if qo x&&JL Γ.sc x then qS Γ.N x else none
theorem qO {x:Str} {ρ:Env} {i:Nat} {l:List D} (h:qM Γ x ρ=some (i,l)):jR Γ x=some i:=by obtain ⟨h1,h2,h3,h4⟩:=qF h;unfold jR;rw [if_pos (by rw [h1,h2];rfl),h3]
theorem JQ (gd:Gd κ K k X Γ) {x:Str} {i:Nat} (h:jR Γ x=some i) (pos:Pos):PE X (.Name x pos) (qiH i):=by
 unfold jR at h
 by_cases hc:(qo x&&JL Γ.sc x)=true
 ·rw [if_pos hc] at h;rw [Bool.and_eq_true] at hc;obtain ⟨n1,n2,n3⟩:=zc hc.1;exact Jf (i:=i) (by rw [gd.hN];exact jc h) (gd.vis x hc.2) n1 n2
 ·rw [if_neg hc] at h;cases h
theorem ER.ownSlot {G H:Hp} {ρ:Env} {σ:L2.St} {i:Nat} {l:List D} (er:ER κ K G₀ H₀ G H ρ σ) (e:ρ[i]?=some (.own l)):∃ a xs,σ[i]?=some (some (.ref a))/\H a=some (.lst xs)/\qq κ G l xs:=by obtain ⟨a,xs,z,h1,h2,h3,h4⟩:=er.sl i _ e;exact ⟨a,xs,z,h1,h4⟩
theorem qa3 (gd:Gd κ K k X Γ) (A:All κ K k X Γ m) (x:Str) (a:Expr) (xp ap cp p:Pos) (hl:(ap.endLine == cp.line)=true)
  (he:∀ ρ,evS (m+1) w Γ (.Expr (.Call (.Attribute (.Name x xp) "append" ap) [a] [] cp) p) ρ=(jD m Γ x "append" a ρ).th fun ρ1=>.ok (.next ρ1)) :
  PS X (.Expr (.Call (.Attribute (.Name x xp) "append" ap) [a] [] cp) p) (tS κ K G₀ H₀ Γ (m+1) w (.Expr (.Call (.Attribute (.Name x xp) "append" ap) [a] [] cp) p)):=by
 cases hsl:jR Γ x with
 | none=>
  refine qr fun D σ H hq1=>?_;obtain ⟨ρ,G,er,h⟩:=hq1;rw [he] at h;have h:=Wk.th h;unfold jD at h
  cases e1:qM Γ x ρ with
  | none=>rw [e1] at h;exact h
  | some q=>have:=qO (i:=q.1) (l:=q.2) e1;rw [hsl] at this;cases this
 | some i=>
  by_cases hs:qh a=true
  ·refine qr fun D σ H hq1=>?_;obtain ⟨ρ,G,er,h⟩:=hq1;rw [he] at h;have h:=Wk.th h;unfold jD at h
   cases e1:qM Γ x ρ with
   | none=>rw [e1] at h;exact h
   | some q=>rw [e1] at h;exact (Wk.nif (c:=qh a=true) h).1 hs
  have s1:=Bool.eq_false_iff.mpr hs
  have few:((backTo cp (starEach [a] X.env)).all (fun x=>!x.1)&&(backToKw cp (keywordEach [] X.env)).all (fun x=>x.1.isSome)&&decide (([a]:List Expr).length+([]:List Keyword).length+(if ([]:List Keyword).isEmpty then 0 else 1) < 30))=true:=by rw [qe s1];rfl
  refine PS.imp (ja (qei PySem.F.plainAttrs_list PySem.F.slot_list_append PySem.F.type_list_append qaq (JQ gd hsl xp) (qg (A.e G₀ H₀ a) qu (qe s1)) rfl few hl (qe s1) rfl) rfl) fun D σ H hq1=>?_;obtain ⟨ρ,G,er,h⟩:=hq1;rw [he] at h;have h:=Wk.th h;unfold jD at h
  cases e1:qM Γ x ρ with
  | none=>rw [e1] at h;exact False.elim h
  | some q=>
   obtain ⟨i',l0⟩:=q;have ei:i'=i:=by have:=qO e1;rw [hsl] at this;cases this;rfl
   subst ei;rw [e1] at h;have h:=(Wk.nif (c:=qh a=true) h).2;rw [if_pos rfl] at h;obtain ⟨b,xs,z,h1,h2⟩:=er.ownSlot (qF e1).2.2.2;refine ⟨_,z,.inl ⟨rfl,xs,SqL.of h1⟩,ρ,G,er,Wk.mono (Wk.th h) fun y h v G1 H1 p1 r1=>?_⟩
   cases e2:qM Γ x y.2 with
   | none=>rw [e2] at h;exact False.elim h
   | some q=>obtain ⟨i2,l⟩:=q;rw [e2] at h;have ei:=qa2 e1 e2;subst ei;obtain ⟨hz,h⟩:=Wk.iff h;obtain ⟨b',ys,z',h3,h4⟩:=p1.er.ownSlot (qF e2).2.2.2;rw [z] at z';cases z';refine ⟨b,ys,v,rfl,rfl,h3,by rw [<-h4.len];exact hz,?_⟩;exact h σ G1 _ (p1.er.write (qF e2).2.2.2 z (h4.snoc r1)) p1.gs
theorem qa4 (gd:Gd κ K k X Γ) (A:All κ K k X Γ m) (x:Str) (a:Expr) (xp ap cp p:Pos) (hl:(ap.endLine == cp.line)=true)
  (he:∀ ρ,evS (m+1) w Γ (.Expr (.Call (.Attribute (.Name x xp) "extend" ap) [a] [] cp) p) ρ=(jD m Γ x "extend" a ρ).th fun ρ1=>.ok (.next ρ1)) :
  PS X (.Expr (.Call (.Attribute (.Name x xp) "extend" ap) [a] [] cp) p) (tS κ K G₀ H₀ Γ (m+1) w (.Expr (.Call (.Attribute (.Name x xp) "extend" ap) [a] [] cp) p)):=by
 cases hsl:jR Γ x with
 | none=>
  refine qr fun D σ H hq1=>?_;obtain ⟨ρ,G,er,h⟩:=hq1;rw [he] at h;have h:=Wk.th h;unfold jD at h
  cases e1:qM Γ x ρ with
  | none=>rw [e1] at h;exact h
  | some q=>have:=qO (i:=q.1) (l:=q.2) e1;rw [hsl] at this;cases this
 | some i=>
  by_cases hs:qh a=true
  ·refine qr fun D σ H hq1=>?_;obtain ⟨ρ,G,er,h⟩:=hq1;rw [he] at h;have h:=Wk.th h;unfold jD at h
   cases e1:qM Γ x ρ with
   | none=>rw [e1] at h;exact h
   | some q=>rw [e1] at h;exact (Wk.nif (c:=qh a=true) h).1 hs
  have s1:=Bool.eq_false_iff.mpr hs
  have few:((backTo cp (starEach [a] X.env)).all (fun x=>!x.1)&&(backToKw cp (keywordEach [] X.env)).all (fun x=>x.1.isSome)&&decide (([a]:List Expr).length+([]:List Keyword).length+(if ([]:List Keyword).isEmpty then 0 else 1) < 30))=true:=by rw [qe s1];rfl
  refine PS.imp (ja (qei PySem.F.plainAttrs_list PySem.F.slot_list_extend PySem.F.type_list_extend qar (JQ gd hsl xp) (qg (A.r G₀ H₀ a) qu (qe s1)) rfl few hl (qe s1) rfl) rfl) fun D σ H hq1=>?_;obtain ⟨ρ,G,er,h⟩:=hq1;rw [he] at h;have h:=Wk.th h;unfold jD at h
  cases e1:qM Γ x ρ with
  | none=>rw [e1] at h;exact False.elim h
  | some q=>
   obtain ⟨i',l0⟩:=q;have ei:i'=i:=by have:=qO e1;rw [hsl] at this;cases this;rfl
   subst ei;rw [e1] at h;have h:=(Wk.nif (c:=qh a=true) h).2;rw [if_neg (2:),if_pos rfl] at h;obtain ⟨b,xs,z,h1,h2⟩:=er.ownSlot (qF e1).2.2.2;refine ⟨_,z,.inl ⟨rfl,xs,SqL.of h1⟩,ρ,G,er,Wk.mono (Wk.th h) fun y h v G1 H1 p1 r1=>?_⟩
   cases e2:qM Γ x y.2 with
   | none=>rw [e2] at h;exact False.elim h
   | some q=>
    obtain ⟨i2,l⟩:=q
    cases e3:y.1.plain? with
    | none=>rw [e2,e3] at h;exact False.elim h
    | some n=>rw [e2,e3] at h;have ei:=qa2 e1 e2;subst ei;obtain ⟨hz,h⟩:=Wk.iff h;obtain ⟨b',ys,z',h3,h4⟩:=p1.er.ownSlot (qF e2).2.2.2;obtain ⟨c,zs,rfl,h5,h6⟩:=r1.plain p1.er e3;rw [z] at z';cases z';refine ⟨b,c,ys,zs,rfl,rfl,h3,h5,by rw [<-h4.len,<-h6.len];exact hz,?_⟩;exact h σ G1 _ (p1.er.write (qF e2).2.2.2 z (h4.app h6)) p1.gs
theorem qcE (gd:Gd κ K k X Γ) (x:Str) (xp ap cp p:Pos) (hl:(ap.endLine == cp.line)=true)
  (he:∀ ρ,evS (m+1) w Γ (.Expr (.Call (.Attribute (.Name x xp) "clear" ap) [] [] cp) p) ρ=match qM Γ x ρ with | some (i,_)=>.ok (.next (ρ.set i (.own []))) | none=>.no) :
  PS X (.Expr (.Call (.Attribute (.Name x xp) "clear" ap) [] [] cp) p) (tS κ K G₀ H₀ Γ (m+1) w (.Expr (.Call (.Attribute (.Name x xp) "clear" ap) [] [] cp) p)):=by
 cases hsl:jR Γ x with
 | none=>
  refine qr fun D σ H hq1=>?_;obtain ⟨ρ,G,er,h⟩:=hq1;rw [he] at h
  cases e1:qM Γ x ρ with
  | none=>rw [e1] at h;exact h
  | some q=>have:=qO (i:=q.1) (l:=q.2) e1;rw [hsl] at this;cases this
 | some i=>
  refine PS.imp (ja (qgl PySem.F.plainAttrs_list PySem.F.slot_list_clear PySem.F.type_list_clear qb9 (JQ gd hsl xp) rfl hl) rfl) fun D σ H hq1=>?_;obtain ⟨ρ,G,er,h⟩:=hq1;rw [he] at h
  cases e1:qM Γ x ρ with
  | none=>rw [e1] at h;exact False.elim h
  | some q=>
   obtain ⟨i',l0⟩:=q;have ei:i'=i:=by have:=qO e1;rw [hsl] at this;cases this;rfl
   subst ei;rw [e1] at h;obtain ⟨b,xs,z,h1,h2⟩:=er.ownSlot (qF e1).2.2.2;exact ⟨_,z,.inl ⟨rfl,xs,SqL.of h1⟩,b,xs,rfl,rfl,h1,h σ G _ (er.write (qF e1).2.2.2 z .nil) fun _ _ e=>e⟩
theorem qhn (gd:Gd κ K k X Γ) (A:All κ K k X Γ m) (e:Expr) (p:Pos):PS X (.Return (some e) p) (tS κ K G₀ H₀ Γ (m+1) w (.Return (some e) p)):=by
 have gen:(∀ ρ,evX m Γ e ρ=(evR m Γ e ρ).th fun x=>match x.1 with
   | .val d=>.ok (.val d)
   | .tmp l=>.ok (.tmp l)
   | _=>.no)->PS X (.Return (some e) p) (tS κ K G₀ H₀ Γ (m+1) w (.Return (some e) p)):=fun he=>by
  refine PS.imp (qaa (A.r G₀ H₀ e)) fun D σ H hq1=>?_;obtain ⟨ρ,G,er,h⟩:=hq1;have h:=Wk.th (x:=evX m Γ e ρ) h;rw [he] at h;refine ⟨ρ,G,er,Wk.mono (Wk.th h) fun x h v G1 H1 p1 r1=>?_⟩;obtain ⟨rv,ρ1⟩:=x
  cases rv with
  | val d=>exact h v G1 H1 p1.er.base p1.er.g0 p1.er.sub p1.er.fresh r1
  | tmp l=>obtain ⟨a,xs,rfl,h1,h2,h3,h4,h5,h6⟩:=r1;exact h _ G1 H1 p1.er.base p1.er.g0 p1.er.sub p1.er.fresh ⟨a,xs,rfl,h1,h3,h4,h6⟩
  | cell l=>exact False.elim h
  | scr l=>exact False.elim h
 cases e with
 | Name x pos=>
  by_cases hok:qo x=true
  case neg=>refine qr fun D σ H hq1=>?_;obtain ⟨ρ,G,er,h⟩:=hq1;have h:=Wk.th (x:=jC Γ x ρ) h;unfold jC at h;exact hok (Wk.iff h).1
  obtain ⟨n1,n2,n3⟩:=zc hok
  cases hi:qS Γ.N x with
  | some i=>
   by_cases hv:JL Γ.sc x=true
   case neg=>refine qr fun D σ H hq1=>?_;obtain ⟨ρ,G,er,h⟩:=hq1;have h:=Wk.th (x:=jC Γ x ρ) h;unfold jC at h;rw [if_pos hok,hi] at h;exact hv (Wk.iff h).1
   refine PS.imp (qaa (Jf (i:=i) (by rw [gd.hN];exact jc hi) (gd.vis x hv) n1 n2)) fun D σ H hq1=>?_;obtain ⟨ρ,G,er,h⟩:=hq1;have h:=Wk.th (x:=jC Γ x ρ) h;unfold jC at h;rw [if_pos hok,hi] at h;have h:=(Wk.iff h).2
   cases q:ρ[i]? with
   | none=>rw [q] at h;exact False.elim h
   | some s=>
    rw [q] at h;have w:=er.sl i s q
    cases s with
    | val d=>obtain ⟨v,z,r⟩:=w;exact ⟨v,z,h v G H er.base er.g0 er.sub er.fresh r⟩
    | own l=>obtain ⟨a,xs,z,r1,r2,r3,r4⟩:=w;exact ⟨_,z,h _ G H er.base er.g0 er.sub er.fresh ⟨a,xs,rfl,r1,r2,r3,r4⟩⟩
    | _=>exact False.elim h
  | none=>
   by_cases hg:glB Γ.sc x=true
   case neg=>refine qr fun D σ H hq1=>?_;obtain ⟨ρ,G,er,h⟩:=hq1;have h:=Wk.th (x:=jC Γ x ρ) h;unfold jC at h;rw [if_pos hok,hi] at h;exact hg (Wk.iff h).1
   cases hd:Γ.gl x with
   | none=>refine qr fun D σ H hq1=>?_;obtain ⟨ρ,G,er,h⟩:=hq1;have h:=Wk.th (x:=jC Γ x ρ) h;unfold jC at h;rw [if_pos hok,hi] at h;have h:=(Wk.iff h).2;rw [hd] at h;exact h
   | some d=>obtain ⟨v,u,e1,e2,e3⟩:=gd.gl x d hd;refine PS.imp (qaa (jy (gd.glo x hg) e1 e2 n1)) fun D σ H hq1=>?_;obtain ⟨ρ,G,er,h⟩:=hq1;have h:=Wk.th (x:=jC Γ x ρ) h;unfold jC at h;rw [if_pos hok,hi] at h;have h:=(Wk.iff h).2;rw [hd] at h;exact h v G H er.base er.g0 er.sub er.fresh (e3 G)
 | _=>exact gen fun _=>rfl
noncomputable def AsR (κ:KC) (K:Frag) (H₀ G H:Hp) (ρ:Env) (σ:L2.St):Sl->V->Prop
 | .val d,v=>Rep κ G d v
 | .own l,v=>∃ a xs,v=.ref a/\H a=some (.lst xs)/\H₀ a=none/\G a=none/\¬ ZE ρ σ a/\qq κ G l xs
 | _,_=>False
noncomputable def tA (κ:KC) (K:Frag) (G₀ H₀:Hp) (Γ:Ct) (m:Nat) (e:Expr):TE:=fun σ H Q=>∃ ρ G,ER κ K G₀ H₀ G H ρ σ/\Wk (evA m Γ e ρ) fun s=>∀ v G' H',Po κ K G₀ H₀ σ G H ρ G' H' s.2->AsR κ K H₀ G' H' s.2 σ s.1 v->Q v H'
theorem qeT {G H:Hp} {ρ:Env} {σ:L2.St} {s:Sl} {v:V} {i:Nat} (er:ER κ K G₀ H₀ G H ρ σ) (h:AsR κ K H₀ G H ρ σ s v):ER κ K G₀ H₀ G H (ρ.set i s) (σ.set i (some v)):=by
 cases s with
 | val d=>exact er.setVal h
 | own l=>obtain ⟨a,xs,rfl,h1,h2,h3,h4,h5⟩:=h;exact er.setOwn h1 h2 h3 h4 h5
 | _=>exact False.elim h
theorem qjm {G H:Hp} {ρ:Env} {σ:L2.St} {F:Sl×Env->Prop} {Q:VK} {e:Expr} {m:Nat} (er:ER κ K G₀ H₀ G H ρ σ)
  (h:Wk ((evR m Γ e ρ).th fun x=>match x.1 with
   | .val d=>R.ok (Sl.val d,x.2)
   | .tmp l=>R.ok (Sl.own l,x.2)
   | _=>.no) fun s=>∀ v G' H',Po κ K G₀ H₀ σ G H ρ G' H' s.2->AsR κ K H₀ G' H' s.2 σ s.1 v->Q v H'):tR κ K G₀ H₀ Γ m e σ H Q:=by
 refine ⟨ρ,G,er,Wk.mono (Wk.th h) fun x h v G1 H1 p1 r1=>?_⟩;obtain ⟨rv,ρ1⟩:=x
 cases rv with
 | val d=>exact h v G1 H1 p1 r1
 | tmp l=>obtain ⟨a,xs,rfl,h1,h2,h3,h4,h5,h6⟩:=r1;exact h _ G1 H1 p1 ⟨a,xs,rfl,h1,h3,h4,h5,h6⟩
 | cell l=>exact False.elim h
 | scr l=>exact False.elim h
theorem qjQ (gd:Gd κ K k X Γ) (A:All κ K k X Γ m) (A1:All κ K k X Γ (m+1)) (e:Expr):PE X e (tA κ K G₀ H₀ Γ m e):=by
 have gen:(∀ ρ,evA m Γ e ρ=(evR m Γ e ρ).th fun x=>match x.1 with
   | .val d=>.ok (.val d,x.2)
   | .tmp l=>.ok (.own l,x.2)
   | _=>.no)->PE X e (tA κ K G₀ H₀ Γ m e):=fun he=>by
  refine PE.imp (A.r G₀ H₀ e) fun σ H Q hq1=>?_;obtain ⟨ρ,G,er,h⟩:=hq1;rw [he] at h;exact qjm (F:=fun _=>True) er h
 cases e with
 | Name x pos=>refine PE.imp (A1.e G₀ H₀ (.Name x pos)) fun σ H Q hq1=>?_;obtain ⟨ρ,G,er,h⟩:=hq1;refine ⟨ρ,G,er,Wk.mono (Wk.th (x:=z8 Γ x ρ) h) fun y h v G1 H1 p1 r1=>h v G1 H1 p1 r1⟩
 | _=>exact gen fun _=>rfl
theorem qho (gs:Gs κ K k X Γ) (A:All κ K k X Γ m) (A1:All κ K k X Γ (m+1)) (x:Str) (e:Expr) (xp p:Pos):PS X (.Assign [.Name x xp] e p) (tS κ K G₀ H₀ Γ (m+1) w (.Assign [.Name x xp] e p)):=by
 have gd:=gs.toGd
 have fail:∀ (D:Ends) (σ:L2.St) (H:Hp),(qS Γ.N x=none\/¬ (Z3 Γ.sc x&&qo x)=true)->¬ tS κ K G₀ H₀ Γ (m+1) w (.Assign [.Name x xp] e p) D σ H:=fun D σ H hf ⟨ρ,G,er,h⟩=>by
  have h:=Wk.th (x:=evA m Γ e ρ) h
  cases e1:evA m Γ e ρ with
  | ok s=>
   rw [e1] at h;obtain ⟨i,e2,h⟩:=Wk.of (Wk.th (x:=R.of (qS Γ.N x)) h);rcases hf with z | z
   ·rw [e2] at z;cases z
   ·exact z (Wk.iff h).1
  | exc c l=>rw [e1] at h;exact h
  | no=>rw [e1] at h;exact h
 cases hi:qS Γ.N x with
 | none=>exact qr fun D σ H=>fail D σ H (.inl hi)
 | some i=>
  by_cases hc:(Z3 Γ.sc x&&qo x)=true
  case neg=>exact qr fun D σ H=>fail D σ H (.inr hc)
  have hc':=hc;rw [Bool.and_eq_true] at hc';obtain ⟨l1,l2⟩:=gd.loc x hc'.1;have hN:X.N.Nodup:=by rw [gd.hN];exact gd.nd
  have hxi:X.N[i]?=some x:=by rw [gd.hN];exact jc hi
  have fin:∀ (D:Ends) (σ:L2.St) (H:Hp),tS κ K G₀ H₀ Γ (m+1) w (.Assign [.Name x xp] e p) D σ H->tA κ K G₀ H₀ Γ m e σ H (fun y H1=>qbR i y σ H1 D.nx):=fun D σ H ⟨ρ,G,er,h⟩=>by refine ⟨ρ,G,er,Wk.mono (Wk.th (x:=evA m Γ e ρ) h) fun s h v G1 H1 p1 r1=>?_⟩;obtain ⟨j,e2,h⟩:=Wk.of (Wk.th (x:=R.of (qS Γ.N x)) h);rw [hi] at e2;cases e2;exact (Wk.iff h).2 _ G1 H1 (qeT p1.er r1) p1.gs
  by_cases hn:qA e=true
  ·exact PS.imp (qdk (i:=i) hN hxi l1 (qjQ gd A A1 e) (Q4 hn _ _ _) l2) fin
  cases e with
  | ListComp elt gens sc cp=>
   have hsw:∀ b:Bool,(X.env.blockKind == .function&&X.env.kindOf x == some .local&&xp.line == cp.line&&!(sc.names.any fun (n,k)=>n == x&&(k == .local||k == .cell)))=b->swapsWith (.ListComp elt gens sc cp) (some (.Name x xp)) p.line X.env=pure b:=fun b hb=>by rw [<-hb];rfl
   cases hb:(X.env.blockKind == .function&&X.env.kindOf x == some .local&&xp.line == cp.line&&!(sc.names.any fun (n,k)=>n == x&&(k == .local||k == .cell))) with
   | false=>exact PS.imp (qdk (i:=i) hN hxi l1 (qjQ gd A A1 _) (hsw false hb) l2) fin
   | true=>
    have hloc:X.env.scope.names.lookup x=some .local:=by
     simp only [Bool.and_eq_true] at hb
     have:=hb.1.1.2
     unfold PySem.Env.kindOf at this
     simpa using this
    cases m with
    | zero=>exact qr fun D σ H h=>by obtain ⟨ρ,G,er,h⟩:=fin D σ H h;exact h
    | succ m=>
     have no:(∀ σ H Q,¬ tR κ K G₀ H₀ Γ (m+1) (.ListComp elt gens sc cp) σ H Q)->PS X (.Assign [.Name x xp] (.ListComp elt gens sc cp) p) (tS κ K G₀ H₀ Γ (m+1+1) w (.Assign [.Name x xp] (.ListComp elt gens sc cp) p)):=fun hno=>qr fun D σ H h=>by obtain ⟨ρ,G,er,h⟩:=fin D σ H h;exact hno σ H _ (qjm (F:=fun _=>True) er h)
     cases gens with
     | nil=>exact no fun σ H Q ⟨ρ,G,er,h⟩=>h
     | cons g gens=>
      obtain ⟨tg,it,ifs,as⟩:=g
      cases gens with
      | cons g' gens=>exact no fun σ H Q ⟨ρ,G,er,h⟩=>h
      | nil=>
       by_cases ha:as=0
       case neg=>exact no fun σ H Q ⟨ρ,G,er,h⟩=>ha (Wk.iff (show Wk (if as=0 then _ else R.no) _ from h)).1
       subst ha;rcases qa0 (κ:=κ) (K:=K) (G₀:=G₀) (H₀:=H₀) (m:=m) (Γ:=Γ) elt tg it ifs sc cp with ⟨own,S⟩ | hno
       ·have B:BlkScope X own (jY Γ.N sc) sc:=YG gd S.chk;have A':=all m X Γ gd
        refine PS.imp (qer (i:=i) own (jY Γ.N sc) hN hxi hloc gd.calm B (A'.i G₀ H₀ tg it) (fun cl C fp s2 H2=>qcC (Jl gd B S.nd cl C fp s2 H2) tg) (fun cl C fp s2 H2=>qdK (all m _ _ (Jl gd B S.nd cl C fp s2 H2)) ifs)
         (fun cl C fp s2 H2=>qhm (all m _ _ (Jl gd B S.nd cl C fp s2 H2)) elt) (hsw true hb) (Qk S.fold X.env)) fun D σ H h=>?_
        obtain ⟨ρ,G,er,h⟩:=fin D σ H h;exact Q3 elt tg it ifs sc cp S σ H _ (qjm (F:=fun _=>True) er h)
       ·exact no hno
  | SetComp=>exact qr fun D σ H h=>by obtain ⟨ρ,G,er,h⟩:=fin D σ H h;cases m<;>exact h
  | DictComp=>exact qr fun D σ H h=>by obtain ⟨ρ,G,er,h⟩:=fin D σ H h;cases m<;>exact h
  | _=>exact absurd rfl hn
end
end DE
namespace DE
open PySem PySem.Spec PyProof.Rows L2
structure AllS (κ:KC) (K:Frag) (X:Cx) (Γ:Ct) (m w:Nat):Prop where
 s:∀ G₀ H₀ st,PS X st (tS κ K G₀ H₀ Γ m w st)
 ss:∀ G₀ H₀ l,PSs X l (tSs κ K G₀ H₀ Γ m w l)
section
variable {κ:KC} {K:Frag} {G₀ H₀:Hp} {k m w:Nat} {X:Cx} {Γ:Ct}
theorem FlP.back {G G1:Hp} {D:Ends} {f:Fl} (h:FlP κ K G₀ H₀ G D f) (g:qv G G1):FlP κ K G₀ H₀ G1 D f:=by
 cases f with
 | next ρ=>exact fun σ' G' H' er g'=>h σ' G' H' er fun b o e=>g' b o (g b o e)
 | ret r=>exact h
theorem qcF {e:Expr} (h:yh e=true) (es:List Expr) (j:Nat) (p:Pos) (env:PySem.Env):swappedStores [.Tuple es j p] e env=pure none:=by cases e<;>first | rfl | (simp [yh] at h)
theorem qa5 (gd:Gd κ K k X Γ) (A:All κ K k X Γ m) (es:List Expr) (j:Nat) (tp:Pos) (e:Expr) (p:Pos):PS X (.Assign [.Tuple es j tp] e p) (tS κ K G₀ H₀ Γ (m+1) w (.Assign [.Tuple es j tp] e p)):=by
 by_cases hc:qA e=true/\yh e=true
 case neg=>exact qr fun D σ H ⟨ρ,G,er,h⟩=>hc (Wk.iff (show Wk (if qA e=true/\yh e=true then _ else R.no) _ from h)).1
 refine PS.imp (qdj (A.e G₀ H₀ e) (qcC gd (.Tuple es j tp)) (show swapsWithSole [.Tuple es j tp] e p.line X.env=pure false from Q4 hc.1 (some (.Tuple es j tp)) p.line X.env) (qcF hc.2 es j tp _) rfl) fun D σ H hq1=>?_;obtain ⟨ρ,G,er,h⟩:=hq1;have h:=(Wk.iff (show Wk (if qA e=true/\yh e=true then _ else R.no) _ from h)).2;refine ⟨ρ,G,er,Wk.mono (Wk.th (x:=evE m Γ e ρ) h) fun x h v G1 H1 p1 r1=>?_⟩;exact ⟨G₀,H₀,x.2,G1,x.1,p1.er,r1,Wk.mono (Wk.th h) fun ρ1 h σ1 er1=>h σ1 G1 H1 er1 p1.gs⟩
noncomputable def gS (κ:KC) (K:Frag) (G₀ H₀:Hp) (Γ:Ct) (m:Nat) (x:Str) (i:Expr):TG:=fun v σ H Q=>∃ (ρ:Env) (G:Hp) (d:D),ER κ K G₀ H₀ G H ρ σ/\Rep κ G d v/\Wk (qfK m Γ x i d ρ) fun ρ'=>∀ G' H',ER κ K G₀ H₀ G' H' ρ' σ->qv G G'->Q σ H'
theorem qjn (gd:Gd κ K k X Γ) (A:All κ K k X Γ m) (x:Str) (i:Expr) (xp p:Pos) (hs:zu i=true):PG X (.Subscript (.Name x xp) i p) (gS κ K G₀ H₀ Γ m x i):=by
 have none1:∀ {v:V} {σ:L2.St} {H:Hp} {Q:L2.St->Hp->Prop},jR Γ x=none->¬ gS κ K G₀ H₀ Γ m x i v σ H Q:=fun {v σ H Q} hsl ⟨ρ,G,d,er,r,h⟩=>by
  unfold qfK at h
  cases e1:qM Γ x ρ with
  | none=>rw [e1] at h;exact h
  | some q=>have:=qO (i:=q.1) (l:=q.2) e1;rw [hsl] at this;cases this
 cases hsl:jR Γ x with
 | none=>exact yP fun v σ H Q=>none1 hsl
 | some j=>
  refine PG.imp (qf2 (JQ gd hsl xp) (A.r G₀ H₀ i) qb7 (fun v=>by cases i<;>first | rfl | (simp [zu] at hs))) fun v σ H Q hq1=>?_;obtain ⟨ρ,G,d,er,r,h⟩:=hq1;unfold qfK at h
  cases e1:qM Γ x ρ with
  | none=>rw [e1] at h;exact False.elim h
  | some q=>
   obtain ⟨j',l0⟩:=q;have ei:j'=j:=by have:=qO e1;rw [hsl] at this;cases this;rfl
   subst ei;rw [e1] at h;obtain ⟨b,xs,z,h1,h2⟩:=er.ownSlot (qF e1).2.2.2;refine ⟨_,z,ρ,G,er,Wk.mono (Wk.th (x:=evR m Γ i ρ) h) fun y h u G1 H1 p1 r1=>?_⟩
   cases e2:qM Γ x y.2 with
   | none=>rw [e2] at h;exact False.elim h
   | some q=>
    obtain ⟨j2,l⟩:=q
    cases e3:y.1.int? with
    | none=>rw [e2,e3] at h;exact False.elim h
    | some n=>
     rw [e2,e3] at h;dsimp only at h;have ei:=qa2 e1 e2;subst ei
     cases e4:ixN l.length n with
     | none=>rw [e4] at h;exact False.elim h
     | some c=>rw [e4] at h;obtain ⟨b',ys,z',h3,h4⟩:=p1.er.ownSlot (qF e2).2.2.2;rw [z] at z';cases z';refine ⟨b,ys,n,c,rfl,r1.int e3,h3,by rw [<-h4.len];exact e4,?_⟩;exact h G1 _ (p1.er.write (qF e2).2.2.2 z (h4.set c (r.same p1.gs))) p1.gs
theorem qa6 (gd:Gd κ K k X Γ) (A:All κ K k X Γ m) (x:Str) (i e:Expr) (xp sp p:Pos):PS X (.Assign [.Subscript (.Name x xp) i sp] e p) (tS κ K G₀ H₀ Γ (m+1) w (.Assign [.Subscript (.Name x xp) i sp] e p)):=by
 by_cases hc:qA e=true/\zu i=true
 case neg=>exact qr fun D σ H ⟨ρ,G,er,h⟩=>hc (Wk.iff (show Wk (if qA e=true/\zu i=true then _ else R.no) _ from h)).1
 refine PS.imp (qdj (A.e G₀ H₀ e) (qjn (G₀:=G₀) (H₀:=H₀) gd A x i xp sp hc.2) (show swapsWithSole [.Subscript (.Name x xp) i sp] e p.line X.env=pure false from Q4 hc.1 (some (.Subscript (.Name x xp) i sp)) p.line X.env) rfl rfl) fun D σ H hq1=>?_;obtain ⟨ρ,G,er,h⟩:=hq1;have h:=(Wk.iff (show Wk (if qA e=true/\zu i=true then _ else R.no) _ from h)).2;refine ⟨ρ,G,er,Wk.mono (Wk.th (x:=evE m Γ e ρ) h) fun y h v G1 H1 p1 r1=>?_⟩;exact ⟨y.2,G1,y.1,p1.er,r1,Wk.mono (Wk.th h) fun ρ1 h G2 H2 er1 g2=>h σ G2 H2 er1 fun b o e=>g2 b o (p1.gs b o e)⟩
theorem qjo (A:All κ K k X Γ m) (S:AllS κ K X Γ m w) (c:Expr) (a b:List Stmt) (p:Pos):PS X (.If c a b p) (tS κ K G₀ H₀ Γ (m+1) w (.If c a b p)):=by
 refine PS.imp (Zl (A.t G₀ H₀ c) (S.ss G₀ H₀ a) (S.ss G₀ H₀ b)) fun D σ H hq1=>?_;obtain ⟨ρ,G,er,h⟩:=hq1;refine ⟨ρ,G,er,Wk.mono (Wk.th (x:=evT m Γ c ρ) h) fun t h G1 H1 p1=>?_⟩;obtain ⟨d,ρ1⟩:=t
 cases d with
 | true=>rw [if_pos rfl];exact ⟨ρ1,G1,p1.er,Wk.mono h fun f hf=>hf.back p1.gs⟩
 | false=>rw [if_neg (fun z=>by cases z)];exact ⟨ρ1,G1,p1.er,Wk.mono h fun f hf=>hf.back p1.gs⟩
theorem qhp (gs:Gs κ K k X Γ) (A:All κ K k X Γ m) (S:AllS κ K X Γ m w) (tg it:Expr) (body:List Stmt) (p:Pos):PS X (.For tg it body [] p) (tS κ K G₀ H₀ Γ (m+1) w (.For tg it body [] p)):=by
 by_cases hf:zE it=true
 case neg=>exact qr fun D σ H ⟨ρ,G,er,h⟩=>hf (Wk.iff (show Wk (if zE it=true then _ else R.no) _ from h)).1
 refine PS.imp (qf4 gs.own gs.calm (A.i G₀ H₀ tg it) (qcC gs.toGd tg) (S.ss G₀ H₀ body) (Qk hf X.env)) fun D σ H hq1=>?_;obtain ⟨ρ,G,er,h⟩:=hq1;have h:=(Wk.iff (show Wk (if zE it=true then _ else R.no) _ from h)).2;refine ⟨ρ,G,er,Wk.mono (Wk.th (x:=evI m Γ (J6 tg) it ρ) h) fun x h J G1 H1 p1 it1=>?_⟩
 refine ⟨fun i mm σ' H'=>mm=x.1.length - i/\i<=x.1.length/\∃ ρb Gb,ER κ K G₀ H₀ Gb H' ρb σ'/\qv G1 Gb/\Wk (qeS (fun d ρ1=>(qex Γ tg d ρ1).th fun ρ2=>qa1 m w Γ body ρ2) (x.1.drop i) ρb) (FlP κ K G₀ H₀ G D),
  ⟨x.1.length,by simp,Nat.zero_le _,x.2,G1,p1.er,fun _ _ e=>e,by rw [List.drop_zero];exact h⟩,?_⟩
 rintro i mm σ' H' ⟨rfl,hi,ρb,Gb,erb,g1,hw⟩;have it2:=it1 i Gb H' g1 erb.base erb.sub
 by_cases hlt:i < x.1.length
 ·obtain ⟨go,yl⟩:=it2.1 x.1[i] (List.getElem?_eq_getElem hlt);refine .inr ⟨go,_,fun σ2 H2 w=>⟨x.1.length - (i+1),by omega,w⟩,fun v H2 hy=>?_⟩;obtain ⟨G',hs,gss,sub,new,rep⟩:=yl v H2 hy;have p2:=Po.more erb hs gss sub new;rw [List.drop_eq_getElem_cons hlt] at hw;refine ⟨G₀,H₀,ρb,G',x.1[i],p2.er,rep,Wk.mono (Wk.th (Wk.th hw)) fun ρ2 hw σ2 er2=>⟨ρ2,G',er2,Wk.mono hw fun f hf=>?_⟩⟩
  cases f with
  | next ρ3=>exact fun σ3 G3 H3 er3 g3=>⟨rfl,hlt,ρ3,G3,er3,fun b o e=>g3 b o (gss b o (g1 b o e)),hf⟩
  | ret r=>exact hf
 ·have e:i=x.1.length:=by omega
  subst e;rw [List.drop_length] at hw;exact .inl ⟨it2.2 rfl,hw σ' Gb H' erb fun b o e=>g1 b o (p1.gs b o e)⟩
theorem qcG (gs:Gs κ K k X Γ) (A:All κ K k X Γ m) (S:AllS κ K X Γ m w) (c:Expr) (body:List Stmt) (p:Pos):PS X (.While c body [] p) (tS κ K G₀ H₀ Γ (m+1) w (.While c body [] p)):=by
 refine PS.imp (qbT gs.own (A.t G₀ H₀ c) (S.ss G₀ H₀ body)) fun D σ H hq1=>?_;obtain ⟨ρ,G,er,h⟩:=hq1;refine ⟨fun n σ' H'=>∃ ρb Gb,ER κ K G₀ H₀ Gb H' ρb σ'/\qv G Gb/\Wk (whL (fun ρ1=>evT m Γ c ρ1) (fun ρ1=>qa1 m w Γ body ρ1) n ρb) (FlP κ K G₀ H₀ G D),⟨w,ρ,G,er,fun _ _ e=>e,h⟩,?_⟩;rintro n σ' H' ⟨ρb,Gb,erb,g1,hw⟩
 cases n with
 | zero=>exact False.elim hw
 | succ n=>
  refine ⟨ρb,Gb,erb,Wk.mono (Wk.th (x:=evT m Γ c ρb) hw) fun b hw G2 H2 p2=>?_⟩;obtain ⟨d,ρ2⟩:=b
  cases d with
  | false=>rw [if_neg (fun z=>by cases z)];exact hw σ' G2 H2 p2.er fun b o e=>p2.gs b o (g1 b o e)
  | true=>
   rw [if_pos rfl];refine ⟨_,fun σ3 H3 w=>⟨n,Nat.lt_succ_self n,w⟩,ρ2,G2,p2.er,Wk.mono (Wk.th hw) fun f hf=>?_⟩
   cases f with
   | next ρ3=>exact fun σ3 G3 H3 er3 g3=>⟨ρ3,G3,er3,fun b o e=>g3 b o (p2.gs b o (g1 b o e)),hf⟩
   | ret r=>exact hf
theorem qeU (gd:Gd κ K k X Γ) (A:All κ K k X Γ m) (e:Expr) (p:Pos):PS X (.Expr e p) (tS κ K G₀ H₀ Γ (m+1) w (.Expr e p)):=by
 have gen:(∀ ρ,evS (m+1) w Γ (.Expr e p) ρ=if qA e=true then (evR m Γ e ρ).th fun x=>.ok (.next x.2) else .no)->PS X (.Expr e p) (tS κ K G₀ H₀ Γ (m+1) w (.Expr e p)):=fun he=>by
  by_cases hn:qA e=true
  case neg=>refine qr fun D σ H hq1=>?_;obtain ⟨ρ,G,er,h⟩:=hq1;rw [he,if_neg hn] at h;exact h
  refine PS.imp (ja (A.r G₀ H₀ e) (Q4 hn _ _ _)) fun D σ H hq1=>?_;obtain ⟨ρ,G,er,h⟩:=hq1;rw [he,if_pos hn] at h;exact ⟨ρ,G,er,Wk.mono (Wk.th h) fun x h v G1 H1 p1 r1=>h σ G1 H1 p1.er p1.gs⟩
 cases e with
 | Call fn es kws cp=>
  cases fn with
  | Attribute o meth ap=>
   cases o with
   | Name x xp=>
    cases kws with
    | cons kw kws=>exact gen fun _=>by match es with | []=>rfl | [_]=>rfl | _::_::_=>rfl
    | nil=>
     match es with
     | [a]=>
      by_cases hl:(ap.endLine == cp.line)=true
      case neg=>exact qr fun D σ H ⟨ρ,G,er,h⟩=>hl (Wk.iff (show Wk (if (ap.endLine == cp.line)=true then _ else R.no) _ from h)).1
      have he:∀ ρ,evS (m+1) w Γ (.Expr (.Call (.Attribute (.Name x xp) meth ap) [a] [] cp) p) ρ=(jD m Γ x meth a ρ).th fun ρ1=>.ok (.next ρ1):=fun ρ=>by show (if (ap.endLine == cp.line)=true then _ else R.no)=_;rw [if_pos hl]
      by_cases h1:meth = "append"
      ·subst h1;exact qa3 gd A x a xp ap cp p hl he
      by_cases h2:meth = "extend"
      ·subst h2;exact qa4 gd A x a xp ap cp p hl he
      refine qr fun D σ H hq1=>?_;obtain ⟨ρ,G,er,h⟩:=hq1;rw [he] at h;have h:=Wk.th h;unfold jD at h
      cases e1:qM Γ x ρ with
      | none=>rw [e1] at h;exact h
      | some q=>rw [e1] at h;have h:=(Wk.nif (c:=qh a=true) h).2;rw [if_neg h1,if_neg h2] at h;exact h
     | []=>
      by_cases hl:(ap.endLine == cp.line)=true/\meth = "clear"
      case neg=>exact qr fun D σ H ⟨ρ,G,er,h⟩=>hl (Wk.iff (show Wk (if (ap.endLine == cp.line)=true/\meth = "clear" then _ else R.no) _ from h)).1
      obtain ⟨hl,rfl⟩:=hl;refine qcE gd x xp ap cp p hl fun ρ=>?_;show (if (ap.endLine == cp.line)=true/\("clear" : Str) = "clear" then _ else R.no)=_;rw [if_pos ⟨hl,rfl⟩]
     | _::_::_=>exact gen fun _=>rfl
   | _=>exact gen fun _=>rfl
  | _=>exact gen fun _=>rfl
 | _=>exact gen fun _=>rfl
theorem qkL (gs:Gs κ K k X Γ) (A:All κ K k X Γ m) (A1:All κ K k X Γ (m+1)) (S:AllS κ K X Γ m w) (st:Stmt):PS X st (tS κ K G₀ H₀ Γ (m+1) w st):=by
 cases st with
 | Pass p=>exact PS.imp qd0 fun D σ H ⟨ρ,G,er,h⟩=>h σ G H er fun _ _ e=>e
 | Expr e p=>exact qeU gs.toGd A e p
 | Return o p=>
  cases o with
  | some e=>exact qhn gs.toGd A e p
  | none=>exact PS.imp qd1 fun D σ H ⟨ρ,G,er,h⟩=>h .non G H er.base er.g0 er.sub er.fresh (by simp only [ReR,Rep])
 | Assign tgs e p=>
  cases tgs with
  | nil=>exact qr fun D σ H h=>Exists.elim h fun _ h=>Exists.elim h fun _ h=>h.2
  | cons tg tgs=>
   cases tgs with
   | cons t2 tgs=>exact qr fun D σ H h=>Exists.elim h fun _ h=>Exists.elim h fun _ h=>h.2
   | nil=>
    cases tg with
    | Name x xp=>exact qho gs A A1 x e xp p
    | Tuple es j tp=>exact qa5 gs.toGd A es j tp e p
    | Subscript o i sp=>
     cases o with
     | Name x xp=>exact qa6 gs.toGd A x i e xp sp p
     | _=>exact qr fun D σ H h=>Exists.elim h fun _ h=>Exists.elim h fun _ h=>h.2
    | _=>exact qr fun D σ H h=>Exists.elim h fun _ h=>Exists.elim h fun _ h=>h.2
 | If c a b p=>exact qjo A S c a b p
 | For tg it body orelse p=>
  cases orelse with
  | nil=>exact qhp gs A S tg it body p
  | cons s l=>exact qr fun D σ H h=>Exists.elim h fun _ h=>Exists.elim h fun _ h=>h.2
 | While c body orelse p=>
  cases orelse with
  | nil=>exact qcG gs A S c body p
  | cons s l=>exact qr fun D σ H h=>Exists.elim h fun _ h=>Exists.elim h fun _ h=>h.2
 | _=>exact qr fun D σ H h=>Exists.elim h fun _ h=>Exists.elim h fun _ h=>h.2
theorem qjp (S:AllS κ K X Γ m w):∀ l,PSs X l (tSs κ K G₀ H₀ Γ (m+1) w l)
 | []=>PSs.imp j4 fun D σ H ⟨ρ,G,er,h⟩=>h σ G H er fun _ _ e=>e
 | st::l=>by
  refine PSs.imp (qP (S.s G₀ H₀ st) (S.ss G₀ H₀ l)) fun D σ H hq1=>?_;obtain ⟨ρ,G,er,h⟩:=hq1;refine ⟨ρ,G,er,Wk.mono (Wk.th (x:=evS m w Γ st ρ) h) fun f hf=>?_⟩
  cases f with
  | next ρ1=>exact fun σ1 G1 H1 er1 g1=>⟨ρ1,G1,er1,Wk.mono hf fun f hf=>hf.back g1⟩
  | ret r=>exact hf
theorem qjR (gs:Gs κ K k X Γ):∀ m,AllS κ K X Γ m w
 | 0=>⟨fun _ _ st=>qr fun D σ H ⟨ρ,G,er,h⟩=>h,fun _ _ l=>qcD fun D σ H ⟨ρ,G,er,h⟩=>h⟩
 | m+1=>
  have S:=qjR gs m
  ⟨fun G₀ H₀ st=>qkL gs (all m X Γ gs.toGd) (all (m+1) X Γ gs.toGd) S st,fun G₀ H₀ l=>qjp S l⟩
end
end DE
namespace DE
open PySem PySem.Spec PyProof.Rows L2
def Jm (st:Stmt):List Str:=(qV st).args.map (·.arg)
noncomputable def fnN (st:Stmt):List Str:=Jm st++(qp st).names.filterMap fun x=>if ((x.2 == .local||x.2 == .cell)&&!(Jm st).contains x.1)=true then some x.1 else none
noncomputable def jd (st:Stmt):Bool:=(qp st).kind == .function&&!(qp st).isCoroutine&&!(qp st).isGenerator&&decide (fnN st).Nodup&&(Jm st).all (Z3 (qp st))&&(qp st).names.all fun y=>y.2 != .free
def toSl:Ar->Sl
 | .val d=>.val d
 | .bor l=>.bor l
 | .scr l=>.scr l
def j7 (N:List Str) (args:List Ar):Env:=args.map toSl++List.replicate (N.length - args.length) .no
structure Pg where
 defs:List (Str×Stmt)
 gl:Str->Option D
 m:Nat
 w:Nat
 meths:List (Str×Stmt):=[]
 cs:Cs:=Cs.non
 nw:Nat->Str->List Ar->R Rv:=fun _ _ _=>.no
noncomputable def Pg.ct (pg:Pg) (k:Nat) (cl:Str->List Ar->R Rv) (st:Stmt):Ct:=⟨fnN st,qp st,pg.defs.map (·.1),pg.gl,cl,pg.cs,pg.nw k⟩
def flR:Fl->R Rv
 | .next _=>.ok (.val .non)
 | .ret r=>.ok r
noncomputable def evF (pg:Pg) (k:Nat) (cl:Str->List Ar->R Rv) (st:Stmt) (args:List Ar):R Rv:=
 if (jd st&&args.length == (Jm st).length)=true then (qa1 pg.m pg.w (pg.ct k cl st) (qI st) (j7 (fnN st) args)).th flR else .no
noncomputable def clK (pg:Pg):Nat->Str->List Ar->R Rv
 | 0,_,_=>.no
 | k+1,f,args=>match (pg.defs++pg.meths).lookup f with
  | some st=>evF pg k (clK pg k) st args
  | none=>.no
noncomputable def FnF (K:Frag) (mg:PR) (f:Str) (st:Stmt):Prop:=∃ fa fd,Fun K f f st fa fd/\mg f=some (.ref fa)/\zg K fd (Jm st) []
inductive AllF (K:Frag) (mg:PR):List (Str×Stmt)->Prop where
 | nil:AllF K mg []
 | cons {f:Str} {st:Stmt} {l:List (Str×Stmt)} (h:FnF K mg f st) (t:AllF K mg l):AllF K mg ((f,st)::l)
theorem AllF.mem {K:Frag} {mg:PR}:∀ {l:List (Str×Stmt)} {f:Str} {st:Stmt},AllF K mg l->(f,st)∈l->FnF K mg f st
 | _,_,_,.nil,h=>by cases h
 | _,_,_,.cons h t,m=>by
  cases m with
  | head=>exact h
  | tail _ m=>exact t.mem m
noncomputable def Z6 (P:Program) (wd:World) (κ:KC) (K:Frag) (mg:PR) (base:Heap) (pg:Pg) (k:Nat):Prop:=
 (∀ (f:Str) (st:Stmt),pg.defs.lookup f=some st->∃ fa fd,FnOk P wd K mg base CX0 k fa fd (Jm st) (spF κ K (clK pg k) f)/\mg f=some (.ref fa)/\PySem.W.keepIn K (.ref fa)=true/\zg K fd (Jm st) [])/\
 ∀ (f:Str) (st:Stmt),pg.meths.lookup f=some st->pg.defs.lookup f=none->∀ nm fa fd,Fun K nm f st fa fd->FnOk P wd K mg base CX0 k fa fd (Jm st) (spF κ K (clK pg k) f)
structure PgOk (κ:KC) (K:Frag) (mg:PR) (pg:Pg):Prop where
 fn:AllF K mg pg.defs
 blt:∀ f∈qaQ,mg f=none
 gl:∀ x d,pg.gl x=some d->∃ v u,mg x=some u/\qJ v u/\∀ G,Rep κ G d v
 cls:∀ c C,κ c=some C->Cls K C
 flds:∀ c x C,pg.cs.fld c x=true->κ c=some C->zn K C x
 mts:∀ c x f,pg.cs.mt c x=some f->∃ C fa fd st nm,κ c=some C/\Meth K C x fa/\pg.meths.lookup f=some st/\pg.defs.lookup f=none/\Fun K nm f st fa fd/\zg K fd (Jm st) []
 mks:∀ P wd base k,(∀ j,j < k->Z6 P wd κ K mg base pg j)->∀ f,pg.cs.tab.contains f=true->(∀ args,pg.nw k f args=.no)\/∃ C fa fd ps sp,Mk K C fa/\FnOk P wd K mg base CX0 (k - 1) fa fd ps sp/\mg f=some (.ref C)/\zg K fd ps []/\0 < k/\
  ∀ vs H Q,spF κ K (pg.nw k) f vs H Q E0->∀ x dx,H x=none->H dx=none->dx≠x->sp (.ref x::vs) (upd (upd H dx (.own x)) x (.ins C dx [])) (fun v H2=>v=.non/\Q (.ref x) H2) E0
 subs:∀ c t b,pg.cs.sub c t=some b->∃ C T,κ c=some C/\(∀ H p dx fs,H p=some (HO.ins C dx fs)->TyOf K H (.ref p) (.ref C))/\mg t=some (.ref T)/\PySem.W.kitOne K (.ref C) (.ref T)=some b
section
variable {P:Program} {wd:World} {κ:KC} {K:Frag} {mg:PR} {base:Heap} {pg:Pg}
theorem jZ.len {G H:Hp}:∀ {args:List Ar} {vs:List V},jZ κ K G H args vs->args.length=vs.length
 | [],vs,h=>by simp only [jZ] at h;subst h;rfl
 | a::l,vs,h=>by simp only [jZ] at h;obtain ⟨v,r,rfl,_,h2⟩:=h;simp [jZ.len h2]
theorem jZ.at {G H:Hp}:∀ {args:List Ar} {vs:List V} {i:Nat} {a:Ar},jZ κ K G H args vs->args[i]?=some a->∃ v,vs[i]?=some v/\ArR κ K G H a v
 | [],vs,i,a,h,e=>by simp at e
 | b::l,vs,0,a,h,e=>by simp only [jZ] at h;obtain ⟨v,r,rfl,h1,h2⟩:=h;simp at e;subst e;exact ⟨v,rfl,h1⟩
 | b::l,vs,i+1,a,h,e=>by simp only [jZ] at h;obtain ⟨v,r,rfl,h1,h2⟩:=h;obtain ⟨v',e1,e2⟩:=jZ.at (i:=i) h2 (by simpa using e);exact ⟨v',by simpa using e1,e2⟩
theorem qcH {G H:Hp} {args:List Ar} {vs:List V} {N:List Str} (sub:qv G H) (h:jZ κ K G H args vs):ER κ K G H G H (j7 N args) (L2.qm N vs):=by
 have hl:=h.len;refine ⟨by simp [j7,L2.qm,hl],sub,fun _ _ e=>e,fun _ _ e=>e,fun a o e=>.inl ⟨o,e⟩,fun i s e=>?_,fun i j a l n e1=>?_⟩
 ·unfold j7 at e;unfold L2.qm
  by_cases hi:i < args.length
  ·rw [List.getElem?_append_left (by simpa using hi),List.getElem?_map] at e;obtain ⟨b,e1,rfl⟩:=Option.map_eq_some_iff.mp e;obtain ⟨v,e2,e3⟩:=h.at e1;rw [List.getElem?_append_left (by rw [List.length_map,<-hl];exact hi),List.getElem?_map,e2]
   cases b with
   | val d=>exact ⟨v,rfl,e3⟩
   | bor l=>obtain ⟨a,xs,rfl,h1,h2⟩:=e3;exact ⟨a,xs,rfl,h1,h2⟩
   | scr l=>obtain ⟨a,xs,rfl,h1,h2⟩:=e3;exact ⟨a,xs,rfl,h1,h2⟩
  ·rw [List.getElem?_append_right (by simpa using hi)] at e
   have:s=.no:=by
    have:=List.mem_of_getElem? e
    exact List.eq_of_mem_replicate this
   subst this;trivial
 ·exfalso;unfold j7 at e1
  by_cases hi:i < args.length
  ·rw [List.getElem?_append_left (by simpa using hi),List.getElem?_map] at e1;obtain ⟨b,_,z⟩:=Option.map_eq_some_iff.mp e1
   cases b<;>cases z
  ·rw [List.getElem?_append_right (by simpa using hi)] at e1
   have:=List.eq_of_mem_replicate (List.mem_of_getElem? e1)
   cases this
theorem Jn {st:Stmt} (h:jd st=true):FnScope (fnN st) (Jm st) (qp st):=by unfold jd at h;simp only [Bool.and_eq_true,Bool.not_eq_true',List.all_eq_true] at h;obtain ⟨⟨⟨⟨⟨h1,h2⟩,h3⟩,h4⟩,h5⟩,h6⟩:=h;refine ⟨by simpa using h1,h2,h3,of_decide_eq_true h4,by simp [fnN],fun x hx=>qaR (h5 x hx),fun y hy=>by simpa using h6 y hy⟩
theorem yy {k:Nat} {f:Str} {st:Stmt} {args:List Ar} (h:(pg.defs++pg.meths).lookup f=some st):clK pg (k+1) f args=evF pg k (clK pg k) st args:=by show (match (pg.defs++pg.meths).lookup f with | some st=>evF pg k (clK pg k) st args | none=>.no)=_;rw [h]
theorem qa7 {f:Str} {st:Stmt}:∀ {l m:List (Str×Stmt)},l.lookup f=some st->(l++m).lookup f=some st
 | [],m,h=>by cases h
 | (g,s)::l,m,h=>by
  rw [List.lookup_cons] at h;rw [List.cons_append,List.lookup_cons]
  cases e:(f == g) with
  | true=>rw [e] at h;exact h
  | false=>rw [e] at h;exact qa7 h
theorem qdL {f:Str}:∀ {l m:List (Str×Stmt)},l.lookup f=none->(l++m).lookup f=m.lookup f
 | [],m,h=>rfl
 | (g,s)::l,m,h=>by
  rw [List.lookup_cons] at h;rw [List.cons_append,List.lookup_cons]
  cases e:(f == g) with
  | true=>rw [e] at h;cases h
  | false=>rw [e] at h;exact qdL h
theorem YH {f:Str}:∀ {l:List (Str×Stmt)},(l.map (·.1)).contains f=true->∃ st,l.lookup f=some st
 | [],h=>by simp at h
 | (g,st)::l,h=>by
  by_cases e:f=g
  ·subst e;exact ⟨st,by simp [List.lookup_cons]⟩
  ·have hb:(f == g)=false:=by simpa using e
   obtain ⟨s,hs⟩:=YH (l:=l) (f:=f) (by simp only [List.map_cons,List.contains_cons,hb,Bool.false_or] at h;exact h)
   exact ⟨s,by rw [List.lookup_cons,hb];exact hs⟩
theorem Ql (ok:PgOk κ K mg pg) {k:Nat} (ih:∀ j,j<=k->Z6 P wd κ K mg base pg j) {nm f:Str} {st:Stmt} {fa:Addr} {fd:FuncData} (F:Fun K nm f st fa fd) (h:(pg.defs++pg.meths).lookup f=some st):FnOk P wd K mg base CX0 (k+1) fa fd (Jm st) (spF κ K (clK pg (k+1)) f):=by
  by_cases hc:jd st=true
  case neg=>
   have no:∀ {vs:List V} {H:Hp} {Q:VK} {E:XK},spF κ K (clK pg (k+1)) f vs H Q E->False:=fun {vs H Q E} ⟨G,args,_,_,z⟩=>by
    rw [yy h] at z
    have:=(Wk.iff (show Wk (if (jd st&&args.length == (Jm st).length)=true then _ else R.no) _ from z)).1
    rw [Bool.and_eq_true] at this;exact hc this.1
   exact ⟨fun vs H Q E z=>(no z).elim,fun A outer s H args us vs Q E _ _ _ _ z=>(no z).elim⟩
  refine F.ok (Jn hc) (fun vs H Q E z=>?_) (fun cdv A outer s H vs Q E hr z=>?_)
  ·obtain ⟨G,args,_,ha,z⟩:=z;rw [yy h] at z
   have:=(Wk.iff (show Wk (if (jd st&&args.length == (Jm st).length)=true then _ else R.no) _ from z)).1
   rw [Bool.and_eq_true] at this;rw [<-ha.len]
   simpa using this.2
  ·obtain ⟨G,args,sub,ha,z⟩:=z;rw [yy h] at z;have z:=(Wk.iff (show Wk (if (jd st&&args.length == (Jm st).length)=true then _ else R.no) _ from z)).2;have S:=Jn hc
   have gs:Gs κ K k (qec CX0 P wd K mg base (fnN st) f (qp st) fa cdv A outer s H E).nox (pg.ct k (clK pg k) st):=
    {hN:=rfl
     vis:=fun x h=>qdB h
     loc:=fun x h=>⟨qaR h,.inl rfl⟩
     glo:=fun x h=>by have h:((qp st).names.lookup x == some NameKind.globalImplicit)=true:=h;exact (by simpa using h:(qp st).names.lookup x=some .globalImplicit)
     cf:=fun x h=>h
     nd:=S.nd
     calm:=rfl
     hK:=rfl
     room:=hr
     fns:=fun g hg=>by obtain ⟨st',hl⟩:=YH (l:=pg.defs) hg;obtain ⟨ga,gd,G1,G2,G3,G4⟩:=(ih k (Nat.le_refl k)).1 g st' hl;exact ⟨ga,gd,Jm st',G1,G2,G3,G4⟩
     blt:=ok.blt
     gl:=ok.gl
     cls:=ok.cls
     flds:=ok.flds
     mts:=fun c x f h=>by obtain ⟨C,fa,fd,st',nm,m1,m2,m3,m4,m5,m6⟩:=ok.mts c x f h;exact ⟨C,fa,fd,_,m1,m2,(ih k (Nat.le_refl k)).2 f st' m3 m4 nm fa fd m5,m6⟩
     mks:=ok.mks P wd base k fun j hj=>ih j (Nat.le_of_lt hj)
     subs:=ok.subs
     own:=PassesOwn.never
     sceq:=rfl
     fnk:=S.kind }
   refine ⟨_,(qjR gs (w:=pg.w) pg.m).ss G H (qI st),j7 (fnN st) args,G,qcH sub ha,Wk.mono (Wk.th z) fun fl hf=>?_⟩
   cases fl with
   | next ρ=>exact fun σ' G' H' er g'=>hf .non G' H' er.base er.g0 er.sub er.fresh (by simp only [ReR,Rep])
   | ret r=>exact hf
theorem qhq (ok:PgOk κ K mg pg):∀ k j:Nat,j<=k->Z6 P wd κ K mg base pg j:=by
 have zero:Z6 P wd κ K mg base pg 0:=by refine ⟨fun f st h=>?_,fun f st h _ nm fa fd F=>⟨fun vs H Q E ⟨G,args,_,_,z⟩=>False.elim z,fun A outer s H args us vs Q E _ _ _ _ ⟨G,args',_,_,z⟩=>False.elim z⟩⟩;obtain ⟨fa,fd,F,hm,hb⟩:=ok.fn.mem (PySem.mem_of_lookup h);exact ⟨fa,fd,⟨fun vs H Q E ⟨G,args,_,_,z⟩=>False.elim z,fun A outer s H args us vs Q E _ _ _ _ ⟨G,args',_,_,z⟩=>False.elim z⟩,hm,F.kp,hb⟩
 intro k
 induction k with
 | zero=>intro j hj;rw [Nat.le_zero.mp hj];exact zero
 | succ k ih=>
  intro j hj;rcases Nat.lt_or_ge j (k+1) with h | h
  ·exact ih j (Nat.le_of_lt_succ h)
  ·obtain rfl:j=k+1:=Nat.le_antisymm hj h;refine ⟨fun f st h=>?_,fun f st h h0 nm fa fd F=>?_⟩
   ·obtain ⟨fa,fd,F,hm,hb⟩:=ok.fn.mem (PySem.mem_of_lookup h);exact ⟨fa,fd,Ql ok ih F (qa7 h),hm,F.kp,hb⟩
   ·exact Ql ok ih F ((qdL h0).trans h)
theorem YI (G:Hp):∀ ns:List Int,qq κ G (ns.map D.int) (ns.map V.int)
 | []=>.nil
 | n::ns=>.cons (by simp only [Rep]) (YI G ns)
theorem qhr {st:Stmt} {k:Nat} {fa:Addr} {fd:FuncData} (ok:PgOk κ K mg pg) (F:Fun K "law" "law" st fa fd) (hl:pg.defs.lookup ("law" : Str)=some st) (hp:Jm st=(["_law_script"]:List Str)) :
  FnOk P wd K mg base CX0 (k+1) fa fd (["_law_script"]:List Str) (spF κ K (clK pg (k+1)) "law"):=by
 have:=Ql (P:=P) (wd:=wd) (base:=base) ok (qhq ok k) F (qa7 hl)
 rw [hp] at this;exact this
theorem qhs {k:Nat} {H:Hp} {a:Addr} {ns:List Int} (hq:SqL K H a (ns.map V.int)) (h:clK pg k "law" [.scr (ns.map D.int)]=.ok (.val (.bl true))):spF κ K (clK pg k) "law" [.ref a] H (fun v _=>v=.bl true) fun _ _ _=>False:=by
 refine ⟨fun _=>none,[.scr (ns.map D.int)],fun _ _ e=>(by cases e),⟨_,_,rfl,⟨a,_,rfl,hq,YI _ ns⟩,rfl⟩,?_⟩;rw [h];intro v G' H' _ _ _ _ r
 simpa only [ReR,Rep] using r
end
end DE
namespace DE
open PySem L2
inductive B1 where
 | len | list | int | srt | sum | all
inductive B2 where
 | max | min | get (n:Int) | rng | inr
inductive Ty where
 | int | bool | str | list | tuple
inductive Tg where
 | one (i:Nat) | many (l:List Nat)
structure Cl where
 f:Str->List Ar->R Rv
 cs:Cs
 nw:Str->List Ar->R Rv
instance:CoeFun Cl (fun _=>Str->List Ar->R Rv):=⟨Cl.f⟩
mutual
inductive E where
 | var (i:Nat) | con (d:D) | bin (op:Operator) (a b:E) | neg (a:E) | not (a:E) | one (a:E) | and (a b:E) | or (a b:E) | cmp (op:CmpOp) (a b:E) | ite (c:T) (a b:E)
 | idx (a i:E) | sli (a:E) (lo hi:O) | lst (l:Es) | tup (l:Es) | call (f:Str) (l:Es) | b1 (f:B1) (a:E) | b2 (f:B2) (a b:E) | isi (t:Ty) (a:E) | isc (t:Str) (a:E) | fld (a:E) (x:Str) | met (a:E) (x:Str) (l:Es) | new (f:Str) (l:Es) | comp (x:E) (src:I) (tg:Tg) (c:F) (n:Nat) (fr:List Nat)
inductive Es where
 | nil | cons (a:E) (l:Es)
inductive T where
 | not (a:T) | one (a:T) | and (a b:T) | or (a b:T) | cmp (op:CmpOp) (a b:E) | chn (op op':CmpOp) (a b c:E) | val (a:E)
inductive O where
 | none | some (a:E)
inductive F where
 | yes | test (c:T)
inductive I where
 | seq (a:E) | rng (a:E) | rng2 (a b:E) | rng3 (a b c:E) | enum (a:E) | zip (a b:E) | rev (a:E)
end
noncomputable def slR (ρ:Env) (i:Nat):R Rv:=match ρ[i]? with
 | some (.val d)=>.ok (.val d)
 | some (.own l)=>.ok (.cell l)
 | some (.bor l)=>.ok (.cell l)
 | some (.scr l)=>.ok (.scr l)
 | _=>.no
noncomputable def slE (ρ:Env) (i:Nat):R (D×Env):=match ρ[i]? with
 | some (.val d)=>.ok (d,ρ)
 | some (.own l)=>.ok (.lst l,ρ.set i (.val (.lst l)))
 | _=>.no
noncomputable def slL (ρ:Env) (i:Nat):R ((Sk×List D)×Env):=match ρ[i]? with
 | some (.val (.lst l))=>.ok ((.lst,l),ρ)
 | some (.val (.tup l))=>.ok ((.tup,l),ρ)
 | some (.val (.str z))=>.ok ((.str,ZF z),ρ)
 | some (.own l)=>.ok ((.lst,l),ρ.set i (.val (.lst l)))
 | some (.bor l)=>.ok ((.lst,l),ρ)
 | some (.scr l)=>.ok ((.lst,l),ρ)
 | _=>.no
noncomputable def slX (ρ:Env) (i:Nat):R Rv:=match ρ[i]? with
 | some (.val d)=>.ok (.val d)
 | some (.own l)=>.ok (.tmp l)
 | _=>.no
def B1.go:B1->Rv->R Rv
 | .len=>lenD
 | .list=>listD
 | .int=>intD
 | .srt=>yL
 | .sum=>qiA
 | .all=>qiB
def B2.go:B2->Rv->Rv->R Rv
 | .max=>maxD
 | .min=>minD
 | .get n=>Yz n
 | .rng=>lrD
 | .inr=>qdz
noncomputable def Ty.of:Ty->D->Option Bool
 | _,.ins ..=>none
 | .int,.int _=>some true
 | .int,.bl _=>some true
 | .bool,.bl _=>some true
 | .str,.str _=>some true
 | .list,.lst _=>some true
 | .tuple,.tup _=>some true
 | _,_=>some false
def Ty.go (t:Ty):Rv->Option Bool
 | .scr _=>none
 | r=>t.of r.data
noncomputable def JR:List Nat->List D->Env->R Env
 | [],[],ρ=>.ok ρ
 | i::l,d::ds,ρ=>JR l ds (ρ.set i (.val d))
 | _,_,_=>.no
noncomputable def Tg.go:Tg->D->Env->R Env
 | .one i,d,ρ=>.ok (ρ.set i (.val d))
 | .many l,.tup ds,ρ=>JR l ds ρ
 | _,_,_=>.no
def toAr:Rv->Ar
 | .val d=>.val d
 | .tmp l=>.val (.lst l)
 | .cell l=>.bor l
 | .scr l=>.scr l
def qdM (n:Nat) (fr:List Nat) (ρ:Env):Env:=List.replicate n Sl.no++fr.map fun i=>qgL (ρ.getD i .no)
noncomputable def qdN (x:Rv×Env):R (D×Env):=match x.1 with
 | .val d=>.ok (d,x.2)
 | .tmp l=>.ok (.lst l,x.2)
 | _=>.no
noncomputable def qeV (x:Rv×Env):R ((Sk×List D)×Env):=match x.1 with
 | .val (.lst l)=>.ok ((.lst,l),x.2)
 | .val (.tup l)=>.ok ((.tup,l),x.2)
 | .val (.str z)=>.ok ((.str,ZF z),x.2)
 | .tmp l=>.ok ((.lst,l),x.2)
 | _=>.no
noncomputable def zV (e:E) (r:Env->R (Rv×Env)) (ρ:Env):R (D×Env):=match e with
 | .var i=>slE ρ i
 | .con d=>.ok (d,ρ)
 | _=>(r ρ).th qdN
noncomputable def y9 (e:E) (r:Env->R (Rv×Env)) (ρ:Env):R ((Sk×List D)×Env):=match e with
 | .var i=>slL ρ i
 | _=>(r ρ).th qeV
mutual
noncomputable def iR (cl:Cl):E->Env->R (Rv×Env)
 | .var i,ρ=>(slR ρ i).th fun r=>.ok (r,ρ)
 | .con d,ρ=>.ok (.val d,ρ)
 | .bin op a b,ρ=>(iR cl a ρ).th fun x=>(iR cl b x.2).th fun y=>(Qe op x.1 y.1).th fun r=>.ok (r,y.2)
 | .neg a,ρ=>(iR cl a ρ).th fun x=>match x.1 with
  | .val (.int i)=>.ok (.val (.int (-i)),x.2)
  | _=>.no
 | .not a,ρ=>(iR cl a ρ).th fun x=>match x.1 with
  | .val (.bl b)=>.ok (.val (.bl (!b)),x.2)
  | _=>.no
 | .one a,ρ=>iR cl a ρ
 | .and a b,ρ=>(iR cl a ρ).th fun x=>match x.1 with
  | .val (.bl true)=>iR cl b x.2
  | .val (.bl false)=>.ok (.val (.bl false),x.2)
  | _=>.no
 | .or a b,ρ=>(iR cl a ρ).th fun x=>match x.1 with
  | .val (.bl false)=>iR cl b x.2
  | .val (.bl true)=>.ok (.val (.bl true),x.2)
  | _=>.no
 | .cmp op a b,ρ=>(iR cl a ρ).th fun x=>(iR cl b x.2).th fun y=>(R.of (jQ op x.1 y.1)).th fun r=>.ok (.val (.bl r),y.2)
 | .ite c a b,ρ=>(iT cl c ρ).th fun t=>if t.1 then iR cl a t.2 else iR cl b t.2
 | .idx a i,ρ=>(iR cl a ρ).th fun x=>(iR cl i x.2).th fun y=>(idxD x.1 y.1).th fun r=>.ok (r,y.2)
 | .sli a lo hi,ρ=>(iR cl a ρ).th fun x=>(iO cl lo x.2).th fun l=>(iO cl hi l.2).th fun h=>(sliceD x.1 l.1 h.1).th fun r=>.ok (r,h.2)
 | .lst l,ρ=>(iEs cl l ρ).th fun x=>if x.1.length<=sizeLine then .ok (.tmp x.1,x.2) else .no
 | .tup l,ρ=>(iEs cl l ρ).th fun x=>if x.1.length<=sizeLine then .ok (.val (.tup x.1),x.2) else .no
 | .call f l,ρ=>(iAs cl l ρ).th fun x=>(cl f x.1).th fun r=>.ok (r,x.2)
 | .b1 f a,ρ=>(iR cl a ρ).th fun x=>(f.go x.1).th fun r=>.ok (r,x.2)
 | .b2 f a b,ρ=>(iR cl a ρ).th fun x=>(iR cl b x.2).th fun y=>(f.go x.1 y.1).th fun r=>.ok (r,y.2)
 | .isi t a,ρ=>(iR cl a ρ).th fun x=>(R.of (t.go x.1)).th fun b=>.ok (.val (.bl b),x.2)
 | .isc t a,ρ=>(iR cl a ρ).th fun x=>(R.of (qbM cl.cs x.1 t)).th fun b=>.ok (.val (.bl b),x.2)
 | .fld a x,ρ=>(iR cl a ρ).th fun y=>(R.of (qcl cl.cs y.1 x)).th fun d=>.ok (.val d,y.2)
 | .met a x l,ρ=>(iR cl a ρ).th fun y=>match mtD cl.cs y.1 x with
  | some f=>(iAs cl l y.2).th fun z=>(cl f (toAr y.1::z.1)).th fun r=>.ok (r,z.2)
  | none=>if x = "index" then (iAs cl l y.2).th fun z=>(ixM y.1 z.1).th fun r=>.ok (r,z.2) else .no
 | .new f l,ρ=>(iAs cl l ρ).th fun x=>(cl.nw f x.1).th fun r=>.ok (r,x.2)
 | .comp e src tg c n fr,ρ=>(iI cl src ρ).th fun x=>if x.1.length<=sizeLine then (YA tg.go (fun ρ1=>iF cl c ρ1) (zV e (iR cl e)) x.1 (qdM n fr x.2) []).th fun l=>.ok (.tmp l,x.2) else .no
noncomputable def iT (cl:Cl):T->Env->R (Bool×Env)
 | .not a,ρ=>(iT cl a ρ).th fun t=>.ok (!t.1,t.2)
 | .one a,ρ=>iT cl a ρ
 | .and a b,ρ=>(iT cl a ρ).th fun t=>if t.1 then iT cl b t.2 else .ok (false,t.2)
 | .or a b,ρ=>(iT cl a ρ).th fun t=>if t.1 then .ok (true,t.2) else iT cl b t.2
 | .cmp op a b,ρ=>(iR cl a ρ).th fun x=>(iR cl b x.2).th fun y=>(R.of (jQ op x.1 y.1)).th fun r=>.ok (r,y.2)
 | .chn op op' a b c,ρ=>(iR cl a ρ).th fun x=>(iR cl b x.2).th fun y=>(R.of (jQ op x.1 y.1)).th fun r=>if r=true then (iR cl c y.2).th fun z=>(R.of (jQ op' y.1 z.1)).th fun r'=>.ok (r',z.2) else .ok (false,y.2)
 | .val a,ρ=>(iR cl a ρ).th fun x=>(R.of (truthD x.1)).th fun b=>.ok (b,x.2)
noncomputable def iEs (cl:Cl):Es->Env->R (List D×Env)
 | .nil,ρ=>.ok ([],ρ)
 | .cons e l,ρ=>(zV e (iR cl e) ρ).th fun x=>(iEs cl l x.2).th fun y=>.ok (x.1::y.1,y.2)
noncomputable def iAs (cl:Cl):Es->Env->R (List Ar×Env)
 | .nil,ρ=>.ok ([],ρ)
 | .cons e l,ρ=>(iR cl e ρ).th fun x=>(iAs cl l x.2).th fun y=>.ok (toAr x.1::y.1,y.2)
noncomputable def iO (cl:Cl):O->Env->R (Option Int×Env)
 | .none,ρ=>.ok (none,ρ)
 | .some e,ρ=>(iR cl e ρ).th fun x=>match x.1 with
  | .val (.int i)=>.ok (some i,x.2)
  | _=>.no
noncomputable def iF (cl:Cl):F->Env->R (Bool×Env)
 | .yes,ρ=>.ok (true,ρ)
 | .test c,ρ=>iT cl c ρ
noncomputable def iI (cl:Cl):I->Env->R (List D×Env)
 | .seq a,ρ=>(y9 a (iR cl a) ρ).th fun x=>.ok (x.1.2,x.2)
 | .rng a,ρ=>(iR cl a ρ).th fun x=>(match x.1.int? with
  | some n=>if qN n=true then .ok (qH 0 n,x.2) else .no
  | none=>.no)
 | .rng3 a b c,ρ=>(iR cl a ρ).th fun x=>(iR cl b x.2).th fun y=>(iR cl c y.2).th fun z=>(rg3 x.1 y.1 z.1).th fun l=>.ok (l,z.2)
 | .rng2 a b,ρ=>(iR cl a ρ).th fun x=>(iR cl b x.2).th fun y=>(match x.1.int?,y.1.int? with
  | some i,some j=>if qN i=true/\qN j=true then .ok (qH i j,y.2) else .no
  | _,_=>.no)
 | .enum a,ρ=>(y9 a (iR cl a) ρ).th fun x=>match x.1.1 with | .lst=>.ok (yr x.1.2,x.2) | _=>.no
 | .rev a,ρ=>(y9 a (iR cl a) ρ).th fun x=>match x.1.1 with | .lst=>.ok (x.1.2.reverse,x.2) | _=>.no
 | .zip a b,ρ=>(y9 a (iR cl a) ρ).th fun x=>(y9 b (iR cl b) x.2).th fun y=>match x.1.1,y.1.1 with | .lst,.lst=>.ok (qey x.1.2 y.1.2,y.2) | _,_=>.no
end
end DE
namespace DE
open PySem L2
noncomputable def o2 {α β γ:Type} (a:Option α) (b:Option β) (f:α->β->γ):Option γ:=match a,b with
 | some x,some y=>some (f x y)
 | _,_=>none
theorem ql {α β γ:Type} {a:Option α} {b:Option β} {f:α->β->γ} {z:γ} (h:o2 a b f=some z):∃ x y,a=some x/\b=some y/\f x y=z:=by
 cases a with
 | none=>cases h
 | some x=>
  cases b with
  | none=>cases h
  | some y=>exact ⟨x,y,rfl,rfl,Option.some.inj h⟩
def oif {α:Type} (c:Bool) (a:Option α):Option α:=match c with
 | true=>a
 | false=>none
theorem qk {α:Type} {c:Bool} {a:Option α} {z:α} (h:oif c a=some z):c=true/\a=some z:=by
 cases c with
 | true=>exact ⟨rfl,h⟩
 | false=>cases h
def Ct.k (Γ:Ct):Cl:=⟨Γ.cl,Γ.cs,Γ.nw⟩
noncomputable def YJ (Γ:Ct) (x:Str):Option E:=oif (qo x) (match qS Γ.N x with
 | some i=>oif (JL Γ.sc x) (some (.var i))
 | none=>oif (glB Γ.sc x) ((Γ.gl x).map .con))
noncomputable def qht:Const->Option E
 | .none=>some (.con .non)
 | .bool b=>some (.con (.bl b))
 | .int i=>some (.con (.int i))
 | .str s=>some (.con (.str s))
 | _=>none
noncomputable def qfL (t:Str):Option Ty:=if t = "int" then some .int else if t = "bool" then some .bool else if t = "str" then some .str else if t = "list" then some .list else if t = "tuple" then some .tuple else none
noncomputable def qjq (f:Str):Option B1:=if f = "len" then some .len else if f = "list" then some .list else if f = "int" then some .int else if f = "sorted" then some .srt else if f = "sum" then some .sum else if f = "all" then some .all else none
def qjr (f:Str):Option B2:=if f = "max" then some .max else if f = "min" then some .min else none
def qfM (Γ:Ct) (x:Str):Option Nat:=oif (Z3 Γ.sc x&&qo x) (qS Γ.N x)
def qeW (Γ:Ct):List Str->Option (List Nat)
 | []=>some []
 | x::l=>o2 (qfM Γ x) (qeW Γ l) (· :: ·)
noncomputable def cTg (Γ:Ct) (tg:Expr):Option Tg:=match tg with
 | .Name x _=>(qfM Γ x).map .one
 | .Tuple es j p=>oif (!es.any qh) (match qy (.Tuple es j p) with
  | some xs=>(qeW Γ xs).map .many
  | none=>none)
 | _=>none
def Qm:E->Option E
 | .var _=>none
 | e=>some e
mutual
noncomputable def cE:Nat->Ct->Expr->Option E
 | 0,_,_=>none
 | m+1,Γ,e=>match e with
  | .Name x _=>YJ Γ x
  | .Constant c _ _=>qht c
  | .BinOp a op b _=>o2 (cE m Γ a) (cE m Γ b) (E.bin op)
  | .UnaryOp .USub a _=>(cE m Γ a).map .neg
  | .UnaryOp .Not a _=>(cE m Γ a).map .not
  | .BoolOp _ [a] _=>(cE m Γ a).map .one
  | .BoolOp .And (a::b::l) p=>o2 (cE m Γ a) (cE m Γ (.BoolOp .And (b::l) p)) .and
  | .BoolOp .Or (a::b::l) p=>o2 (cE m Γ a) (cE m Γ (.BoolOp .Or (b::l) p)) .or
  | .Compare a [op] [b] _=>oif (!behindInMarks op b) (o2 (cE m Γ a) (cE m Γ b) (E.cmp op))
  | .IfExp c a b _=>o2 (cT m Γ c) (o2 (cE m Γ a) (cE m Γ b) Prod.mk) fun c p=>.ite c p.1 p.2
  | .Subscript a (.Slice lo hi none _) _=>o2 (cE m Γ a) (o2 (cO m Γ lo) (cO m Γ hi) Prod.mk) fun a p=>.sli a p.1 p.2
  | .Subscript a (.Slice _ _ (some _) _) _=>none
  | .Subscript a i _=>o2 (cE m Γ a) (cE m Γ i) .idx
  | .List es _=>(cEs m Γ es).map .lst
  | .Tuple es _ _=>(cEs m Γ es).map .tup
  | .Call (.Name f p) es [] _=>oif (qo f&&glB Γ.sc f&&(qS Γ.N f).isNone) (
    if f = "isinstance" then (match es with
     | [a,b]=>(match b with
      | .Name t _=>oif (qo t&&glB Γ.sc t&&(qS Γ.N t).isNone&&!qh a) (match qfL t with | some y=>(cE m Γ a).map (.isi y) | none=>(cE m Γ a).map (.isc t))
      | _=>none)
     | _=>none)
    else if Γ.tab.contains f=true then (cAs m Γ es).map (.call f)
    else if Γ.cs.tab.contains f=true then (cAs m Γ es).map (.new f)
    else match es with
     | [a]=>(match lrE Γ f a with
      | some t=>o2 (cE m Γ t.1) (cE m Γ t.2) (.b2 .rng)
      | none=>oif (!qh a) (o2 (qjq f) (cE m Γ a) .b1))
     | [a,b]=>oif (!(qh a||qh b)) (o2 (qjr f) (o2 (cE m Γ a) (cE m Γ b) Prod.mk) fun f p=>.b2 f p.1 p.2)
     | _=>none)
  | .Attribute o x _=>oif (qT o) ((cE m Γ o).map fun a=>.fld a x)
  | .Call (.Attribute o x ap) es [] q=>if (qT o&&(ap.endLine == q.line)&&decide (es.length < 30))=true then (o2 (cE m Γ o) (cAs m Γ es) fun a l=>.met a x l)
   else match dgE Γ o x es (ap.endLine == q.line) with
    | some t=>o2 (cE m Γ t.1) (cE m Γ t.2.1) (.b2 (.get t.2.2))
    | none=>none
  | .ListComp elt [g] sc _=>oif (decide (g.is_async=0)) (match qy g.target with
   | some own=>oif (zL Γ.sc Γ.N (jY Γ.N sc) sc&&decide (own++(jY Γ.N sc).map fun i=>Γ.N.getD i "").Nodup&&zE g.iter)
     (o2 (o2 (cI m Γ (J6 g.target) g.iter) (cTg { Γ with N:=own++(jY Γ.N sc).map fun i=>Γ.N.getD i "",sc:=sc } g.target) Prod.mk)
      (o2 (cF m { Γ with N:=own++(jY Γ.N sc).map fun i=>Γ.N.getD i "",sc:=sc } g.ifs) (cX m { Γ with N:=own++(jY Γ.N sc).map fun i=>Γ.N.getD i "",sc:=sc } elt) Prod.mk)
      fun p q=>.comp q.2 p.1 p.2 q.1 own.length (jY Γ.N sc))
   | none=>none)
  | _=>none
noncomputable def cX:Nat->Ct->Expr->Option E
 | 0,_,_=>none
 | m+1,Γ,e=>match e with
  | .Name x _=>YJ Γ x
  | e=>(cE m Γ e).bind Qm
noncomputable def cT:Nat->Ct->Expr->Option T
 | 0,_,_=>none
 | m+1,Γ,e=>match e with
  | .UnaryOp .Not a _=>(cT m Γ a).map .not
  | .BoolOp _ [a] _=>(cT m Γ a).map .one
  | .BoolOp .And (a::b::l) p=>o2 (cT m Γ a) (cT m Γ (.BoolOp .And (b::l) p)) .and
  | .BoolOp .Or (a::b::l) p=>o2 (cT m Γ a) (cT m Γ (.BoolOp .Or (b::l) p)) .or
  | .BoolOp _ [] _=>none
  | .IfExp ..=>none
  | .Compare a [op] [b] _=>(match irE Γ op b with
   | some t=>o2 (cE m Γ a) (cE m Γ t) (fun x y=>.val (.b2 .inr x y))
   | none=>oif (!behindInMarks op b) (o2 (cE m Γ a) (cE m Γ b) (T.cmp op)))
  | .Compare a [op,op'] [b,c] _=>oif (!lastMarks [op,op'] [b,c]) (o2 (cE m Γ a) (o2 (cE m Γ b) (cE m Γ c) Prod.mk) fun a p=>.chn op op' a p.1 p.2)
  | .Compare ..=>none
  | e=>(cE m Γ e).map .val
noncomputable def cEs:Nat->Ct->List Expr->Option Es
 | 0,_,_=>none
 | m+1,Γ,es=>match es with
  | []=>some .nil
  | e::l=>oif (!qh e) (o2 (cX m Γ e) (cEs m Γ l) .cons)
noncomputable def cAs:Nat->Ct->List Expr->Option Es
 | 0,_,_=>none
 | m+1,Γ,es=>match es with
  | []=>some .nil
  | e::l=>oif (!qh e) (o2 (cE m Γ e) (cAs m Γ l) .cons)
noncomputable def cO:Nat->Ct->Option Expr->Option O
 | 0,_,_=>none
 | m+1,Γ,o=>match o with
  | none=>some .none
  | some e=>(cE m Γ e).map .some
noncomputable def cF:Nat->Ct->List Expr->Option F
 | 0,_,_=>none
 | m+1,Γ,es=>match es with
  | []=>some .yes
  | [c]=>(cT m Γ c).map .test
  | _=>none
noncomputable def cL:Nat->Ct->Expr->Option E
 | 0,_,_=>none
 | m+1,Γ,e=>match e with
  | .Name x _=>oif (qo x&&JL Γ.sc x) ((qS Γ.N x).map .var)
  | e=>(cE m Γ e).bind Qm
noncomputable def cI:Nat->Ct->Bool->Expr->Option I
 | 0,_,_,_=>none
 | m+1,Γ,tb,e=>match e with
  | .Call (.Name f p) es [] q=>if f = "range" || f = "enumerate" || f = "zip" || f = "reversed" then oif (qo f&&glB Γ.sc f&&(qS Γ.N f).isNone) (match es with
    | [a]=>oif (!qh a) (if f = "range" then (cE m Γ a).map .rng else if f = "enumerate" then oif tb ((cL m Γ a).map .enum) else if f = "reversed" then (cL m Γ a).map .rev else none)
    | [a,b]=>oif (!(qh a||qh b)) (if f = "range" then o2 (cE m Γ a) (cE m Γ b) .rng2 else if f = "zip" then oif tb (o2 (cL m Γ a) (cL m Γ b) .zip) else none)
    | [a,b,c]=>oif (!(qh a||qh b||qh c)) (if f = "range" then o2 (cE m Γ a) (o2 (cE m Γ b) (cE m Γ c) Prod.mk) fun a p=>.rng3 a p.1 p.2 else none)
    | _=>none)
   else (cL m Γ (.Call (.Name f p) es [] q)).map .seq
  | e=>(cL m Γ e).map .seq
end
structure Same2 (m:Nat):Prop where
 r:∀ Γ e x,cE m Γ e=some x->∀ ρ,evR m Γ e ρ=iR Γ.k x ρ
 e:∀ Γ e x,cX m Γ e=some x->∀ ρ,evE m Γ e ρ=zV x (iR Γ.k x) ρ
 t:∀ Γ e x,cT m Γ e=some x->∀ ρ,evT m Γ e ρ=iT Γ.k x ρ
 es:∀ Γ e x,cEs m Γ e=some x->∀ ρ,qdA m Γ e ρ=iEs Γ.k x ρ
 as:∀ Γ e x,cAs m Γ e=some x->∀ ρ,j6 m Γ e ρ=iAs Γ.k x ρ
 o:∀ Γ e x,cO m Γ e=some x->∀ ρ,evO m Γ e ρ=iO Γ.k x ρ
 f:∀ Γ e x,cF m Γ e=some x->∀ ρ,qgM m Γ e ρ=iF Γ.k x ρ
 l:∀ Γ e x,cL m Γ e=some x->∀ ρ,evL m Γ e ρ=y9 x (iR Γ.k x) ρ
 i:∀ Γ tb e x,cI m Γ tb e=some x->∀ ρ,evI m Γ tb e ρ=iI Γ.k x ρ
theorem map_some {α β:Type} {o:Option α} {f:α->β} {z:β} (h:o.map f=some z):∃ x,o=some x/\f x=z:=Option.map_eq_some_iff.mp h
section
variable {m:Nat} {Γ:Ct}
theorem yQ {x:Str} {z:E} (h:YJ Γ x=some z) (ρ:Env):((jB Γ x ρ).th fun r=>R.ok (r,ρ))=iR Γ.k z ρ/\z8 Γ x ρ=zV z (iR Γ.k z) ρ:=by
 unfold YJ at h;obtain ⟨h1,h⟩:=qk h;unfold jB z8;rw [if_pos h1,if_pos h1]
 cases hi:qS Γ.N x with
 | some i=>rw [hi] at h;obtain ⟨h2,h⟩:=qk h;cases h;dsimp only;rw [if_pos h2,if_pos h2];exact ⟨rfl,rfl⟩
 | none=>rw [hi] at h;obtain ⟨h2,h⟩:=qk h;obtain ⟨d,h3,rfl⟩:=map_some h;dsimp only;rw [if_pos h2,if_pos h2,h3];exact ⟨rfl,rfl⟩
theorem qeX {t:Str} {y:Ty} (h:qfL t=some y) (r:Rv):Z4 r t=y.go r:=by
 unfold qfL at h
 have main:∀ d:D,qgJ d t=y.of d:=fun d=>by
  split at h
  ·rename_i e;cases h;subst e;cases d<;>rfl
  split at h
  ·rename_i e;cases h;subst e;cases d<;>rfl
  split at h
  ·rename_i e;cases h;subst e;cases d<;>rfl
  split at h
  ·rename_i e;cases h;subst e;cases d<;>rfl
  split at h
  ·rename_i e;cases h;subst e;cases d<;>rfl
  cases h
 cases r with
 | val d=>exact main d
 | tmp l=>exact main (.lst l)
 | cell l=>exact main (.lst l)
 | scr l=>rfl
theorem qeY {f:Str} {b:B1} (h:qjq f=some b) (r:Rv):JM f r=b.go r:=by
 unfold qjq at h;unfold JM
 by_cases h1:f = "len"
 ·rw [if_pos h1] at h ⊢;cases h;rfl
 by_cases h2:f = "list"
 ·rw [if_neg h1,if_pos h2] at h ⊢;cases h;rfl
 by_cases h3:f = "int"
 ·rw [if_neg h1,if_neg h2,if_pos h3] at h ⊢;cases h;rfl
 by_cases h4:f = "sorted"
 ·rw [if_neg h1,if_neg h2,if_neg h3,if_pos h4] at h ⊢;cases h;rfl
 by_cases h5:f = "sum"
 ·rw [if_neg h1,if_neg h2,if_neg h3,if_neg h4,if_pos h5] at h ⊢;cases h;rfl
 by_cases h6:f = "all"
 ·rw [if_neg h1,if_neg h2,if_neg h3,if_neg h4,if_neg h5,if_pos h6] at h ⊢;cases h;rfl
 rw [if_neg h1,if_neg h2,if_neg h3,if_neg h4,if_neg h5,if_neg h6] at h;cases h
theorem qeZ {f:Str} {b:B2} (h:qjr f=some b) (r s:Rv):Qg f r s=b.go r s:=by
 unfold qjr at h
 split at h
 ·rename_i e;cases h;subst e;rfl
 split at h
 ·rename_i e;cases h;subst e;rfl
 cases h
theorem Q5 {x:Str} {i:Nat} (h:qfM Γ x=some i) (d:D) (ρ:Env):Z5 Γ x d ρ=.ok (ρ.set i (.val d)):=by unfold qfM at h;obtain ⟨h1,h2⟩:=qk h;unfold Z5;rw [h2];show (if (Z3 Γ.sc x&&qo x)=true then R.ok (ρ.set i (.val d)) else .no)=_;rw [if_pos h1]
theorem YK:∀ {xs:List Str} {l:List Nat},qeW Γ xs=some l->∀ (ds:List D) (ρ:Env),Qh Γ xs ds ρ=JR l ds ρ
 | [],l,h,ds,ρ=>by cases h;cases ds<;>rfl
 | x::xs,l,h,ds,ρ=>by
  obtain ⟨i,l',h1,h2,rfl⟩:=ql h
  cases ds with
  | nil=>rfl
  | cons d ds=>show (Z5 Γ x d ρ).th (fun ρ1=>Qh Γ xs ds ρ1)=JR l' ds (ρ.set i (.val d));rw [Q5 h1];exact YK h2 ds _
theorem Qn {tg:Expr} {t:Tg} (h:cTg Γ tg=some t) (d:D) (ρ:Env):qex Γ tg d ρ=t.go d ρ:=by
 cases tg with
 | Name x p=>obtain ⟨i,h1,rfl⟩:=map_some h;exact Q5 h1 d ρ
 | Tuple es j p=>
  obtain ⟨h1,h⟩:=qk h
  cases hx:qy (.Tuple es j p) with
  | none=>rw [hx] at h;cases h
  | some xs=>
   rw [hx] at h;obtain ⟨l,h2,rfl⟩:=map_some h;show (R.of (qy (.Tuple es j p))).th _=_;rw [hx]
   cases d with
   | tup ds=>show (if es.any qh=true then R.no else Qh Γ xs ds ρ)=JR l ds ρ;rw [if_neg (by simpa using h1)];exact YK h2 ds ρ
   | _=>rfl
 | _=>cases h
theorem j8 {e z:E} (h:Qm e=some z):e=z/\∀ i,z≠.var i:=by cases e<;>cases h<;>exact ⟨rfl,fun i z=>by cases z⟩
theorem qe0 {z:E} (h:∀ i,z≠.var i) (cl:Cl) (ρ:Env):zV z (iR cl z) ρ=(iR cl z ρ).th qdN:=by cases z<;>first | rfl | exact absurd rfl (h _)
theorem qe1 {z:E} (h:∀ i,z≠.var i) (cl:Cl) (ρ:Env):y9 z (iR cl z) ρ=(iR cl z ρ).th qeV:=by cases z<;>first | rfl | exact absurd rfl (h _)
theorem ZK {a a':D->Env->R Env} {t t':Env->R (Bool×Env)} {e e':Env->R (D×Env)} (ha:∀ d ρ,a d ρ=a' d ρ) (ht:∀ ρ,t ρ=t' ρ) (he:∀ ρ,e ρ=e' ρ) (l:List D) (ρ:Env) (acc:List D):YA a t e l ρ acc=YA a' t' e' l ρ acc:=by have h1:a=a':=funext fun d=>funext fun ρ=>ha d ρ;have h2:t=t':=funext ht;have h3:e=e':=funext he;rw [h1,h2,h3]
end
end DE
namespace DE
open PySem L2
theorem qd {α β:Type} {x y:R α} {f g:α->R β} (h:x=y) (i:∀ a,f a=g a):x.th f=y.th g:=by
 subst h
 cases x with
 | ok a=>exact i a
 | _=>rfl
theorem qe2 (r:Rv):r.ar=toAr r:=by cases r<;>rfl
theorem qcI {cs:Cs} {t:Str} {y:Ty} (h:qfL t=some y) (r:Rv):qbM cs r t=y.go r:=by
 have gen:Z4 r t=y.go r:=by rw [qeX h]
 cases r with
 | val d=>
  cases d with
  | ins c ns ds=>
   have hb:bty.contains t=true:=by
    unfold qfL at h
    by_cases h1:t = "int"
    ·subst h1;decide
    by_cases h2:t = "bool"
    ·subst h2;decide
    by_cases h3:t = "str"
    ·subst h3;decide
    by_cases h4:t = "list"
    ·subst h4;decide
    by_cases h5:t = "tuple"
    ·subst h5;decide
    rw [if_neg h1,if_neg h2,if_neg h3,if_neg h4,if_neg h5] at h;cases h
   show (if bty.contains t=true then none else cs.sub c t)=_;rw [if_pos hb];cases y<;>rfl
  | _=>exact gen
 | _=>exact gen
section
variable {m:Nat}
theorem qhu (S:Same2 m) (Γ:Ct) (e:Expr) (x:E) (h:cE (m+1) Γ e=some x) (ρ:Env):evR (m+1) Γ e ρ=iR Γ.k x ρ:=by
 cases e with
 | Name y p=>exact (yQ h ρ).1
 | Constant c j p=>cases c<;>cases h<;>rfl
 | BinOp a op b p=>obtain ⟨a',b',h1,h2,rfl⟩:=ql h;exact qd (S.r Γ a a' h1 ρ) fun x=>qd (S.r Γ b b' h2 x.2) fun y=>rfl
 | UnaryOp op a p=>
  cases op with
  | USub=>obtain ⟨a',h1,rfl⟩:=map_some h;exact qd (S.r Γ a a' h1 ρ) fun x=>rfl
  | Not=>obtain ⟨a',h1,rfl⟩:=map_some h;exact qd (S.r Γ a a' h1 ρ) fun x=>rfl
  | _=>cases h
 | BoolOp op vs p=>
  cases vs with
  | nil=>cases op<;>cases h
  | cons a vs=>
   cases vs with
   | nil=>
    cases op with
    | And=>obtain ⟨a',h1,rfl⟩:=map_some h;exact S.r Γ a a' h1 ρ
    | Or=>obtain ⟨a',h1,rfl⟩:=map_some h;exact S.r Γ a a' h1 ρ
   | cons b l=>
    cases op with
    | And=>
     obtain ⟨a',b',h1,h2,rfl⟩:=ql h;refine qd (S.r Γ a a' h1 ρ) fun x=>?_;obtain ⟨rv,ρ1⟩:=x
     cases rv with
     | val d=>
      cases d with
      | bl c=>cases c with
       | true=>exact S.r Γ _ b' h2 ρ1
       | false=>rfl
      | _=>rfl
     | _=>rfl
    | Or=>
     obtain ⟨a',b',h1,h2,rfl⟩:=ql h;refine qd (S.r Γ a a' h1 ρ) fun x=>?_;obtain ⟨rv,ρ1⟩:=x
     cases rv with
     | val d=>
      cases d with
      | bl c=>cases c with
       | false=>exact S.r Γ _ b' h2 ρ1
       | true=>rfl
      | _=>rfl
     | _=>rfl
 | Compare a ops bs p=>
  cases ops with
  | nil=>cases h
  | cons op ops=>
   cases ops with
   | cons _ _=>cases h
   | nil=>
    cases bs with
    | nil=>cases h
    | cons b bs=>
     cases bs with
     | cons _ _=>cases h
     | nil=>
      obtain ⟨hm,h⟩:=qk h;obtain ⟨a',b',h1,h2,rfl⟩:=ql h;have hm:¬ behindInMarks op b=true:=by simpa using hm
      refine qd (S.r Γ a a' h1 ρ) fun x=>qd (S.r Γ b b' h2 x.2) fun y=>?_;rw [if_neg hm]
 | IfExp c a b p=>
  obtain ⟨c',q,h1,h2,rfl⟩:=ql h;obtain ⟨a',b',h3,h4,rfl⟩:=ql h2;refine qd (S.t Γ c c' h1 ρ) fun t=>?_;obtain ⟨d,ρ1⟩:=t
  cases d with
  | true=>exact S.r Γ a a' h3 ρ1
  | false=>exact S.r Γ b b' h4 ρ1
 | Subscript a i p=>
  cases i with
  | Slice lo hi st q=>
   cases st with
   | some st=>cases h
   | none=>obtain ⟨a',q,h1,h2,rfl⟩:=ql h;obtain ⟨l',u',h3,h4,rfl⟩:=ql h2;exact qd (S.r Γ a a' h1 ρ) fun x=>qd (S.o Γ lo l' h3 x.2) fun y=>qd (S.o Γ hi u' h4 y.2) fun z=>rfl
  | _=>obtain ⟨a',b',h1,h2,rfl⟩:=ql h;exact qd (S.r Γ a a' h1 ρ) fun x=>qd (S.r Γ _ b' h2 x.2) fun y=>rfl
 | List es p=>obtain ⟨l,h1,rfl⟩:=map_some h;exact qd (S.es Γ es l h1 ρ) fun x=>rfl
 | Tuple es j p=>obtain ⟨l,h1,rfl⟩:=map_some h;exact qd (S.es Γ es l h1 ρ) fun x=>rfl
 | Call fn es kws q=>
  cases fn with
  | Name f p=>
   cases kws with
   | cons _ _=>cases h
   | nil=>
    obtain ⟨hn,h⟩:=qk h;show (if (qo f&&glB Γ.sc f&&(qS Γ.N f).isNone)=true then _ else R.no)=_;rw [if_pos hn]
    by_cases hi:f = "isinstance"
    ·rw [if_pos hi] at h ⊢
     match es,h with
     | [a,b],h=>
      cases b with
      | Name t tp=>
       obtain ⟨hc,h⟩:=qk h;show (if (qo t&&glB Γ.sc t&&(qS Γ.N t).isNone&&!qh a)=true then _ else R.no)=_;rw [if_pos hc]
       cases h1:qfL t with
       | some y=>rw [h1] at h;obtain ⟨a',h2,rfl⟩:=map_some h;refine qd (S.r Γ a a' h2 ρ) fun x=>?_;rw [qcI h1]
       | none=>rw [h1] at h;obtain ⟨a',h2,rfl⟩:=map_some h;exact qd (S.r Γ a a' h2 ρ) fun x=>rfl
      | _=>cases h
     | [],h=>cases h
     | [_],h=>cases h
     | _::_::_::_,h=>cases h
    rw [if_neg hi] at h ⊢
    by_cases ht:Γ.tab.contains f=true
    ·rw [if_pos ht] at h ⊢;obtain ⟨l,h1,rfl⟩:=map_some h;exact qd (S.as Γ es l h1 ρ) fun x=>rfl
    rw [if_neg ht] at h ⊢
    by_cases hk:Γ.cs.tab.contains f=true
    ·rw [if_pos hk] at h ⊢;obtain ⟨l,h1,rfl⟩:=map_some h;exact qd (S.as Γ es l h1 ρ) fun x=>rfl
    rw [if_neg hk] at h ⊢
    match es,h with
    | [a],h=>
     have h:(match lrE Γ f a with | some t=>_ | none=>_)=_:=h;show (match lrE Γ f a with | some t=>_ | none=>_)=_
     cases hl:lrE Γ f a with
     | some t=>rw [hl] at h;obtain ⟨a',b',h1,h2,rfl⟩:=ql h;exact qd (S.r Γ t.1 a' h1 ρ) fun x=>qd (S.r Γ t.2 b' h2 x.2) fun y=>rfl
     | none=>
     rw [hl] at h;obtain ⟨hs,h⟩:=qk h;obtain ⟨y,a',h1,h2,rfl⟩:=ql h;show (if qh a=true then R.no else _)=_;rw [if_neg (by simpa using hs)];refine qd (S.r Γ a a' h2 ρ) fun x=>?_;rw [qeY h1]
    | [a,b],h=>obtain ⟨hs,h⟩:=qk h;obtain ⟨y,q,h1,h2,rfl⟩:=ql h;obtain ⟨a',b',h3,h4,rfl⟩:=ql h2;show (if (qh a||qh b)=true then R.no else _)=_;rw [if_neg (by simpa using hs)];refine qd (S.r Γ a a' h3 ρ) fun x=>qd (S.r Γ b b' h4 x.2) fun z=>?_;rw [qeZ h1]
    | [],h=>cases h
    | _::_::_::_,h=>cases h
  | Attribute o x ap=>
   cases kws with
   | cons _ _=>cases h
   | nil=>
    have h:(if (qT o&&(ap.endLine == q.line)&&decide (es.length < 30))=true then _ else match dgE Γ o x es (ap.endLine == q.line) with | some t=>_ | none=>none)=_:=h;show (if (qT o&&(ap.endLine == q.line)&&decide (es.length < 30))=true then _ else _)=_
    by_cases hc:(qT o&&(ap.endLine == q.line)&&decide (es.length < 30))=true
    case neg=>
     rw [if_neg hc] at h ⊢
     cases hd:dgE Γ o x es (ap.endLine == q.line) with
     | none=>rw [hd] at h;cases h
     | some t=>rw [hd] at h;obtain ⟨a',b',h1,h2,rfl⟩:=ql h;exact qd (S.r Γ t.1 a' h1 ρ) fun y=>qd (S.r Γ t.2.1 b' h2 y.2) fun z=>rfl
    rw [if_pos hc] at h ⊢;obtain ⟨a',l',h1,h2,rfl⟩:=ql h;refine qd (S.r Γ o a' h1 ρ) fun y=>?_;show (match mtD Γ.cs y.1 x with | some f=>_ | none=>_)=match mtD Γ.cs y.1 x with | some f=>_ | none=>_
    cases mtD Γ.cs y.1 x with
    | some f=>refine qd (S.as Γ es l' h2 y.2) fun z=>?_;rw [qe2];rfl
    | none=>
     show (if x = "index" then _ else R.no)=if x = "index" then _ else R.no;split
     ·exact qd (S.as Γ es l' h2 y.2) fun z=>rfl
     ·rfl
  | _=>cases h
 | Attribute o x p=>obtain ⟨hc,h⟩:=qk h;obtain ⟨a',h1,rfl⟩:=map_some h;show (if qT o=true then _ else R.no)=_;rw [if_pos hc];exact qd (S.r Γ o a' h1 ρ) fun y=>rfl
 | ListComp elt gens sc p=>
  cases gens with
  | nil=>cases h
  | cons g gens=>
   cases gens with
   | cons _ _=>cases h
   | nil=>
    obtain ⟨ha,h⟩:=qk h;have ha:=of_decide_eq_true ha;show (if g.is_async=0 then _ else R.no)=_;rw [if_pos ha]
    cases hx:qy g.target with
    | none=>rw [hx] at h;cases h
    | some own=>
     rw [hx] at h;obtain ⟨hc,h⟩:=qk h;obtain ⟨p1,p2,h1,h2,rfl⟩:=ql h;obtain ⟨src,tg,h3,h4,rfl⟩:=ql h1;obtain ⟨c,el,h5,h6,rfl⟩:=ql h2;refine qd (S.i Γ _ g.iter src h3 ρ) fun y=>?_;show (if (zL Γ.sc Γ.N (jY Γ.N sc) sc&&decide (own++(jY Γ.N sc).map fun i=>Γ.N.getD i "").Nodup&&decide (y.1.length<=sizeLine)&&zE g.iter)=true then _ else R.no)=_;simp only [Bool.and_eq_true] at hc
     have ei:qdM own.length (jY Γ.N sc) y.2=yf own (jY Γ.N sc) y.2:=by unfold qdM yf;rw [List.map_const']
     by_cases hz:y.1.length<=sizeLine
     ·rw [if_pos (by simp only [Bool.and_eq_true];exact ⟨⟨⟨hc.1.1,hc.1.2⟩,decide_eq_true hz⟩,hc.2⟩),if_pos hz];rw [ei];exact qd (ZK (Qn h4) (S.f _ _ c h5) (S.e _ _ el h6) _ _ _) fun l=>rfl
     ·rw [if_neg (by simp only [Bool.and_eq_true];intro z;exact hz (of_decide_eq_true z.1.2)),if_neg hz]
 | _=>cases h
theorem qhv (S:Same2 m) (Γ:Ct) (e:Expr) (x:E) (h:cX (m+1) Γ e=some x) (ρ:Env):evE (m+1) Γ e ρ=zV x (iR Γ.k x) ρ:=by
 have gen:(cE m Γ e).bind Qm=some x->(evR m Γ e ρ).th (fun x=>match x.1 with
   | .val d=>.ok (d,x.2)
   | .tmp l=>.ok (.lst l,x.2)
   | _=>.no)=zV x (iR Γ.k x) ρ:=fun h=>by
  obtain ⟨y,h1,h2⟩:=Option.bind_eq_some_iff.mp h;obtain ⟨rfl,hv⟩:=j8 h2;rw [qe0 hv];exact qd (S.r Γ e y h1 ρ) fun x=>rfl
 cases e with
 | Name y p=>exact (yQ h ρ).2
 | _=>exact gen h
theorem qe3 {α β γ:Type} (x:R α) (f:α->R β) (g:β->R γ):(x.th f).th g=x.th fun a=>(f a).th g:=by cases x<;>rfl
theorem qhw (S:Same2 m) (Γ:Ct) (e:Expr) (x:T) (h:cT (m+1) Γ e=some x) (ρ:Env):evT (m+1) Γ e ρ=iT Γ.k x ρ:=by
 have gen:(cE m Γ e).map .val=some x->(evR m Γ e ρ).th (fun x=>(R.of (truthD x.1)).th fun b=>.ok (b,x.2))=iT Γ.k x ρ:=fun h=>by obtain ⟨y,h1,rfl⟩:=map_some h;exact qd (S.r Γ e y h1 ρ) fun x=>rfl
 cases e with
 | UnaryOp op a p=>
  cases op with
  | Not=>obtain ⟨a',h1,rfl⟩:=map_some h;exact qd (S.t Γ a a' h1 ρ) fun x=>rfl
  | _=>exact gen h
 | BoolOp op vs p=>
  cases vs with
  | nil=>cases op<;>cases h
  | cons a vs=>
   cases vs with
   | nil=>
    cases op with
    | And=>obtain ⟨a',h1,rfl⟩:=map_some h;exact S.t Γ a a' h1 ρ
    | Or=>obtain ⟨a',h1,rfl⟩:=map_some h;exact S.t Γ a a' h1 ρ
   | cons b l=>
    cases op with
    | And=>
     obtain ⟨a',b',h1,h2,rfl⟩:=ql h;refine qd (S.t Γ a a' h1 ρ) fun t=>?_;obtain ⟨d,ρ1⟩:=t
     cases d with
     | true=>exact S.t Γ _ b' h2 ρ1
     | false=>rfl
    | Or=>
     obtain ⟨a',b',h1,h2,rfl⟩:=ql h;refine qd (S.t Γ a a' h1 ρ) fun t=>?_;obtain ⟨d,ρ1⟩:=t
     cases d with
     | true=>rfl
     | false=>exact S.t Γ _ b' h2 ρ1
 | IfExp c a b p=>cases h
 | Compare a ops bs p=>
  cases ops with
  | nil=>cases h
  | cons op ops=>
   cases ops with
   | cons op' ops=>
    match ops,bs,h with
    | [],[b,c],h=>
     obtain ⟨hm,h⟩:=qk h;obtain ⟨a',q,h1,h2,rfl⟩:=ql h;obtain ⟨b',c',h3,h4,rfl⟩:=ql h2;show (if lastMarks [op,op'] [b,c]=true then R.no else _)=_;rw [if_neg (by simpa using hm)];refine qd (S.r Γ a a' h1 ρ) fun x=>qd (S.r Γ b b' h3 x.2) fun y=>qd rfl fun r=>?_
     cases r with
     | true=>exact qd (S.r Γ c c' h4 y.2) fun z=>rfl
     | false=>rfl
    | [],[],h=>cases h
    | [],[b],h=>cases h
    | [],_::_::_::_,h=>cases h
    | _::_,_,h=>cases h
   | nil=>
    cases bs with
    | nil=>cases h
    | cons b bs=>
     cases bs with
     | cons _ _=>cases h
     | nil=>
      have h:(match irE Γ op b with | some t=>_ | none=>_)=_:=h;show (match irE Γ op b with | some t=>_ | none=>_)=_
      cases hi:irE Γ op b with
      | some t=>rw [hi] at h;obtain ⟨a',b',h1,h2,rfl⟩:=ql h;show _=((iR Γ.k a' ρ).th fun x=>(iR Γ.k b' x.2).th fun y=>(qdz x.1 y.1).th fun r=>R.ok (r,y.2)).th fun x=>(R.of (truthD x.1)).th fun b=>R.ok (b,x.2);rw [qe3];refine qd (S.r Γ a a' h1 ρ) fun x=>?_;rw [qe3];refine qd (S.r Γ t b' h2 x.2) fun y=>?_;rw [qe3];rfl
      | none=>
      rw [hi] at h;obtain ⟨hm,h⟩:=qk h;obtain ⟨a',b',h1,h2,rfl⟩:=ql h;have hm:¬ behindInMarks op b=true:=by simpa using hm
      refine qd (S.r Γ a a' h1 ρ) fun x=>qd (S.r Γ b b' h2 x.2) fun y=>?_;rw [if_neg hm]
 | _=>exact gen h
theorem qe4 (S:Same2 m) (Γ:Ct) (es:List Expr) (x:Es) (h:cEs (m+1) Γ es=some x) (ρ:Env):qdA (m+1) Γ es ρ=iEs Γ.k x ρ:=by
 cases es with
 | nil=>cases h;rfl
 | cons e l=>obtain ⟨hs,h⟩:=qk h;obtain ⟨a,b,h1,h2,rfl⟩:=ql h;show (if qh e=true then R.no else _)=_;rw [if_neg (by simpa using hs)];exact qd (S.e Γ e a h1 ρ) fun x=>qd (S.es Γ l b h2 x.2) fun y=>rfl
theorem qe5 (S:Same2 m) (Γ:Ct) (es:List Expr) (x:Es) (h:cAs (m+1) Γ es=some x) (ρ:Env):j6 (m+1) Γ es ρ=iAs Γ.k x ρ:=by
 cases es with
 | nil=>cases h;rfl
 | cons e l=>obtain ⟨hs,h⟩:=qk h;obtain ⟨a,b,h1,h2,rfl⟩:=ql h;show (if qh e=true then R.no else _)=_;rw [if_neg (by simpa using hs)];refine qd (S.r Γ e a h1 ρ) fun x=>qd (S.as Γ l b h2 x.2) fun y=>?_;obtain ⟨rv,ρ1⟩:=x;cases rv<;>rfl
theorem qhx (S:Same2 m) (Γ:Ct) (o:Option Expr) (x:O) (h:cO (m+1) Γ o=some x) (ρ:Env):evO (m+1) Γ o ρ=iO Γ.k x ρ:=by
 cases o with
 | none=>cases h;rfl
 | some e=>obtain ⟨a,h1,rfl⟩:=map_some h;exact qd (S.r Γ e a h1 ρ) fun x=>rfl
theorem qhy (S:Same2 m) (Γ:Ct) (es:List Expr) (x:F) (h:cF (m+1) Γ es=some x) (ρ:Env):qgM (m+1) Γ es ρ=iF Γ.k x ρ:=by
 match es,h with
 | [],h=>cases h;rfl
 | [c],h=>obtain ⟨a,h1,rfl⟩:=map_some h;exact S.t Γ c a h1 ρ
 | _::_::_,h=>cases h
theorem qhz (S:Same2 m) (Γ:Ct) (e:Expr) (x:E) (h:cL (m+1) Γ e=some x) (ρ:Env):evL (m+1) Γ e ρ=y9 x (iR Γ.k x) ρ:=by
 have gen:(cE m Γ e).bind Qm=some x->(evR m Γ e ρ).th (fun x=>match x.1 with
   | .val (.lst l)=>.ok ((.lst,l),x.2)
   | .val (.tup l)=>.ok ((.tup,l),x.2)
   | .val (.str z)=>.ok ((.str,ZF z),x.2)
   | .tmp l=>.ok ((.lst,l),x.2)
   | _=>.no)=y9 x (iR Γ.k x) ρ:=fun h=>by
  obtain ⟨y,h1,h2⟩:=Option.bind_eq_some_iff.mp h;obtain ⟨rfl,hv⟩:=j8 h2;rw [qe1 hv];exact qd (S.r Γ e y h1 ρ) fun x=>rfl
 cases e with
 | Name y p=>obtain ⟨hn,h⟩:=qk h;obtain ⟨i,h1,rfl⟩:=map_some h;rw [Bool.and_eq_true] at hn;show yK Γ y ρ=_;unfold yK;rw [if_pos hn.1,h1];dsimp only;rw [if_pos hn.2];rfl
 | _=>exact gen h
theorem qhA (S:Same2 m) (Γ:Ct) (tb:Bool) (e:Expr) (x:I) (h:cI (m+1) Γ tb e=some x) (ρ:Env):evI (m+1) Γ tb e ρ=iI Γ.k x ρ:=by
 have gen:(cL m Γ e).map .seq=some x->(evL m Γ e ρ).th (fun x=>.ok (x.1.2,x.2))=iI Γ.k x ρ:=fun h=>by obtain ⟨y,h1,rfl⟩:=map_some h;exact qd (S.l Γ e y h1 ρ) fun x=>rfl
 cases e with
 | Call fn es kws q=>
  cases fn with
  | Name f p=>
   cases kws with
   | cons _ _=>exact gen h
   | nil=>
    have h:(if (decide (f = "range")||decide (f = "enumerate")||decide (f = "zip")||decide (f = "reversed"))=true then _ else _)=some x:=h;show (if (decide (f = "range")||decide (f = "enumerate")||decide (f = "zip")||decide (f = "reversed"))=true then _ else _)=_
    by_cases hf:(decide (f = "range")||decide (f = "enumerate")||decide (f = "zip")||decide (f = "reversed"))=true
    ·rw [if_pos hf] at h ⊢;obtain ⟨hn,h⟩:=qk h;rw [if_pos hn]
     match es,h with
     | [a],h=>
      obtain ⟨hs,h⟩:=qk h;show (if qh a=true then R.no else _)=_;rw [if_neg (by simpa using hs)]
      by_cases h1:f = "range"
      ·rw [if_pos h1] at h ⊢;obtain ⟨y,h2,rfl⟩:=map_some h;exact qd (S.r Γ a y h2 ρ) fun x=>rfl
      rw [if_neg h1] at h ⊢
      by_cases h2:f = "enumerate"
      ·rw [if_pos h2] at h ⊢;obtain ⟨ht,h⟩:=qk h;obtain ⟨y,h3,rfl⟩:=map_some h;rw [if_pos ht];exact qd (S.l Γ a y h3 ρ) fun x=>rfl
      rw [if_neg h2] at h ⊢
      by_cases h3:f = "reversed"
      ·rw [if_pos h3] at h ⊢;obtain ⟨y,h4,rfl⟩:=map_some h;exact qd (S.l Γ a y h4 ρ) fun x=>rfl
      rw [if_neg h3] at h;cases h
     | [a,b],h=>
      obtain ⟨hs,h⟩:=qk h;show (if (qh a||qh b)=true then R.no else _)=_;rw [if_neg (by simpa using hs)]
      by_cases h1:f = "range"
      ·rw [if_pos h1] at h ⊢;obtain ⟨y,z,h2,h3,rfl⟩:=ql h;exact qd (S.r Γ a y h2 ρ) fun x=>qd (S.r Γ b z h3 x.2) fun x'=>rfl
      rw [if_neg h1] at h ⊢
      by_cases h2:f = "zip"
      ·rw [if_pos h2] at h ⊢;obtain ⟨ht,h⟩:=qk h;obtain ⟨y,z,h3,h4,rfl⟩:=ql h;rw [if_pos ht];exact qd (S.l Γ a y h3 ρ) fun x=>qd (S.l Γ b z h4 x.2) fun x'=>rfl
      rw [if_neg h2] at h;cases h
     | [a,b,c],h=>
      obtain ⟨hs,h⟩:=qk h;show (if (qh a||qh b||qh c)=true then R.no else _)=_;rw [if_neg (by simpa using hs)]
      by_cases h1:f = "range"
      ·rw [if_pos h1] at h ⊢;obtain ⟨y,z,h2,h3,rfl⟩:=ql h;obtain ⟨y',z',h4,h5,rfl⟩:=ql h3;exact qd (S.r Γ a y h2 ρ) fun x=>qd (S.r Γ b y' h4 x.2) fun x'=>qd (S.r Γ c z' h5 x'.2) fun x''=>rfl
      rw [if_neg h1] at h;cases h
     | [],h=>cases h
     | _::_::_::_::_,h=>cases h
    ·rw [if_neg hf] at h ⊢;exact gen h
  | _=>exact gen h
 | _=>exact gen h
theorem qe6:∀ m,Same2 m
 | 0=>{ r:=(fun _ _ _ h=>nomatch h),e:=(fun _ _ _ h=>nomatch h),t:=(fun _ _ _ h=>nomatch h),es:=(fun _ _ _ h=>nomatch h),as:=(fun _ _ _ h=>nomatch h),o:=(fun _ _ _ h=>nomatch h),f:=(fun _ _ _ h=>nomatch h),l:=(fun _ _ _ h=>nomatch h),i:=(fun _ _ _ _ h=>nomatch h) }
 | m+1=>have S:=qe6 m;⟨qhu S,qhv S,qhw S,qe4 S,qe5 S,qhx S,qhy S,qhz S,qhA S⟩
end
end DE
namespace DE
open PySem L2
mutual
inductive S where
 | pass | expr (e:E) | app (i:Nat) (e:E) | ext (i:Nat) (e:E) | clr (i:Nat) | ret (e:E) | retN | set (i:Nat) (e:E) | setT (tg:Tg) (e:E) | setI (i:Nat) (x e:E) | ite (c:T) (a b:Ss) | for_ (tg:Tg) (src:I) (b:Ss) | whl (c:T) (b:Ss) | stuck
inductive Ss where
 | nil | cons (s:S) (l:Ss)
end
def zv (ρ:Env) (i:Nat):Option (List D):=match ρ[i]? with
 | some (.own l)=>some l
 | _=>none
noncomputable def Y6 (e:E) (r:Env->R (Rv×Env)) (ρ:Env):R Rv:=match e with
 | .var i=>slX ρ i
 | .con d=>.ok (.val d)
 | _=>(r ρ).th fun x=>match x.1 with
  | .val d=>.ok (.val d)
  | .tmp l=>.ok (.tmp l)
  | _=>.no
noncomputable def Qo (e:E) (r:Env->R (Rv×Env)) (ρ:Env):R (Sl×Env):=match e with
 | .var i=>(slE ρ i).th fun r=>.ok (.val r.1,r.2)
 | .con d=>.ok (.val d,ρ)
 | _=>(r ρ).th fun x=>match x.1 with
  | .val d=>.ok (.val d,x.2)
  | .tmp l=>.ok (.own l,x.2)
  | _=>.no
mutual
noncomputable def iS (cl:Cl) (w:Nat):S->Env->R Fl
 | .pass,ρ=>.ok (.next ρ)
 | .expr e,ρ=>(iR cl e ρ).th fun x=>.ok (.next x.2)
 | .app i e,ρ=>(match zv ρ i with
  | none=>.no
  | some _=>(zV e (iR cl e) ρ).th fun y=>(match zv y.2 i with
   | some l=>if l.length < sizeLine then .ok (.next (y.2.set i (.own (l++[y.1])))) else .no
   | none=>.no))
 | .ext i e,ρ=>(match zv ρ i with
  | none=>.no
  | some _=>(iR cl e ρ).th fun y=>(match zv y.2 i,y.1.plain? with
   | some l,some n=>if l.length+n.length<=sizeLine then .ok (.next (y.2.set i (.own (l++n)))) else .no
   | _,_=>.no))
 | .clr i,ρ=>(match zv ρ i with
  | some _=>.ok (.next (ρ.set i (.own [])))
  | none=>.no)
 | .ret e,ρ=>(Y6 e (iR cl e) ρ).th fun r=>.ok (.ret r)
 | .retN,ρ=>.ok (.ret (.val .non))
 | .set i e,ρ=>(Qo e (iR cl e) ρ).th fun s=>.ok (.next (s.2.set i s.1))
 | .setT tg e,ρ=>(zV e (iR cl e) ρ).th fun x=>(tg.go x.1 x.2).th fun ρ1=>.ok (.next ρ1)
 | .setI i x e,ρ=>(zV e (iR cl e) ρ).th fun y=>(match zv y.2 i with
  | none=>.no
  | some _=>(iR cl x y.2).th fun z=>(match zv z.2 i,z.1.int? with
   | some l,some n=>(match ixN l.length n with
    | some k=>.ok (.next (z.2.set i (.own (l.set k y.1))))
    | none=>.no)
   | _,_=>.no))
 | .ite c a b,ρ=>(iT cl c ρ).th fun t=>if t.1 then iSs cl w a t.2 else iSs cl w b t.2
 | .for_ tg src b,ρ=>(iI cl src ρ).th fun x=>qeS (fun d ρ1=>(tg.go d ρ1).th fun ρ2=>iSs cl w b ρ2) x.1 x.2
 | .whl c b,ρ=>whL (fun ρ1=>iT cl c ρ1) (fun ρ1=>iSs cl w b ρ1) w ρ
 | .stuck,_=>.no
noncomputable def iSs (cl:Cl) (w:Nat):Ss->Env->R Fl
 | .nil,ρ=>.ok (.next ρ)
 | .cons s l,ρ=>(iS cl w s ρ).th fun f=>match f with
  | .next ρ1=>iSs cl w l ρ1
  | .ret r=>.ok (.ret r)
end
def qfN (Γ:Ct) (x:Str):Option Nat:=oif (qo x&&JL Γ.sc x) (qS Γ.N x)
def cV (m:Nat) (Γ:Ct) (e:Expr):Option E:=match e with
 | .Name x _=>YJ Γ x
 | e=>(cE m Γ e).bind Qm
mutual
noncomputable def cS:Nat->Ct->Stmt->Option S
 | 0,_,_=>none
 | m+1,Γ,st=>match st with
  | .Pass _=>some .pass
  | .Expr e _=>(match e with
   | .Call (.Attribute (.Name x _) meth ap) [a] [] cp=>oif (ap.endLine == cp.line&&!qh a) (
     if meth = "append" then o2 (qfN Γ x) (cX m Γ a) .app
     else if meth = "extend" then o2 (qfN Γ x) (cE m Γ a) .ext
     else none)
   | .Call (.Attribute (.Name x _) meth ap) [] [] cp=>oif (ap.endLine == cp.line&&decide (meth = "clear")) ((qfN Γ x).map .clr)
   | e=>oif (qA e) ((cE m Γ e).map .expr))
  | .Return (some e) _=>(cV m Γ e).map .ret
  | .Return none _=>some .retN
  | .Assign [tg] e _=>(match tg with
   | .Name x _=>o2 (qfM Γ x) (cV m Γ e) .set
   | .Tuple es j p=>oif (qA e&&yh e) (o2 (cTg Γ (.Tuple es j p)) (cX m Γ e) .setT)
   | .Subscript (.Name x _) i _=>oif (qA e&&zu i) (o2 (qfN Γ x) (o2 (cE m Γ i) (cX m Γ e) Prod.mk) fun x p=>.setI x p.1 p.2)
   | _=>none)
  | .If c a b _=>o2 (cT m Γ c) (o2 (cSs m Γ a) (cSs m Γ b) Prod.mk) fun c p=>.ite c p.1 p.2
  | .For tg it body [] _=>oif (zE it) (o2 (o2 (cTg Γ tg) (cI m Γ (J6 tg) it) Prod.mk) (cSs m Γ body) fun p b=>.for_ p.1 p.2 b)
  | .While c body [] _=>o2 (cT m Γ c) (cSs m Γ body) .whl
  | .Raise ..=>some .stuck
  | _=>none
noncomputable def cSs:Nat->Ct->List Stmt->Option Ss
 | 0,_,_=>none
 | m+1,Γ,l=>match l with
  | []=>some .nil
  | st::l=>o2 (cS m Γ st) (cSs m Γ l) .cons
end
section
variable {m w:Nat} {Γ:Ct}
theorem zM {x:Str} {i:Nat} (h:qfN Γ x=some i) (ρ:Env):qM Γ x ρ=(zv ρ i).map fun l=>(i,l):=by
 unfold qfN at h;obtain ⟨h1,h2⟩:=qk h;unfold qM zv;rw [if_pos h1,h2];dsimp only
 cases ρ[i]? with
 | none=>rfl
 | some s=>cases s<;>rfl
theorem qdO {e:Expr} {z:E} (h:cV m Γ e=some z) (ρ:Env):evX m Γ e ρ=Y6 z (iR Γ.k z) ρ/\evA m Γ e ρ=Qo z (iR Γ.k z) ρ:=by
 have S:=qe6 m
 have gen:(cE m Γ e).bind Qm=some z->((evR m Γ e ρ).th (fun x=>match x.1 with
   | .val d=>R.ok (Rv.val d)
   | .tmp l=>R.ok (Rv.tmp l)
   | _=>.no)=Y6 z (iR Γ.k z) ρ)/\((evR m Γ e ρ).th (fun x=>match x.1 with
   | .val d=>R.ok (Sl.val d,x.2)
   | .tmp l=>R.ok (Sl.own l,x.2)
   | _=>.no)=Qo z (iR Γ.k z) ρ):=fun h=>by
  obtain ⟨y,h1,h2⟩:=Option.bind_eq_some_iff.mp h;obtain ⟨rfl,hv⟩:=j8 h2;rw [S.r Γ e y h1 ρ]
  cases y<;>first | exact ⟨rfl,rfl⟩ | exact absurd rfl (hv _)
 cases e with
 | Name y p=>
  have h:YJ Γ y=some z:=h;refine ⟨?_,?_⟩
  ·unfold YJ at h;obtain ⟨h1,h⟩:=qk h;show jC Γ y ρ=_;unfold jC;rw [if_pos h1]
   cases hi:qS Γ.N y with
   | some i=>rw [hi] at h;obtain ⟨h2,h⟩:=qk h;cases h;dsimp only;rw [if_pos h2];rfl
   | none=>rw [hi] at h;obtain ⟨h2,h⟩:=qk h;obtain ⟨d,h3,rfl⟩:=map_some h;dsimp only;rw [if_pos h2,h3];rfl
  ·show (z8 Γ y ρ).th _=_;rw [(yQ h ρ).2];unfold YJ at h;obtain ⟨h1,h⟩:=qk h
   cases hi:qS Γ.N y with
   | some i=>rw [hi] at h;obtain ⟨h2,h⟩:=qk h;cases h;rfl
   | none=>rw [hi] at h;obtain ⟨h2,h⟩:=qk h;obtain ⟨d,h3,rfl⟩:=map_some h;rfl
 | _=>exact gen h
structure Same3 (m w:Nat):Prop where
 s:∀ Γ st x,cS m Γ st=some x->∀ ρ,evS m w Γ st ρ=iS Γ.k w x ρ
 ss:∀ Γ l x,cSs m Γ l=some x->∀ ρ,qa1 m w Γ l ρ=iSs Γ.k w x ρ
theorem qa8 {f g:D->Env->R Fl} (h:∀ d ρ,f d ρ=g d ρ) (l:List D) (ρ:Env):qeS f l ρ=qeS g l ρ:=by rw [show f=g from funext fun d=>funext fun ρ=>h d ρ]
theorem qcJ {t t':Env->R (Bool×Env)} {f g:Env->R Fl} (ht:∀ ρ,t ρ=t' ρ) (h:∀ ρ,f ρ=g ρ) (n:Nat) (ρ:Env):whL t f n ρ=whL t' g n ρ:=by rw [show t=t' from funext ht,show f=g from funext h]
theorem qhB (S3:Same3 m w) (Γ:Ct) (st:Stmt) (x:S) (h:cS (m+1) Γ st=some x) (ρ:Env):evS (m+1) w Γ st ρ=iS Γ.k w x ρ:=by
 have S:=qe6 m
 cases st with
 | Pass p=>cases h;rfl
 | Raise a b c=>cases h;rfl
 | Expr e p=>
  have gen:oif (qA e) ((cE m Γ e).map .expr)=some x->(if qA e=true then (evR m Γ e ρ).th fun x=>R.ok (Fl.next x.2) else .no)=iS Γ.k w x ρ:=fun h=>by obtain ⟨h1,h⟩:=qk h;obtain ⟨y,h2,rfl⟩:=map_some h;rw [if_pos h1];exact qd (S.r Γ e y h2 ρ) fun _=>rfl
  cases e with
  | Call fn es kws cp=>
   cases fn with
   | Attribute o meth ap=>
    cases o with
    | Name y yp=>
     cases kws with
     | cons kw kws=>exact match es,h with | [],h=>gen h | [_],h=>gen h | _::_::_,h=>gen h
     | nil=>
      match es,h with
      | [a],h=>
       obtain ⟨hc,h⟩:=qk h;rw [Bool.and_eq_true] at hc;show (if (ap.endLine == cp.line)=true then _ else R.no)=_;rw [if_pos hc.1];have hs:¬ qh a=true:=by simpa using hc.2
       by_cases h1:meth = "append"
       ·rw [if_pos h1] at h;obtain ⟨i,a',h2,h3,rfl⟩:=ql h;show (jD m Γ y meth a ρ).th _=_;unfold jD;rw [zM h2,if_neg hs,if_pos h1];show _=(match zv ρ i with | none=>R.no | some _=>_)
        cases zv ρ i with
        | none=>rfl
        | some l0=>
         dsimp only [Option.map_some];rw [S.e Γ a a' h3 ρ]
         cases zV a' (iR Γ.k a') ρ with
         | ok z=>
          show R.th (match qM Γ y z.2 with | some (i,l)=>_ | none=>_) _=(match zv z.2 i with | some l=>if l.length < sizeLine then _ else _ | none=>R.no);rw [zM h2]
          cases zv z.2 i with
          | none=>rfl
          | some l=>
           show R.th (if l.length < sizeLine then _ else _) _=(if l.length < sizeLine then _ else _)
           by_cases hz:l.length < sizeLine
           ·rw [if_pos hz,if_pos hz];rfl
           ·rw [if_neg hz,if_neg hz];rfl
         | exc c l=>rfl
         | no=>rfl
       rw [if_neg h1] at h
       by_cases h2':meth = "extend"
       ·rw [if_pos h2'] at h;obtain ⟨i,a',h2,h3,rfl⟩:=ql h;show (jD m Γ y meth a ρ).th _=_;unfold jD;rw [zM h2,if_neg hs,if_neg h1,if_pos h2'];show _=(match zv ρ i with | none=>R.no | some _=>_)
        cases zv ρ i with
        | none=>rfl
        | some l0=>
         dsimp only [Option.map_some];rw [S.r Γ a a' h3 ρ]
         cases iR Γ.k a' ρ with
         | ok z=>
          show R.th (match qM Γ y z.2,z.1.plain? with | some (i,l),some n=>_ | _,_=>_) _=_;rw [zM h2];show _=(match zv z.2 i,z.1.plain? with | some l,some n=>_ | _,_=>_)
          cases zv z.2 i with
          | none=>rfl
          | some l=>
           cases z.1.plain? with
           | none=>rfl
           | some n=>
            show R.th (if l.length+n.length<=sizeLine then _ else _) _=(if l.length+n.length<=sizeLine then _ else _)
            by_cases hz:l.length+n.length<=sizeLine
            ·rw [if_pos hz,if_pos hz];rfl
            ·rw [if_neg hz,if_neg hz];rfl
         | exc c l=>rfl
         | no=>rfl
       rw [if_neg h2'] at h;cases h
      | [],h=>
       obtain ⟨hc,h⟩:=qk h;rw [Bool.and_eq_true] at hc;obtain ⟨i,h2,rfl⟩:=map_some h;show (if (ap.endLine == cp.line)=true/\meth = "clear" then _ else R.no)=_;rw [if_pos ⟨hc.1,of_decide_eq_true hc.2⟩];rw [zM h2];show _=(match zv ρ i with | some _=>_ | none=>_)
       cases zv ρ i<;>rfl
      | _::_::_,h=>exact gen h
    | _=>exact gen h
   | _=>exact gen h
  | _=>exact gen h
 | Return o p=>
  cases o with
  | none=>cases h;rfl
  | some e=>obtain ⟨y,h1,rfl⟩:=map_some h;exact qd (qdO h1 ρ).1 fun _=>rfl
 | Assign tgs e p=>
  match tgs,h with
  | [],h=>cases h
  | _::_::_,h=>cases h
  | [tg],h=>
   cases tg with
   | Name y yp=>obtain ⟨i,a,h1,h2,rfl⟩:=ql h;refine qd (qdO h2 ρ).2 fun s=>?_;unfold qfM at h1;obtain ⟨h3,h4⟩:=qk h1;rw [h4];show (if (Z3 Γ.sc y&&qo y)=true then _ else R.no)=_;rw [if_pos h3]
   | Tuple es j tp=>obtain ⟨hc,h⟩:=qk h;obtain ⟨t,a,h1,h2,rfl⟩:=ql h;rw [Bool.and_eq_true] at hc;show (if qA e=true/\yh e=true then _ else R.no)=_;rw [if_pos hc];exact qd (S.e Γ e a h2 ρ) fun s=>qd (Qn h1 _ _) fun _=>rfl
   | Subscript o i sp=>
    cases o with
    | Name y yp=>
     obtain ⟨hc,h⟩:=qk h;obtain ⟨j,q,h1,h2,rfl⟩:=ql h;obtain ⟨i',a,h3,h4,rfl⟩:=ql h2;rw [Bool.and_eq_true] at hc;show (if qA e=true/\zu i=true then _ else R.no)=_;rw [if_pos hc];refine qd (S.e Γ e a h4 ρ) fun z=>?_;show (qfK m Γ y i z.1 z.2).th _=_;unfold qfK;rw [zM h1];show _=(match zv z.2 j with | none=>R.no | some _=>_)
     cases zv z.2 j with
     | none=>rfl
     | some l0=>
      dsimp only [Option.map_some];rw [S.r Γ i i' h3 z.2]
      cases iR Γ.k i' z.2 with
      | ok u=>
       show R.th (match qM Γ y u.2,u.1.int? with | some (j,l),some n=>_ | _,_=>_) _=_;rw [zM h1];show _=(match zv u.2 j,u.1.int? with | some l,some n=>_ | _,_=>_)
       cases zv u.2 j with
       | none=>rfl
       | some l=>
        cases u.1.int? with
        | none=>rfl
        | some n=>
         show R.th (match ixN l.length n with | some k=>_ | none=>_) _=(match ixN l.length n with | some k=>_ | none=>_)
         cases ixN l.length n<;>rfl
      | exc c l=>rfl
      | no=>rfl
    | _=>cases h
   | _=>cases h
 | If c a b p=>
  obtain ⟨c',q,h1,h2,rfl⟩:=ql h;obtain ⟨a',b',h3,h4,rfl⟩:=ql h2;refine qd (S.t Γ c c' h1 ρ) fun t=>?_;obtain ⟨d,ρ1⟩:=t
  cases d with
  | true=>exact S3.ss Γ a a' h3 ρ1
  | false=>exact S3.ss Γ b b' h4 ρ1
 | For tg it body orelse p=>
  cases orelse with
  | cons _ _=>cases h
  | nil=>obtain ⟨hf,h⟩:=qk h;obtain ⟨q,b',h1,h2,rfl⟩:=ql h;obtain ⟨t,src,h3,h4,rfl⟩:=ql h1;show (if zE it=true then _ else R.no)=_;rw [if_pos hf];exact qd (S.i Γ _ it src h4 ρ) fun x=>qa8 (fun d ρ1=>qd (Qn h3 d ρ1) fun ρ2=>S3.ss Γ body b' h2 ρ2) _ _
 | While c body orelse p=>
  cases orelse with
  | cons _ _=>cases h
  | nil=>obtain ⟨c',b',h1,h2,rfl⟩:=ql h;exact qcJ (S.t Γ c c' h1) (S3.ss Γ body b' h2) _ _
 | _=>cases h
theorem qe7 (S3:Same3 m w) (Γ:Ct) (l:List Stmt) (x:Ss) (h:cSs (m+1) Γ l=some x) (ρ:Env):qa1 (m+1) w Γ l ρ=iSs Γ.k w x ρ:=by
 cases l with
 | nil=>cases h;rfl
 | cons st l=>
  obtain ⟨a,b,h1,h2,rfl⟩:=ql h;refine qd (S3.s Γ st a h1 ρ) fun f=>?_
  cases f with
  | next ρ1=>exact S3.ss Γ l b h2 ρ1
  | ret r=>rfl
theorem qhC:∀ m,Same3 m w
 | 0=>⟨(fun _ _ _ h=>nomatch h),(fun _ _ _ h=>nomatch h)⟩
 | m+1=>have S3:=qhC m;⟨qhB S3,qe7 S3⟩
end
noncomputable def qkM (pg:Pg) (k:Nat) (cl:Str->List Ar->R Rv) (st:Stmt):Option (Nat×Nat×Ss):=oif (jd st) ((cSs pg.m (pg.ct k cl st) (qI st)).map fun b=>((Jm st).length,(fnN st).length,b))
def slN (n:Nat) (args:List Ar):Env:=args.map toSl++List.replicate (n - args.length) .no
noncomputable def runD (cl:Cl) (w:Nat) (c:Nat×Nat×Ss) (args:List Ar):R Rv:=if args.length=c.1 then (iSs cl w c.2.2 (slN c.2.1 args)).th flR else .no
def Pg.kk (pg:Pg) (k:Nat):Cl:=⟨clK pg k,pg.cs,pg.nw k⟩
theorem qw {pg:Pg} {f:Str} {st:Stmt} {c:Nat×Nat×Ss} (hl:(pg.defs++pg.meths).lookup f=some st) (hc:∀ k cl,qkM pg k cl st=some c) (k:Nat) (args:List Ar):clK pg (k+1) f args=runD (pg.kk k) pg.w c args:=by
 obtain ⟨h1,h2⟩:=qk (hc k (clK pg k));obtain ⟨b,h3,rfl⟩:=map_some h2;rw [yy hl];unfold evF runD
 by_cases hn:args.length=(Jm st).length
 ·rw [if_pos (by rw [h1,hn];simp),if_pos hn];exact qd ((qhC pg.m).ss _ _ _ h3 _) fun _=>rfl
 ·rw [if_neg (by simp [hn]),if_neg hn]
end DE
namespace DE
open PySem L2
variable {cl:Cl} {w:Nat}
theorem th_ok {α β:Type} (a:α) (f:α->R β):(R.ok a).th f=f a:=(rfl)
theorem of_some {α:Type} (a:α):R.of (some a)=.ok a:=(rfl)
noncomputable def j0 (cl:Cl) (w:Nat) (tg:Tg) (b:Ss) (l:List D) (ρ:Env):R Fl:=qeS (fun d ρ1=>(tg.go d ρ1).th fun ρ2=>iSs cl w b ρ2) l ρ
noncomputable def zN (cl:Cl) (e:E) (tg:Tg) (c:F) (l:List D) (ρ:Env) (acc:List D):R (List D):=YA tg.go (fun ρ1=>iF cl c ρ1) (zV e (iR cl e)) l ρ acc
def qcK (f:Fl) (g:Env->R Fl):R Fl:=match f with
 | .next ρ1=>g ρ1
 | .ret r=>.ok (.ret r)
section
variable (cl:Cl) (w:Nat) (ρ:Env)
theorem qcL (tg:Tg) (b:Ss):j0 cl w tg b [] ρ=.ok (.next ρ):=(rfl)
theorem qa9 (tg:Tg) (b:Ss) (d:D) (l:List D):j0 cl w tg b (d::l) ρ=((tg.go d ρ).th fun ρ2=>iSs cl w b ρ2).th fun f=>qcK f fun ρ1=>j0 cl w tg b l ρ1:=(rfl)
theorem jS (e:E) (tg:Tg) (c:F) (acc:List D):zN cl e tg c [] ρ acc=.ok acc:=(rfl)
theorem ZL (e:E) (tg:Tg) (c:F) (d:D) (l acc:List D):zN cl e tg c (d::l) ρ acc=(tg.go d ρ).th fun ρ1=>(iF cl c ρ1).th fun bt=>if bt.1=true then (zV e (iR cl e) bt.2).th fun x=>if acc.length < sizeLine then zN cl e tg c l x.2 (acc++[x.1]) else .no else zN cl e tg c l bt.2 acc:=(rfl)
theorem qhD (i:Nat) (e:E):iS cl w (.app i e) ρ=(match zv ρ i with
  | none=>.no
  | some _=>(zV e (iR cl e) ρ).th fun y=>(match zv y.2 i with
   | some l=>if l.length < sizeLine then .ok (.next (y.2.set i (.own (l++[y.1])))) else .no
   | none=>.no)):=(rfl)
theorem qhE (e:E):iS cl w (.ret e) ρ=(Y6 e (iR cl e) ρ).th fun r=>.ok (.ret r):=(rfl)
theorem qhF (i:Nat) (e:E):iS cl w (.set i e) ρ=(Qo e (iR cl e) ρ).th fun s=>.ok (.next (s.2.set i s.1)):=(rfl)
theorem qe8 (tg:Tg) (e:E):iS cl w (.setT tg e) ρ=(zV e (iR cl e) ρ).th fun x=>(tg.go x.1 x.2).th fun ρ1=>.ok (.next ρ1):=(rfl)
theorem qe9 (i:Nat) (x e:E):iS cl w (.setI i x e) ρ=(zV e (iR cl e) ρ).th fun y=>(match zv y.2 i with
  | none=>.no
  | some _=>(iR cl x y.2).th fun z=>(match zv z.2 i,z.1.int? with
   | some l,some n=>(match ixN l.length n with
    | some k=>.ok (.next (z.2.set i (.own (l.set k y.1))))
    | none=>.no)
   | _,_=>.no)):=(rfl)
theorem qhG (c:T) (a b:Ss):iS cl w (.ite c a b) ρ=(iT cl c ρ).th fun t=>if t.1=true then iSs cl w a t.2 else iSs cl w b t.2:=(rfl)
theorem qhH (tg:Tg) (src:I) (b:Ss):iS cl w (.for_ tg src b) ρ=(iI cl src ρ).th fun x=>j0 cl w tg b x.1 x.2:=(rfl)
theorem qcM (s:S) (l:Ss):iSs cl w (.cons s l) ρ=(iS cl w s ρ).th fun f=>qcK f fun ρ1=>iSs cl w l ρ1:=(rfl)
theorem qhI (op:Operator) (a b:E):iR cl (.bin op a b) ρ=(iR cl a ρ).th fun x=>(iR cl b x.2).th fun y=>(Qe op x.1 y.1).th fun r=>.ok (r,y.2):=(rfl)
theorem qhJ (a:E):iR cl (.neg a) ρ=(iR cl a ρ).th fun x=>match x.1 with
  | .val (.int i)=>.ok (.val (.int (-i)),x.2)
  | _=>.no:=(rfl)
theorem qhK (a:E):iR cl (.not a) ρ=(iR cl a ρ).th fun x=>match x.1 with
  | .val (.bl b)=>.ok (.val (.bl (!b)),x.2)
  | _=>.no:=(rfl)
theorem qhL (a b:E):iR cl (.and a b) ρ=(iR cl a ρ).th fun x=>match x.1 with
  | .val (.bl true)=>iR cl b x.2
  | .val (.bl false)=>.ok (.val (.bl false),x.2)
  | _=>.no:=(rfl)
theorem qhM (op:CmpOp) (a b:E):iR cl (.cmp op a b) ρ=(iR cl a ρ).th fun x=>(iR cl b x.2).th fun y=>(R.of (jQ op x.1 y.1)).th fun r=>.ok (.val (.bl r),y.2):=(rfl)
theorem qhN (a i:E):iR cl (.idx a i) ρ=(iR cl a ρ).th fun x=>(iR cl i x.2).th fun y=>(idxD x.1 y.1).th fun r=>.ok (r,y.2):=(rfl)
theorem qhO (a:E) (lo hi:O):iR cl (.sli a lo hi) ρ=(iR cl a ρ).th fun x=>(iO cl lo x.2).th fun l=>(iO cl hi l.2).th fun h=>(sliceD x.1 l.1 h.1).th fun r=>.ok (r,h.2):=(rfl)
theorem qhP (l:Es):iR cl (.lst l) ρ=(iEs cl l ρ).th fun x=>if x.1.length<=sizeLine then .ok (.tmp x.1,x.2) else .no:=(rfl)
theorem qhQ (l:Es):iR cl (.tup l) ρ=(iEs cl l ρ).th fun x=>if x.1.length<=sizeLine then .ok (.val (.tup x.1),x.2) else .no:=(rfl)
theorem qfa (f:Str) (l:Es):iR cl (.call f l) ρ=(iAs cl l ρ).th fun x=>(cl f x.1).th fun r=>.ok (r,x.2):=(rfl)
theorem qjs (f:B1) (a:E):iR cl (.b1 f a) ρ=(iR cl a ρ).th fun x=>(f.go x.1).th fun r=>.ok (r,x.2):=(rfl)
theorem qjt (f:B2) (a b:E):iR cl (.b2 f a b) ρ=(iR cl a ρ).th fun x=>(iR cl b x.2).th fun y=>(f.go x.1 y.1).th fun r=>.ok (r,y.2):=(rfl)
theorem qhR (t:Ty) (a:E):iR cl (.isi t a) ρ=(iR cl a ρ).th fun x=>(R.of (t.go x.1)).th fun b=>.ok (.val (.bl b),x.2):=(rfl)
theorem qhS (t:Str) (a:E):iR cl (.isc t a) ρ=(iR cl a ρ).th fun x=>(R.of (qbM cl.cs x.1 t)).th fun b=>.ok (.val (.bl b),x.2):=(rfl)
theorem qhT (a:E) (x:Str):iR cl (.fld a x) ρ=(iR cl a ρ).th fun y=>(R.of (qcl cl.cs y.1 x)).th fun d=>.ok (.val d,y.2):=(rfl)
noncomputable def goM (cl:Cl) (x:Str) (l:Es) (v:Rv) (ρ:Env):Option Str->R (Rv×Env)
 | some f=>(iAs cl l ρ).th fun z=>(cl f (toAr v::z.1)).th fun r=>.ok (r,z.2)
 | none=>if x = "index" then (iAs cl l ρ).th fun z=>(ixM v z.1).th fun r=>.ok (r,z.2) else .no
theorem qhU (a:E) (x:Str) (l:Es):iR cl (.met a x l) ρ=(iR cl a ρ).th fun y=>goM cl x l y.1 y.2 (mtD cl.cs y.1 x):=by
 show (iR cl a ρ).th _=_
 congr 1
theorem qhV (f:Str) (l:Es):iR cl (.new f l) ρ=(iAs cl l ρ).th fun x=>(cl.nw f x.1).th fun r=>.ok (r,x.2):=(rfl)
theorem qfb (e:E) (src:I) (tg:Tg) (c:F) (n:Nat) (fr:List Nat):iR cl (.comp e src tg c n fr) ρ=(iI cl src ρ).th fun x=>if x.1.length<=sizeLine then (zN cl e tg c x.1 (qdM n fr x.2) []).th fun l=>.ok (.tmp l,x.2) else .no:=(rfl)
theorem qhW (a:T):iT cl (.not a) ρ=(iT cl a ρ).th fun t=>.ok (!t.1,t.2):=(rfl)
theorem qhX (a b:T):iT cl (.and a b) ρ=(iT cl a ρ).th fun t=>if t.1=true then iT cl b t.2 else .ok (false,t.2):=(rfl)
theorem qju (a b:T):iT cl (.or a b) ρ=(iT cl a ρ).th fun t=>if t.1=true then .ok (true,t.2) else iT cl b t.2:=(rfl)
theorem qhY (op:CmpOp) (a b:E):iT cl (.cmp op a b) ρ=(iR cl a ρ).th fun x=>(iR cl b x.2).th fun y=>(R.of (jQ op x.1 y.1)).th fun r=>.ok (r,y.2):=(rfl)
theorem qhZ (op op':CmpOp) (a b c:E):iT cl (.chn op op' a b c) ρ=(iR cl a ρ).th fun x=>(iR cl b x.2).th fun y=>(R.of (jQ op x.1 y.1)).th fun r=>if r=true then (iR cl c y.2).th fun z=>(R.of (jQ op' y.1 z.1)).th fun r'=>.ok (r',z.2) else .ok (false,y.2):=(rfl)
theorem qh0 (a:E):iT cl (.val a) ρ=(iR cl a ρ).th fun x=>(R.of (truthD x.1)).th fun b=>.ok (b,x.2):=(rfl)
theorem qcN (e:E) (l:Es):iEs cl (.cons e l) ρ=(zV e (iR cl e) ρ).th fun x=>(iEs cl l x.2).th fun y=>.ok (x.1::y.1,y.2):=(rfl)
theorem qcO (e:E) (l:Es):iAs cl (.cons e l) ρ=(iR cl e ρ).th fun x=>(iAs cl l x.2).th fun y=>.ok (toAr x.1::y.1,y.2):=(rfl)
theorem qfc (e:E):iO cl (.some e) ρ=(iR cl e ρ).th fun x=>match x.1 with
  | .val (.int i)=>.ok (some i,x.2)
  | _=>.no:=(rfl)
theorem qh1 (a:E):iI cl (.seq a) ρ=(y9 a (iR cl a) ρ).th fun x=>.ok (x.1.2,x.2):=(rfl)
theorem qh2 (a:E):iI cl (.rng a) ρ=(iR cl a ρ).th fun x=>(match x.1.int? with
  | some n=>if qN n=true then .ok (qH 0 n,x.2) else .no
  | none=>.no):=(rfl)
theorem qfd (a b c:E):iI cl (.rng3 a b c) ρ=(iR cl a ρ).th fun x=>(iR cl b x.2).th fun y=>(iR cl c y.2).th fun z=>(rg3 x.1 y.1 z.1).th fun l=>.ok (l,z.2):=(rfl)
theorem qfe (a:E):iI cl (.enum a) ρ=(y9 a (iR cl a) ρ).th fun x=>match x.1.1 with | .lst=>.ok (yr x.1.2,x.2) | _=>.no:=(rfl)
variable (s:Sl) (i:Nat) (d:D) (l:List D)
theorem slR_s:slR (s::ρ) (i+1)=slR ρ i:=(rfl)
theorem slR_v:slR (.val d::ρ) 0=.ok (.val d):=(rfl)
theorem slR_o:slR (.own l::ρ) 0=.ok (.cell l):=(rfl)
theorem slR_b:slR (.bor l::ρ) 0=.ok (.cell l):=(rfl)
theorem slR_c:slR (.scr l::ρ) 0=.ok (.scr l):=(rfl)
theorem slX_s:slX (s::ρ) (i+1)=slX ρ i:=(rfl)
theorem slX_v:slX (.val d::ρ) 0=.ok (.val d):=(rfl)
theorem slX_o:slX (.own l::ρ) 0=.ok (.tmp l):=(rfl)
theorem qjv:slE (s::ρ) (i+1)=(slE ρ i).th fun x=>.ok (x.1,s::x.2):=by
 show (match ρ[i]? with | some (.val d)=>_ | some (.own l)=>_ | _=>_)=R.th (match ρ[i]? with | some (.val d)=>_ | some (.own l)=>_ | _=>_) _
 cases ρ[i]? with
 | none=>rfl
 | some z=>cases z<;>rfl
theorem qjw:slL (s::ρ) (i+1)=(slL ρ i).th fun x=>.ok (x.1,s::x.2):=by
 show (match ρ[i]? with | some (.val (.lst l))=>_ | some (.val (.tup l))=>_ | some (.val (.str z))=>_ | some (.own l)=>_ | some (.bor l)=>_ | some (.scr l)=>_ | _=>_)=R.th (match ρ[i]? with | some (.val (.lst l))=>_ | some (.val (.tup l))=>_ | some (.val (.str z))=>_ | some (.own l)=>_ | some (.bor l)=>_ | some (.scr l)=>_ | _=>_) _
 cases ρ[i]? with
 | none=>rfl
 | some z=>
  cases z with
  | val d=>cases d<;>rfl
  | _=>rfl
theorem ownI_s:zv (s::ρ) (i+1)=zv ρ i:=(rfl)
theorem ownI_o:zv (.own l::ρ) 0=some l:=(rfl)
end
mutual
noncomputable def okD:D->Bool
 | .str s=>PyData.strOk s
 | .lst l=>qdP l
 | .tup l=>qdP l
 | .ins ..=>false
 | .non=>true
 | .bl _=>true
 | .int _=>true
noncomputable def qdP:List D->Bool
 | []=>true
 | d::l=>okD d&&qdP l
end
mutual
noncomputable def dpD:D->Nat
 | .lst l=>qcP l+1
 | .tup l=>qcP l+1
 | .str _=>0
 | .ins ..=>0
 | .non=>0
 | .bl _=>0
 | .int _=>0
noncomputable def qcP:List D->Nat
 | []=>0
 | d::l=>max (dpD d) (qcP l)
end
mutual
theorem qdQ:∀ d:D,okD d=true->∃ p,toP d=some p/\p.canLay0=true/\p.depth=dpD d/\PyData.eqv p p=true
 | .non,_=>⟨_,by rw [toP],by rw [PyData.canLay0],by rw [PyData.depth,dpD],by rw [PyData.eqv]⟩
 | .bl b,_=>⟨_,by rw [toP],by rw [PyData.canLay0],by rw [PyData.depth,dpD],by rw [PyData.eqv];simp⟩
 | .int n,_=>⟨_,by rw [toP],by rw [PyData.canLay0],by rw [PyData.depth,dpD],by rw [PyData.eqv];simp⟩
 | .str s,h=>⟨_,by rw [toP],by rw [PyData.canLay0];rw [okD] at h;exact h,by rw [PyData.depth,dpD],by rw [PyData.eqv];simp⟩
 | .lst l,h=>by rw [okD] at h;obtain ⟨p,h1,h2,h3,h4⟩:=Qp l h;exact ⟨.list p,by rw [toP,h1];rfl,by rw [PyData.canLay0];exact h2,by rw [PyData.depth,dpD,h3],by rw [PyData.eqv];exact h4⟩
 | .tup l,h=>by rw [okD] at h;obtain ⟨p,h1,h2,h3,h4⟩:=Qp l h;exact ⟨.tuple p,by rw [toP,h1];rfl,by rw [PyData.canLay0];exact h2,by rw [PyData.depth,dpD,h3],by rw [PyData.eqv];exact h4⟩
 | .ins ..,h=>by rw [okD] at h;cases h
theorem Qp:∀ l:List D,qdP l=true->∃ p,qck l=some p/\PyData.canLayAll0 p=true/\PyData.depthAll p=qcP l/\PyData.eqvAll p p=true
 | [],_=>⟨[],by rw [qck],by rw [PyData.canLayAll0],by rw [PyData.depthAll,qcP],by rw [PyData.eqvAll]⟩
 | d::l,h=>by rw [qdP,Bool.and_eq_true] at h;obtain ⟨p,h1,h2,h3,h4⟩:=qdQ d h.1;obtain ⟨q,h5,h6,h7,h8⟩:=Qp l h.2;exact ⟨p::q,by rw [qck,h1,h5];rfl,by rw [PyData.canLayAll0,h2,h6];rfl,by rw [PyData.depthAll,qcP,h3,h7],by rw [PyData.eqvAll,h4,h8];rfl⟩
end
theorem qh3 {d:D} (h:okD d=true) (hd:dpD d<=64):∃ p,toP d=some p/\SeqAt.shaped p=true/\PyData.eqv p p=true:=by obtain ⟨p,h1,h2,h3,h4⟩:=qdQ d h;exact ⟨p,h1,by unfold SeqAt.shaped;rw [h2,h3];simpa using hd,h4⟩
theorem JS {d:D} (h:okD d=true) (hd:dpD d<=64):eqD d d=some true:=by obtain ⟨p,h1,h2,h3⟩:=qh3 h hd;unfold eqD;rw [h1];dsimp only;rw [h2,h3];rfl
theorem j9 {a b:Str} (ha:PyData.strOk a=true) (hb:PyData.strOk b=true):eqD (.str a) (.str b)=some (a == b):=by unfold eqD;simp only [toP];rw [show SeqAt.shaped (.str a)=true by unfold SeqAt.shaped;simp [PyData.canLay0,PyData.depth,ha],show SeqAt.shaped (.str b)=true by unfold SeqAt.shaped;simp [PyData.canLay0,PyData.depth,hb]];simp [PyData.eqv]
theorem qh4:SeqAt.shaped .none=true:=by unfold SeqAt.shaped;simp [PyData.canLay0,PyData.depth]
theorem qh5 (n:Int):SeqAt.shaped (.int n)=true:=by unfold SeqAt.shaped;simp [PyData.canLay0,PyData.depth]
theorem qh6 {a:Str} (ha:PyData.strOk a=true):SeqAt.shaped (.str a)=true:=by unfold SeqAt.shaped;simp [PyData.canLay0,PyData.depth,ha]
theorem qR (a b:Int):eqD (.int a) (.int b)=some (a == b):=by unfold eqD;simp only [toP,qh5,Bool.and_self,if_true,PyData.eqv]
theorem qh7 {a:Str} (ha:PyData.strOk a=true):eqD (.str a) .non=some false:=by unfold eqD;simp only [toP,qh4,qh6 ha,Bool.and_self,if_true,PyData.eqv]
theorem JT {α:Type} {l:List α} {i:Int} {j:Nat} (h:i=(j:Int)) (hj:j < l.length):atI l i=some l[j]:=by subst h;unfold atI ixN;rw [if_pos (1:),if_pos (1:)];simp [hj]
theorem qcQ {n:Nat}:ixN (n+1) (-1)=some n:=by unfold ixN;rw [if_neg (1:),if_pos (1:),show ((-1:Int)+((n+1:Nat):Int)).toNat=n by omega]
theorem kk_f (pg:Pg) (k:Nat) (f:Str) (args:List Ar):(pg.kk k).f f args=clK pg k f args:=(rfl)
theorem kk_cs (pg:Pg) (k:Nat):(pg.kk k).cs=pg.cs:=(rfl)
theorem kk_nw (pg:Pg) (k:Nat) (f:Str) (args:List Ar):(pg.kk k).nw f args=pg.nw k f args:=(rfl)
end DE
namespace DE
open PySem L2
theorem at_0 {α:Type} (a:α) (l:List α):atI (a::l) 0=some a:=by exact JT (i:=0) (j:=0) rfl (by simp)
theorem at_1 {α:Type} (a b:α) (l:List α):atI (a::b::l) 1=some b:=by exact JT (i:=1) (j:=1) rfl (by simp)
theorem at_2 {α:Type} (a b c:α) (l:List α):atI (a::b::c::l) 2=some c:=by exact JT (i:=2) (j:=2) rfl (by simp)
theorem qjx {α:Type} {l:List α} {j:Nat} {x:α} (h:l[j]?=some x):atI l (j:Int)=some x:=by obtain ⟨h1,h2⟩:=List.getElem?_eq_some_iff.mp h;rw [JT rfl h1,h2]
def enF (i:Nat):List D->List D
 | []=>[]
 | d::l=>.tup [.int i,d]::enF (i+1) l
theorem qdR:∀ (l:List D) (i:Nat),(List.range' i l.length).zipWith (fun (i:Nat) d=>D.tup [.int i,d]) l=enF i l
 | [],i=>rfl
 | d::l,i=>by rw [List.length_cons,List.range'_succ,List.zipWith_cons_cons,qdR l (i+1)];rfl
theorem JU (l:List D):yr l=enF 0 l:=by unfold yr;rw [List.range_eq_range',qdR]
def rgF (i:Int):Nat->List D
 | 0=>[]
 | n+1=>.int i::rgF (i+1) n
theorem qdS:∀ (n:Nat) (lo:Int) (s:Nat),(List.range' s n).map (fun i:Nat=>D.int (lo+i))=rgF (lo+s) n
 | 0,_,_=>rfl
 | n+1,lo,s=>by rw [List.range'_succ,List.map_cons,qdS n lo (s+1)];show _=D.int (lo+s)::rgF (lo+s+1) n;rw [show lo+((s+1:Nat):Int)=lo+s+1 by omega]
theorem je (lo hi:Int):qH lo hi=rgF lo (hi - lo).toNat:=by
 unfold qH;rw [List.range_eq_range',qdS]
 congr 1
 omega
theorem ixN_app {α:Type} (l:List α) (x:α):ixN (l++[x]).length (-1)=some l.length:=by rw [List.length_append];exact qcQ
theorem set_app {α:Type} (l:List α) (x y:α):(l++[x]).set l.length y=l++[y]:=by simp
theorem emp_app {α:Type} (l:List α) (x:α):(l++[x]).isEmpty=false:=by cases l<;>rfl
end DE
namespace DE
open PySem L2
theorem qc {α β γ:Type} (x:R α) (f:α->R β) (g:β->R γ):(x.th f).th g=x.th fun a=>(f a).th g:=by cases x<;>rfl
theorem qt {α:Type} (x:R α):x.th R.ok=x:=by cases x<;>rfl
section
variable {β:Type} (cl:Cl) (w:Nat)
def JV (ρ:Env) (K:Rv×Env->R β) (r:Rv):R β:=K (r,ρ)
def kBl (ρ:Env) (K:Rv×Env->R β) (b:Bool):R β:=K (.val (.bl b),ρ)
def kBo (ρ:Env) (K:Bool×Env->R β) (b:Bool):R β:=K (b,ρ)
def qjy (ρ:Env) (K:Rv×Env->R β) (l:List D):R β:=K (.tmp l,ρ)
def kB2 (op:Operator) (u:Rv) (K:Rv×Env->R β) (y:Rv×Env):R β:=(Qe op u y.1).th (JV y.2 K)
def kB1 (op:Operator) (b:E) (K:Rv×Env->R β) (x:Rv×Env):R β:=(iR cl b x.2).th (kB2 op x.1 K)
noncomputable def qjS (K:Rv×Env->R β) (x:Rv×Env):R β:=R.th (match x.1 with
  | .val (.int i)=>.ok (.val (.int (-i)),x.2)
  | _=>.no) K
noncomputable def qjT (K:Rv×Env->R β) (x:Rv×Env):R β:=R.th (match x.1 with
  | .val (.bl b)=>.ok (.val (.bl (!b)),x.2)
  | _=>.no) K
noncomputable def qjU (b:E) (K:Rv×Env->R β) (x:Rv×Env):R β:=R.th (match x.1 with
  | .val (.bl true)=>iR cl b x.2
  | .val (.bl false)=>.ok (.val (.bl false),x.2)
  | _=>.no) K
def kC2 (op:CmpOp) (u:Rv) (K:Rv×Env->R β) (y:Rv×Env):R β:=(R.of (jQ op u y.1)).th (kBl y.2 K)
def kC1 (op:CmpOp) (b:E) (K:Rv×Env->R β) (x:Rv×Env):R β:=(iR cl b x.2).th (kC2 op x.1 K)
def kI2 (u:Rv) (K:Rv×Env->R β) (y:Rv×Env):R β:=(idxD u y.1).th (JV y.2 K)
def kI1 (b:E) (K:Rv×Env->R β) (x:Rv×Env):R β:=(iR cl b x.2).th (kI2 x.1 K)
noncomputable def kS3 (v:Rv) (l:Option Int) (K:Rv×Env->R β) (h:Option Int×Env):R β:=(sliceD v l h.1).th (JV h.2 K)
def kS2 (v:Rv) (hi:O) (K:Rv×Env->R β) (l:Option Int×Env):R β:=(iO cl hi l.2).th (kS3 v l.1 K)
def kS1 (lo hi:O) (K:Rv×Env->R β) (x:Rv×Env):R β:=(iO cl lo x.2).th (kS2 cl x.1 hi K)
def qjV (K:Rv×Env->R β) (x:List D×Env):R β:=if x.1.length<=sizeLine then K (.tmp x.1,x.2) else .no
noncomputable def qjW (K:Rv×Env->R β) (x:List D×Env):R β:=if x.1.length<=sizeLine then K (.val (.tup x.1),x.2) else .no
def qh8 (f:Str) (K:Rv×Env->R β) (x:List Ar×Env):R β:=(cl f x.1).th (JV x.2 K)
def kF1 (f:B1) (K:Rv×Env->R β) (x:Rv×Env):R β:=(f.go x.1).th (JV x.2 K)
def kG2 (f:B2) (u:Rv) (K:Rv×Env->R β) (y:Rv×Env):R β:=(f.go u y.1).th (JV y.2 K)
def kG1 (f:B2) (b:E) (K:Rv×Env->R β) (x:Rv×Env):R β:=(iR cl b x.2).th (kG2 f x.1 K)
def qjX (t:Str) (K:Rv×Env->R β) (x:Rv×Env):R β:=(R.of (qbM cl.cs x.1 t)).th (kBl x.2 K)
def qjz (ρ:Env) (K:Rv×Env->R β) (d:D):R β:=K (.val d,ρ)
def qjY (x:Str) (K:Rv×Env->R β) (y:Rv×Env):R β:=(R.of (qcl cl.cs y.1 x)).th (qjz y.2 K)
def qjA (f:Str) (v:Rv) (K:Rv×Env->R β) (z:List Ar×Env):R β:=(cl f (toAr v::z.1)).th (JV z.2 K)
def qjB (v:Rv) (l:Es) (ρ:Env) (K:Rv×Env->R β) (f:Str):R β:=(iAs cl l ρ).th (qjA cl f v K)
def qkN (v:Rv) (K:Rv×Env->R β) (z:List Ar×Env):R β:=(ixM v z.1).th (JV z.2 K)
noncomputable def qjC (x:Str) (v:Rv) (l:Es) (ρ:Env) (K:Rv×Env->R β) (o:Option Str):R β:=match o with
 | some f=>qjB cl v l ρ K f
 | none=>if x = "index" then (iAs cl l ρ).th (qkN v K) else .no
def qjD (x:Str) (l:Es) (K:Rv×Env->R β) (y:Rv×Env):R β:=qjC cl x y.1 l y.2 K (mtD cl.cs y.1 x)
def qjZ (f:Str) (K:Rv×Env->R β) (x:List Ar×Env):R β:=(cl.nw f x.1).th (JV x.2 K)
def qj0 (t:Ty) (K:Rv×Env->R β) (x:Rv×Env):R β:=(R.of (t.go x.1)).th (kBl x.2 K)
noncomputable def qh9 (e:E) (tg:Tg) (c:F) (n:Nat) (fr:List Nat) (K:Rv×Env->R β) (x:List D×Env):R β:=if x.1.length<=sizeLine then (zN cl e tg c x.1 (qdM n fr x.2) []).th (qjy x.2 K) else .no
def kTn (K:Bool×Env->R β) (t:Bool×Env):R β:=K (!t.1,t.2)
noncomputable def kTa (b:T) (K:Bool×Env->R β) (t:Bool×Env):R β:=if t.1=true then (iT cl b t.2).th K else K (false,t.2)
noncomputable def kTo (b:T) (K:Bool×Env->R β) (t:Bool×Env):R β:=if t.1=true then K (true,t.2) else (iT cl b t.2).th K
def kD2 (op:CmpOp) (u:Rv) (K:Bool×Env->R β) (y:Rv×Env):R β:=(R.of (jQ op u y.1)).th (kBo y.2 K)
def kD1 (op:CmpOp) (b:E) (K:Bool×Env->R β) (x:Rv×Env):R β:=(iR cl b x.2).th (kD2 op x.1 K)
noncomputable def kN2 (op:CmpOp) (c:E) (v:Rv) (ρ:Env) (K:Bool×Env->R β) (r:Bool):R β:=if r=true then (iR cl c ρ).th (kD2 op v K) else K (false,ρ)
noncomputable def kN1 (op op':CmpOp) (c:E) (u:Rv) (K:Bool×Env->R β) (y:Rv×Env):R β:=(R.of (jQ op u y.1)).th (kN2 cl op' c y.1 y.2 K)
noncomputable def kN0 (op op':CmpOp) (b c:E) (K:Bool×Env->R β) (x:Rv×Env):R β:=(iR cl b x.2).th (kN1 cl op op' c x.1 K)
def kTv (K:Bool×Env->R β) (x:Rv×Env):R β:=(R.of (truthD x.1)).th (kBo x.2 K)
def kE2 (d:D) (K:List D×Env->R β) (y:List D×Env):R β:=K (d::y.1,y.2)
def kE1 (l:Es) (K:List D×Env->R β) (x:D×Env):R β:=(iEs cl l x.2).th (kE2 x.1 K)
def kA2 (v:Rv) (K:List Ar×Env->R β) (y:List Ar×Env):R β:=K (toAr v::y.1,y.2)
def kA1 (l:Es) (K:List Ar×Env->R β) (x:Rv×Env):R β:=(iAs cl l x.2).th (kA2 x.1 K)
noncomputable def kO (K:Option Int×Env->R β) (x:Rv×Env):R β:=R.th (match x.1 with
  | .val (.int i)=>.ok (some i,x.2)
  | _=>.no) K
def qj1 (K:List D×Env->R β) (x:(Sk×List D)×Env):R β:=K (x.1.2,x.2)
noncomputable def qj2 (K:List D×Env->R β) (x:Rv×Env):R β:=R.th (match x.1.int? with
  | some n=>if qN n=true then .ok (qH 0 n,x.2) else .no
  | none=>.no) K
noncomputable def kR2 (u:Rv) (K:List D×Env->R β) (y:Rv×Env):R β:=R.th (match u.int?,y.1.int? with
  | some i,some j=>if qN i=true/\qN j=true then .ok (qH i j,y.2) else .no
  | _,_=>.no) K
def kLs (ρ:Env) (K:List D×Env->R β) (l:List D):R β:=K (l,ρ)
def kT3 (u v:Rv) (K:List D×Env->R β) (z:Rv×Env):R β:=(rg3 u v z.1).th (kLs z.2 K)
def kT2 (c:E) (u:Rv) (K:List D×Env->R β) (y:Rv×Env):R β:=(iR cl c y.2).th (kT3 u y.1 K)
def kT1 (b c:E) (K:List D×Env->R β) (x:Rv×Env):R β:=(iR cl b x.2).th (kT2 cl c x.1 K)
noncomputable def qia (K:List D×Env->R β) (x:(Sk×List D)×Env):R β:=R.th (match x.1.1 with | .lst=>.ok (yr x.1.2,x.2) | _=>.no) K
def qfO (K:D×Env->R β) (x:Rv×Env):R β:=(qdN x).th K
def Qq (K:(Sk×List D)×Env->R β) (x:Rv×Env):R β:=(qeV x).th K
noncomputable def kX (K:Rv->R β) (x:Rv×Env):R β:=R.th (match x.1 with
  | .val d=>.ok (.val d)
  | .tmp l=>.ok (.tmp l)
  | _=>.no) K
def kAv (K:Sl×Env->R β) (x:D×Env):R β:=K (.val x.1,x.2)
noncomputable def kAx (K:Sl×Env->R β) (x:Rv×Env):R β:=R.th (match x.1 with
  | .val d=>.ok (.val d,x.2)
  | .tmp l=>.ok (.own l,x.2)
  | _=>.no) K
def qff {α:Type} (s:Sl) (K:α×Env->R β) (x:α×Env):R β:=K (x.1,s::x.2)
def oGo (o:Option (List D)) (x:R β):R β:=match o with
 | none=>.no
 | some _=>x
noncomputable def qfg (i:Nat) (d:D) (ρ:Env) (K:Fl->R β) (o:Option (List D)):R β:=R.th (match o with
   | some l=>if l.length < sizeLine then .ok (.next (ρ.set i (.own (l++[d])))) else .no
   | none=>.no) K
def qj3 (i:Nat) (K:Fl->R β) (y:D×Env):R β:=qfg i y.1 y.2 K (zv y.2 i)
def kRt (K:Fl->R β) (r:Rv):R β:=K (.ret r)
def qj4 (i:Nat) (K:Fl->R β) (s:Sl×Env):R β:=K (.next (s.2.set i s.1))
def kNx (K:Fl->R β) (ρ:Env):R β:=K (.next ρ)
def kST (tg:Tg) (K:Fl->R β) (x:D×Env):R β:=(tg.go x.1 x.2).th (kNx K)
noncomputable def qjE (i:Nat) (d:D) (ρ:Env) (K:Fl->R β) (l:List D) (o:Option Nat):R β:=R.th (match o with
    | some k=>.ok (.next (ρ.set i (.own (l.set k d))))
    | none=>.no) K
noncomputable def qiC (i:Nat) (d:D) (ρ:Env) (K:Fl->R β) (o:Option (List D)) (v:Option Int):R β:=match o,v with
 | some l,some n=>qjE i d ρ K l (ixN l.length n)
 | _,_=>.no
def qjF (i:Nat) (d:D) (K:Fl->R β) (z:Rv×Env):R β:=qiC i d z.2 K (zv z.2 i) z.1.int?
def kSI (i:Nat) (x:E) (K:Fl->R β) (y:D×Env):R β:=oGo (zv y.2 i) ((iR cl x y.2).th (qjF i y.1 K))
noncomputable def qj5 (a b:Ss) (K:Fl->R β) (t:Bool×Env):R β:=if t.1=true then (iSs cl w a t.2).th K else (iSs cl w b t.2).th K
def qj6 (tg:Tg) (b:Ss) (K:Fl->R β) (x:List D×Env):R β:=(j0 cl w tg b x.1 x.2).th K
def qfh (l:Ss) (K:Fl->R β) (f:Fl):R β:=(qcK f fun ρ1=>iSs cl w l ρ1).th K
def qiD (tg:Tg) (b:Ss) (l:List D) (K:Fl->R β) (f:Fl):R β:=(qcK f fun ρ1=>j0 cl w tg b l ρ1).th K
def qj7 (tg:Tg) (b:Ss) (l:List D) (K:Fl->R β) (ρ:Env):R β:=(iSs cl w b ρ).th (qiD cl w tg b l K)
noncomputable def kP3 (e:E) (tg:Tg) (c:F) (l acc:List D) (K:List D->R β) (x:D×Env):R β:=if acc.length < sizeLine then (zN cl e tg c l x.2 (acc++[x.1])).th K else .no
noncomputable def kP2 (e:E) (tg:Tg) (c:F) (l acc:List D) (K:List D->R β) (t:Bool×Env):R β:=if t.1=true then (zV e (iR cl e) t.2).th (kP3 cl e tg c l acc K) else (zN cl e tg c l t.2 acc).th K
noncomputable def kP1 (e:E) (tg:Tg) (c:F) (l acc:List D) (K:List D->R β) (ρ:Env):R β:=(iF cl c ρ).th (kP2 cl e tg c l acc K)
theorem zF {α:Type} {c:Prop} [Decidable c] (x y:R α) (K:α->R β):(if c then x else y).th K=if c then x.th K else y.th K:=by split<;>rfl
theorem qz {α:Type} (x:R α) {f g:α->R β} (h:∀ a,f a=g a):x.th f=x.th g:=by cases x<;>first | rfl | exact h _
section
variable (ρ:Env) (K:Rv×Env->R β)
theorem xR_var (i:Nat):(iR cl (.var i) ρ).th K=(slR ρ i).th (JV ρ K):=(qc (slR ρ i) _ _)
theorem xR_con (d:D):(iR cl (.con d) ρ).th K=K (.val d,ρ):=(rfl)
theorem xR_bin (op:Operator) (a b:E):(iR cl (.bin op a b) ρ).th K=(iR cl a ρ).th (kB1 cl op b K):=by rw [qhI,qc];refine qz _ fun x=>?_;rw [qc];refine qz _ fun y=>?_;rw [qc];rfl
theorem xR_neg (a:E):(iR cl (.neg a) ρ).th K=(iR cl a ρ).th (qjS K):=by rw [qhJ,qc];rfl
theorem xR_not (a:E):(iR cl (.not a) ρ).th K=(iR cl a ρ).th (qjT K):=by rw [qhK,qc];rfl
theorem xR_one (a:E):(iR cl (.one a) ρ).th K=(iR cl a ρ).th K:=(rfl)
theorem xR_and (a b:E):(iR cl (.and a b) ρ).th K=(iR cl a ρ).th (qjU cl b K):=by rw [qhL,qc];rfl
theorem xR_cmp (op:CmpOp) (a b:E):(iR cl (.cmp op a b) ρ).th K=(iR cl a ρ).th (kC1 cl op b K):=by rw [qhM,qc];refine qz _ fun x=>?_;rw [qc];refine qz _ fun y=>?_;rw [qc];rfl
theorem xR_idx (a b:E):(iR cl (.idx a b) ρ).th K=(iR cl a ρ).th (kI1 cl b K):=by rw [qhN,qc];refine qz _ fun x=>?_;rw [qc];refine qz _ fun y=>?_;rw [qc];rfl
theorem xR_sli (a:E) (lo hi:O):(iR cl (.sli a lo hi) ρ).th K=(iR cl a ρ).th (kS1 cl lo hi K):=by rw [qhO,qc];refine qz _ fun x=>?_;rw [qc];refine qz _ fun y=>?_;rw [qc];refine qz _ fun z=>?_;rw [qc];rfl
theorem xR_lst (l:Es):(iR cl (.lst l) ρ).th K=(iEs cl l ρ).th (qjV K):=by rw [qhP,qc];refine qz _ fun x=>?_;rw [zF];rfl
theorem xR_tup (l:Es):(iR cl (.tup l) ρ).th K=(iEs cl l ρ).th (qjW K):=by rw [qhQ,qc];refine qz _ fun x=>?_;rw [zF];rfl
theorem xR_call (f:Str) (l:Es):(iR cl (.call f l) ρ).th K=(iAs cl l ρ).th (qh8 cl f K):=by rw [qfa,qc];refine qz _ fun x=>?_;rw [qc];rfl
theorem xR_b1 (f:B1) (a:E):(iR cl (.b1 f a) ρ).th K=(iR cl a ρ).th (kF1 f K):=by rw [qjs,qc];refine qz _ fun x=>?_;rw [qc];rfl
theorem xR_b2 (f:B2) (a b:E):(iR cl (.b2 f a b) ρ).th K=(iR cl a ρ).th (kG1 cl f b K):=by rw [qjt,qc];refine qz _ fun x=>?_;rw [qc];refine qz _ fun y=>?_;rw [qc];rfl
theorem xR_isc (t:Str) (a:E):(iR cl (.isc t a) ρ).th K=(iR cl a ρ).th (qjX cl t K):=by rw [qhS,qc];refine qz _ fun x=>?_;rw [qc];rfl
theorem xR_fld (a:E) (x:Str):(iR cl (.fld a x) ρ).th K=(iR cl a ρ).th (qjY cl x K):=by rw [qhT,qc];refine qz _ fun y=>?_;rw [qc];rfl
theorem xR_met (a:E) (x:Str) (l:Es):(iR cl (.met a x l) ρ).th K=(iR cl a ρ).th (qjD cl x l K):=by
 rw [qhU,qc];refine qz _ fun y=>?_;unfold qjD
 cases mtD cl.cs y.1 x with
 | some f=>unfold goM;rw [qc];refine qz _ fun z=>?_;rw [qc];rfl
 | none=>
  show (if x = "index" then _ else R.no).th K=if x = "index" then _ else R.no;rw [zF];split
  ·rw [qc];refine qz _ fun z=>?_;rw [qc];rfl
  ·rfl
theorem xR_new (f:Str) (l:Es):(iR cl (.new f l) ρ).th K=(iAs cl l ρ).th (qjZ cl f K):=by rw [qhV,qc];refine qz _ fun x=>?_;rw [qc];rfl
theorem xR_isi (t:Ty) (a:E):(iR cl (.isi t a) ρ).th K=(iR cl a ρ).th (qj0 t K):=by rw [qhR,qc];refine qz _ fun x=>?_;rw [qc];rfl
theorem xR_comp (e:E) (src:I) (tg:Tg) (c:F) (n:Nat) (fr:List Nat):(iR cl (.comp e src tg c n fr) ρ).th K=(iI cl src ρ).th (qh9 cl e tg c n fr K):=by rw [qfb,qc];refine qz _ fun x=>?_;rw [zF,qc];rfl
end
section
variable (ρ:Env) (K:Rv×Env->R β) (v u:Rv)
theorem yRet:JV ρ K v=K (v,ρ):=(rfl)
theorem yBl (b:Bool):kBl ρ K b=K (.val (.bl b),ρ):=(rfl)
theorem yTmp (l:List D):qjy ρ K l=K (.tmp l,ρ):=(rfl)
theorem yB1 (op:Operator) (b:E):kB1 cl op b K (v,ρ)=(iR cl b ρ).th (kB2 op v K):=(rfl)
theorem yB2 (op:Operator):kB2 op u K (v,ρ)=(Qe op u v).th (JV ρ K):=(rfl)
theorem yNeg (i:Int):qjS K (.val (.int i),ρ)=K (.val (.int (-i)),ρ):=(rfl)
theorem yNot (b:Bool):qjT K (.val (.bl b),ρ)=K (.val (.bl (!b)),ρ):=(rfl)
theorem yAnd (b:E) (t:Bool):qjU cl b K (.val (.bl t),ρ)=if t=true then (iR cl b ρ).th K else K (.val (.bl false),ρ):=by cases t<;>rfl
theorem yC1 (op:CmpOp) (b:E):kC1 cl op b K (v,ρ)=(iR cl b ρ).th (kC2 op v K):=(rfl)
theorem yC2 (op:CmpOp):kC2 op u K (v,ρ)=(R.of (jQ op u v)).th (kBl ρ K):=(rfl)
theorem yI1 (b:E):kI1 cl b K (v,ρ)=(iR cl b ρ).th (kI2 v K):=(rfl)
theorem yI2:kI2 u K (v,ρ)=(idxD u v).th (JV ρ K):=(rfl)
theorem yS1 (lo hi:O):kS1 cl lo hi K (v,ρ)=(iO cl lo ρ).th (kS2 cl v hi K):=(rfl)
theorem yS2 (hi:O) (l:Option Int):kS2 cl v hi K (l,ρ)=(iO cl hi ρ).th (kS3 v l K):=(rfl)
theorem yS3 (l h:Option Int):kS3 v l K (h,ρ)=(sliceD v l h).th (JV ρ K):=(rfl)
theorem yLst (l:List D):qjV K (l,ρ)=if l.length<=sizeLine then K (.tmp l,ρ) else .no:=(rfl)
theorem yTup (l:List D):qjW K (l,ρ)=if l.length<=sizeLine then K (.val (.tup l),ρ) else .no:=(rfl)
theorem yCall (f:Str) (l:List Ar):qh8 cl f K (l,ρ)=(cl f l).th (JV ρ K):=(rfl)
theorem yF1 (f:B1):kF1 f K (v,ρ)=(f.go v).th (JV ρ K):=(rfl)
theorem yG1 (f:B2) (b:E):kG1 cl f b K (v,ρ)=(iR cl b ρ).th (kG2 f v K):=(rfl)
theorem yG2 (f:B2):kG2 f u K (v,ρ)=(f.go u v).th (JV ρ K):=(rfl)
theorem yIsc (t:Str):qjX cl t K (v,ρ)=(R.of (qbM cl.cs v t)).th (kBl ρ K):=(rfl)
theorem yDat (d:D):qjz ρ K d=K (.val d,ρ):=(rfl)
theorem yFld (x:Str):qjY cl x K (v,ρ)=(R.of (qcl cl.cs v x)).th (qjz ρ K):=(rfl)
theorem yMt3 (f:Str) (l:List Ar):qjA cl f v K (l,ρ)=(cl f (toAr v::l)).th (JV ρ K):=(rfl)
theorem yMt2 (f:Str) (l:Es):qjB cl v l ρ K f=(iAs cl l ρ).th (qjA cl f v K):=(rfl)
theorem yMt1 (x:Str) (l:Es):qjD cl x l K (v,ρ)=qjC cl x v l ρ K (mtD cl.cs v x):=(rfl)
theorem yMtO (x:Str) (l:Es) (f:Str):qjC cl x v l ρ K (some f)=qjB cl v l ρ K f:=(rfl)
theorem yNew (f:Str) (l:List Ar):qjZ cl f K (l,ρ)=(cl.nw f l).th (JV ρ K):=(rfl)
theorem yIsi (t:Ty):qj0 t K (v,ρ)=(R.of (t.go v)).th (kBl ρ K):=(rfl)
theorem yComp (e:E) (tg:Tg) (c:F) (n:Nat) (fr:List Nat) (l:List D):qh9 cl e tg c n fr K (l,ρ)=if l.length<=sizeLine then (zN cl e tg c l (qdM n fr ρ) []).th (qjy ρ K) else .no:=(rfl)
end
section
variable (ρ:Env) (K:Bool×Env->R β) (v u:Rv) (t:Bool)
theorem xT_not (a:T):(iT cl (.not a) ρ).th K=(iT cl a ρ).th (kTn K):=by rw [qhW,qc];rfl
theorem xT_one (a:T):(iT cl (.one a) ρ).th K=(iT cl a ρ).th K:=(rfl)
theorem xT_and (a b:T):(iT cl (.and a b) ρ).th K=(iT cl a ρ).th (kTa cl b K):=by rw [qhX,qc];refine qz _ fun t=>?_;rw [zF];rfl
theorem xT_or (a b:T):(iT cl (.or a b) ρ).th K=(iT cl a ρ).th (kTo cl b K):=by rw [qju,qc];refine qz _ fun t=>?_;rw [zF];rfl
theorem xT_cmp (op:CmpOp) (a b:E):(iT cl (.cmp op a b) ρ).th K=(iR cl a ρ).th (kD1 cl op b K):=by rw [qhY,qc];refine qz _ fun x=>?_;rw [qc];refine qz _ fun y=>?_;rw [qc];rfl
theorem xT_chn (op op':CmpOp) (a b c:E):(iT cl (.chn op op' a b c) ρ).th K=(iR cl a ρ).th (kN0 cl op op' b c K):=by
 rw [qhZ,qc];refine qz _ fun x=>?_;rw [qc];refine qz _ fun y=>?_;rw [qc];refine qz _ fun r=>?_;rw [zF];show (if r=true then _ else _)=kN2 cl op' c y.1 y.2 K r;unfold kN2;split
 ·rw [qc];refine qz _ fun z=>?_;rw [qc];rfl
 ·rfl
theorem xT_val (a:E):(iT cl (.val a) ρ).th K=(iR cl a ρ).th (kTv K):=by rw [qh0,qc];refine qz _ fun x=>?_;rw [qc];rfl
theorem yBo:kBo ρ K t=K (t,ρ):=(rfl)
theorem yTn:kTn K (t,ρ)=K (!t,ρ):=(rfl)
theorem yTa (b:T):kTa cl b K (t,ρ)=if t=true then (iT cl b ρ).th K else K (false,ρ):=(rfl)
theorem yTo (b:T):kTo cl b K (t,ρ)=if t=true then K (true,ρ) else (iT cl b ρ).th K:=(rfl)
theorem yD1 (op:CmpOp) (b:E):kD1 cl op b K (v,ρ)=(iR cl b ρ).th (kD2 op v K):=(rfl)
theorem yD2 (op:CmpOp):kD2 op u K (v,ρ)=(R.of (jQ op u v)).th (kBo ρ K):=(rfl)
theorem yN0 (op op':CmpOp) (b c:E):kN0 cl op op' b c K (v,ρ)=(iR cl b ρ).th (kN1 cl op op' c v K):=(rfl)
theorem yN1 (op op':CmpOp) (c:E):kN1 cl op op' c u K (v,ρ)=(R.of (jQ op u v)).th (kN2 cl op' c v ρ K):=(rfl)
theorem yN2 (op:CmpOp) (c:E):kN2 cl op c v ρ K t=if t=true then (iR cl c ρ).th (kD2 op v K) else K (false,ρ):=(rfl)
theorem yTv:kTv K (v,ρ)=(R.of (truthD v)).th (kBo ρ K):=(rfl)
theorem xF_yes:(iF cl .yes ρ).th K=K (true,ρ):=(rfl)
theorem xF_test (c:T):(iF cl (.test c) ρ).th K=(iT cl c ρ).th K:=(rfl)
end
section
variable (ρ:Env)
theorem xEs_nil (K:List D×Env->R β):(iEs cl .nil ρ).th K=K ([],ρ):=(rfl)
theorem xEs_cons (K:List D×Env->R β) (e:E) (l:Es):(iEs cl (.cons e l) ρ).th K=(zV e (iR cl e) ρ).th (kE1 cl l K):=by rw [qcN,qc];refine qz _ fun x=>?_;rw [qc];rfl
theorem yE1 (K:List D×Env->R β) (l:Es) (d:D):kE1 cl l K (d,ρ)=(iEs cl l ρ).th (kE2 d K):=(rfl)
theorem yE2 (K:List D×Env->R β) (d:D) (ds:List D):kE2 d K (ds,ρ)=K (d::ds,ρ):=(rfl)
theorem xAs_nil (K:List Ar×Env->R β):(iAs cl .nil ρ).th K=K ([],ρ):=(rfl)
theorem xAs_cons (K:List Ar×Env->R β) (e:E) (l:Es):(iAs cl (.cons e l) ρ).th K=(iR cl e ρ).th (kA1 cl l K):=by rw [qcO,qc];refine qz _ fun x=>?_;rw [qc];rfl
theorem yA1 (K:List Ar×Env->R β) (l:Es) (v:Rv):kA1 cl l K (v,ρ)=(iAs cl l ρ).th (kA2 v K):=(rfl)
theorem yA2 (K:List Ar×Env->R β) (v:Rv) (l:List Ar):kA2 v K (l,ρ)=K (toAr v::l,ρ):=(rfl)
theorem xO_some (K:Option Int×Env->R β) (e:E):(iO cl (.some e) ρ).th K=(iR cl e ρ).th (kO K):=by rw [qfc,qc];rfl
theorem yO (K:Option Int×Env->R β) (i:Int):kO K (.val (.int i),ρ)=K (some i,ρ):=(rfl)
variable (K:List D×Env->R β)
theorem xI_seq (a:E):(iI cl (.seq a) ρ).th K=(y9 a (iR cl a) ρ).th (qj1 K):=by rw [qh1,qc];rfl
theorem xI_rng (a:E):(iI cl (.rng a) ρ).th K=(iR cl a ρ).th (qj2 K):=by rw [qh2,qc];rfl
theorem xI_rng3 (a b c:E):(iI cl (.rng3 a b c) ρ).th K=(iR cl a ρ).th (kT1 cl b c K):=by rw [qfd,qc];refine qz _ fun x=>?_;rw [qc];refine qz _ fun y=>?_;rw [qc];refine qz _ fun z=>?_;rw [qc];rfl
theorem yT1 (b c:E) (v:Rv):kT1 cl b c K (v,ρ)=(iR cl b ρ).th (kT2 cl c v K):=(rfl)
theorem yT2 (c:E) (u v:Rv):kT2 cl c u K (v,ρ)=(iR cl c ρ).th (kT3 u v K):=(rfl)
theorem yT3 (i j c:Int):kT3 (.val (.int i)) (.val (.int j)) K (.val (.int c),ρ)=if rgB i j c=true then K (zy i j c,ρ) else .no:=by unfold kT3;show (if rgB i j c=true then R.ok (zy i j c) else R.no).th _=_;rw [zF];rfl
theorem xI_enum (a:E):(iI cl (.enum a) ρ).th K=(y9 a (iR cl a) ρ).th (qia K):=by rw [qfe,qc];rfl
theorem ySeq (s:Sk) (l:List D):qj1 K ((s,l),ρ)=K (l,ρ):=(rfl)
theorem yRng (n:Int):qj2 K (.val (.int n),ρ)=if qN n=true then K (qH 0 n,ρ) else .no:=by show R.th (if qN n=true then _ else _) K=_;rw [zF];rfl
theorem yEnum (l:List D):qia K ((.lst,l),ρ)=K (yr l,ρ):=(rfl)
end
section
variable (ρ:Env) (s:Sl) (i:Nat) (d:D) (l:List D)
theorem yVal (K:D×Env->R β):qfO K (.val d,ρ)=K (d,ρ):=(rfl)
theorem yValL (K:(Sk×List D)×Env->R β):Qq K (.val (.lst l),ρ)=K ((.lst,l),ρ):=(rfl)
theorem yValLt (K:(Sk×List D)×Env->R β):Qq K (.val (.tup l),ρ)=K ((.tup,l),ρ):=(rfl)
theorem yValLm (K:(Sk×List D)×Env->R β):Qq K (.tmp l,ρ)=K ((.lst,l),ρ):=(rfl)
theorem yX (K:Rv->R β):kX K (.val d,ρ)=K (.val d):=(rfl)
theorem yXt (K:Rv->R β):kX K (.tmp l,ρ)=K (.tmp l):=(rfl)
theorem yAv (K:Sl×Env->R β):kAv K (d,ρ)=K (.val d,ρ):=(rfl)
theorem yAx (K:Sl×Env->R β):kAx K (.val d,ρ)=K (.val d,ρ):=(rfl)
theorem yAxt (K:Sl×Env->R β):kAx K (.tmp l,ρ)=K (.own l,ρ):=(rfl)
theorem yCons {α:Type} (K:α×Env->R β) (x:α):qff s K (x,ρ)=K (x,s::ρ):=(rfl)
theorem xE_s (K:D×Env->R β):(slE (s::ρ) (i+1)).th K=(slE ρ i).th (qff s K):=by rw [qjv,qc];rfl
theorem xE_v (K:D×Env->R β):(slE (.val d::ρ) 0).th K=K (d,.val d::ρ):=(rfl)
theorem xE_o (K:D×Env->R β):(slE (.own l::ρ) 0).th K=K (.lst l,.val (.lst l)::ρ):=(rfl)
variable (K:(Sk×List D)×Env->R β)
theorem xL_s:(slL (s::ρ) (i+1)).th K=(slL ρ i).th (qff s K):=by rw [qjw,qc];rfl
theorem xL_l:(slL (.val (.lst l)::ρ) 0).th K=K ((.lst,l),.val (.lst l)::ρ):=(rfl)
theorem xL_z (z:Str):(slL (.val (.str z)::ρ) 0).th K=K ((.str,ZF z),.val (.str z)::ρ):=(rfl)
theorem xL_o:(slL (.own l::ρ) 0).th K=K ((.lst,l),.val (.lst l)::ρ):=(rfl)
theorem xL_b:(slL (.bor l::ρ) 0).th K=K ((.lst,l),.bor l::ρ):=(rfl)
end
section
variable (ρ:Env) (K:Fl->R β) (i:Nat)
theorem oGo_some (l:List D) (x:R β):oGo (some l) x=x:=(rfl)
theorem xS_app (e:E):(iS cl w (.app i e) ρ).th K=oGo (zv ρ i) ((zV e (iR cl e) ρ).th (qj3 i K)):=by
 rw [qhD]
 cases zv ρ i with
 | none=>rfl
 | some l=>show R.th (R.th (zV e (iR cl e) ρ) _) K=_;rw [qc];rfl
theorem yApp (d:D):qj3 i K (d,ρ)=qfg i d ρ K (zv ρ i):=(rfl)
theorem yApp2 (d:D) (l:List D):qfg i d ρ K (some l)=if l.length < sizeLine then K (.next (ρ.set i (.own (l++[d])))) else .no:=by show R.th (if l.length < sizeLine then _ else _) K=_;rw [zF];rfl
theorem xS_ret (e:E):(iS cl w (.ret e) ρ).th K=(Y6 e (iR cl e) ρ).th (kRt K):=by rw [qhE,qc];rfl
theorem yRt (r:Rv):kRt K r=K (.ret r):=(rfl)
theorem xS_set (e:E):(iS cl w (.set i e) ρ).th K=(Qo e (iR cl e) ρ).th (qj4 i K):=by rw [qhF,qc];rfl
theorem ySet (s:Sl):qj4 i K (s,ρ)=K (.next (ρ.set i s)):=(rfl)
theorem xS_setT (tg:Tg) (e:E):(iS cl w (.setT tg e) ρ).th K=(zV e (iR cl e) ρ).th (kST tg K):=by rw [qe8,qc];refine qz _ fun x=>?_;rw [qc];rfl
theorem yST (tg:Tg) (d:D):kST tg K (d,ρ)=(tg.go d ρ).th (kNx K):=(rfl)
theorem yNx:kNx K ρ=K (.next ρ):=(rfl)
theorem xS_setI (x e:E):(iS cl w (.setI i x e) ρ).th K=(zV e (iR cl e) ρ).th (kSI cl i x K):=by
 rw [qe9,qc];refine qz _ fun y=>?_;show R.th (match zv y.2 i with | none=>_ | some _=>_) K=oGo (zv y.2 i) _
 cases zv y.2 i with
 | none=>rfl
 | some l=>
  show R.th (R.th (iR cl x y.2) _) K=R.th _ _;rw [qc];refine qz _ fun z=>?_;show R.th (match zv z.2 i,z.1.int? with | some l,some n=>_ | _,_=>_) K=qiC i y.1 z.2 K (zv z.2 i) z.1.int?
  cases zv z.2 i with
  | none=>rfl
  | some l=>cases z.1.int?<;>rfl
theorem ySI (x:E) (d:D):kSI cl i x K (d,ρ)=oGo (zv ρ i) ((iR cl x ρ).th (qjF i d K)):=(rfl)
theorem ySI2 (d:D) (v:Rv):qjF i d K (v,ρ)=qiC i d ρ K (zv ρ i) v.int?:=(rfl)
theorem ySI3 (d:D) (l:List D) (n:Int):qiC i d ρ K (some l) (some n)=qjE i d ρ K l (ixN l.length n):=(rfl)
theorem ySI4 (d:D) (l:List D) (k:Nat):qjE i d ρ K l (some k)=K (.next (ρ.set i (.own (l.set k d)))):=(rfl)
theorem xS_ite (c:T) (a b:Ss):(iS cl w (.ite c a b) ρ).th K=(iT cl c ρ).th (qj5 cl w a b K):=by rw [qhG,qc];refine qz _ fun t=>?_;rw [zF];rfl
theorem yIte (a b:Ss) (t:Bool):qj5 cl w a b K (t,ρ)=if t=true then (iSs cl w a ρ).th K else (iSs cl w b ρ).th K:=(rfl)
theorem xS_for (tg:Tg) (src:I) (b:Ss):(iS cl w (.for_ tg src b) ρ).th K=(iI cl src ρ).th (qj6 cl w tg b K):=by rw [qhH,qc];rfl
theorem yFor (tg:Tg) (b:Ss) (l:List D):qj6 cl w tg b K (l,ρ)=(j0 cl w tg b l ρ).th K:=(rfl)
theorem xSs_nil:(iSs cl w .nil ρ).th K=K (.next ρ):=(rfl)
theorem xSs_cons (s:S) (l:Ss):(iSs cl w (.cons s l) ρ).th K=(iS cl w s ρ).th (qfh cl w l K):=by rw [qcM,qc];rfl
theorem yNext (l:Ss):qfh cl w l K (.next ρ)=(iSs cl w l ρ).th K:=(rfl)
theorem yNextr (l:Ss) (r:Rv):qfh cl w l K (.ret r)=K (.ret r):=(rfl)
theorem xFo_cons (tg:Tg) (b:Ss) (d:D) (l:List D):(j0 cl w tg b (d::l) ρ).th K=(tg.go d ρ).th (qj7 cl w tg b l K):=by rw [qa9,qc,qc];refine qz _ fun ρ2=>?_;rfl
theorem yFo1 (tg:Tg) (b:Ss) (l:List D):qj7 cl w tg b l K ρ=(iSs cl w b ρ).th (qiD cl w tg b l K):=(rfl)
theorem yFo2 (tg:Tg) (b:Ss) (l:List D):qiD cl w tg b l K (.next ρ)=(j0 cl w tg b l ρ).th K:=(rfl)
theorem yFo2r (tg:Tg) (b:Ss) (l:List D) (r:Rv):qiD cl w tg b l K (.ret r)=K (.ret r):=(rfl)
end
section
variable (ρ:Env) (K:List D->R β) (e:E) (tg:Tg) (c:F) (l acc:List D) (d:D)
theorem xP_cons:(zN cl e tg c (d::l) ρ acc).th K=(tg.go d ρ).th (kP1 cl e tg c l acc K):=by
 rw [ZL,qc];refine qz _ fun ρ1=>?_;rw [qc];refine qz _ fun bt=>?_;rw [zF,qc];show (if bt.1=true then _ else _)=(if bt.1=true then _ else _)
 by_cases h:bt.1=true
 ·rw [if_pos h,if_pos h];refine qz _ fun x=>?_;rw [zF];rfl
 ·rw [if_neg h,if_neg h]
theorem yP1:kP1 cl e tg c l acc K ρ=(iF cl c ρ).th (kP2 cl e tg c l acc K):=(rfl)
theorem yP2 (t:Bool):kP2 cl e tg c l acc K (t,ρ)=if t=true then (zV e (iR cl e) ρ).th (kP3 cl e tg c l acc K) else (zN cl e tg c l ρ acc).th K:=(rfl)
theorem yP3:kP3 cl e tg c l acc K (d,ρ)=if acc.length < sizeLine then (zN cl e tg c l ρ (acc++[d])).th K else .no:=(rfl)
end
end
section
variable {β:Type} (r:Env->R (Rv×Env)) (ρ:Env)
theorem eE_bin (K:D×Env->R β) (op:Operator) (a b:E):(zV (.bin op a b) r ρ).th K=(r ρ).th (qfO K):=by rw [show zV (.bin op a b) r ρ=(r ρ).th qdN from rfl,qc];rfl
theorem eL_bin (K:(Sk×List D)×Env->R β) (op:Operator) (a b:E):(y9 (.bin op a b) r ρ).th K=(r ρ).th (Qq K):=by rw [show y9 (.bin op a b) r ρ=(r ρ).th qeV from rfl,qc];rfl
theorem eA_bin (K:Sl×Env->R β) (op:Operator) (a b:E):(Qo (.bin op a b) r ρ).th K=(r ρ).th (kAx K):=qc (r ρ) _ _
theorem eA_neg (K:Sl×Env->R β) (a:E):(Qo (.neg a) r ρ).th K=(r ρ).th (kAx K):=qc (r ρ) _ _
theorem eX_and (K:Rv->R β) (a b:E):(Y6 (.and a b) r ρ).th K=(r ρ).th (kX K):=qc (r ρ) _ _
theorem eX_cmp (K:Rv->R β) (op:CmpOp) (a b:E):(Y6 (.cmp op a b) r ρ).th K=(r ρ).th (kX K):=qc (r ρ) _ _
theorem eE_idx (K:D×Env->R β) (a b:E):(zV (.idx a b) r ρ).th K=(r ρ).th (qfO K):=by rw [show zV (.idx a b) r ρ=(r ρ).th qdN from rfl,qc];rfl
theorem eX_idx (K:Rv->R β) (a b:E):(Y6 (.idx a b) r ρ).th K=(r ρ).th (kX K):=qc (r ρ) _ _
theorem eA_idx (K:Sl×Env->R β) (a b:E):(Qo (.idx a b) r ρ).th K=(r ρ).th (kAx K):=qc (r ρ) _ _
theorem eL_sli (K:(Sk×List D)×Env->R β) (a:E) (lo hi:O):(y9 (.sli a lo hi) r ρ).th K=(r ρ).th (Qq K):=by rw [show y9 (.sli a lo hi) r ρ=(r ρ).th qeV from rfl,qc];rfl
theorem eA_lst (K:Sl×Env->R β) (l:Es):(Qo (.lst l) r ρ).th K=(r ρ).th (kAx K):=qc (r ρ) _ _
theorem eE_tup (K:D×Env->R β) (l:Es):(zV (.tup l) r ρ).th K=(r ρ).th (qfO K):=by rw [show zV (.tup l) r ρ=(r ρ).th qdN from rfl,qc];rfl
theorem eX_tup (K:Rv->R β) (l:Es):(Y6 (.tup l) r ρ).th K=(r ρ).th (kX K):=qc (r ρ) _ _
theorem eE_call (K:D×Env->R β) (f:Str) (l:Es):(zV (.call f l) r ρ).th K=(r ρ).th (qfO K):=by rw [show zV (.call f l) r ρ=(r ρ).th qdN from rfl,qc];rfl
theorem eX_call (K:Rv->R β) (f:Str) (l:Es):(Y6 (.call f l) r ρ).th K=(r ρ).th (kX K):=qc (r ρ) _ _
theorem eA_call (K:Sl×Env->R β) (f:Str) (l:Es):(Qo (.call f l) r ρ).th K=(r ρ).th (kAx K):=qc (r ρ) _ _
theorem eL_b1 (K:(Sk×List D)×Env->R β) (f:B1) (a:E):(y9 (.b1 f a) r ρ).th K=(r ρ).th (Qq K):=by rw [show y9 (.b1 f a) r ρ=(r ρ).th qeV from rfl,qc];rfl
theorem eX_b1 (K:Rv->R β) (f:B1) (a:E):(Y6 (.b1 f a) r ρ).th K=(r ρ).th (kX K):=qc (r ρ) _ _
theorem eA_b1 (K:Sl×Env->R β) (f:B1) (a:E):(Qo (.b1 f a) r ρ).th K=(r ρ).th (kAx K):=qc (r ρ) _ _
theorem eE_b2 (K:D×Env->R β) (f:B2) (a b:E):(zV (.b2 f a b) r ρ).th K=(r ρ).th (qfO K):=by rw [show zV (.b2 f a b) r ρ=(r ρ).th qdN from rfl,qc];rfl
theorem eX_b2 (K:Rv->R β) (f:B2) (a b:E):(Y6 (.b2 f a b) r ρ).th K=(r ρ).th (kX K):=qc (r ρ) _ _
theorem eL_fld (K:(Sk×List D)×Env->R β) (a:E) (x:Str):(y9 (.fld a x) r ρ).th K=(r ρ).th (Qq K):=by rw [show y9 (.fld a x) r ρ=(r ρ).th qeV from rfl,qc];rfl
theorem eX_met (K:Rv->R β) (a:E) (x:Str) (l:Es):(Y6 (.met a x l) r ρ).th K=(r ρ).th (kX K):=qc (r ρ) _ _
theorem eX_new (K:Rv->R β) (f:Str) (l:Es):(Y6 (.new f l) r ρ).th K=(r ρ).th (kX K):=qc (r ρ) _ _
theorem eA_new (K:Sl×Env->R β) (f:Str) (l:Es):(Qo (.new f l) r ρ).th K=(r ρ).th (kAx K):=qc (r ρ) _ _
theorem eA_comp (K:Sl×Env->R β) (e:E) (src:I) (tg:Tg) (c:F) (n:Nat) (fr:List Nat):(Qo (.comp e src tg c n fr) r ρ).th K=(r ρ).th (kAx K):=qc (r ρ) _ _
theorem eE_var (K:D×Env->R β) (i:Nat):(zV (.var i) r ρ).th K=(slE ρ i).th K:=(rfl)
theorem eE_con (K:D×Env->R β) (d:D):(zV (.con d) r ρ).th K=K (d,ρ):=(rfl)
theorem eL_var (K:(Sk×List D)×Env->R β) (i:Nat):(y9 (.var i) r ρ).th K=(slL ρ i).th K:=(rfl)
theorem eX_var (K:Rv->R β) (i:Nat):(Y6 (.var i) r ρ).th K=(slX ρ i).th K:=(rfl)
theorem eX_con (K:Rv->R β) (d:D):(Y6 (.con d) r ρ).th K=K (.val d):=(rfl)
theorem eA_var (K:Sl×Env->R β) (i:Nat):(Qo (.var i) r ρ).th K=(slE ρ i).th (kAv K):=qc (slE ρ i) _ _
theorem eA_con (K:Sl×Env->R β) (d:D):(Qo (.con d) r ρ).th K=K (.val d,ρ):=(rfl)
end
theorem bAdd (a b:Int):Qe .Add (.val (.int a)) (.val (.int b))=.ok (.val (.int (a+b))):=(rfl)
theorem bAdds (a b:Str):Qe .Add (.val (.str a)) (.val (.str b))=if a.length+b.length<=sizeLine then .ok (.val (.str (a++b))) else .no:=(rfl)
theorem bAddtt (a b:List D):Qe .Add (.tmp a) (.tmp b)=if a.length+b.length<=sizeLine then .ok (.tmp (a++b)) else .no:=(rfl)
theorem bSub (a b:Int):Qe .Sub (.val (.int a)) (.val (.int b))=.ok (.val (.int (a - b))):=(rfl)
theorem bMult (a b:Int):Qe .Mult (.val (.int a)) (.val (.int b))=if Y5 a b=true then .ok (.val (.int (a * b))) else .no:=(rfl)
theorem bDiv (a b:Int):Qe .FloorDiv (.val (.int a)) (.val (.int b))=if 0 < b/\b < 1073741824 then .ok (.val (.int (a / b))) else .no:=(rfl)
theorem bMod (a b:Int):Qe .Mod (.val (.int a)) (.val (.int b))=if 0 < b then .ok (.val (.int (a % b))) else .no:=(rfl)
theorem bPow (a b:Int):Qe .Pow (.val (.int a)) (.val (.int b))=if 0<=b/\b<=1000000/\a.natAbs < 2 ^ 64 then .ok (.val (.int (a ^ b.toNat))) else .no:=(rfl)
theorem cEq (x y:Rv):jQ .Eq x y=eqD x.data y.data:=(rfl)
theorem cNe (x y:Rv):jQ .NotEq x y=(eqD x.data y.data).map (!·):=(rfl)
theorem cLt (a b:Int):jQ .Lt (.val (.int a)) (.val (.int b))=some (decide (a < b)):=(rfl)
theorem cLe (a b:Int):jQ .LtE (.val (.int a)) (.val (.int b))=some (decide (a<=b)):=(rfl)
theorem cGt (a b:Int):jQ .Gt (.val (.int a)) (.val (.int b))=some (decide (b < a)):=(rfl)
theorem cIn (x y:Rv):jQ .In x y=qbL x y:=(rfl)
theorem cNi (x y:Rv):jQ .NotIn x y=(qbL x y).map (!·):=(rfl)
theorem mIn (a b:Str):qbL (.val (.str a)) (.val (.str b))=some (qfJ a b):=(rfl)
theorem rgoV (i:Nat) (d:D) (ρ:Env):Tg.go (.one i) d ρ=.ok (ρ.set i (.val d)):=(rfl)
theorem rgoT (l:List Nat) (ds:List D) (ρ:Env):Tg.go (.many l) (.tup ds) ρ=JR l ds ρ:=(rfl)
theorem setIs_nil (ρ:Env):JR [] [] ρ=.ok ρ:=(rfl)
theorem setIs_cons (i:Nat) (l:List Nat) (d:D) (ds:List D) (ρ:Env):JR (i::l) (d::ds) ρ=JR l ds (ρ.set i (.val d)):=(rfl)
end DE
namespace DE
open PySem L2
section
variable {α β:Type} (f:α->β) (a b:α) (l m:List α) (n:Nat)
theorem g_mapc:List.map f (a::l)=f a::List.map f l:=(rfl)
theorem g_mapn:List.map f []=[]:=(rfl)
theorem g_lenc:(a::l).length=l.length+1:=(rfl)
theorem g_lenn:([]:List α).length=0:=(rfl)
theorem g_rep0:List.replicate 0 a=[]:=(rfl)
theorem g_reps:List.replicate (n+1) a=a::List.replicate n a:=(rfl)
theorem g_appc:(a::l)++m=a::(l++m):=(rfl)
theorem g_appn:[]++m=m:=(rfl)
theorem g_set0:(a::l).set 0 b=b::l:=(rfl)
theorem g_sets:(a::l).set (n+1) b=a::l.set n b:=(rfl)
theorem g_last (l:List α) (x:α):atI (l++[x]) (-1)=some x:=L2.qb6 ..
theorem g_nott:(!true)=false:=(rfl)
theorem g_notf:(!false)=true:=(rfl)
theorem g_omap:Option.map f (some a)=some (f a):=(rfl)
theorem g_fe:(false=true)=False:=Bool.false_eq_true
theorem g_and (p:Prop):(p/\p)=p:=and_self p
theorem g_dt (h:Decidable True):@decide True h=true:=decide_true ..
theorem g_df (h:Decidable False):@decide False h=false:=decide_false ..
end
def aL (b:Bool) (l:List D):Ar:=match b with
 | true=>.bor l
 | false=>.val (.lst l)
def rA (b:Bool) (l:List D):Rv:=match b with
 | true=>.cell l
 | false=>.val (.lst l)
def pS (b:Bool) (l:List D):Sl:=match b with
 | true=>.bor l
 | false=>.val (.lst l)
section
variable {β:Type} (b:Bool) (l:List D) (ρ:DE.Env)
theorem lend_v (d:D):qgL (.val d)=.val d:=(rfl)
theorem qiE:aL true l=.bor l:=rfl
theorem qiF:aL false l=.val (.lst l):=rfl
theorem sA_p:toSl (aL b l)=pS b l:=by cases b<;>rfl
theorem sA_R:slR (pS b l::ρ) 0=.ok (rA b l):=by cases b<;>rfl
theorem sA_L (K:(Sk×List D)×DE.Env->R β):(slL (pS b l::ρ) 0).th K=K ((.lst,l),pS b l::ρ):=by cases b<;>rfl
theorem rA_a:toAr (rA b l)=aL b l:=by cases b<;>rfl
theorem rA_l:(rA b l).list?=some l:=by cases b<;>rfl
theorem rA_s:(rA b l).str?=none:=by cases b<;>rfl
theorem rA_t:(rA b l).tup?=none:=by cases b<;>rfl
theorem rA_y:Ty.list.go (rA b l)=some true:=by cases b<;>rfl
end
noncomputable abbrev RW (pg:Pg) (f:Str) (c:Nat×Nat×Ss):Prop:=∀ (k:Nat) (args:List Ar),clK pg (k+1) f args=runD (pg.kk k) 1000 c args
noncomputable abbrev USs (b c:Ss):Prop:=∀ {β:Type} (cl:Cl) (w:Nat) (ρ:DE.Env) (K:Fl->R β),(iSs cl w b ρ).th K=(iSs cl w c ρ).th K
noncomputable abbrev UE (b c:E):Prop:=∀ {β:Type} (cl:Cl) (ρ:DE.Env) (K:D×DE.Env->R β),(zV b (iR cl b) ρ).th K=(zV c (iR cl c) ρ).th K
end DE
namespace DG
open PySem L2 DE
def qfi:Stmt->List Stmt
 | .ClassDef _ _ _ b _ _ _ _ _ _ _=>b
 | _=>[]
def rk (c:Str):Bool:=c == "Within" || c == "Since" || c == "InRow"
noncomputable def pcs:Cs where
 tab:=["Within","Since","InRow","Book"]
 fld:=fun c x=>(rk c&&(x == "lands" || x == "most" || (x == "span" && c == "Within")||(x == "leave" && c != "Within")))||(c == "Book" && (x == "kept_rules" || x == "kept_papers"))
 mt:=fun c x=>if rk c&&x == "weight" then some "Rule.weight" else if c == "Book" && x == "rules" then some "Book.rules" else if c == "Book" && x == "lifted" then some "Book.lifted" else if c == "Book" && x == "papers" then some "Book.papers" else none
 sub:=fun c t=>if rk c&&t == "Within" then some (c == "Within") else if rk c&&t == "Since" then some (c != "Within") else none
noncomputable def ZM (s:Str):Bool:=decide (1<=s.length)&&decide (s.length<=8)&&s.cps.toList.all fun c=>decide (97<=c)&&decide (c<=122)
noncomputable def qba:D->Option (Str×Int)
 | .tup [.str s,.int w]=>if ZM s&&decide (1<=w)&&decide (w<=9) then some (s,w) else none
 | _=>none
noncomputable def Jo:List Str->List D->Bool
 | _,[]=>true
 | acc,d::l=>match qba d with
  | some p=>!acc.contains p.1&&Jo (acc++[p.1]) l
  | none=>false
def qB (l:List D):Bool:=decide (1<=l.length)&&decide (l.length<=6)&&Jo [] l
def btw (n a b:Int):Bool:=decide (a<=n)&&decide (n<=b)
def YL:D->Bool
 | .ins c _ _=>rk c
 | _=>false
noncomputable def js (many:Int):D->Bool
 | .tup [.int o,.int a,.int b]=>btw o 0 (many - 1)&&btw a 0 1000000000&&btw b 0 1000000000&&decide (a<=b)
 | _=>false
def arL:Ar->Option (List D)
 | .val (.lst l)=>some l
 | .bor l=>some l
 | _=>none
def arI:Ar->Option Int
 | .val (.int n)=>some n
 | _=>none
noncomputable def Q6:List Ar->Option (List (Str×D))
 | [a,b]=>match arL a,arI b with
  | some l,some m=>if (qB l&&btw m 0 1000000000)=true then some [("lands",.tup l),("most",.int m)] else none
  | _,_=>none
 | _=>none
noncomputable def jf (x:Str):List Ar->Option (List (Str×D))
 | [a,b,c]=>match arL a,arI b,arI c with
  | some l,some m,some s=>if (qB l&&btw m 0 1000000000&&btw s 1 1000000000)=true then some [("lands",.tup l),("most",.int m),(x,.int s)] else none
  | _,_,_=>none
 | _=>none
noncomputable def ZO:List Ar->Option (List (Str×D))
 | [a,b]=>match arL a,arI b with
  | some l,some m=>if (qB l&&btw m 0 1000000000)=true then some [("lands",.tup l),("most",.int m),("leave",.int 1)] else none
  | _,_=>none
 | _=>none
noncomputable def Jp:List Ar->Option (List (Str×D))
 | [a,b]=>match arL a,arL b with
  | some l,some ps=>if ((decide (l.length<=8)&&l.all YL)&&(decide (ps.length<=12)&&ps.all (js l.length)))=true then some [("kept_rules",.lst l),("kept_papers",.lst ps)] else none
  | _,_=>none
 | _=>none
noncomputable def ZQ (c:Str):Option (List (Str×D))->R Rv
 | some fs=>.ok (.val (.ins c (fs.map (·.1)) (fs.map (·.2))))
 | none=>.no
noncomputable def pnw (k:Nat) (f:Str) (args:List Ar):R Rv:=if k < 12 then .no else
 if f = "Within" then ZQ "Within" (jf "span" args) else if f = "Since" then ZQ "Since" (jf "leave" args) else if f = "InRow" then ZQ "InRow" (ZO args) else if f = "Book" then ZQ "Book" (Jp args) else .no
noncomputable def Jq:Nat×Nat×Ss:=(1,1,%[.ret (.and (.isi Ty.int (.var 0)) (.one (.not (.isi Ty.bool (.var 0)))))|0])
noncomputable def yi:Nat×Nat×Ss:=(3,3,%[.ret (.and (.call "is_whole" %[0|0]) (.and (.cmp .LtE (.var 1) (.var 0)) (.one (.cmp .LtE (.var 0) (.var 2)))))|0])
noncomputable def Jr:Nat×Nat×Ss:=(2,2,%[.ret (.and (.call "is_between" %[0,.con (.int 0),.con (.int 1000000000)|0]) (.and (.call "is_between" %[1,.con (.int 0),.con (.int 1000000000)|0]) (.one (.cmp .LtE (.var 0) (.var 1)))))|0])
noncomputable abbrev jg:Ss:=%[.ite (.cmp .NotIn (.var 2) (.var 1)) %[.ret (.con (.bl false))|0] .nil|0]
def zz:Ss:=jg
theorem yt:USs zz jg:=fun _ _ _ _=>(rfl)
noncomputable def yj:Nat×Nat×Ss:=(2,3,%[.for_ (.one 2) (.seq (.var 0)) zz,.ret (.con (.bl true))|0])
noncomputable def YM:Nat×Nat×Ss:=(1,1,%[.ite (.not (.val (.isi Ty.str (.var 0)))) %[.ret (.con (.bl false))|0] .nil,.ret (.and (.cmp .LtE (.con (.int 1)) (.b1 .len (.var 0))) (.and (.cmp .LtE (.b1 .len (.var 0)) (.con (.int 8))) (.one (.call "is_made_of" %[0,.con (.str "abcdefghijklmnopqrstuvwxyz")|0]))))|0])
class CH (pg:Pg):Prop where
 r_is_whole:RW pg "is_whole" Jq
 r_is_between:RW pg "is_between" yi
 r_are_days:RW pg "are_days" Jr
 r_is_made_of:RW pg "is_made_of" yj
 r_is_name:RW pg "is_name" YM
noncomputable def YN:Nat×Nat×Ss:=(1,1,%[.ite (.or (.not (.val (.isi Ty.tuple (.var 0)))) (.one (.cmp .NotEq (.b1 .len (.var 0)) (.con (.int 3))))) %[.ret (.con (.bl false))|0] .nil,.ret (.and (.call "is_name" %[.idx (.var 0) (.con (.int 0))|0]) (.one (.call "are_days" %[.idx (.var 0) (.con (.int 1)),.idx (.var 0) (.con (.int 2))|0])))|0])
noncomputable abbrev jT:Ss:=%[.ite (.or (.not (.val (.call "is_stay" %[3|0]))) (.one (.cmp .LtE (.idx (.var 3) (.con (.int 1))) (.var 1)))) %[.stuck|0] .nil,.set 1 (.idx (.var 3) (.con (.int 2)))|0]
def jh:Ss:=jT
theorem Jc:USs jh jT:=fun _ _ _ _=>(rfl)
noncomputable def Js:Nat×Nat×Ss:=(1,4,%[.ite (.not (.val (.isi Ty.list (.var 0)))) %[.stuck|0] .nil,.set 1 (.neg (.con (.int 1))),.for_ (.many [2,3]) (.enum (.var 0)) jh,.ite (.cmp .Gt (.b1 .len (.var 0)) (.con (.int 60))) %[.stuck|0] .nil,.ret (.b1 .list (.var 0))|0])
class ST (pg:Pg):Prop where
 r_is_stay:RW pg "is_stay" YN
 r_stays_of:RW pg "stays_of" Js
noncomputable abbrev ji:Ss:=%[.ite (.and (.cmp .LtE (.var 3) (.var 1)) (.one (.cmp .LtE (.var 1) (.var 4)))) %[.ret (.var 2)|0] .nil|0]
def zA:Ss:=ji
theorem ze:USs zA ji:=fun _ _ _ _=>(rfl)
noncomputable def jj:Nat×Nat×Ss:=(2,5,%[.for_ (.many [2,3,4]) (.seq (.var 0)) zA,.ret (.con .non)|0])
class LA (pg:Pg):Prop where
 r_land_among:RW pg "land_among" jj
noncomputable abbrev yR:Ss:=%[.ite (.and (.val (.var 1)) (.one (.cmp .LtE (.var 2) (.bin .Add (.idx (.idx (.var 1) (.neg (.con (.int 1)))) (.con (.int 1))) (.con (.int 1)))))) %[.setI 1 (.neg (.con (.int 1))) (.tup %[.idx (.idx (.var 1) (.neg (.con (.int 1)))) (.con (.int 0)),.b2 .max (.idx (.idx (.var 1) (.neg (.con (.int 1)))) (.con (.int 1))) (.var 3)|0])|0] %[.app 1 (.tup %[2,3|0])|0]|0]
def ya:Ss:=yR
theorem jk:USs ya yR:=fun _ _ _ _=>(rfl)
noncomputable def Q7:Nat×Nat×Ss:=(1,4,%[.set 1 (.lst .nil),.for_ (.many [2,3]) (.seq (.b1 .srt (.var 0))) ya,.ret (.var 1)|0])
class SP (pg:Pg):Prop where
 r_spread:RW pg "spread" Q7
noncomputable abbrev Jt:Ss:=%[.ite (.and (.cmp .LtE (.var 2) (.var 1)) (.one (.cmp .LtE (.var 1) (.var 3)))) %[.ret (.con (.bl true))|0] .nil|0]
def yS:Ss:=Jt
theorem jE:USs yS Jt:=fun _ _ _ _=>(rfl)
noncomputable def Qr:Nat×Nat×Ss:=(2,4,%[.for_ (.many [2,3]) (.seq (.var 0)) yS,.ret (.con (.bl false))|0])
class HO (pg:Pg):Prop where
 r_holds:RW pg "holds" Qr
noncomputable def YO:Nat×Nat×Ss:=(1,1,%[.ite (.or (.not (.val (.isi Ty.tuple (.var 0)))) (.one (.cmp .NotEq (.b1 .len (.var 0)) (.con (.int 2))))) %[.ret (.con (.bl false))|0] .nil,.ret (.and (.call "is_name" %[.idx (.var 0) (.con (.int 0))|0]) (.one (.call "is_between" %[.idx (.var 0) (.con (.int 1)),.con (.int 1),.con (.int 9)|0])))|0])
noncomputable abbrev jt:Ss:=%[.ite (.or (.not (.val (.call "is_land" %[2|0]))) (.one (.cmp .In (.idx (.var 2) (.con (.int 0))) (.var 1)))) %[.ret (.con (.bl false))|0] .nil,.app 1 (.idx (.var 2) (.con (.int 0)))|0]
def zO:Ss:=jt
theorem yT:USs zO jt:=fun _ _ _ _=>(rfl)
noncomputable def yU:Nat×Nat×Ss:=(1,3,%[.ite (.or (.not (.val (.isi Ty.list (.var 0)))) (.or (.cmp .Lt (.b1 .len (.var 0)) (.con (.int 1))) (.one (.cmp .Gt (.b1 .len (.var 0)) (.con (.int 6)))))) %[.ret (.con (.bl false))|0] .nil,.set 1 (.lst .nil),.for_ (.one 2) (.seq (.var 0)) zO,.ret (.con (.bl true))|0])
abbrev zW:Ss:=%[.ite (.cmp .Eq (.var 2) (.var 1)) %[.ret (.var 3)|0] .nil|0]
def zo:Ss:=zW
theorem zG:USs zo zW:=fun _ _ _ _=>(rfl)
noncomputable def zP:Nat×Nat×Ss:=(2,4,%[.for_ (.many [2,3]) (.seq (.fld (.var 0) "lands")) zo,.ret (.con (.int 0))|0])
class RU (pg:Pg):Prop where
 cs:pg.cs=pcs
 nw:pg.nw=pnw
 r_is_land:RW pg "is_land" YO
 r_are_lands:RW pg "are_lands" yU
 r_Rule_weight:RW pg "Rule.weight" zP
noncomputable abbrev ju:Ss:=%[.ite (.and (.not (.val (.isc "Within" (.var 1)))) (.one (.not (.val (.isc "Since" (.var 1)))))) %[.ret (.con (.bl false))|0] .nil|0]
def zQ:Ss:=ju
theorem jl:USs zQ ju:=fun _ _ _ _=>(rfl)
noncomputable def yV:Nat×Nat×Ss:=(1,2,%[.ite (.or (.not (.val (.isi Ty.list (.var 0)))) (.one (.cmp .Gt (.b1 .len (.var 0)) (.con (.int 8))))) %[.ret (.con (.bl false))|0] .nil,.for_ (.one 1) (.seq (.var 0)) zQ,.ret (.con (.bl true))|0])
noncomputable def Ju:Nat×Nat×Ss:=(2,2,%[.ite (.or (.not (.val (.isi Ty.tuple (.var 0)))) (.one (.cmp .NotEq (.b1 .len (.var 0)) (.con (.int 3))))) %[.ret (.con (.bl false))|0] .nil,.ret (.and (.call "is_between" %[.idx (.var 0) (.con (.int 0)),.con (.int 0),.bin .Sub (.var 1) (.con (.int 1))|0]) (.one (.call "are_days" %[.idx (.var 0) (.con (.int 1)),.idx (.var 0) (.con (.int 2))|0])))|0])
noncomputable abbrev zH:Ss:=%[.ite (.not (.val (.call "is_paper" %[3,1|0]))) %[.stuck|0] .nil|0]
def zf:Ss:=zH
theorem jU:USs zf zH:=fun _ _ _ _=>(rfl)
noncomputable def jv:Nat×Nat×Ss:=(2,4,%[.ite (.not (.val (.isi Ty.list (.var 0)))) %[.stuck|0] .nil,.for_ (.many [2,3]) (.enum (.var 0)) zf,.ite (.cmp .Gt (.b1 .len (.var 0)) (.con (.int 12))) %[.stuck|0] .nil|0])
def yk:Nat×Nat×Ss:=(1,1,%[.ret (.b1 .list (.fld (.var 0) "kept_rules"))|0])
def JW:Nat×Nat×Ss:=(1,1,%[.ret (.b1 .list (.fld (.var 0) "kept_papers"))|0])
abbrev zX:E:=(.tup %[1,2|0])
def zp:E:=zX
theorem zI:UE zp zX:=fun _ _ _=>(rfl)
noncomputable def jV:Nat×Nat×Ss:=(2,2,%[.ret (.call "spread" %[.comp zp (.seq (.fld (.var 0) "kept_papers")) (.many [0,1,2]) (.test (.cmp .Eq (.var 0) (.var 3))) 3 [1]|0])|0])
class BO (pg:Pg):Prop where
 r_are_rules:RW pg "are_rules" yV
 r_is_paper:RW pg "is_paper" Ju
 r_check_papers:RW pg "check_papers" jv
 r_Book_rules:RW pg "Book.rules" yk
 r_Book_papers:RW pg "Book.papers" JW
 r_Book_lifted:RW pg "Book.lifted" jV
noncomputable def Qs:Nat×Nat×Ss:=(4,4,%[.ite (.val (.call "holds" %[1,3|0])) %[.ret (.con (.int 0))|0] .nil,.ret (.met (.var 0) "weight" %[.call "land_among" %[2,3|0]|0])|0])
class WE (pg:Pg):Prop where
 r_weigh:RW pg "weigh" Qs
noncomputable def yW:Nat×Nat×Ss:=(4,4,%[.ret (.call "weigh" %[.idx (.met (.var 0) "rules" .nil) (.var 1),.met (.var 0) "lifted" %[1|0],.call "stays_of" %[2|0],3|0])|0])
class WO (pg:Pg):Prop where
 r_weight_on:RW pg "weight_on" yW
end DG
namespace FA
open PySem L2 DE DG
noncomputable def zB:Nat×Nat×Ss:=(2,2,%[.ite (.cmp .Lt (.var 1) (.b1 .len (.var 0))) %[.ret (.idx (.var 0) (.var 1))|0] .nil,.ret (.con (.int 0))|0])
class LC (pg:Pg):Prop where
 r__law_cell_at:RW pg "_law_cell_at" zB
noncomputable abbrev jm:Ss:=%[.set 9 (.bin .Add (.bin .Add (.bin .FloorDiv (.var 0) (.con (.int 64))) (.bin .Mult (.bin .Mult (.con (.int 5)) (.var 8)) (.var 8))) (.bin .Mult (.bin .Mult (.con (.int 3)) (.var 6)) (.b1 .int (.cmp .Eq (.var 8) (.var 4))))),.set 7 (.bin .Add (.var 7) (.idx (.var 2) (.bin .Mod (.var 9) (.con (.int 26)))))|0]
def qX:Ss:=jm
theorem yu:USs qX jm:=fun _ _ _ _=>(rfl)
noncomputable abbrev jn:Ss:=%[.set 7 (.con (.str "")),.for_ (.one 8) (.rng (.var 3)) qX,.app 5 (.var 7)|0]
def zC:Ss:=jn
theorem yv:USs zC jn:=fun _ _ _ _=>(rfl)
noncomputable def ym:Nat×Nat×Ss:=(2,10,%[.set 2 (.con (.str "abcdefghijklmnopqrstuvwxyz")),.set 3 (.bin .Add (.con (.int 1)) (.bin .Mod (.var 0) (.con (.int 8)))),.set 4 (.bin .Mod (.bin .FloorDiv (.var 0) (.con (.int 8))) (.var 3)),.set 5 (.lst .nil),.for_ (.one 6) (.rng (.var 1)) zC,.ret (.var 5)|0])
class LN (pg:Pg):Prop where
 r__law_lands:RW pg "_law_lands" ym
noncomputable abbrev jw:Ss:=%[.app 3 (.tup %[.idx (.var 1) (.bin .Mod (.bin .Add (.bin .FloorDiv (.var 2) (.con (.int 18))) (.var 4)) (.b1 .len (.var 1))),.bin .Add (.con (.int 1)) (.bin .Mod (.bin .FloorDiv (.bin .FloorDiv (.var 2) (.con (.int 108))) (.bin .Add (.var 4) (.con (.int 1)))) (.idx (.lst %[.con (.int 9),.con (.int 2),.con (.int 2)|0]) (.bin .Mod (.bin .Add (.var 2) (.var 4)) (.con (.int 3)))))|0])|0]
def zR:Ss:=jw
theorem yY:USs zR jw:=fun _ _ _ _=>(rfl)
noncomputable def zS:Nat×Nat×Ss:=(2,7,%[.set 2 (.bin .Mod (.bin .Mult (.var 0) (.con (.int 1099087573))) (.con (.int 10000000000037))),.set 3 (.lst .nil),.for_ (.one 4) (.rng (.bin .Add (.con (.int 1)) (.bin .Mod (.bin .FloorDiv (.var 2) (.con (.int 3))) (.b1 .len (.var 1))))) zR,.set 5 (.bin .Mod (.bin .FloorDiv (.var 2) (.con (.int 972))) (.con (.int 25))),.set 6 (.bin .Add (.con (.int 1)) (.bin .Mod (.bin .FloorDiv (.var 2) (.con (.int 24300))) (.con (.int 40)))),.ite (.cmp .Eq (.bin .Mod (.var 2) (.con (.int 3))) (.con (.int 0))) %[.ret (.tup %[.con (.str "within"),3,5,6|0])|0] .nil,.ite (.cmp .Eq (.bin .Mod (.var 2) (.con (.int 3))) (.con (.int 1))) %[.ret (.tup %[.con (.str "since"),3,5,6|0])|0] .nil,.ret (.tup %[.con (.str "row"),3,5,.con (.int 1)|0])|0])
class LR (pg:Pg):Prop where
 r__law_rule:RW pg "_law_rule" zS
noncomputable def zT:Nat×Nat×Ss:=(1,5,%[.setT (.many [1,2,3,4]) (.var 0),.ite (.cmp .Eq (.var 1) (.con (.str "within"))) %[.ret (.new "Within" %[.b1 .list (.var 2),3,4|0])|0] .nil,.ite (.cmp .Eq (.var 1) (.con (.str "since"))) %[.ret (.new "Since" %[.b1 .list (.var 2),3,4|0])|0] .nil,.ret (.new "InRow" %[.b1 .list (.var 2),3|0])|0])
class LM (pg:Pg):Prop where
 r__law_made:RW pg "_law_made" zT
noncomputable def yn:Nat×Nat×Ss:=(3,5,%[.set 3 (.bin .Mod (.bin .Mult (.var 0) (.con (.int 982451653))) (.con (.int 10000000000037))),.set 4 (.bin .Add (.var 2) (.bin .Mod (.bin .FloorDiv (.var 3) (.con (.int 8))) (.con (.int 60)))),.ret (.tup %[.bin .Mod (.var 3) (.var 1),4,.bin .Add (.var 4) (.bin .Mod (.bin .FloorDiv (.var 3) (.con (.int 480))) (.con (.int 9)))|0])|0])
class LP (pg:Pg):Prop where
 r__law_paper:RW pg "_law_paper" yn
noncomputable abbrev jo:Ss:=%[.set 6 (.bin .Mod (.bin .Mult (.var 5) (.con (.int 1099087573))) (.con (.int 10000000000037))),.set 7 (.bin .Add (.var 4) (.bin .Mult (.bin .Mod (.var 6) (.con (.int 6))) (.bin .Mod (.bin .FloorDiv (.var 6) (.con (.int 6))) (.con (.int 3))))),.set 8 (.bin .Add (.var 7) (.bin .Mod (.bin .FloorDiv (.var 6) (.con (.int 18))) (.con (.int 9)))),.ite (.cmp .LtE (.var 8) (.bin .Add (.var 2) (.con (.int 59)))) %[.app 3 (.tup %[.idx (.var 1) (.bin .Mod (.bin .FloorDiv (.var 6) (.con (.int 162))) (.b1 .len (.var 1))),7,8|0]),.set 4 (.bin .Add (.var 8) (.con (.int 1)))|0] .nil|0]
def zD:Ss:=jo
theorem zY:USs zD jo:=fun _ _ _ _=>(rfl)
noncomputable def yo:Nat×Nat×Ss:=(3,9,%[.set 3 (.lst .nil),.set 4 (.var 2),.for_ (.one 5) (.seq (.var 0)) zD,.ret (.var 3)|0])
class LS (pg:Pg):Prop where
 r__law_stays:RW pg "_law_stays" yo
end FA
namespace DG
open PySem L2 DE
open CH ST LA SP HO RU BO WE WO
section
variable {pg:Pg} [CH pg]
theorem qcR (k:Nat) (n:Int):clK pg (k+1) "is_whole" [.val (.int n)]=.ok (.val (.bl true)):=by rw [r_is_whole];simp? only [Jq]
theorem zJ (k:Nat) (n a b:Int) (h1:a<=n) (h2:n<=b):clK pg (k+2) "is_between" [.val (.int n),.val (.int a),.val (.int b)]=.ok (.val (.bl true)):=by rw [r_is_between];simp? only [yi,qcR,h1,h2,decide_true]
theorem qbb (k:Nat) (a b:Int) (h0:0<=a) (h1:a<=b) (h2:b<=1000000000):clK pg (k+3) "are_days" [.val (.int a),.val (.int b)]=.ok (.val (.bl true)):=by
 have h3:a<=1000000000:=by omega
 have h4:0<=b:=by omega
 rw [r_are_days];simp? only [Jr,zJ k a 0 1000000000 h0 h3,zJ k b 0 1000000000 h4 h2,h1,decide_true]
def yb (c:Nat):Prop:=97<=c/\c < 123
theorem qfj (c:Nat) (h:yb c):qfJ ⟨#[c]⟩ "abcdefghijklmnopqrstuvwxyz" = true:=by
 have key:∀ j:Fin 26,qfJ ⟨#[97+j.val]⟩ "abcdefghijklmnopqrstuvwxyz" = true:=by decide+kernel
 have:=key ⟨c - 97,by unfold yb at h;omega⟩
 rw [show 97+(c - 97)=c by unfold yb at h;omega] at this;exact this
theorem YQ (k:Nat) (z:Str):∀ (l:List Nat) (s:Sl),(∀ c∈l,yb c)->∃ s',j0 (pg.kk k) 1000 (.one 2) zz (l.map fun c=>D.str ⟨#[c]⟩) [.val (.str z),.val (.str "abcdefghijklmnopqrstuvwxyz"),s]=.ok (.next [.val (.str z),.val (.str "abcdefghijklmnopqrstuvwxyz"),s'])
 | [],s,_=>⟨s,by rw [List.map_nil,qcL]⟩
 | c::l,s,h=>by obtain ⟨s',e⟩:=YQ k z l (.val (.str ⟨#[c]⟩)) fun x hx=>h x (by simp [hx]);refine ⟨s',?_⟩;refine (qt _).symm.trans ?_;rw [List.map_cons];simp? only [yt,qfj c (h c (by simp)),e]
theorem Qt (k:Nat) (z:Str) (h:∀ c∈z.cps.toList,yb c):clK pg (k+1) "is_made_of" [.val (.str z),.val (.str "abcdefghijklmnopqrstuvwxyz")]=.ok (.val (.bl true)):=by rw [r_is_made_of];obtain ⟨s',e⟩:=YQ (pg:=pg) k z z.cps.toList .no h;simp? only [yj,Nat.reduceAdd,Nat.reduceSub,ZF,e]
structure NameOk (z:Str):Prop where
 one:1<=z.cps.size
 eight:z.cps.size<=8
 lets:∀ c∈z.cps.toList,yb c
theorem qbc (k:Nat) (z:Str) (h:NameOk z):clK pg (k+2) "is_name" [.val (.str z)]=.ok (.val (.bl true)):=by
 have hz:z.length<=sizeLine:=by
  have:=h.eight
  show z.cps.size<=2 ^ 24;omega
 have h1:(1:Int)<=(z.length:Int):=by
  have:=h.one
  show (1:Int)<=(z.cps.size:Int);omega
 have h8:(z.length:Int)<=8:=by
  have:=h.eight
  show (z.cps.size:Int)<=8;omega
 rw [r_is_name];simp? only [YM,hz,h1,h8,decide_true,Qt k z h.lets]
def stD (s:Str×Int×Int):D:=.tup [.str s.1,.int s.2.1,.int s.2.2]
theorem zw (s:Str×Int×Int):stD s=.tup [.str s.1,.int s.2.1,.int s.2.2]:=rfl
structure StOk (e:Int) (s:Str×Int×Int):Prop where
 nm:NameOk s.1
 lo:e < s.2.1
 ab:s.2.1<=s.2.2
 hi:s.2.2<=1000000000
end
section
variable {pg:Pg} [CH pg] [ST pg]
theorem qfk (k:Nat) (e:Int) (s:Str×Int×Int) (he:-1<=e) (h:StOk e s):clK pg (k+4) "is_stay" [.val (stD s)]=.ok (.val (.bl true)):=by
 have hlo:=h.lo;have hab:=h.ab;rw [r_is_stay];have e0:atI [D.str s.1,D.int s.2.1,D.int s.2.2] 0=some (.str s.1):=by rfl
 have e1:atI [D.str s.1,D.int s.2.1,D.int s.2.2] 1=some (.int s.2.1):=by rfl
 have e2:atI [D.str s.1,D.int s.2.1,D.int s.2.2] 2=some (.int s.2.2):=by rfl
 simp? only [YN,stD,e0,e1,e2,qR,qbc (k+1) s.1 h.nm,qbb k s.2.1 s.2.2 (1:) h.ab h.hi,show ((((0+1+1+1:Nat):Int) == 3)=true) from rfl]
def Ch:Int->List (Str×Int×Int)->Prop
 | _,[]=>True
 | e,s::l=>StOk e s/\Ch s.2.2 l
theorem zl (k:Nat) (v:Sl):∀ (l:List (Str×Int×Int)) (i:Nat) (e:Int) (s2 s3:Sl),-1<=e->Ch e l->∃ e' s2' s3',j0 (pg.kk (k+4)) 1000 (.many [2,3]) jh (enF i (l.map stD)) [v,.val (.int e),s2,s3]=.ok (.next [v,.val (.int e'),s2',s3'])
 | [],i,e,s2,s3,_,_=>⟨e,s2,s3,rfl⟩
 | s::l,i,e,s2,s3,he,h=>by
  have h1:=h.1.lo;have h2:=h.1.ab;obtain ⟨e',s2',s3',ih⟩:=zl k v l (i+1) s.2.2 (.val (.int i)) (.val (stD s)) (1:) h.2;refine ⟨e',s2',s3',?_⟩;have hn:¬ s.2.1<=e:=by omega
  have st:=qfk (pg:=pg) k e s he h.1;simp only [zw] at st ih;refine (qt _).symm.trans ?_;rw [List.map_cons,enF];simp? only [Jc,zw,st,hn,ih]
theorem yz (k:Nat) (b:Bool) (l:List (Str×Int×Int)) (h:Ch (-1) l) (hl:l.length<=60):clK pg (k+5) "stays_of" [aL b (l.map stD)]=.ok (.tmp (l.map stD)):=by
 have h6:¬ (60:Int) < ((l.map stD).length:Int):=by rw [List.length_map];omega
 obtain ⟨e',s2',s3',ih⟩:=zl (pg:=pg) k (pS b (l.map stD)) l 0 (-1) .no .no (1:) h;rw [r_stays_of];simp? only [Js,Nat.reduceAdd,Nat.reduceSub,JU,ih,h6,decide_false]
end
theorem NameOk.of {z:Str} (h:ZM z=true):NameOk z:=by
 unfold ZM at h;simp only [Bool.and_eq_true,decide_eq_true_eq,List.all_eq_true] at h;refine ⟨h.1.1,h.1.2,fun c hc=>?_⟩
 have:=h.2 c hc
 unfold yb;omega
theorem qcS {d:D} {p:Str×Int} (h:qba d=some p):d=.tup [.str p.1,.int p.2]/\NameOk p.1/\1<=p.2/\p.2<=9:=by
 unfold qba at h
 split at h
 ·rename_i s w
  split at h
  ·rename_i hc;cases h;simp only [Bool.and_eq_true,decide_eq_true_eq] at hc;exact ⟨rfl,NameOk.of hc.1.1,hc.1.2,hc.2⟩
  ·cases h
 ·cases h
section
variable {pg:Pg} [CH pg] [RU pg]
theorem qfl (k:Nat) (s:Str) (w:Int) (hs:NameOk s) (h1:1<=w) (h9:w<=9):clK pg (k+3) "is_land" [.val (.tup [.str s,.int w])]=.ok (.val (.bl true)):=by
 rw [r_is_land];have e0:atI [D.str s,D.int w] 0=some (.str s):=by rfl
 have e1:atI [D.str s,D.int w] 1=some (.int w):=by rfl
 simp? only [YO,e0,e1,qR,qbc k s hs,zJ k w 1 9 h1 h9,show ((((0+1+1:Nat):Int) == 2)=true) from rfl]
end
theorem qcT (s:Str) (acc:List Str):inD (.str s) (acc.map D.str)=some (acc.contains s):=by
 have e:∀ acc:List Str,inV (V.str s) (acc.map V.str)=acc.contains s:=by
  intro acc
  induction acc with
  | nil=>rfl
  | cons z l ih=>
   rw [List.map_cons,List.contains_cons,<-ih];show (eqV (V.str z) (V.str s)||_)=_
   congr 1
   exact BEq.comm
 unfold inD;rw [if_pos (by simp [Jb]),show (acc.map D.str).map flV=acc.map V.str by simp [flV]];exact congrArg some (e acc)
theorem qbd (s:Str) (acc:List Str):qbL (.val (.str s)) (.cell (acc.map D.str))=some (acc.contains s):=qcT s acc
section
variable {pg:Pg} [CH pg] [RU pg]
theorem Jv (k:Nat) (v:Sl):∀ (l:List D) (acc:List Str) (s2:Sl),Jo acc l=true->acc.length+l.length < 1000->∃ acc' s2',j0 (pg.kk (k+3)) 1000 (.one 2) zO l [v,.own (acc.map D.str),s2]=.ok (.next [v,.own acc',s2'])
 | [],acc,s2,_,_=>⟨_,s2,rfl⟩
 | d::l,acc,s2,h,hl=>by
  unfold Jo at h
  cases e:qba d with
  | none=>rw [e] at h;cases h
  | some p=>
   rw [e] at h;simp only [Bool.and_eq_true,Bool.not_eq_true'] at h;obtain ⟨rfl,hn,h1,h9⟩:=qcS e;rw [List.length_cons] at hl;obtain ⟨acc',s2',ih⟩:=Jv k v l (acc++[p.1]) (.val (.tup [.str p.1,.int p.2])) h.2 (by simp;omega);refine ⟨acc',s2',?_⟩;rw [List.map_append,List.map_cons,List.map_nil] at ih;have e0:atI [D.str p.1,D.int p.2] 0=some (.str p.1):=by rfl
   have hs:(acc.map D.str).length < sizeLine:=by rw [List.length_map];show acc.length < 2 ^ 24;omega
   refine (qt _).symm.trans ?_;simp? only [yT,e0,qfl k p.1 p.2 hn h1 h9,qbd,h.1,hs,ih]
theorem Qu (k:Nat) (b:Bool) (l:List D) (h:qB l=true):clK pg (k+4) "are_lands" [aL b l]=.ok (.val (.bl true)):=by
 unfold qB at h;simp only [Bool.and_eq_true,decide_eq_true_eq] at h;have h1:¬ (l.length:Int) < 1:=by have:=h.1.1;omega
 have h2:¬ (6:Int) < (l.length:Int):=by have:=h.1.2;omega
 rw [r_are_lands];obtain ⟨acc',s2',ih⟩:=Jv (pg:=pg) k (pS b l) l [] .no h.2 (by have:=h.1.2;simp;omega);rw [List.map_nil] at ih;simp? only [yU,h1,h2,show (0:Nat)<=sizeLine by decide+kernel,ih]
end
section
variable {pg:Pg} [CH pg]
theorem qib (k:Nat) (n a b:Int) (h:btw n a b=true):clK pg (k+2) "is_between" [.val (.int n),.val (.int a),.val (.int b)]=.ok (.val (.bl true)):=by unfold btw at h;simp only [Bool.and_eq_true,decide_eq_true_eq] at h;exact zJ k n a b h.1 h.2
end
theorem Jw (cl:Cl) (hc:cl.cs=pcs) (v:Sl):∀ (l:List D) (s1:Sl),l.all YL=true->∃ s1',j0 cl 1000 (.one 1) zQ l [v,s1]=.ok (.next [v,s1'])
 | [],s1,_=>⟨s1,rfl⟩
 | d::l,s1,h=>by
  rw [List.all_cons,Bool.and_eq_true] at h
  cases d with
  | ins c ns ds=>
   obtain ⟨s1',ih⟩:=Jw cl hc v l (.val (.ins c ns ds)) h.2;refine ⟨s1',?_⟩;have hk:rk c=true:=h.1
   have i1:qbM pcs (.val (.ins c ns ds)) "Within" = some (c == "Within"):=by show (if bty.contains "Within" then none else (if (rk c&&_)=true then _ else _))=_;rw [hk];rfl
   have i2:qbM pcs (.val (.ins c ns ds)) "Since" = some (c != "Within"):=by show (if bty.contains "Since" then none else (if (rk c&&false)=true then _ else if (rk c&&true)=true then _ else _))=_;rw [hk];rfl
   refine (qt _).symm.trans ?_
   by_cases hw:(c == "Within")=true
   ·simp? only [jl,hc,i1,hw,ih]
   ·have hw:(c == "Within")=false:=by simpa using hw
    have hn:(c != "Within")=true:=by simp [bne,hw]
    simp? only [jl,hc,i1,i2,hw,hn,ih]
  | _=>cases h.1
section
variable {pg:Pg} [CH pg] [RU pg] [BO pg]
theorem Qv (k:Nat) (b:Bool) (l:List D) (h:(decide (l.length<=8)&&l.all YL)=true):clK pg (k+1) "are_rules" [aL b l]=.ok (.val (.bl true)):=by
 simp only [Bool.and_eq_true,decide_eq_true_eq] at h;have h2:¬ (8:Int) < (l.length:Int):=by have:=h.1;omega
 rw [r_are_rules];obtain ⟨s1',ih⟩:=Jw (pg.kk k) RU.cs (pS b l) l .no h.2;simp? only [yV,h2,ih]
end
theorem qbe {n:Int} {d:D} (h:js n d=true):∃ o a b,d=.tup [.int o,.int a,.int b]/\0<=o/\o<=n - 1/\0<=a/\a<=b/\b<=1000000000:=by
 unfold js at h
 split at h
 ·rename_i o a b;simp only [btw,Bool.and_eq_true,decide_eq_true_eq] at h;exact ⟨o,a,b,rfl,by omega,by omega,by omega,by omega,by omega⟩
 ·cases h
section
variable {pg:Pg} [CH pg] [BO pg]
theorem JX (k:Nat) (n:Int) (d:D) (h:js n d=true):clK pg (k+4) "is_paper" [.val d,.val (.int n)]=.ok (.val (.bl true)):=by
 obtain ⟨o,a,b,rfl,h1,h2,h3,h4,h5⟩:=qbe h;have e0:atI [D.int o,D.int a,D.int b] 0=some (.int o):=by rfl
 have e1:atI [D.int o,D.int a,D.int b] 1=some (.int a):=by rfl
 have e2:atI [D.int o,D.int a,D.int b] 2=some (.int b):=by rfl
 rw [r_is_paper];simp? only [Ju,e0,e1,e2,qR,zJ (k+1) o 0 (n - 1) h1 h2,qbb k a b h3 h4 h5,show ((((0+1+1+1:Nat):Int) == 3)=true) from rfl]
theorem yZ (k:Nat) (v:Sl) (n:Int):∀ (l:List D) (i:Nat) (s2 s3:Sl),l.all (js n)=true->∃ s2' s3',j0 (pg.kk (k+4)) 1000 (.many [2,3]) zf (enF i l) [v,.val (.int n),s2,s3]=.ok (.next [v,.val (.int n),s2',s3'])
 | [],i,s2,s3,_=>⟨s2,s3,rfl⟩
 | d::l,i,s2,s3,h=>by rw [List.all_cons,Bool.and_eq_true] at h;obtain ⟨s2',s3',ih⟩:=yZ k v n l (i+1) (.val (.int i)) (.val d) h.2;refine ⟨s2',s3',?_⟩;refine (qt _).symm.trans ?_;rw [enF];simp? only [jU,JX k n d h.1,ih]
theorem Jd (k:Nat) (b:Bool) (ps:List D) (n:Int) (h:(decide (ps.length<=12)&&ps.all (js n))=true):clK pg (k+5) "check_papers" [aL b ps,.val (.int n)]=.ok (.val .non):=by
 simp only [Bool.and_eq_true,decide_eq_true_eq] at h;have h2:¬ (12:Int) < (ps.length:Int):=by have:=h.1;omega
 rw [r_check_papers];obtain ⟨s2',s3',ih⟩:=yZ (pg:=pg) k (pS b ps) n ps 0 .no .no h.2;simp? only [jv,JU,ih,h2]
end
end DG
namespace FA
open PySem L2 DE DG
open LC LN LR LM LP LS
theorem Jx {i j:Int} (h1:-(2 ^ 64) < j) (h2:j < 2 ^ 64):Y5 i j=true:=by unfold Y5;rw [decide_eq_true h1,decide_eq_true h2];simp
theorem qdT {i j:Int} (h1:-(2 ^ 64) < i) (h2:i < 2 ^ 64):Y5 i j=true:=by unfold Y5;rw [decide_eq_true h1,decide_eq_true h2];simp
def zZ (ns:List Int) (i:Nat):Int:=ns.getD i 0
section
variable {pg:Pg} [LC pg]
theorem qfm (k:Nat) (ns:List Int) (i:Nat):clK pg (k+1) "_law_cell_at" [.scr (ns.map D.int),.val (.int (i:Int))]=.ok (.val (.int (zZ ns i))):=by
 rw [r__law_cell_at]
 by_cases h:i < ns.length
 ·have h1:(i:Int) < ((ns.map D.int).length:Int):=by rw [List.length_map];omega
  have h2:atI (ns.map D.int) (i:Int)=some (.int (zZ ns i)):=qjx (by simp [h,zZ]);simp? only [zB,Nat.reduceAdd,Nat.reduceSub,h1,h2,decide_true]
 ·have h1:¬ (i:Int) < ((ns.map D.int).length:Int):=by rw [List.length_map];omega
  have h2:zZ ns i=0:=by simp [zZ,h]
  simp? only [zB,Nat.reduceAdd,Nat.reduceSub,h1,h2,decide_false]
end
theorem qic (i:Int) (h0:0<=i) (h1:i < 26):atI (Str.cps "abcdefghijklmnopqrstuvwxyz").toList i=some (97+i.toNat)/\yb (97+i.toNat):=by
 have key:∀ j:Fin 26,atI (Str.cps "abcdefghijklmnopqrstuvwxyz").toList (j.val:Int)=some (97+j.val):=by decide+kernel
 obtain ⟨j,rfl⟩:=Int.eq_ofNat_of_zero_le h0;exact ⟨key ⟨j,by omega⟩,by unfold yb;simp;omega⟩
theorem qcU (z:Str) (c:Nat):(z++(⟨#[c]⟩:Str)).cps.toList=z.cps.toList++[c]:=by show (z.cps ++ #[c]).toList=_;simp
noncomputable def ltr (cell at' k:Int) (j:Nat):Nat:=97+((cell / 64+5 * (j:Int) * (j:Int)+3 * k * (if ((j:Int) == at')=true then 1 else 0)) % 26).toNat
theorem qfn (cell at' k:Int) (j:Nat):yb (ltr cell at' k j):=by unfold yb ltr;omega
def Nm (cell at' k:Int) (j:Nat) (z:Str):Prop:=z.cps.toList=(List.range j).map (ltr cell at' k)
theorem Nm.ok {cell at' k:Int} {m:Nat} {z:Str} (h:Nm cell at' k m z) (h1:1<=m) (h8:m<=8):NameOk z:=by
 have e:z.cps.size=m:=by rw [<-Array.length_toList,h];simp
 refine ⟨by omega,by omega,fun c hc=>?_⟩;rw [h] at hc;obtain ⟨j,_,rfl⟩:=List.mem_map.mp hc;exact qfn ..
theorem Nm.ne {cell at' k k':Int} {m:Nat} {z z':Str} (h:Nm cell at' k m z) (h':Nm cell at' k' m z') (h0:0<=at') (h1:at' < m) (hk:0<=k/\k < 4) (hk':0<=k'/\k' < 4) (ne:k≠k'):z≠z':=by
 rintro rfl;have e:(List.range m).map (ltr cell at' k)=(List.range m).map (ltr cell at' k'):=h.symm.trans h';have e2:=congrArg (fun l=>l[at'.toNat]?) e;simp only [List.getElem?_map] at e2;rw [List.getElem?_range (1:)] at e2;simp only [Option.map_some,Option.some.injEq] at e2;unfold ltr at e2;have ea:((at'.toNat:Nat):Int)=at':=by omega
 rw [ea,beq_self_eq_true,if_pos rfl] at e2;omega
theorem ZU (cl:Cl) (v1 v3 v5 s9:Sl) (cell at' k:Int) (j:Nat) (z:Str) (hj:j < 8) (hz:z.cps.size < 8) :
  ∃ s9',iSs cl 1000 qX [.val (.int cell),v1,.val (.str "abcdefghijklmnopqrstuvwxyz"),v3,.val (.int at'),v5,.val (.int k),.val (.str z),.val (.int j),s9]=.ok (.next [.val (.int cell),v1,.val (.str "abcdefghijklmnopqrstuvwxyz"),v3,.val (.int at'),v5,.val (.int k),.val (.str (z++(⟨#[ltr cell at' k j]⟩:Str))),.val (.int j),s9']):=by
 have m1:Y5 5 (j:Int)=true:=qdT (2:) (2:);have m2:Y5 (5 * (j:Int)) (j:Int)=true:=Jx (1:) (1:);have m3:Y5 3 k=true:=qdT (2:) (2:);have m4:Y5 (3 * k) (if ((j:Int) == at')=true then 1 else 0)=true:=Jx (by split<;>decide) (by split<;>decide);have h1:=(qic ((cell / 64+5 * j * j+3 * k * (if ((j:Int) == at')=true then 1 else 0)) % 26) (Int.emod_nonneg _ (2:)) (Int.emod_lt_of_pos _ (2:))).1
 have hl:z.length+(⟨#[ltr cell at' k j]⟩:Str).length<=sizeLine:=by show z.cps.size+1<=2 ^ 24;omega
 have h26:("abcdefghijklmnopqrstuvwxyz" : Str).length<=sizeLine:=by decide+kernel
 refine ⟨.val (.int (cell / 64+5 * j * j+3 * k * (if ((j:Int) == at')=true then 1 else 0))),?_⟩;unfold ltr at hl ⊢;refine (qt _).symm.trans ?_;simp? only [yu,m1,m2,m3,m4,qR,h1,hl,h26]
theorem qcV (cl:Cl) (v1 v3 v5:Sl) (cell at' k:Int) (n:Nat):∀ (j:Nat) (z:Str) (s8 s9:Sl),j+n<=8->Nm cell at' k j z->
  ∃ z' s8' s9',j0 cl 1000 (.one 8) qX (rgF (j:Int) n) [.val (.int cell),v1,.val (.str "abcdefghijklmnopqrstuvwxyz"),v3,.val (.int at'),v5,.val (.int k),.val (.str z),s8,s9]=.ok (.next [.val (.int cell),v1,.val (.str "abcdefghijklmnopqrstuvwxyz"),v3,.val (.int at'),v5,.val (.int k),.val (.str z'),s8',s9'])/\Nm cell at' k (j+n) z':=by
 induction n with
 | zero=>exact fun j z s8 s9 _ hz=>⟨z,s8,s9,rfl,hz⟩
 | succ n ih=>
  intro j z s8 s9 hn hz;have sz:z.cps.size=j:=by rw [<-Array.length_toList,hz];simp
  obtain ⟨t9,st⟩:=ZU cl v1 v3 v5 s9 cell at' k j z (1:) (1:)
  obtain ⟨z',s8',s9',ih,e1⟩:=ih (j+1) (z++(⟨#[ltr cell at' k j]⟩:Str)) (.val (.int j)) t9 (1:) (by
   unfold Nm at hz ⊢;rw [qcU,hz,List.range_succ,List.map_append]
   rfl)
  refine ⟨z',s8',s9',?_,by rw [show j+(n+1)=j+1+n by omega];exact e1⟩;rw [show ((j+1:Nat):Int)=(j:Int)+1 from by omega] at ih;refine (qt _).symm.trans ?_;rw [rgF];simp only [xFo_cons,rgoV,List.set_cons_succ,List.set_cons_zero,th_ok,yFo1,st,yFo2,ih]
noncomputable def Nms (cell at':Int) (m:Nat) (zs:List Str):Prop:=∀ (i:Nat) (z:Str),zs[i]?=some z->Nm cell at' (i:Int) m z
theorem YR (cl:Cl) (v1:Sl) (cell at':Int) (m:Nat) (hm:1<=m/\m<=8):∀ (n:Nat) (zs:List Str) (s6 s7 s8 s9:Sl),zs.length+n < 1000->Nms cell at' m zs->
  ∃ (zs':List Str) (s6' s7' s8' s9':Sl),j0 cl 1000 (.one 6) zC (rgF (zs.length:Int) n) [.val (.int cell),v1,.val (.str "abcdefghijklmnopqrstuvwxyz"),.val (.int (m:Int)),.val (.int at'),.own (zs.map D.str),s6,s7,s8,s9]=.ok (.next [.val (.int cell),v1,.val (.str "abcdefghijklmnopqrstuvwxyz"),.val (.int (m:Int)),.val (.int at'),.own (zs'.map D.str),s6',s7',s8',s9'])/\zs'.length=zs.length+n/\Nms cell at' m zs'
 | 0,zs,s6,s7,s8,s9,_,hz=>⟨zs,s6,s7,s8,s9,rfl,rfl,hz⟩
 | n+1,zs,s6,s7,s8,s9,hl,hz=>by
  obtain ⟨z,s8',s9',e,h1⟩:=qcV cl v1 (.val (.int (m:Int))) (.own (zs.map D.str)) cell at' (zs.length:Int) m 0 "" s8 s9 (1:) rfl;rw [Nat.zero_add] at h1
  obtain ⟨zs',t6,t7,t8,t9,ih,h3,h4⟩:=YR cl v1 cell at' m hm n (zs++[z]) (.val (.int (zs.length:Int))) (.val (.str z)) s8' s9' (by simp;omega) (fun i x hx=>by
   by_cases q:i < zs.length
   ·rw [List.getElem?_append_left q] at hx;exact hz i x hx
   ·rw [List.getElem?_append_right (1:)] at hx
    have:i - zs.length=0:=by
     have:=(List.getElem?_eq_some_iff.mp hx).1
     simp at this;omega
    rw [this] at hx;simp at hx;subst hx
    have:i=zs.length:=by omega
    subst this;exact h1)
  refine ⟨zs',t6,t7,t8,t9,?_,by rw [h3];simp;omega,h4⟩
  have hs:qN (m:Int)=true:=by unfold qN;simp;omega
  have hz':(zs.map D.str).length < sizeLine:=by rw [List.length_map];show _ < 2 ^ 24;omega
  rw [List.length_append,List.length_singleton,show ((zs.length+1:Nat):Int)=(zs.length:Int)+1 from by omega] at ih;refine (qt _).symm.trans ?_;rw [rgF];rw [show ((0:Nat):Int)=0 from rfl] at e;simp only [List.map_append,List.map_cons,List.map_nil] at ih;simp? only [yv,hs,je,Int.sub_zero,Int.toNat_natCast,e,hz',ih]
structure NamesOk (zs:List Str):Prop where
 two:2<=zs.length
 four:zs.length<=4
 ok:∀ z∈zs,NameOk z
 once:∀ (i j:Nat) (z:Str),zs[i]?=some z->zs[j]?=some z->i=j
section
variable {pg:Pg} [LN pg]
theorem qcW (k:Nat) (cell:Int) (n:Nat) (hn:2<=n/\n<=4):∃ zs:List Str,clK pg (k+1) "_law_lands" [.val (.int cell),.val (.int (n:Int))]=.ok (.tmp (zs.map D.str))/\zs.length=n/\NamesOk zs:=by
 have hm:∃ m:Nat,(1+cell % 8:Int)=(m:Int)/\1<=m/\m<=8:=⟨(1+cell % 8).toNat,by omega,by omega,by omega⟩;obtain ⟨m,e,h1,h2⟩:=hm;have a0:0<=cell / 8 % (m:Int):=Int.emod_nonneg _ (1:);have a1:cell / 8 % (m:Int) < m:=Int.emod_lt_of_pos _ (1:);obtain ⟨zs,s6,s7,s8,s9,h,h3,h4⟩:=YR (pg.kk k) (.val (.int (n:Int))) cell (cell / 8 % (m:Int)) m ⟨h1,h2⟩ n [] .no .no .no .no (by simp;omega) (fun i z hz=>by simp at hz);simp at h3;refine ⟨zs,?_,h3,⟨by omega,by omega,fun z hz=>?_,fun i j z hi hj=>?_⟩⟩
 ·rw [List.map_nil] at h;have hp:(0:Int) < (m:Int):=by omega
  have hs:qN (n:Int)=true:=by unfold qN;simp;omega
  rw [show ((([]:List Str).length:Nat):Int)=0 from rfl] at h;rw [r__law_lands];simp? only [ym,Nat.reduceAdd,Nat.reduceSub,e,hp,show (0:Nat)<=sizeLine by decide+kernel,hs,je,Int.sub_zero,Int.toNat_natCast,h]
 ·obtain ⟨i,hi⟩:=List.getElem?_of_mem hz;exact (h4 i z hi).ok h1 h2
 ·by_cases q:i=j
  ·exact q
  ·have li:=(List.getElem?_eq_some_iff.mp hi).1;have lj:=(List.getElem?_eq_some_iff.mp hj).1;exact absurd rfl (Nm.ne (h4 i z hi) (h4 j z hj) a0 a1 ⟨by omega,by omega⟩ ⟨by omega,by omega⟩ (1:))
end
end FA
namespace FA
open PySem L2 DE DG
open LC LN LR LM LP LS
def lnD (p:Str×Int):D:=.tup [.str p.1,.int p.2]
theorem Q8 (p:Str×Int):lnD p=.tup [.str p.1,.int p.2]:=rfl
theorem qcX {z:Str} (h:NameOk z):ZM z=true:=by
 unfold ZM;simp only [Bool.and_eq_true,decide_eq_true_eq,List.all_eq_true];refine ⟨⟨h.one,h.eight⟩,fun c hc=>?_⟩
 have:=h.lets c hc
 unfold yb at this;omega
structure LnOk (p:Str×Int):Prop where
 nm:NameOk p.1
 one:1<=p.2
 nine:p.2<=9
theorem qcY {p:Str×Int} (h:LnOk p):qba (lnD p)=some p:=by show (if (ZM p.1&&decide (1<=p.2)&&decide (p.2<=9))=true then some (p.1,p.2) else none)=_;rw [if_pos (by rw [qcX h.nm,decide_eq_true h.one,decide_eq_true h.nine];rfl)]
theorem YS:∀ (l:List (Str×Int)) (acc:List Str),(∀ p∈l,LnOk p)->(acc++l.map (·.1)).Nodup->Jo acc (l.map lnD)=true
 | [],acc,_,_=>rfl
 | p::l,acc,h,nd=>by
  rw [List.map_cons];unfold Jo;rw [qcY (h p (by simp))];have e:acc++(p::l).map (·.1)=(acc++[p.1])++l.map (·.1):=by simp
  rw [e] at nd
  have n1:p.1∉acc:=by
   have:=(List.nodup_append.mp nd).1
   have:=(List.nodup_append.mp this).2.2
   intro hm;exact this p.1 hm p.1 (by simp) rfl
  simp only [Bool.and_eq_true,Bool.not_eq_true'];exact ⟨by simpa using n1,YS l (acc++[p.1]) (fun q hq=>h q (by simp [hq])) nd⟩
theorem ZV {l:List (Str×Int)} (h:∀ p∈l,LnOk p) (nd:(l.map (·.1)).Nodup) (h1:1<=l.length) (h6:l.length<=6):qB (l.map lnD)=true:=by unfold qB;rw [List.length_map,decide_eq_true h1,decide_eq_true h6,YS l [] h (by simpa using nd)];rfl
theorem Q9 {zs:List Str} (i:Int) (h0:0<=i) (h1:i < zs.length):∃ z,atI (zs.map D.str) i=some (.str z)/\zs[i.toNat]?=some z:=by
 obtain ⟨j,rfl⟩:=Int.eq_ofNat_of_zero_le h0;have hj:j < zs.length:=by omega
 exact ⟨zs[j],qjx (by rw [List.getElem?_map,List.getElem?_eq_getElem hj];rfl),by simp [hj]⟩
theorem qbf (zs:List Str):((zs.map D.str).length:Int)=(zs.length:Int):=by rw [List.length_map]
noncomputable def Lns (zs:List Str) (a:Int) (l:List (Str×Int)):Prop:=∀ (i:Nat) (p:Str×Int),l[i]?=some p->zs[((a+(i:Int)) % (zs.length:Int)).toNat]?=some p.1/\LnOk p
theorem YT (cl:Cl) (v0:Sl) (n:Int) (hn:0<=n) (zs:List Str) (hz:NamesOk zs):∀ (m:Nat) (l:List (Str×Int)) (s4 s5 s6:Sl),l.length+m<=100->Lns zs (n / 18) l->
  ∃ (l':List (Str×Int)) (s4':Sl),j0 cl 1000 (.one 4) zR (rgF (l.length:Int) m) [v0,.bor (zs.map D.str),.val (.int n),.own (l.map lnD),s4,s5,s6]=.ok (.next [v0,.bor (zs.map D.str),.val (.int n),.own (l'.map lnD),s4',s5,s6])/\l'.length=l.length+m/\Lns zs (n / 18) l'
 | 0,l,s4,s5,s6,_,h=>⟨l,s4,rfl,rfl,h⟩
 | m+1,l,s4,s5,s6,hl,h=>by
  have hL:(0:Int) < (zs.length:Int):=by have:=hz.two;omega
  obtain ⟨z,e1,e2⟩:=Q9 (zs:=zs) ((n / 18+(l.length:Int)) % (zs.length:Int)) (Int.emod_nonneg _ (1:)) (Int.emod_lt_of_pos _ hL)
  have h3:∃ q:Int,atI [D.int 9,D.int 2,D.int 2] ((n+(l.length:Int)) % 3)=some (.int q)/\2<=q/\q<=9:=by
   have a0:0<=(n+(l.length:Int)) % 3:=Int.emod_nonneg _ (2:);have a1:(n+(l.length:Int)) % 3 < 3:=Int.emod_lt_of_pos _ (2:)
   have:(n+(l.length:Int)) % 3=0\/(n+(l.length:Int)) % 3=1\/(n+(l.length:Int)) % 3=2:=by omega
   rcases this with e | e | e<;>rw [e]
   ·exact ⟨9,rfl,by decide,by decide⟩
   ·exact ⟨2,rfl,by decide,by decide⟩
   ·exact ⟨2,rfl,by decide,by decide⟩
  obtain ⟨q,e3,q2,q9⟩:=h3;have hq:(0:Int) < q:=by omega
  have w0:0<=n / 108 / ((l.length:Int)+1) % q:=Int.emod_nonneg _ (1:);have w1:n / 108 / ((l.length:Int)+1) % q < q:=Int.emod_lt_of_pos _ hq
  obtain ⟨l',s4',ih,i1,i2⟩:=YT cl v0 n hn zs hz m (l++[(z,1+n / 108 / ((l.length:Int)+1) % q)]) (.val (.int (l.length:Int))) s5 s6 (by simp;omega) (fun i p hp=>by
   by_cases hi:i < l.length
   ·rw [List.getElem?_append_left hi] at hp;exact h i p hp
   ·rw [List.getElem?_append_right (1:)] at hp;have hlt:=(List.getElem?_eq_some_iff.mp hp).1;simp at hlt;have hi:i=l.length:=by omega
    subst hi;simp at hp;subst hp;exact ⟨e2,hz.ok z (List.mem_of_getElem? e2),by show 1<=1+_;omega,by show 1+_<=9;omega⟩)
  refine ⟨l',s4',?_,by rw [i1];simp;omega,i2⟩
  have hs:l.length < sizeLine:=by show _ < 2 ^ 24;omega
  have two:0+1+1<=sizeLine:=by decide+kernel
  have three:0+1+1+1<=sizeLine:=by decide+kernel
  have hd:(0:Int) < (l.length:Int)+1/\(l.length:Int)+1 < 1073741824:=⟨by omega,by omega⟩;rw [List.length_append,List.length_singleton,show ((l.length+1:Nat):Int)=(l.length:Int)+1 from by omega] at ih;simp only [List.map_append,List.map_cons,List.map_nil,Q8] at ih;refine (qt _).symm.trans ?_;rw [rgF];simp? only [yY,List.length_map,hL,e1,e3,hd,hq,two,three,hs,ih,Q8]
inductive Kd where
 | wi | si | ro
def Kd.nm:Kd->Str
 | .wi=>"within"
 | .si=>"since"
 | .ro=>"row"
structure Ru where
 kd:Kd
 lands:List (Str×Int)
 most:Int
 days:Int
def ruD (r:Ru):D:=.tup [.str r.kd.nm,.lst (r.lands.map lnD),.int r.most,.int r.days]
structure RuOk (r:Ru):Prop where
 lands:qB (r.lands.map lnD)=true
 ok:∀ p∈r.lands,LnOk p
 m0:0<=r.most
 m1:r.most<=24
 d0:1<=r.days
 d1:r.days<=40
 row:r.kd=.ro->r.days=1
 nd:(r.lands.map (·.1)).Nodup
theorem Lns.nodup {zs:List Str} (hz:NamesOk zs) {a:Int} {l:List (Str×Int)} (h:Lns zs a l) (hl:l.length<=zs.length):(l.map (·.1)).Nodup:=by
 rw [List.nodup_iff_pairwise_ne,List.pairwise_iff_getElem];intro i j hi hj hij e;rw [List.length_map] at hi hj;rw [List.getElem_map,List.getElem_map] at e;have h1:=(h i _ (List.getElem?_eq_getElem hi)).1;have h2:=(h j _ (List.getElem?_eq_getElem hj)).1;rw [e] at h1
 have:=hz.once _ _ _ h1 h2
 have hL:(0:Int) < (zs.length:Int):=by have:=hz.two;omega
 have a0:0<=(a+(i:Int)) % (zs.length:Int):=Int.emod_nonneg _ (1:);have b0:0<=(a+(j:Int)) % (zs.length:Int):=Int.emod_nonneg _ (1:);have e3:(a+(i:Int)) % (zs.length:Int)=(a+(j:Int)) % (zs.length:Int):=by omega
 have e4:=Int.emod_emod_of_dvd (a+j - (a+i)) (Int.dvd_refl (zs.length:Int));have e5:(a+(j:Int) - (a+(i:Int))) % (zs.length:Int)=0:=by rw [Int.sub_emod,e3,Int.sub_self,Int.zero_emod]
 rw [show a+(j:Int) - (a+(i:Int))=((j - i:Nat):Int) by omega] at e5;rw [Int.emod_eq_of_lt (1:) (1:)] at e5;omega
section
variable {pg:Pg} [LR pg]
theorem qfo (k:Nat) (c:Int) (zs:List Str) (hz:NamesOk zs):∃ r:Ru,RuOk r/\clK pg (k+1) "_law_rule" [.val (.int c),.bor (zs.map D.str)]=.ok (.val (ruD r)):=by
 have hL:(0:Int) < (zs.length:Int):=by have:=hz.two;omega
 have hn:0<=c * 1099087573 % 10000000000037:=Int.emod_nonneg _ (2:);generalize hN:c * 1099087573 % 10000000000037=n at hn;have m0:0<=n / 3 % (zs.length:Int):=Int.emod_nonneg _ (1:);have m1:n / 3 % (zs.length:Int) < zs.length:=Int.emod_lt_of_pos _ hL;have four:=hz.four;obtain ⟨m,em⟩:∃ m:Nat,1+n / 3 % (zs.length:Int)=(m:Int):=⟨(1+n / 3 % (zs.length:Int)).toNat,by omega⟩;obtain ⟨l,s4',e,e1,e2⟩:=YT (pg.kk k) (.val (.int c)) n hn zs hz m [] .no .no .no (by simp;omega) (fun i p hp=>by simp at hp);simp at e1;rw [List.map_nil,show ((([]:List (Str×Int)).length:Nat):Int)=0 from rfl] at e
 have ok:∀ p∈l,LnOk p:=fun p hp=>by obtain ⟨i,hi⟩:=List.getElem?_of_mem hp;exact (e2 i p hi).2
 have nd:=e2.nodup hz (1:);have lok:qB (l.map lnD)=true:=ZV ok nd (1:) (1:);have t0:0<=n / 972 % 25:=Int.emod_nonneg _ (2:);have t1:n / 972 % 25 < 25:=Int.emod_lt_of_pos _ (2:);have d0:0<=n / 24300 % 40:=Int.emod_nonneg _ (2:);have d1:n / 24300 % 40 < 40:=Int.emod_lt_of_pos _ (2:);have mul:Y5 c 1099087573=true:=Jx (2:) (2:)
 have sm:qN (m:Int)=true:=by unfold qN;simp;omega
 have four':0+1+1+1+1<=sizeLine:=by decide+kernel
 have zero:(0:Nat)<=sizeLine:=by decide+kernel
 by_cases c0:n % 3=0
 ·refine ⟨⟨.wi,l,n / 972 % 25,1+n / 24300 % 40⟩,⟨lok,ok,t0,by show n / 972 % 25<=24;omega,by show 1<=1+_;omega,by show 1+_<=40;omega,fun z=>(by cases z),nd⟩,?_⟩;have hb:(n % 3 == 0)=true:=by simpa using c0
  rw [r__law_rule];simp? only [zS,List.length_map,mul,hN,hL,em,sm,je,Int.sub_zero,Int.toNat_natCast,e,qR,hb,four',zero,ruD,Kd.nm]
 by_cases c1:n % 3=1
 ·refine ⟨⟨.si,l,n / 972 % 25,1+n / 24300 % 40⟩,⟨lok,ok,t0,by show n / 972 % 25<=24;omega,by show 1<=1+_;omega,by show 1+_<=40;omega,fun z=>(by cases z),nd⟩,?_⟩;have hb:(n % 3 == 0)=false:=by simpa using c0
  have hc:(n % 3 == 1)=true:=by simpa using c1
  rw [r__law_rule];simp? only [zS,List.length_map,mul,hN,hL,em,sm,je,Int.sub_zero,Int.toNat_natCast,e,qR,hb,hc,four',zero,ruD,Kd.nm]
 ·refine ⟨⟨.ro,l,n / 972 % 25,1⟩,⟨lok,ok,t0,by show n / 972 % 25<=24;omega,by show (1:Int)<=1;omega,by show (1:Int)<=40;omega,fun _=>rfl,nd⟩,?_⟩;have hb:(n % 3 == 0)=false:=by simpa using c0
  have hc:(n % 3 == 1)=false:=by simpa using c1
  rw [r__law_rule];simp? only [zS,List.length_map,mul,hN,hL,em,sm,je,Int.sub_zero,Int.toNat_natCast,e,qR,hb,hc,four',zero,ruD,Kd.nm]
end
end FA
namespace Dy
abbrev P:=Int×Int
def Day (fs:List P) (d:Int):Prop:=∃ p∈fs,p.1<=d/\d<=p.2
structure Spr (fs:List P):Prop where
 ok:∀ p∈fs,p.1<=p.2
 gap:fs.Pairwise fun p q=>p.2+2<=q.1
def lex (p q:P):Prop:=p.1 < q.1\/(p.1=q.1/\p.2<=q.2)
noncomputable def stp (acc:List P) (p:P):List P:=match acc.getLast? with
 | some l=>if p.1<=l.2+1 then acc.dropLast++[(l.1,if p.2 > l.2 then p.2 else l.2)] else acc++[p]
 | none=>[p]
theorem Qw (p:P):stp [] p=[p]:=rfl
theorem JY (a:List P) (l p:P):stp (a++[l]) p=if p.1<=l.2+1 then a++[(l.1,if p.2 > l.2 then p.2 else l.2)] else (a++[l])++[p]:=by unfold stp;rw [List.getLast?_append];simp
theorem Qx {α:Type} (l:List α):l=[]\/∃ a x,l=a++[x]:=by
 cases l with
 | nil=>exact .inl rfl
 | cons a r=>exact .inr ⟨(a::r).dropLast,(a::r).getLast (by simp),(List.dropLast_concat_getLast (by simp)).symm⟩
theorem y0 {a b:List P} {d:Int}:Day (a++b) d↔Day a d\/Day b d:=by
 unfold Day;constructor
 ·rintro ⟨p,hp,h⟩;rcases List.mem_append.mp hp with q | q
  ·exact .inl ⟨p,q,h⟩
  ·exact .inr ⟨p,q,h⟩
 ·rintro (⟨p,hp,h⟩ | ⟨p,hp,h⟩)
  ·exact ⟨p,List.mem_append_left _ hp,h⟩
  ·exact ⟨p,List.mem_append_right _ hp,h⟩
theorem Qy {p:P} {d:Int}:Day [p] d↔p.1<=d/\d<=p.2:=by
 unfold Day;constructor
 ·rintro ⟨q,hq,h⟩;rw [List.mem_singleton.mp hq] at h;exact h
 ·intro h;exact ⟨p,List.mem_singleton.mpr rfl,h⟩
theorem qcZ {a b:List P} (h:a.Perm b) (d:Int):Day a d↔Day b d:=by
 unfold Day;constructor
 ·rintro ⟨p,hp,q⟩;exact ⟨p,h.mem_iff.mp hp,q⟩
 ·rintro ⟨p,hp,q⟩;exact ⟨p,h.mem_iff.mpr hp,q⟩
structure Run (done acc:List P):Prop where
 spr:Spr acc
 day:∀ d,Day acc d↔Day done d
 low:∀ a l,acc=a++[l]->∃ q∈done,q.1=l.1
 len:acc.length<=done.length
 emp:acc=[]->done=[]
theorem qfp:Run [] []:=⟨⟨(fun _ h=>nomatch h),List.Pairwise.nil⟩,fun _=>Iff.rfl,fun a l e=>by simp at e,Nat.le_refl _,fun _=>rfl⟩
theorem qc0 {done acc:List P} {p:P} (R:Run done acc) (hp:p.1<=p.2) (hs:∀ q∈done,q.1<=p.1):Run (done++[p]) (stp acc p):=by
 rcases Qx acc with rfl | ⟨a,l,rfl⟩
 ·have hd:=R.emp rfl;subst hd;rw [Qw];refine ⟨⟨fun q hq=>by rw [List.mem_singleton.mp hq];exact hp,by simp⟩,fun d=>by simp,fun a l e=>?_,by simp,fun e=>by simp at e⟩;refine ⟨p,by simp,?_⟩
  have:a=[]/\p=l:=by
   cases a with
   | nil=>simpa using e
   | cons x r=>simp at e
  rw [this.2]
 ·rw [JY];obtain ⟨q0,hq0,e0⟩:=R.low a l rfl;have hl:l.1<=p.1:=by rw [<-e0];exact hs q0 hq0
  have hlo:=R.spr.ok l (by simp);have hg:=List.pairwise_append.mp R.spr.gap
  by_cases hc:p.1<=l.2+1
  ·rw [if_pos hc];refine ⟨⟨fun q hq=>?_,?_⟩,fun d=>?_,fun a' l' e=>?_,?_,fun e=>by simp at e⟩
   ·rcases List.mem_append.mp hq with h | h
    ·exact R.spr.ok q (List.mem_append_left _ h)
    ·rw [List.mem_singleton.mp h];dsimp only
     split<;>omega
   ·refine List.pairwise_append.mpr ⟨hg.1,by simp,fun x hx y hy=>?_⟩;rw [List.mem_singleton.mp hy];exact hg.2.2 x hx l (by simp)
   ·rw [y0,Qy,y0,Qy,<-R.day d,y0,Qy];dsimp only;constructor
    ·rintro (h | h)
     ·exact .inl (.inl h)
     ·by_cases h2:d<=l.2
      ·exact .inl (.inr ⟨h.1,h2⟩)
      ·right
       have:=h.2
       split at this<;>omega
    ·rintro ((h | h) | h)
     ·exact .inl h
     ·right;refine ⟨h.1,?_⟩
      split<;>omega
     ·right;refine ⟨by omega,?_⟩
      split<;>omega
   ·have:l'.1=l.1:=by
     have:=(List.append_inj' e rfl).2
     simp at this;rw [<-this]
    exact ⟨q0,List.mem_append_left _ hq0,by rw [this];exact e0⟩
   ·have:=R.len
    simp at this ⊢;omega
  ·rw [if_neg hc];refine ⟨⟨fun q hq=>?_,?_⟩,fun d=>?_,fun a' l' e=>?_,?_,fun e=>by simp at e⟩
   ·rcases List.mem_append.mp hq with h | h
    ·exact R.spr.ok q h
    ·rw [List.mem_singleton.mp h];exact hp
   ·refine List.pairwise_append.mpr ⟨R.spr.gap,by simp,fun x hx y hy=>?_⟩;rw [List.mem_singleton.mp hy];rcases List.mem_append.mp hx with h | h
    ·have:=hg.2.2 x h l (by simp)
     omega
    ·rw [List.mem_singleton.mp h];omega
   ·rw [y0 (a:=a++[l]),y0 (a:=done),R.day d]
   ·have:=(List.append_inj' e rfl).2
    simp at this;exact ⟨p,by simp,by rw [this]⟩
   ·have:=R.len
    simp at this ⊢;omega
theorem qfq {qs:List P} (hs:qs.Pairwise lex) (hq:∀ p∈qs,p.1<=p.2):∀ n,n<=qs.length->Run (qs.take n) ((qs.take n).foldl stp []):=by
 intro n
 induction n with
 | zero=>intro _;simpa using qfp
 | succ n ih=>
  intro hn;have e:qs.take (n+1)=qs.take n++[qs[n]]:=by rw [List.take_succ_eq_append_getElem (1:)]
  rw [e,List.foldl_append];refine qc0 (ih (1:)) (hq _ (List.getElem_mem _)) fun q hq'=>?_;obtain ⟨i,hi,rfl⟩:=List.mem_take_iff_getElem.mp hq'
  have:=List.pairwise_iff_getElem.mp hs i n (1:) (1:) (1:)
  rcases this with h | h
  ·omega
  ·omega
end Dy
namespace Dy
def jF (A:List P) (d:Int):Bool:=A.any fun p=>decide (p.1<=d)&&decide (d<=p.2)
theorem JZ {A:List P} {d:Int}:jF A d=true↔Day A d:=by unfold jF Day;simp [List.any_eq_true]
end Dy
namespace DG
open PySem L2 DE FA Dy
open CH ST LA SP HO RU BO WE WO
theorem qbg:∀ ps:List (Int×Int),qdy (ps.map pD)=some ps
 | []=>rfl
 | p::ps=>by rw [List.map_cons,qdy,qbg ps];rfl
theorem Je (p:Int×Int):pD p=.tup [.int p.1,.int p.2]:=rfl
def spr (ps:List (Int×Int)):List (Int×Int):=(j5 ps).foldl stp []
theorem qfr (acc:List (Int×Int)) (p:Int×Int):(stp acc p).length<=acc.length+1:=by
 rcases Qx acc with rfl | ⟨a,l,rfl⟩
 ·simp [Qw]
 ·rw [JY]
  split<;>simp
theorem jG {n:Nat} (h:n < 100000):n < sizeLine:=Nat.lt_trans h (by decide+kernel)
theorem yc {n:Nat} (h:n < 100000):n<=sizeLine:=Nat.le_of_lt (jG h)
theorem y3 (cl:Cl) (v:Sl):∀ (ps acc:List (Int×Int)) (s2 s3:Sl),acc.length+ps.length < 10000->∃ s2' s3',j0 cl 1000 (.many [2,3]) ya (ps.map pD) [v,.own (acc.map pD),s2,s3]=.ok (.next [v,.own ((ps.foldl stp acc).map pD),s2',s3'])
 | [],acc,s2,s3,_=>⟨s2,s3,rfl⟩
 | p::ps,acc,s2,s3,hl=>by
  rw [List.length_cons] at hl
  have:=qfr acc p
  obtain ⟨s2',s3',ih⟩:=y3 cl v ps (stp acc p) (.val (.int p.1)) (.val (.int p.2)) (1:);refine ⟨s2',s3',?_⟩;have hs:acc.length < sizeLine:=jG (1:);have two:0+1+1<=sizeLine:=by decide+kernel
  rw [List.foldl_cons];rcases Qx acc with rfl | ⟨a,l,rfl⟩
  ·rw [Qw] at ih ⊢;simp only [List.map_cons,List.map_nil,Je] at ih;refine (qt _).symm.trans ?_;simp? only [jk,Je,List.isEmpty_nil,two,show (0:Nat) < sizeLine by decide+kernel,ih]
  ·rw [JY] at ih ⊢
   by_cases hc:p.1<=l.2+1
   ·rw [if_pos hc] at ih ⊢;simp only [List.map_append,List.map_cons,List.map_nil,Je] at ih;refine (qt _).symm.trans ?_;simp? only [jk,Je,List.map_append,hc,two,ih]
   ·rw [if_neg hc] at ih ⊢;simp only [List.map_append,List.map_cons,List.map_nil,Je] at ih;have hs':(a.map pD++[D.tup [.int l.1,.int l.2]]).length < sizeLine:=by simpa using hs
    refine (qt _).symm.trans ?_;simp? only [jk,Je,List.map_append,hc,two,hs',ih]
theorem qbh {pg:Pg} [SP pg] (k:Nat) (b:Bool) (ps:List (Int×Int)) (hl:ps.length < 64):clK pg (k+1) "spread" [aL b (ps.map pD)]=.ok (.tmp ((spr ps).map pD)):=by
 have hl':(j5 ps).length < 10000:=by unfold j5;rw [List.length_mergeSort];omega
 rw [r_spread];obtain ⟨s2,s3,e⟩:=y3 (pg.kk k) (pS b (ps.map pD)) (j5 ps) [] .no .no (by simpa using hl');rw [List.map_nil] at e;simp? only [Q7,yL,qbg,hl,show (0:Nat)<=sizeLine by decide+kernel,e,spr]
theorem J0 (p q:Int×Int):J5 p q=true↔lex p q:=by unfold J5 lex;simp
theorem qc1 (ps:List (Int×Int)) (h:∀ p∈ps,p.1<=p.2):Run (j5 ps) (spr ps):=by
 have hs:(j5 ps).Pairwise lex:=by
  have:=List.pairwise_mergeSort (le:=J5) (fun a b c h1 h2=>by rw [J0] at h1 h2 ⊢;unfold lex at *;omega) (fun a b=>by simp only [Bool.or_eq_true,J0];unfold lex;omega) ps
  exact this.imp fun {a b} h=>(J0 a b).mp h
 have hq:∀ p∈j5 ps,p.1<=p.2:=fun p hp=>h p ((List.mergeSort_perm ps J5).mem_iff.mp hp)
 have:=qfq hs hq (j5 ps).length (Nat.le_refl _)
 rwa [List.take_length] at this
theorem qfs {ps:List (Int×Int)} (h:∀ p∈ps,p.1<=p.2) (d:Int):jF (spr ps) d=jF ps d:=by rw [Bool.eq_iff_iff,JZ,JZ,(qc1 ps h).day d];exact qcZ (List.mergeSort_perm ps J5) d
theorem Jy (cl:Cl) (v:Sl) (d:Int):∀ (l:List (Int×Int)) (s2 s3:Sl),∃ F,j0 cl 1000 (.many [2,3]) yS (l.map pD) [v,.val (.int d),s2,s3]=.ok F/\(jF l d=true->F=.ret (.val (.bl true)))/\(jF l d=false->∃ ρ',F=.next ρ')
 | [],s2,s3=>⟨_,rfl,fun h=>(by cases h),fun _=>⟨_,rfl⟩⟩
 | p::l,s2,s3=>by
  obtain ⟨F,i,a,b⟩:=Jy cl v d l (.val (.int p.1)) (.val (.int p.2))
  by_cases h1:p.1<=d
  ·by_cases h2:d<=p.2
   ·have e:jF (p::l) d=true:=by simp [jF,h1,h2]
    refine ⟨_,?_,fun _=>rfl,fun z=>(by rw [e] at z;cases z)⟩;refine (qt _).symm.trans ?_;rw [List.map_cons];simp? only [jE,Je,h1,h2]
   ·have e:jF (p::l) d=jF l d:=by simp [jF,h2]
    rw [e];refine ⟨F,?_,a,b⟩;refine (qt _).symm.trans ?_;rw [List.map_cons];simp? only [jE,Je,h1,h2,i]
  ·have e:jF (p::l) d=jF l d:=by simp [jF,h1]
   rw [e];refine ⟨F,?_,a,b⟩;refine (qt _).symm.trans ?_;rw [List.map_cons];simp? only [jE,Je,h1,i]
theorem qc2 {pg:Pg} [HO pg] (k:Nat) (b:Bool) (l:List (Int×Int)) (d:Int):clK pg (k+1) "holds" [aL b (l.map pD),.val (.int d)]=.ok (.val (.bl (jF l d))):=by
 rw [r_holds];obtain ⟨F,i,i1,i2⟩:=Jy (pg.kk k) (pS b (l.map pD)) d l .no .no
 cases h:jF l d with
 | true=>rw [i1 h] at i;simp? only [Qr,i]
 | false=>obtain ⟨ρ',e⟩:=i2 h;rw [e] at i;simp? only [Qr,i]
end DG
namespace DG
open PySem L2 DE FA Dy
open CH ST LA SP HO RU BO WE WO
def _root_.FA.Kd.cls:Kd->Str
 | .wi=>"Within"
 | .si=>"Since"
 | .ro=>"InRow"
def _root_.FA.Kd.fld:Kd->Str
 | .wi=>"span"
 | .si=>"leave"
 | .ro=>"leave"
noncomputable def ruI (r:Ru):D:=.ins r.kd.cls ["lands","most",r.kd.fld] [.tup (r.lands.map lnD),.int r.most,.int r.days]
theorem Za (r:Ru):qcl pcs (.val (ruI r)) "lands" = some (.tup (r.lands.map lnD)):=by obtain ⟨kd,l,m,d⟩:=r;cases kd<;>rfl
theorem qbi (r:Ru):mtD pcs (.val (ruI r)) "weight" = some ("Rule.weight" : Str):=by obtain ⟨kd,l,m,d⟩:=r;cases kd<;>rfl
abbrev St:=Str×Int×Int
abbrev Pa:=Int×Int×Int
def paD (p:Pa):D:=.tup [.int p.1,.int p.2.1,.int p.2.2]
theorem yq (p:Pa):paD p=.tup [.int p.1,.int p.2.1,.int p.2.2]:=rfl
noncomputable def bkI (rs:List Ru) (ps:List Pa):D:=.ins "Book" ["kept_rules","kept_papers"] [.lst (rs.map ruI),.lst (ps.map paD)]
theorem qc3 (rs:List Ru) (ps:List Pa):qcl pcs (.val (bkI rs ps)) "kept_rules" = some (.lst (rs.map ruI)):=rfl
theorem qbj (rs:List Ru) (ps:List Pa):qcl pcs (.val (bkI rs ps)) "kept_papers" = some (.lst (ps.map paD)):=rfl
theorem qc4 (rs:List Ru) (ps:List Pa):mtD pcs (.val (bkI rs ps)) "rules" = some ("Book.rules" : Str):=rfl
theorem qbk (rs:List Ru) (ps:List Pa):mtD pcs (.val (bkI rs ps)) "lifted" = some ("Book.lifted" : Str):=rfl
noncomputable def qE:List St->Int->Option Str
 | [],_=>none
 | s::l,d=>if s.2.1<=d/\d<=s.2.2 then some s.1 else qE l d
def z9:Option Str->D
 | some z=>.str z
 | none=>.non
theorem YU (cl:Cl) (v:Sl) (d:Int):∀ (l:List St) (s2 s3 s4:Sl),∃ F,j0 cl 1000 (.many [2,3,4]) zA (l.map stD) [v,.val (.int d),s2,s3,s4]=.ok F/\(∀ z,qE l d=some z->F=.ret (.val (.str z)))/\(qE l d=none->∃ ρ',F=.next ρ')
 | [],s2,s3,s4=>⟨_,rfl,fun z h=>(by cases h),fun _=>⟨_,rfl⟩⟩
 | s::l,s2,s3,s4=>by
  obtain ⟨F,i,a,b⟩:=YU cl v d l (.val (.str s.1)) (.val (.int s.2.1)) (.val (.int s.2.2));unfold qE
  by_cases h1:s.2.1<=d
  ·by_cases h2:d<=s.2.2
   ·rw [if_pos ⟨h1,h2⟩];refine ⟨.ret (.val (.str s.1)),?_,fun z e=>(by cases e;rfl),fun z=>(by cases z)⟩;refine (qt _).symm.trans ?_;rw [List.map_cons];simp? only [ze,zw,h1,h2]
   ·rw [if_neg (fun z=>h2 z.2)];refine ⟨F,?_,a,b⟩;refine (qt _).symm.trans ?_;rw [List.map_cons];simp? only [ze,zw,h1,h2,i]
  ·rw [if_neg (fun z=>h1 z.1)];refine ⟨F,?_,a,b⟩;refine (qt _).symm.trans ?_;rw [List.map_cons];simp? only [ze,zw,h1,i]
theorem Zb {pg:Pg} [LA pg] (k:Nat) (b:Bool) (l:List St) (d:Int):clK pg (k+1) "land_among" [aL b (l.map stD),.val (.int d)]=.ok (.val (z9 (qE l d))):=by
 rw [r_land_among];obtain ⟨F,i,i1,i2⟩:=YU (pg.kk k) (pS b (l.map stD)) d l .no .no .no
 cases h:qE l d with
 | some z=>rw [i1 z h] at i;simp? only [jj,i,z9]
 | none=>obtain ⟨ρ',e⟩:=i2 h;rw [e] at i;simp? only [jj,i,z9]
def wt:List (Str×Int)->Option Str->Int
 | [],_=>0
 | p::l,o=>if o=some p.1 then p.2 else wt l o
theorem jW {z:Str} (h:NameOk z):PyData.strOk z=true:=by
 unfold PyData.strOk;rw [<-Array.all_toList,List.all_eq_true];intro c hc
 have:=h.lets c hc
 unfold yb at this;rw [decide_eq_true_eq];omega
theorem qft {p:Str} (hp:NameOk p) {o:Option Str} (ho:∀ z,o=some z->NameOk z):eqD (.str p) (z9 o)=some (decide (o=some p)):=by
 cases o with
 | none=>show eqD (.str p) .non=_;rw [qh7 (jW hp)];simp
 | some z=>
  show eqD (.str p) (.str z)=_;rw [j9 (jW hp) (jW (ho z rfl))]
  congr 1
  rw [Bool.eq_iff_iff,beq_iff_eq,decide_eq_true_eq];constructor
  ·rintro rfl;rfl
  ·intro e;cases e;rfl
theorem y4 (cl:Cl) (v:Sl) (o:Option Str) (ho:∀ z,o=some z->NameOk z):∀ (l:List (Str×Int)) (s2 s3:Sl),(∀ p∈l,LnOk p)->∃ F,j0 cl 1000 (.many [2,3]) zo (l.map lnD) [v,.val (z9 o),s2,s3]=.ok F/\(F=.ret (.val (.int (wt l o)))\/(wt l o=0/\∃ ρ',F=.next ρ'))
 | [],s2,s3,_=>⟨_,rfl,.inr ⟨rfl,_,rfl⟩⟩
 | p::l,s2,s3,h=>by
  obtain ⟨F,i,a⟩:=y4 cl v o ho l (.val (.str p.1)) (.val (.int p.2)) fun q hq=>h q (by simp [hq]);have e:=qft (h p (by simp)).nm ho;unfold wt
  by_cases hc:o=some p.1
  ·rw [if_pos hc];rw [decide_eq_true hc] at e;refine ⟨_,?_,.inl rfl⟩;refine (qt _).symm.trans ?_;rw [List.map_cons];simp? only [zG,Q8,e]
  ·rw [if_neg hc];rw [decide_eq_false hc] at e;refine ⟨F,?_,a⟩;refine (qt _).symm.trans ?_;rw [List.map_cons];simp? only [zG,Q8,e,i]
theorem qbl {pg:Pg} [RU pg] (k:Nat) (r:Ru) (h:∀ p∈r.lands,LnOk p) (o:Option Str) (ho:∀ z,o=some z->NameOk z):clK pg (k+1) "Rule.weight" [.val (ruI r),.val (z9 o)]=.ok (.val (.int (wt r.lands o))):=by
 rw [r_Rule_weight];obtain ⟨F,i,a⟩:=y4 (pg.kk k) (.val (ruI r)) o ho r.lands .no .no h;rcases a with rfl | ⟨i0,ρ',rfl⟩
 ·simp? only [zP,RU.cs,Za,i]
 ·simp? only [zP,RU.cs,Za,i,i0]
theorem qc5 {pg:Pg} [RU pg] [BO pg] (k:Nat) (rs:List Ru) (ps:List Pa):clK pg (k+1) "Book.rules" [.val (bkI rs ps)]=.ok (.tmp (rs.map ruI)):=by rw [r_Book_rules];simp? only [yk,RU.cs,qc3]
def ofN (n:Int) (ps:List Pa):List (Int×Int):=(ps.filter fun p=>p.1 == n).map fun p=>(p.2.1,p.2.2)
def qbm (n:Int) (ps:List Pa):List (Int×Int):=spr (ofN n ps)
theorem jH (cl:Cl) (n:Int):∀ (ps:List Pa) (acc:List (Int×Int)) (s0 s1 s2:Sl),acc.length+ps.length < 10000->zN cl zp (.many [0,1,2]) (.test (.cmp .Eq (.var 0) (.var 3))) (ps.map paD) [s0,s1,s2,.val (.int n)] (acc.map pD)=.ok ((acc++ofN n ps).map pD)
 | [],acc,s0,s1,s2,_=>by simp [ofN,jS]
 | p::ps,acc,s0,s1,s2,hl=>by
  rw [List.length_cons] at hl;have two:0+1+1<=sizeLine:=by decide+kernel
  have hs:(acc.map pD).length < sizeLine:=by rw [List.length_map];exact jG (1:)
  cases hc:(p.1 == n) with
  | true=>
   have ih:=jH cl n ps (acc++[(p.2.1,p.2.2)]) (.val (.int p.1)) (.val (.int p.2.1)) (.val (.int p.2.2)) (by simp;omega);have e:ofN n (p::ps)=(p.2.1,p.2.2)::ofN n ps:=by simp [ofN,hc]
   rw [e];simp only [List.map_append,List.map_cons,List.map_nil,Je,List.append_assoc,List.cons_append,List.nil_append] at ih ⊢;refine (qt _).symm.trans ?_;simp? only [zI,yq,qR,hc,two,hs,ih]
  | false=>
   have ih:=jH cl n ps acc (.val (.int p.1)) (.val (.int p.2.1)) (.val (.int p.2.2)) (1:);have e:ofN n (p::ps)=ofN n ps:=by simp [ofN,hc]
   rw [e];refine (qt _).symm.trans ?_;rw [List.map_cons];simp? only [zI,yq,qR,hc,two,hs,ih]
theorem qfu (n:Int) (ps:List Pa):(ofN n ps).length<=ps.length:=by unfold ofN;rw [List.length_map];exact List.length_filter_le ..
theorem qbn {pg:Pg} [RU pg] [BO pg] [SP pg] (k:Nat) (rs:List Ru) (ps:List Pa) (n:Int) (hl:ps.length < 64):clK pg (k+2) "Book.lifted" [.val (bkI rs ps),.val (.int n)]=.ok (.tmp ((qbm n ps).map pD)):=by
 have i:=jH (pg.kk (k+1)) n ps [] .no .no .no (by simp;omega);have s:=qbh (pg:=pg) k false (ofN n ps) (Nat.lt_of_le_of_lt (qfu n ps) hl);have hs:(ps.map paD).length<=sizeLine:=by rw [List.length_map];exact yc (1:)
 simp only [qiE,qiF] at s;rw [List.map_nil,List.nil_append] at i;rw [r_Book_lifted];simp? only [jV,RU.cs,qbj,qdM,List.getD_cons_succ,List.getD_cons_zero,hs,i,s,qbm]
noncomputable def wgt (r:Ru) (lf:List (Int×Int)) (st:List St) (d:Int):Int:=if jF lf d=true then 0 else wt r.lands (qE st d)
theorem YV {st:List St} (h:∀ s∈st,NameOk s.1) (d:Int):∀ z,qE st d=some z->NameOk z:=by
 intro z e
 induction st with
 | nil=>cases e
 | cons s l ih=>
  unfold qE at e
  split at e
  ·cases e;exact h s (by simp)
  ·exact ih (fun x hx=>h x (by simp [hx])) e
theorem qc6 {pg:Pg} [RU pg] [HO pg] [LA pg] [WE pg] (k:Nat) (b:Bool) (r:Ru) (hr:∀ p∈r.lands,LnOk p) (lf:List (Int×Int)) (st:List St) (hs:∀ s∈st,NameOk s.1) (d:Int) :
  clK pg (k+2) "weigh" [.val (ruI r),.val (.lst (lf.map pD)),aL b (st.map stD),.val (.int d)]=.ok (.val (.int (wgt r lf st d))):=by
 have h:=qc2 (pg:=pg) k false lf d;have l:=Zb (pg:=pg) k b st d;have w:=qbl (pg:=pg) k r hr (qE st d) (YV hs d);simp only [qiE,qiF] at h;rw [r_weigh];unfold wgt
 try simp only [qiE,qiF] at l
 cases e:jF lf d with
 | true=>rw [e] at h;simp? only [Qs,h]
 | false=>rw [e] at h;simp? only [Qs,h,l,RU.cs,qbi,w]
end DG
namespace DG
open PySem L2 DE FA Dy
open CH ST LA SP HO RU BO WE WO
def ws (f:Int->Int) (lo:Int):Nat->List Int
 | 0=>[]
 | n+1=>f lo::ws f (lo+1) n
section
variable {pg:Pg} [RU pg] [HO pg] [LA pg] [WE pg]
noncomputable def qbo (f:Int->Int) (leave:Int):Nat->Int->Int->Int->Int->Int×Int
 | 0,fi,to,_,_=>(fi,to)
 | n+1,fi,to,em,ba=>if em < leave then (if f ba=0 then qbo f leave n fi to (em+1) (ba - 1) else qbo f leave n ba (to+f ba) 0 (ba - 1)) else (fi,to)
end
def _root_.FA.Kd.isW:Kd->Bool
 | .wi=>true
 | _=>false
noncomputable def win (r:Ru) (f:Int->Int) (d:Int):Int×Int:=if r.kd.isW=true then (d - r.days+1,(ws f (d - r.days+1) r.days.toNat).sum) else qbo f r.days 1000 (d+1) 0 0 d
theorem qfv {rs:List Ru} {n:Nat} {r:Ru} (h:rs[n]?=some r):atI (rs.map ruI) (n:Int)=some (ruI r):=qjx (by rw [List.getElem?_map,h];rfl)
section
variable {pg:Pg} [CH pg] [ST pg] [RU pg] [BO pg] [SP pg] [HO pg] [LA pg] [WE pg] [WO pg]
theorem Qz (k:Nat) (b:Bool) (rs:List Ru) (ps:List Pa) (hp:ps.length < 64) (n:Nat) (r:Ru) (hn:rs[n]?=some r) (hr:∀ p∈r.lands,LnOk p) (st:List St) (hs:∀ s∈st,NameOk s.1) (hc:Ch (-1) st) (h6:st.length<=60) (d:Int) :
  clK pg (k+6) "weight_on" [.val (bkI rs ps),.val (.int n),aL b (st.map stD),.val (.int d)]=.ok (.val (.int (wgt r (qbm n ps) st d))):=by
 have a:=qc5 (pg:=pg) (k+4) rs ps;have l:=qbn (pg:=pg) (k+3) rs ps (n:Int) hp;have s:=yz (pg:=pg) k b st hc h6;have w:=qc6 (pg:=pg) (k+3) false r hr (qbm n ps) st hs d;have e:=qfv hn;rw [r_weight_on]
 try simp only [qiE,qiF] at s w
 simp? only [yW,RU.cs,qc4,qbk,a,l,s,w,e]
end
abbrev Rl:=Ru×List (Int×Int)
noncomputable def qdU (st:List St) (d:Int):Nat->List Rl->Option (Int×Int×Int)
 | _,[]=>none
 | i,x::l=>if x.1.most < (win x.1 (wgt x.1 x.2 st) d).2 then some (d,(i:Int),(win x.1 (wgt x.1 x.2 st) d).1) else qdU st d (i+1) l
noncomputable def flt (st:List St) (rs:List Rl) (lo:Int):Nat->Option (Int×Int×Int)
 | 0=>none
 | n+1=>match qdU st lo 0 rs with
  | some x=>some x
  | none=>flt st rs (lo+1) n
end DG
namespace DG
open PySem L2 DE FA Dy
open CH ST LA SP HO RU BO WE WO
def qkO:List St->Int
 | []=>0
 | s::_=>s.2.1
def qjG (st:List St):Int:=match st.getLast? with
 | some s=>s.2.2
 | none=>0
end DG
namespace FA
open PySem DE DG Dy
open L2 hiding St
open LC LN LR LM LP LS RU
theorem J1 {k:Nat}:¬ (k+12 < 12):=by omega
theorem Qt {pg:Pg} [RU pg] [LM pg] (k:Nat) (r:Ru) (h:RuOk r):clK pg (k+13) "_law_made" [.val (ruD r)]=.ok (.val (ruI r)):=by
 have hl:=h.lands;have h0:=h.m0;have h1:=h.m1;have h2:=h.d0;have h3:=h.d1;have hm:btw r.most 0 1000000000=true:=by unfold btw;simp;omega
 have hd:btw r.days 1 1000000000=true:=by unfold btw;simp;omega
 obtain ⟨kd,lands,most,days⟩:=r;dsimp only at hl hm hd;have w1:PyData.strOk "within" = true:=by decide+kernel
 have w2:PyData.strOk "since" = true:=by decide+kernel
 have w3:PyData.strOk "row" = true:=by decide+kernel
 rw [r__law_made]
 cases kd with
 | wi=>
  have e:pg.nw (k+12) "Within" [.val (.lst (lands.map lnD)),.val (.int most),.val (.int days)]=.ok (.val (ruI ⟨.wi,lands,most,days⟩)):=by rw [RU.nw];show (if k+12 < 12 then R.no else ZQ "Within" (if (qB (lands.map lnD)&&btw most 0 1000000000&&btw days 1 1000000000)=true then _ else none))=_;rw [if_neg J1,if_pos (by rw [hl,hm,hd];rfl)];rfl
  simp? only [zT,ruD,Kd.nm,j9 w1 w1,show (("within" : Str) == "within")=true by decide+kernel,e]
 | si=>
  have e:pg.nw (k+12) "Since" [.val (.lst (lands.map lnD)),.val (.int most),.val (.int days)]=.ok (.val (ruI ⟨.si,lands,most,days⟩)):=by rw [RU.nw];show (if k+12 < 12 then R.no else ZQ "Since" (if (qB (lands.map lnD)&&btw most 0 1000000000&&btw days 1 1000000000)=true then _ else none))=_;rw [if_neg J1,if_pos (by rw [hl,hm,hd];rfl)];rfl
  simp? only [zT,ruD,Kd.nm,j9 w2 w1,j9 w2 w2,show (("since" : Str) == "within")=false by decide+kernel,show (("since" : Str) == "since")=true by decide+kernel,e]
 | ro=>
  have d1:days=1:=h.row rfl;subst d1
  have e:pg.nw (k+12) "InRow" [.val (.lst (lands.map lnD)),.val (.int most)]=.ok (.val (ruI ⟨.ro,lands,most,1⟩)):=by rw [RU.nw];show (if k+12 < 12 then R.no else ZQ "InRow" (if (qB (lands.map lnD)&&btw most 0 1000000000)=true then _ else none))=_;rw [if_neg J1,if_pos (by rw [hl,hm];rfl)];rfl
  simp? only [zT,ruD,Kd.nm,j9 w3 w1,j9 w3 w2,show (("row" : Str) == "within")=false by decide+kernel,show (("row" : Str) == "since")=false by decide+kernel,e]
structure PaOk (m qm:Int) (p:Pa):Prop where
 o0:0<=p.1
 o1:p.1 < m
 a0:qm<=p.2.1
 a1:p.2.1 < qm+60
 b0:p.2.1<=p.2.2
 b1:p.2.2 < p.2.1+9
theorem JX {pg:Pg} [LP pg] (k:Nat) (c m qm:Int) (hm:0 < m):∃ p:Pa,PaOk m qm p/\clK pg (k+1) "_law_paper" [.val (.int c),.val (.int m),.val (.int qm)]=.ok (.val (paD p)):=by
 have hn:0<=c * 982451653 % 10000000000037:=Int.emod_nonneg _ (2:);generalize hN:c * 982451653 % 10000000000037=n at hn;have mul:Y5 c 982451653=true:=Jx (2:) (2:);have three:0+1+1+1<=sizeLine:=by decide+kernel
 have a0:0<=n / 8 % 60:=Int.emod_nonneg _ (2:);have a1:n / 8 % 60 < 60:=Int.emod_lt_of_pos _ (2:);have b0:0<=n / 480 % 9:=Int.emod_nonneg _ (2:);have b1:n / 480 % 9 < 9:=Int.emod_lt_of_pos _ (2:);refine ⟨(n % m,qm+n / 8 % 60,qm+n / 8 % 60+n / 480 % 9),⟨Int.emod_nonneg _ (1:),Int.emod_lt_of_pos _ hm,by dsimp only;omega,by dsimp only;omega,by dsimp only;omega,by dsimp only;omega⟩,?_⟩;rw [r__law_paper];simp? only [yn,mul,hN,hm,three,yq]
structure StsOk (zs:List Str) (qm:Int) (st:List St):Prop where
 ch:Ch (qm - 1) st
 hi:∀ s∈st,s.2.2<=qm+59
 nm:∀ s∈st,s.1∈zs
theorem qbp:∀ (l:List St) (e:Int) (s:St),Ch e l->StOk (match l.getLast? with | some t=>t.2.2 | none=>e) s->Ch e (l++[s])
 | [],e,s,_,h=>⟨h,trivial⟩
 | t::l,e,s,h,h'=>by
  refine ⟨h.1,qbp l t.2.2 s h.2 ?_⟩
  cases l with
  | nil=>exact h'
  | cons u r=>exact h'
theorem zl {cl:Cl} (v0:Sl) (zs:List Str) (hz:NamesOk zs) (qm:Int) (h0:0<=qm) (h1:qm<=1000000000 - 60):∀ (cs:List Int) (l:List St) (day:Int) (s5 s6 s7 s8:Sl),l.length+cs.length < 10000->StsOk zs qm l->(day=match l.getLast? with | some t=>t.2.2+1 | none=>qm)->
  ∃ (l':List St) (ρ':List Sl),j0 cl 1000 (.one 5) zD (cs.map D.int) [v0,.bor (zs.map D.str),.val (.int qm),.own (l.map stD),.val (.int day),s5,s6,s7,s8]=.ok (.next (v0::.bor (zs.map D.str)::.val (.int qm)::.own (l'.map stD)::ρ'))/\l'.length<=l.length+cs.length/\StsOk zs qm l'
 | [],l,day,s5,s6,s7,s8,_,h,_=>⟨l,_,rfl,by simp,h⟩
 | c::cs,l,day,s5,s6,s7,s8,hl,h,hday=>by
  rw [List.length_cons] at hl;have hL:(0:Int) < (zs.length:Int):=by have:=hz.two;omega
  have hn:0<=c * 1099087573 % 10000000000037:=Int.emod_nonneg _ (2:);have mul:Y5 c 1099087573=true:=Jx (2:) (2:);generalize hN:c * 1099087573 % 10000000000037=n at hn;have g0:0<=n % 6:=Int.emod_nonneg _ (2:);have g1:n % 6 < 6:=Int.emod_lt_of_pos _ (2:);have g2:0<=n / 6 % 3:=Int.emod_nonneg _ (2:);have g3:n / 6 % 3 < 3:=Int.emod_lt_of_pos _ (2:);have g4:0<=n / 18 % 9:=Int.emod_nonneg _ (2:);have g5:n / 18 % 9 < 9:=Int.emod_lt_of_pos _ (2:);have gp:0<=n % 6 * (n / 6 % 3):=Int.mul_nonneg g0 g2;have mul2:Y5 (n % 6) (n / 6 % 3)=true:=Jx (1:) (1:);generalize hg:n % 6 * (n / 6 % 3)=g at gp;obtain ⟨z,e1,e2⟩:=Q9 (zs:=zs) (n / 162 % (zs.length:Int)) (Int.emod_nonneg _ (1:)) (Int.emod_lt_of_pos _ hL);have hzm:z∈zs:=List.mem_of_getElem? e2;have hs:(l.map stD).length < sizeLine:=by rw [List.length_map];exact jG (1:)
  have three:0+1+1+1<=sizeLine:=by decide+kernel
  by_cases hc:day+g+n / 18 % 9<=qm+59
  ·have hd:qm<=day:=by
    rw [hday]
    cases q:l.getLast? with
    | none=>exact Int.le_refl _
    | some t=>
     have ht:t∈l:=List.mem_of_getLast? q;show qm<=t.2.2+1
     have key:∀ (l:List St) (e:Int),Ch e l->∀ t∈l,e < t.2.1/\t.2.1<=t.2.2:=by
      intro l
      induction l with
      | nil=>intro e _ t ht;cases ht
      | cons u r ih=>
       intro e hh t ht;rcases List.mem_cons.mp ht with rfl | ht
       ·exact ⟨hh.1.lo,hh.1.ab⟩
       ·have:=ih _ hh.2 t ht
        have:=hh.1.lo
        have:=hh.1.ab
        omega
     have:=key l _ h.ch t ht
     omega
   obtain ⟨l',ρ',ih,i1,i2⟩:=zl (cl:=cl) v0 zs hz qm h0 h1 cs (l++[(z,day+g,day+g+n / 18 % 9)]) (day+g+n / 18 % 9+1) (.val (.int c)) (.val (.int n)) (.val (.int (day+g))) (.val (.int (day+g+n / 18 % 9))) (by simp;omega)
    ⟨qbp l _ _ h.ch ⟨hz.ok z hzm,by
      dsimp only
      cases q:l.getLast? with
      | none=>rw [q] at hday;dsimp only at hday ⊢;omega
      | some t=>rw [q] at hday;dsimp only at hday ⊢;omega,by dsimp only;omega,by dsimp only;omega⟩,
     fun s hs=>by
      rcases List.mem_append.mp hs with q | q
      ·exact h.hi s q
      ·rw [List.mem_singleton.mp q];exact hc,
     fun s hs=>by
      rcases List.mem_append.mp hs with q | q
      ·exact h.nm s q
      ·rw [List.mem_singleton.mp q];exact hzm⟩ (by simp)
   refine ⟨l',ρ',?_,by simp at i1 ⊢;omega,i2⟩;simp only [List.map_append,List.map_cons,List.map_nil,zw] at ih;refine (qt _).symm.trans ?_;rw [List.map_cons];simp? only [zY,mul,hN,mul2,hg,hc,e1,qbf,hL,three,hs,ih,zw]
  ·obtain ⟨l',ρ',ih,i1,i2⟩:=zl (cl:=cl) v0 zs hz qm h0 h1 cs l day (.val (.int c)) (.val (.int n)) (.val (.int (day+g))) (.val (.int (day+g+n / 18 % 9))) (1:) h hday;refine ⟨l',ρ',?_,by rw [List.length_cons];omega,i2⟩;refine (qt _).symm.trans ?_;rw [List.map_cons];simp? only [zY,mul,hN,mul2,hg,hc,ih]
theorem yz {pg:Pg} [LS pg] (k:Nat) (cs:List Int) (hl:cs.length < 1000) (zs:List Str) (hz:NamesOk zs) (qm:Int) (h0:0<=qm) (h1:qm<=1000000000 - 60):∃ st:List St,StsOk zs qm st/\st.length<=cs.length/\
  clK pg (k+1) "_law_stays" [.val (.lst (cs.map D.int)),.bor (zs.map D.str),.val (.int qm)]=.ok (.tmp (st.map stD)):=by
 obtain ⟨l,ρ,e,e1,e2⟩:=zl (cl:=pg.kk k) (.val (.lst (cs.map D.int))) zs hz qm h0 h1 cs [] qm .no .no .no .no (by simp;omega) ⟨trivial,fun s h=>(by cases h),fun s h=>(by cases h)⟩ rfl;refine ⟨l,e2,by simpa using e1,?_⟩;rw [List.map_nil] at e;rw [r__law_stays];simp? only [yo,show (0:Nat)<=sizeLine by decide+kernel,e]
end FA
namespace DG
open PySem DE FA Dy
open L2 hiding St
theorem qbq:∀ l:List (Str×Int),wt l none=0
 | []=>rfl
 | p::l=>by unfold wt;rw [if_neg (by simp)];exact qbq l
theorem qbr {f:Int->Int}:∀ (n:Nat) (lo:Int),(ws f lo (n+1)).sum=(ws f lo n).sum+f (lo+n)
 | 0,lo=>by simp [ws]
 | n+1,lo=>by rw [ws,List.sum_cons,qbr n (lo+1),ws,List.sum_cons,show lo+1+(n:Int)=lo+((n+1:Nat):Int) by omega];omega
theorem qid {f:Int->Int} (hf:∀ x,0<=f x):∀ (n:Nat) (lo:Int),0<=(ws f lo n).sum
 | 0,_=>by simp [ws]
 | n+1,lo=>by
  rw [ws,List.sum_cons]
  have:=hf lo
  have:=qid hf n (lo+1)
  omega
theorem Ch.lo:∀ {l:List St} {e:Int},Ch e l->∀ t∈l,e < t.2.1/\t.2.1<=t.2.2
 | [],_,_,t,ht=>by cases ht
 | u::r,e,h,t,ht=>by
  rcases List.mem_cons.mp ht with rfl | ht
  ·exact ⟨h.1.lo,h.1.ab⟩
  ·have:=Ch.lo h.2 t ht
   have:=h.1.lo
   have:=h.1.ab
   exact ⟨by omega,by omega⟩
end DG
namespace FA
open PySem DE DG Dy
open L2 hiding St
open LC LN LR LM LP LS RU
theorem QA (ns:List Int) (a b:Nat):∃ ms:List Int,qdx (ns.map D.int) (some (a:Int)) (some (b:Int))=ms.map D.int/\ms.length<=b - a:=by
 refine ⟨(ns.drop (min a ns.length)).take (min b ns.length - min a ns.length),?_,?_⟩
 ·unfold qdx;rw [HT.qam,HT.qam,List.length_map,List.map_take,List.map_drop]
 ·refine Nat.le_trans (List.length_take_le ..) ?_;rcases Nat.le_total a ns.length with h | h
  ·rw [Nat.min_eq_left h];exact Nat.sub_le_sub_right (Nat.min_le_left ..) a
  ·rw [Nat.min_eq_right h,Nat.sub_eq_zero_of_le (Nat.min_le_right ..)];exact Nat.zero_le _
def qie:E:=.call "_law_rule" %[0,1|0]
def qdV:E:=.call "_law_paper" %[0,.b1 .len (.var 2),1|0]
def qif:E:=.call "_law_made" %[0|0]
theorem Jz {pg:Pg} [LR pg] (k:Nat) (zs:List Str) (hz:NamesOk zs):∀ (cs:List Int) (acc:List D) (s0:Sl),acc.length+cs.length < 10000->∃ rs:List Ru,(∀ r∈rs,RuOk r)/\rs.length=cs.length/\
  zN (pg.kk (k+1)) qie (.one 0) .yes (cs.map D.int) [s0,.bor (zs.map D.str)] acc=.ok (acc++rs.map ruD)
 | [],acc,s0,_=>⟨[],fun r h=>(by cases h),rfl,by simp [jS]⟩
 | c::cs,acc,s0,hl=>by
  rw [List.length_cons] at hl;obtain ⟨r,h1,h2⟩:=qfo (pg:=pg) k c zs hz;obtain ⟨rs,i1,i2,i3⟩:=Jz (pg:=pg) k zs hz cs (acc++[ruD r]) (.val (.int c)) (by simp;omega);refine ⟨r::rs,fun x hx=>?_,by simp [i2],?_⟩
  ·rcases List.mem_cons.mp hx with rfl | hx
   ·exact h1
   ·exact i1 x hx
  ·have hs:acc.length < sizeLine:=jG (1:);simp only [List.append_assoc,List.cons_append,List.nil_append] at i3;refine (qt _).symm.trans ?_;rw [List.map_cons,List.map_cons];unfold qie at i3 ⊢;simp? only [h2,hs,i3]
theorem y6 {pg:Pg} [LP pg] (k:Nat) (qm:Int) (rs:List D) (hr:0 < rs.length):∀ (cs:List Int) (acc:List D) (s0:Sl),acc.length+cs.length < 10000->∃ ps:List Pa,(∀ p∈ps,PaOk rs.length qm p)/\ps.length=cs.length/\
  zN (pg.kk (k+1)) qdV (.one 0) .yes (cs.map D.int) [s0,.val (.int qm),.bor rs] acc=.ok (acc++ps.map paD)
 | [],acc,s0,_=>⟨[],fun r h=>(by cases h),rfl,by simp [jS]⟩
 | c::cs,acc,s0,hl=>by
  rw [List.length_cons] at hl;obtain ⟨p,h1,h2⟩:=JX (pg:=pg) k c rs.length qm (1:);obtain ⟨ps,i1,i2,i3⟩:=y6 (pg:=pg) k qm rs hr cs (acc++[paD p]) (.val (.int c)) (by simp;omega);refine ⟨p::ps,fun x hx=>?_,by simp [i2],?_⟩
  ·rcases List.mem_cons.mp hx with rfl | hx
   ·exact h1
   ·exact i1 x hx
  ·have hs:acc.length < sizeLine:=jG (1:);simp only [List.append_assoc,List.cons_append,List.nil_append] at i3;refine (qt _).symm.trans ?_;rw [List.map_cons,List.map_cons];unfold qdV at i3 ⊢;simp? only [h2,hs,i3]
theorem YW {pg:Pg} [RU pg] [LM pg] (k:Nat):∀ (rs:List Ru) (acc:List D) (s0:Sl),acc.length+rs.length < 10000->(∀ r∈rs,RuOk r)->
  zN (pg.kk (k+13)) qif (.one 0) .yes (rs.map ruD) [s0] acc=.ok (acc++rs.map ruI)
 | [],acc,s0,_,_=>by simp [jS]
 | r::rs,acc,s0,hl,h=>by rw [List.length_cons] at hl;have h2:=Qt (pg:=pg) k r (h r (by simp));have i3:=YW (pg:=pg) k rs (acc++[ruI r]) (.val (ruD r)) (by simp;omega) fun x hx=>h x (by simp [hx]);have hs:acc.length < sizeLine:=jG (1:);simp only [List.append_assoc,List.cons_append,List.nil_append] at i3;refine (qt _).symm.trans ?_;rw [List.map_cons,List.map_cons];unfold qif at i3 ⊢;simp? only [h2,hs,i3]
end FA
namespace DG
open PySem DE FA Dy
open L2 hiding St
theorem qc7 (r:Ru):YL (ruI r)=true:=by obtain ⟨kd,l,m,d⟩:=r;cases kd<;>rfl
theorem qfw {pg:Pg} [RU pg] (k:Nat) (b c:Bool) (rs:List Ru) (ps:List Pa) (hr:rs.length<=8) (hp:ps.length<=12) (h:∀ p∈ps,0<=p.1/\p.1 < rs.length/\0<=p.2.1/\p.2.1<=p.2.2/\p.2.2<=1000000000) :
  pg.nw (k+12) "Book" [aL b (rs.map ruI),aL c (ps.map paD)]=.ok (.val (bkI rs ps)):=by
 have e:∀ (b:Bool) (l:List D),arL (aL b l)=some l:=fun b l=>by cases b<;>rfl
 have h1:((decide ((rs.map ruI).length<=8)&&(rs.map ruI).all YL)&&(decide ((ps.map paD).length<=12)&&(ps.map paD).all (js (rs.map ruI).length)))=true:=by simp only [List.length_map,Bool.and_eq_true,decide_eq_true_eq,List.all_eq_true,List.mem_map];refine ⟨⟨hr,fun x ⟨r,_,hx⟩=>by rw [<-hx];exact qc7 r⟩,hp,fun x ⟨p,hm,hx⟩=>?_⟩;obtain ⟨q1,q2,q3,q4,q5⟩:=h p hm;rw [<-hx];show (btw p.1 0 ((rs.length:Int) - 1)&&btw p.2.1 0 1000000000&&btw p.2.2 0 1000000000&&decide (p.2.1<=p.2.2))=true;unfold btw;simp only [Bool.and_eq_true,decide_eq_true_eq];omega
 rw [RU.nw]
 show (if k+12 < 12 then R.no else ZQ "Book" (match arL (aL b (rs.map ruI)),arL (aL c (ps.map paD)) with
  | some l,some ps=>if ((decide (l.length<=8)&&l.all YL)&&(decide (ps.length<=12)&&ps.all (js l.length)))=true then some [("kept_rules",D.lst l),("kept_papers",D.lst ps)] else none
  | _,_=>none))=_
 rw [if_neg (1:),e,e];dsimp only;rw [if_pos h1];rfl
structure StRight (st:List St):Prop where
 ch:Ch (-1) st
 nm:∀ s∈st,NameOk s.1
 len:st.length<=60
 wide:qjG st<=qkO st+500
theorem Ch.weak {l:List St} {e e':Int} (h:e'<=e) (hc:Ch e l):Ch e' l:=by
 cases l with
 | nil=>trivial
 | cons s l=>exact ⟨⟨hc.1.nm,by have:=hc.1.lo;omega,hc.1.ab,hc.1.hi⟩,hc.2⟩
structure BkOk (rs:List Ru) (ps:List Pa):Prop where
 r:∀ r∈rs,RuOk r
 nr:rs.length<=8
 np:ps.length<=12
section
variable {pg:Pg} [CH pg] [ST pg] [RU pg] [BO pg] [SP pg] [HO pg] [LA pg] [WE pg] [WO pg]
theorem ZX (k:Nat) (b:Bool) {rs:List Ru} {ps:List Pa} (hb:BkOk rs ps) {st:List St} (hs:StRight st) {n:Nat} {r:Ru} (hn:rs[n]?=some r) (d:Int):clK pg (k+6) "weight_on" [.val (bkI rs ps),.val (.int n),aL b (st.map stD),.val (.int d)]=.ok (.val (.int (wgt r (qbm n ps) st d))):=by
 have q:=hb.r r (List.mem_of_getElem? hn)
 have:=hb.np
 exact Qz k b rs ps (1:) n r hn q.ok st hs.nm hs.ch hs.len d
end
end DG
namespace DG
open PySem DE FA Dy
open L2 hiding St
open CH ST LA SP HO RU BO WE WO
def mn (a b:Int):Int:=if b < a then b else a
end DG
namespace FZ
open PySem DE DG Dy FA
open L2 hiding St
open RU
def wd (g:Bool):Int:=if g=true then 5000000 else 25
end FZ
namespace DG
open PySem DE FA Dy
open L2 hiding St
def inP (p:Pa) (d:Int):Prop:=p.1<=d/\d<=p.2.1
instance (p:Pa) (d:Int):Decidable (inP p d):=by unfold inP;infer_instance
noncomputable def chn (leave d:Int):List Pa->Int->Int
 | [],_=>0
 | p::R,f=>if p.1<=d then (if leave<=f - 1 - mn p.2.1 d then 0 else (mn p.2.1 d - p.1+1) * p.2.2+chn leave d R p.1) else chn leave d R f
end DG
namespace DG
open PySem DE FA Dy
open L2 hiding St
def qiG (f:Int->Int) (n d:Int):Prop:=∀ x,d - n < x->x<=d->f x=0
structure Cnt (w:Bool) (n:Int) (f C:Int->Int):Prop where
 nn:∀ d,0<=f d
 low:∃ b,∀ d,d < b->C d=0/\f d=0
 win:w=true->∀ d,C d=(ws f (d - n+1) n.toNat).sum
 idle:w=false->∀ d,qiG f n d->C d=0
 busy:w=false->∀ d,¬ qiG f n d->C d=C (d - 1)+f d
namespace Cnt
variable {w:Bool} {n:Int} {f C:Int->Int}
theorem step (h:Cnt w n f C) (hw:w=true) (hn:1<=n) (d:Int):C d=C (d - 1)+f d - f (d - n):=by rw [h.win hw d,h.win hw (d - 1)];obtain ⟨m,rfl⟩:∃ m:Nat,n=((m+1:Nat):Int):=⟨(n - 1).toNat,by omega⟩;rw [Int.toNat_natCast,qbr,show d - 1 - ((m+1:Nat):Int)+1=d - ((m+1:Nat):Int) by omega,ws,List.sum_cons,show d - ((m+1:Nat):Int)+1+(m:Int)=d by omega];omega
theorem pos (h:Cnt w n f C) (d:Int):0<=C d:=by
 cases hw:w with
 | true=>rw [h.win hw];exact qid h.nn _ _
 | false=>
  obtain ⟨b,hb⟩:=h.low
  have:∀ m:Nat,∀ d,d < b+m->0<=C d:=by
   intro m
   induction m with
   | zero=>intro d hd;rw [(hb d (1:)).1];exact Int.le_refl _
   | succ m ih=>
    intro d hd
    by_cases hi:qiG f n d
    ·rw [h.idle hw d hi];exact Int.le_refl _
    ·rw [h.busy hw d hi]
     have:=ih (d - 1) (1:)
     have:=h.nn d
     omega
  exact this (d - b+1).toNat d (1:)
theorem grow (h:Cnt w n f C) (hn:1<=n) (d:Int):C d<=C (d - 1)+f d:=by
 cases hw:w with
 | true=>rw [h.step hw hn d];have:=h.nn (d - n);omega
 | false=>
  by_cases hi:qiG f n d
  ·rw [h.idle hw d hi]
   have:=h.pos (d - 1)
   have:=h.nn d
   omega
  ·rw [h.busy hw d hi];exact Int.le_refl _
theorem keeps (h:Cnt w n f C) (hn:1<=n) {m a b:Int} (ha:C a<=m) (hz:∀ x,a < x->x < b->f x=0):∀ x,a<=x->x < b->C x<=m:=by
 have:∀ k:Nat,∀ x,a<=x->x < b->x < a+k+1->C x<=m:=by
  intro k
  induction k with
  | zero=>intro x h1 h2 h3;rw [show x=a by omega];exact ha
  | succ k ih=>
   intro x h1 h2 h3
   by_cases y:x=a
   ·rw [y];exact ha
   ·have:=h.grow hn x
    rw [hz x (1:) h2] at this
    have:=ih (x - 1) (1:) (1:) (1:)
    omega
 exact fun x h1 h2=>this (x - a).toNat x h1 h2 (1:)
end Cnt
end DG
namespace DG
open PySem DE FA Dy
open L2 hiding St
theorem qdW:∀ l:List (Str×Int),qbN (l.map lnD)=some l
 | []=>rfl
 | p::l=>by rw [List.map_cons,qbN,qdW l];rfl
theorem qbs (z:Str):∀ l:List (Str×Int),(qew l z).getD 0=wt l (some z)
 | []=>rfl
 | p::l=>by
  have ih:=qbs z l;unfold qew at ih ⊢;unfold wt
  by_cases e:p.1=z
  ·rw [List.find?_cons,show decide (p.1=z)=true from decide_eq_true e,if_pos (by rw [e])];rfl
  ·rw [List.find?_cons,show decide (p.1=z)=false from decide_eq_false e,if_neg (fun q=>e (by cases q;rfl))];exact ih
theorem qfx {l:List (Str×Int)} (nd:(l.map (·.1)).Nodup) (z:Str):Yz 0 (.val (.lst (l.map lnD))) (.val (.str z))=.ok (.val (.int (wt l (some z)))):=by show (match qbN (l.map lnD) with | some kvs=>_ | none=>_)=_;rw [qdW];dsimp only;rw [if_pos nd,qbs]
end DG
namespace FX
open PySem L2 DE DG
noncomputable abbrev z0:Ss:=%[.ite (.and (.cmp .Eq (.idx (.var 5) (.con (.int 0))) (.var 2)) (.one (.chn .LtE .LtE (.idx (.var 5) (.con (.int 1))) (.var 4) (.idx (.var 5) (.con (.int 2)))))) %[.ret (.con (.int 0))|0] .nil|0]
def zq:Ss:=z0
theorem qG:USs zq z0:=fun _ _ _ _=>(rfl)
noncomputable abbrev z7:Ss:=%[.ite (.chn .LtE .LtE (.var 7) (.var 4) (.var 8)) %[.ret (.b2 (.get 0) (.idx (.var 0) (.con (.int 1))) (.var 6))|0] .nil|0]
def zr:Ss:=z7
theorem qW:USs zr z7:=fun _ _ _ _=>(rfl)
noncomputable def zk:Nat×Nat×Ss:=(5,9,%[.for_ (.one 5) (.seq (.var 1)) zq,.for_ (.many [6,7,8]) (.seq (.var 3)) zr,.ret (.con (.int 0))|0])
class XW (pg:Pg):Prop where
 r__law_weight:RW pg "_law_weight" zk
end FX
namespace FX
open PySem DE DG FA Dy
open L2 hiding St
open XW
theorem qc8 (n:Int) (p:Pa) (ps:List Pa):ofN n (p::ps)=if (p.1 == n)=true then (p.2.1,p.2.2)::ofN n ps else ofN n ps:=by
 unfold ofN;rw [List.filter_cons]
 split<;>rfl
theorem Zc (cl:Cl) (v0 v1 v3 v6 v7 v8:Sl) (n d:Int):∀ (ps:List Pa) (s5:Sl),∃ F,j0 cl 1000 (.one 5) zq (ps.map paD) [v0,v1,.val (.int n),v3,.val (.int d),s5,v6,v7,v8]=.ok F/\(jF (ofN n ps) d=true->F=.ret (.val (.int 0)))/\(jF (ofN n ps) d=false->∃ s5',F=.next [v0,v1,.val (.int n),v3,.val (.int d),s5',v6,v7,v8])
 | [],s5=>⟨_,rfl,fun h=>(by cases h),fun _=>⟨_,rfl⟩⟩
 | p::ps,s5=>by
  obtain ⟨F,i,a,b⟩:=Zc cl v0 v1 v3 v6 v7 v8 n d ps (.val (paD p));have a0:atI [D.int p.1,.int p.2.1,.int p.2.2] 0=some (.int p.1):=rfl;have a1:atI [D.int p.1,.int p.2.1,.int p.2.2] 1=some (.int p.2.1):=rfl;have a2:atI [D.int p.1,.int p.2.1,.int p.2.2] 2=some (.int p.2.2):=rfl;rw [qc8];simp only [yq] at i
  cases h:(p.1 == n) with
  | false=>rw [if_neg (2:)];refine ⟨F,?_,a,b⟩;refine (qt _).symm.trans ?_;rw [List.map_cons];simp? only [qG,yq,a0,qR,h,i]
  | true=>
   rw [if_pos rfl]
   by_cases h1:p.2.1<=d
   ·by_cases h2:d<=p.2.2
    ·refine ⟨.ret (.val (.int 0)),?_,fun _=>rfl,fun z=>?_⟩
     ·refine (qt _).symm.trans ?_;rw [List.map_cons];simp? only [qG,yq,a0,a1,a2,qR,h,h1,h2]
     ·have e:jF ((p.2.1,p.2.2)::ofN n ps) d=true:=by simp [jF,h1,h2]
      rw [e] at z;cases z
    ·have e:jF ((p.2.1,p.2.2)::ofN n ps) d=jF (ofN n ps) d:=by simp [jF,h2]
     rw [e];refine ⟨F,?_,a,b⟩;refine (qt _).symm.trans ?_;rw [List.map_cons];simp? only [qG,yq,a0,a1,a2,qR,h,h1,h2,i]
   ·have e:jF ((p.2.1,p.2.2)::ofN n ps) d=jF (ofN n ps) d:=by simp [jF,h1]
    rw [e];refine ⟨F,?_,a,b⟩;refine (qt _).symm.trans ?_;rw [List.map_cons];simp? only [qG,yq,a0,a1,a2,qR,h,h1,i]
theorem Zd (cl:Cl) (v1 v2 v3 v5:Sl) (r:Ru) (nd:(r.lands.map (·.1)).Nodup) (d:Int):∀ (l:List St) (s6 s7 s8:Sl),∃ F,j0 cl 1000 (.many [6,7,8]) zr (l.map stD) [.val (ruD r),v1,v2,v3,.val (.int d),v5,s6,s7,s8]=.ok F/\(∀ z,qE l d=some z->F=.ret (.val (.int (wt r.lands (some z)))))/\(qE l d=none->∃ ρ',F=.next ρ')
 | [],s6,s7,s8=>⟨_,rfl,fun z h=>(by cases h),fun _=>⟨_,rfl⟩⟩
 | s::l,s6,s7,s8=>by
  obtain ⟨F,i,a,b⟩:=Zd cl v1 v2 v3 v5 r nd d l (.val (.str s.1)) (.val (.int s.2.1)) (.val (.int s.2.2));have a1:atI [D.str r.kd.nm,.lst (r.lands.map lnD),.int r.most,.int r.days] 1=some (.lst (r.lands.map lnD)):=rfl;have g:=qfx nd s.1;simp only [ruD] at i;unfold qE
  by_cases h1:s.2.1<=d
  ·by_cases h2:d<=s.2.2
   ·rw [if_pos ⟨h1,h2⟩];refine ⟨.ret (.val (.int (wt r.lands (some s.1)))),?_,fun z e=>(by cases e;rfl),fun z=>(by cases z)⟩;refine (qt _).symm.trans ?_;rw [List.map_cons];simp? only [qW,zw,ruD,a1,h1,h2,g]
   ·rw [if_neg (fun z=>h2 z.2)];refine ⟨F,?_,a,b⟩;refine (qt _).symm.trans ?_;rw [List.map_cons];simp? only [qW,zw,ruD,h1,h2,i]
  ·rw [if_neg (fun z=>h1 z.1)];refine ⟨F,?_,a,b⟩;refine (qt _).symm.trans ?_;rw [List.map_cons];simp? only [qW,zw,ruD,h1,i]
theorem qjH {pg:Pg} [XW pg] (k:Nat) (r:Ru) (nd:(r.lands.map (·.1)).Nodup) (ps:List Pa) (hp:∀ p∈ps,p.2.1<=p.2.2) (n:Int) (st:List St) (d:Int) :
  clK pg (k+1) "_law_weight" [.val (ruD r),.bor (ps.map paD),.val (.int n),.bor (st.map stD),.val (.int d)]=.ok (.val (.int (wgt r (qbm n ps) st d))):=by
 have e:jF (qbm n ps) d=jF (ofN n ps) d:=qfs (fun p hq=>by unfold ofN at hq;obtain ⟨q,hm,rfl⟩:=List.mem_map.mp hq;exact hp q (List.mem_filter.mp hm).1) d
 unfold wgt;rw [e,r__law_weight];obtain ⟨F,i,i1,i2⟩:=Zc (pg.kk k) (.val (ruD r)) (.bor (ps.map paD)) (.bor (st.map stD)) .no .no .no n d ps .no
 cases h:jF (ofN n ps) d with
 | true=>rw [i1 h] at i;rw [if_pos rfl];simp? only [zk,i]
 | false=>
  obtain ⟨s5,q⟩:=i2 h;rw [q] at i;rw [if_neg (2:)];obtain ⟨G,j,j1,j2⟩:=Zd (pg.kk k) (.bor (ps.map paD)) (.val (.int n)) (.bor (st.map stD)) s5 r nd d st .no .no .no
  cases h':qE st d with
  | some z=>rw [j1 z h'] at j;simp? only [zk,i,j]
  | none=>obtain ⟨ρ',q'⟩:=j2 h';rw [q'] at j;rw [qbq];simp? only [zk,i,j]
end FX
namespace K22
open PySem L2 DE DG FA FX
noncomputable def top (i:Nat):Stmt:=PySem.Challenge.pw_daysgate_k22_what_a_day_counts.main.body.getD i (.Pass ⟨0,0,0,0⟩)
def mem (i j:Nat):Stmt:=(qfi (top i)).getD j (.Pass ⟨0,0,0,0⟩)
noncomputable def pg:Pg:={ defs:=[(("spread" : Str),top 2),(("holds" : Str),top 3),(("is_whole" : Str),top 8),(("is_between" : Str),top 9),(("are_days" : Str),top 10),(("is_made_of" : Str),top 11),(("is_name" : Str),top 12),(("is_land" : Str),top 21),(("are_lands" : Str),top 22),(("is_stay" : Str),top 29),(("stays_of" : Str),top 30),(("land_among" : Str),top 31),(("land_on" : Str),top 32),(("weigh" : Str),top 34),(("weight_on" : Str),top 35),(("are_rules" : Str),top 39),(("is_paper" : Str),top 40),(("check_papers" : Str),top 41),(("_law_cell_at" : Str),top 44),(("_law_lands" : Str),top 45),(("_law_rule" : Str),top 46),(("_law_made" : Str),top 47),(("_law_paper" : Str),top 48),(("_law_stays" : Str),top 49),(("_law_weight" : Str),top 50),(("_law_land" : Str),top 51),(("law" : Str),top 52)],gl:=fun x=>if x = "GREATEST" then some (.int 1000000000) else if x = "LETTERS" then some (.str "abcdefghijklmnopqrstuvwxyz") else if x = "LONGEST_NAME" then some (.int 8) else if x = "MOST_LANDS" then some (.int 6) else if x = "GREATEST_WEIGHT" then some (.int 9) else if x = "MOST_STAYS" then some (.int 60) else if x = "MOST_RULES" then some (.int 8) else if x = "MOST_PAPERS" then some (.int 12) else none,m:=40,w:=1000,meths:=[("Rule.weight",mem 23 1),("Book.rules",mem 42 1),("Book.papers",mem 42 2),("Book.lifted",mem 42 3)],cs:=pcs,nw:=pnw }
instance:DG.CH pg:=⟨%[8|1],%[9|1],%[10|1],%[11|1],%[12|1]⟩
instance:DG.ST pg:=⟨%[29|1],%[30|1]⟩
instance:DG.LA pg:=⟨%[31|1]⟩
instance:DG.SP pg:=⟨%[2|1]⟩
instance:DG.HO pg:=⟨%[3|1]⟩
instance:DG.RU pg:=⟨rfl,rfl,%[21|1],%[22|1],qw (pg:=pg) (st:=mem 23 1) (by kernel_rfl) (fun k cl=>by kernel_rfl)⟩
instance:DG.BO pg:=⟨%[39|1],%[40|1],%[41|1],qw (pg:=pg) (st:=mem 42 1) (by kernel_rfl) (fun k cl=>by kernel_rfl),qw (pg:=pg) (st:=mem 42 2) (by kernel_rfl) (fun k cl=>by kernel_rfl),qw (pg:=pg) (st:=mem 42 3) (by kernel_rfl) (fun k cl=>by kernel_rfl)⟩
instance:DG.WE pg:=⟨%[34|1]⟩
instance:DG.WO pg:=⟨%[35|1]⟩
instance:FA.LC pg:=⟨%[44|1]⟩
instance:FA.LN pg:=⟨%[45|1]⟩
instance:FA.LR pg:=⟨%[46|1]⟩
instance:FA.LM pg:=⟨%[47|1]⟩
instance:FA.LP pg:=⟨%[48|1]⟩
instance:FA.LS pg:=⟨%[49|1]⟩
instance:FX.XW pg:=⟨%[50|1]⟩
noncomputable def YX:Nat×Nat×Ss:=(2,2,%[.ret (.call "land_among" %[.call "stays_of" %[0|0],1|0])|0])
theorem qbt:RW pg "land_on" YX:=%[32|1]
noncomputable abbrev jx:Ss:=%[.ite (.chn .LtE .LtE (.var 3) (.var 1) (.var 4)) %[.ret (.var 2)|0] .nil|0]
def zU:Ss:=jx
theorem zt:USs zU jx:=fun _ _ _ _=>(rfl)
noncomputable def jI:Nat×Nat×Ss:=(2,5,%[.for_ (.many [2,3,4]) (.seq (.var 0)) zU,.ret (.con .non)|0])
theorem QB:RW pg "_law_land" jI:=%[51|1]
abbrev qc9:E:=(.call "_law_rule" %[0,1|0])
def qbu:E:=qc9
noncomputable abbrev qda:E:=(.call "_law_paper" %[0,.b1 .len (.var 2),1|0])
def qbv:E:=qda
abbrev qdb:E:=(.call "_law_made" %[0|0])
def qbw:E:=qdb
noncomputable abbrev Ze:Ss:=%[.set 10 (.call "land_on" %[8,9|0]),.ite (.cmp .NotEq (.var 10) (.call "_law_land" %[5,9|0])) %[.ret (.con (.bl false))|0] .nil|0]
def QC:Ss:=Ze
theorem qbx:USs QC Ze:=fun _ _ _ _=>(rfl)
noncomputable abbrev Zf:Ss:=%[.set 12 (.call "weight_on" %[7,11,8,9|0]),.ite (.or (.not (.val (.isi Ty.int (.var 12)))) (.one (.val (.isi Ty.bool (.var 12))))) %[.ret (.con (.bl false))|0] .nil,.ite (.cmp .NotEq (.var 12) (.call "_law_weight" %[6,4,11,5,9|0])) %[.ret (.con (.bl false))|0] .nil|0]
def QD:Ss:=Zf
theorem qby:USs QD Zf:=fun _ _ _ _=>(rfl)
noncomputable abbrev Zg:Ss:=%[.for_ (.one 9) (.rng3 (.bin .Add (.bin .Sub (.var 2) (.con (.int 3))) (.var 11)) (.bin .Add (.var 2) (.con (.int 63))) (.con (.int 4))) QD|0]
def QE:Ss:=Zg
theorem qbz:USs QE Zg:=fun _ _ _ _=>(rfl)
noncomputable def qig:Nat×Nat×Ss:=(1,13,%[.set 1 (.call "_law_lands" %[.call "_law_cell_at" %[0,.con (.int 0)|0],.bin .Add (.con (.int 2)) (.bin .Mod (.bin .FloorDiv (.call "_law_cell_at" %[0,.con (.int 0)|0]) (.con (.int 512))) (.con (.int 3)))|0]),.set 2 (.bin .Mod (.call "_law_cell_at" %[0,.con (.int 1)|0]) (.bin .Sub (.bin .Pow (.con (.int 10)) (.con (.int 9))) (.con (.int 199)))),.set 3 (.comp qbu (.seq (.bin .Add (.lst %[.call "_law_cell_at" %[0,.con (.int 2)|0]|0]) (.sli (.var 0) (.some (.con (.int 3))) (.some (.con (.int 6)))))) (.one 0) .yes 1 [1]),.set 4 (.comp qbv (.seq (.sli (.var 0) (.some (.con (.int 6))) (.some (.con (.int 9))))) (.one 0) .yes 1 [2,3]),.set 5 (.call "_law_stays" %[.sli (.var 0) (.some (.con (.int 9))) (.some (.con (.int 49))),1,2|0]),.set 7 (.new "Book" %[.comp qbw (.seq (.var 3)) (.one 0) .yes 1 [],4|0]),.set 8 (.b1 .list (.var 5)),.for_ (.one 9) (.seq (.bin .Add (.b2 .rng (.bin .Sub (.var 2) (.con (.int 3))) (.bin .Add (.var 2) (.con (.int 63)))) (.lst %[.con (.int 0),.bin .Add (.var 2) (.bin .Pow (.con (.int 10)) (.con (.int 8)))|0]))) QC,.for_ (.many [11,6]) (.enum (.var 3)) QE,.ret (.cmp .Eq (.var 8) (.var 5))|0])
theorem qjI:RW pg "law" qig:=%[52|1]
end K22
namespace K22
open PySem DE DG FA FX Dy
open L2 hiding St
theorem QF (ns:List Int) (i:Nat):clK pg 19 "_law_cell_at" [.scr (ns.map D.int),.val (.int (i:Int))]=.ok (.val (.int (zZ ns i))):=qfm (pg:=pg) 18 ns i
theorem qdc {a:List St} (h:a≠[]):∃ t∈a,t.2.2=qjG a:=by obtain ⟨t,ht⟩:∃ t,a.getLast?=some t:=⟨_,List.getLast?_eq_some_getLast h⟩;exact ⟨t,List.mem_of_getLast? ht,by unfold qjG;rw [ht]⟩
theorem qdd {st:List St} {lo:Int} (hc:Ch (-1) st) (hn:∀ s∈st,NameOk s.1) (hl:st.length<=60) (hb:∀ s∈st,lo<=s.2.1/\s.2.2<=lo+500):StRight st:=by
 refine ⟨hc,hn,hl,?_⟩
 cases st with
 | nil=>decide
 | cons s l=>obtain ⟨t,ht,e⟩:=qdc (a:=s::l) (by simp);have h1:=(hb s (by simp)).1;have h2:=(hb t ht).2;rw [<-e];show t.2.2<=s.2.1+500;omega
theorem QG (lo hi c:Int) (hc:0 < c):∃ ds:List Int,zy lo hi c=ds.map D.int/\∀ d∈ds,lo<=d/\d < hi:=by
 refine ⟨(List.range (rsz lo hi c)).map fun i:Nat=>lo+i * c,by unfold zy;rw [List.map_map];rfl,fun d hd=>?_⟩;obtain ⟨i,hi',rfl⟩:=List.mem_map.mp hd;have hi':=List.mem_range.mp hi';have h0:0<=(i:Int) * c:=Int.mul_nonneg (1:) (1:);refine ⟨by omega,?_⟩;unfold rsz at hi'
 split at hi'
 ·have q0:=Int.ediv_nonneg (show 0<=hi - lo - 1 by omega) (Int.le_of_lt hc);have a:(i:Int)<=(hi - lo - 1) / c:=by omega
  have b:(i:Int) * c<=(hi - lo - 1) / c * c:=Int.mul_le_mul_of_nonneg_right a (1:);have d:=Int.ediv_mul_le (hi - lo - 1) (show c≠0 by omega);omega
 ·omega
theorem qbA:∀ (st:List St),(∀ s∈st,NameOk s.1)->qdP (st.map stD)=true/\qcP (st.map stD)<=63
 | [],_=>by simp [qdP,qcP]
 | s::l,h=>by obtain ⟨a,b⟩:=qbA l fun t ht=>h t (by simp [ht]);have n:=jW (h s (by simp));rw [List.map_cons,zw];refine ⟨by simp [qdP,okD,n,a],?_⟩;simp only [qcP,dpD];omega
theorem qbB (cl:Cl) (v:Sl) (d:Int):∀ (l:List St) (s2 s3 s4:Sl),∃ F,j0 cl 1000 (.many [2,3,4]) zU (l.map stD) [v,.val (.int d),s2,s3,s4]=.ok F/\(∀ z,qE l d=some z->F=.ret (.val (.str z)))/\(qE l d=none->∃ ρ',F=.next ρ')
 | [],s2,s3,s4=>⟨_,rfl,fun z h=>(by cases h),fun _=>⟨_,rfl⟩⟩
 | s::l,s2,s3,s4=>by
  obtain ⟨F,i,a,b⟩:=qbB cl v d l (.val (.str s.1)) (.val (.int s.2.1)) (.val (.int s.2.2));unfold qE
  by_cases h1:s.2.1<=d
  ·by_cases h2:d<=s.2.2
   ·rw [if_pos ⟨h1,h2⟩];refine ⟨.ret (.val (.str s.1)),?_,fun z e=>(by cases e;rfl),fun z=>(by cases z)⟩;refine (qt _).symm.trans ?_;rw [List.map_cons];simp? only [zt,zw,h1,h2]
   ·rw [if_neg (fun z=>h2 z.2)];refine ⟨F,?_,a,b⟩;refine (qt _).symm.trans ?_;rw [List.map_cons];simp? only [zt,zw,h1,h2,i]
  ·rw [if_neg (fun z=>h1 z.1)];refine ⟨F,?_,a,b⟩;refine (qt _).symm.trans ?_;rw [List.map_cons];simp? only [zt,zw,h1,i]
theorem qjJ (k:Nat) (l:List St) (d:Int):clK pg (k+1) "_law_land" [.bor (l.map stD),.val (.int d)]=.ok (.val (z9 (qE l d))):=by
 rw [QB];obtain ⟨F,i,i1,i2⟩:=qbB (pg.kk k) (.bor (l.map stD)) d l .no .no .no
 cases h:qE l d with
 | some z=>rw [i1 z h] at i;simp? only [jI,i,z9]
 | none=>obtain ⟨ρ',e⟩:=i2 h;rw [e] at i;simp? only [jI,i,z9]
theorem qjK (k:Nat) {st:List St} (hs:StRight st) (d:Int):clK pg (k+6) "land_on" [.bor (st.map stD),.val (.int d)]=.ok (.val (z9 (qE st d))):=by have s:clK pg (k+5) "stays_of" [.bor (st.map stD)]=.ok (.tmp (st.map stD)):=DG.yz (pg:=pg) k true st hs.ch hs.len;have p:clK pg (k+5) "land_among" [.val (.lst (st.map stD)),.val (.int d)]=.ok (.val (z9 (qE st d))):=Zb (pg:=pg) (k+4) false st d;rw [qbt];simp? only [YX,s,p]
theorem qjL {st:List St} (hs:StRight st) (d:Int):eqD (z9 (qE st d)) (z9 (qE st d))=some true:=by
 cases h:qE st d with
 | none=>exact JS (by simp [z9,okD]) (by simp [z9,dpD])
 | some z=>exact JS (by simp [z9,okD,jW (YV hs.nm d z h)]) (by simp [z9,dpD])
section
variable {rs:List Ru} {ps:List Pa} {st:List St}
theorem qih (hs:StRight st) (v0 v1 v2 v3 v4 v6 v7 v11 v12:Sl):∀ (ds:List Int) (s9 s10:Sl),
  ∃ s9' s10',j0 (pg.kk 19) 1000 (.one 9) QC (ds.map D.int) [v0,v1,v2,v3,v4,.own (st.map stD),v6,v7,.own (st.map stD),s9,s10,v11,v12]=.ok (.next [v0,v1,v2,v3,v4,.own (st.map stD),v6,v7,.own (st.map stD),s9',s10',v11,v12])
 | [],s9,s10=>⟨s9,s10,rfl⟩
 | d::ds,s9,s10=>by obtain ⟨s9',s10',ih⟩:=qih hs v0 v1 v2 v3 v4 v6 v7 v11 v12 ds (.val (.int d)) (.val (z9 (qE st d)));refine ⟨s9',s10',?_⟩;have a:clK pg 19 "land_on" [.bor (st.map stD),.val (.int d)]=_:=qjK 13 hs d;have b:clK pg 19 "_law_land" [.bor (st.map stD),.val (.int d)]=_:=qjJ 18 st d;have e:=qjL hs d;rw [List.map_cons];refine (qt _).symm.trans ?_;simp? only [qbx,a,b,e,ih]
theorem qii (hb:BkOk rs ps) (hp:∀ p∈ps,p.2.1<=p.2.2) (hs:StRight st) {j:Nat} {r:Ru} (hj:rs[j]?=some r) (v0 v1 v2 v3 v10:Sl):∀ (ds:List Int) (s9 s12:Sl),
  ∃ s9' s12',j0 (pg.kk 19) 1000 (.one 9) QD (ds.map D.int) [v0,v1,v2,v3,.own (ps.map paD),.own (st.map stD),.val (ruD r),.val (bkI rs ps),.own (st.map stD),s9,v10,.val (.int (j:Int)),s12]=.ok (.next [v0,v1,v2,v3,.own (ps.map paD),.own (st.map stD),.val (ruD r),.val (bkI rs ps),.own (st.map stD),s9',v10,.val (.int (j:Int)),s12'])
 | [],s9,s12=>⟨s9,s12,rfl⟩
 | d::ds,s9,s12=>by have hro:=hb.r r (List.mem_of_getElem? hj);obtain ⟨s9',s12',ih⟩:=qii hb hp hs hj v0 v1 v2 v3 v10 ds (.val (.int d)) (.val (.int (wgt r (qbm j ps) st d)));refine ⟨s9',s12',?_⟩;have a:clK pg 19 "weight_on" [.val (bkI rs ps),.val (.int (j:Int)),.bor (st.map stD),.val (.int d)]=.ok (.val (.int (wgt r (qbm (j:Int) ps) st d))):=ZX (pg:=pg) 13 true hb hs hj d;have b:clK pg 19 "_law_weight" [.val (ruD r),.bor (ps.map paD),.val (.int (j:Int)),.bor (st.map stD),.val (.int d)]=_:=qjH (pg:=pg) 18 r hro.nd ps hp j st d;have e:(wgt r (qbm (j:Int) ps) st d == wgt r (qbm (j:Int) ps) st d)=true:=beq_self_eq_true _;rw [List.map_cons];refine (qt _).symm.trans ?_;simp? only [qby,a,b,qR,e,ih]
theorem qij (hb:BkOk rs ps) (hp:∀ p∈ps,p.2.1<=p.2.2) (hs:StRight st) {qm:Int} (h0:0<=qm) (h1:qm < 999999801) (v0 v1 v10:Sl):∀ (rest:List Ru) (j:Nat) (s6 s9 s11 s12:Sl),(∀ (m:Nat) r,rest[m]?=some r->rs[j+m]?=some r)->j+rest.length<=8->
  ∃ s6' s9' s11' s12',j0 (pg.kk 19) 1000 (.many [11,6]) QE (enF j (rest.map ruD)) [v0,v1,.val (.int qm),.val (.lst (rs.map ruD)),.own (ps.map paD),.own (st.map stD),s6,.val (bkI rs ps),.own (st.map stD),s9,v10,s11,s12]
   = .ok (.next [v0,v1,.val (.int qm),.val (.lst (rs.map ruD)),.own (ps.map paD),.own (st.map stD),s6',.val (bkI rs ps),.own (st.map stD),s9',v10,s11',s12'])
 | [],j,s6,s9,s11,s12,_,_=>⟨s6,s9,s11,s12,rfl⟩
 | r::rest,j,s6,s9,s11,s12,h,hl=>by
  rw [List.length_cons] at hl;have hj:rs[j]?=some r:=h 0 r rfl;obtain ⟨ds,e3,_⟩:=QG (qm - 3+(j:Int)) (qm+63) 4 (2:);obtain ⟨t9,t12,lp⟩:=qii hb hp hs hj v0 v1 (.val (.int qm)) (.val (.lst (rs.map ruD))) v10 ds s9 s12
  obtain ⟨s6',s9',s11',s12',ih⟩:=qij hb hp hs h0 h1 v0 v1 v10 rest (j+1) (.val (ruD r)) t9 (.val (.int j)) t12 (fun m x hx=>by
   have:=h (m+1) x hx
   rwa [show j+(m+1)=j+1+m by omega] at this) (1:)
  refine ⟨s6',s9',s11',s12',?_⟩
  have rg:rgB (qm - 3+(j:Int)) (qm+63) 4=true:=by unfold rgB;simp;omega
  rw [List.map_cons,enF];refine (qt _).symm.trans ?_;simp? only [qbz,rg,e3,lp,ih]
end
theorem qde (ns:List Int) (hl:ns.length<=63):clK pg 20 "law" [.scr (ns.map D.int)]=.ok (.val (.bl true)):=by
 have c0:clK pg 19 "_law_cell_at" [.scr (ns.map D.int),.val (.int 0)]=.ok (.val (.int (zZ ns 0))):=QF ns 0;have c1:clK pg 19 "_law_cell_at" [.scr (ns.map D.int),.val (.int 1)]=.ok (.val (.int (zZ ns 1))):=QF ns 1;have c2:clK pg 19 "_law_cell_at" [.scr (ns.map D.int),.val (.int 2)]=.ok (.val (.int (zZ ns 2))):=QF ns 2;generalize zZ ns 0=n0 at c0;generalize zZ ns 1=n1 at c1;generalize zZ ns 2=n2 at c2;obtain ⟨cs1,e1,l1⟩:=QA ns 3 6;obtain ⟨cs2,e2,l2⟩:=QA ns 6 9;obtain ⟨cs3,e3,l3⟩:=QA ns 9 49;have e1:qdx (ns.map D.int) (some 3) (some 6)=cs1.map D.int:=e1;have e2:qdx (ns.map D.int) (some 6) (some 9)=cs2.map D.int:=e2;have e3:qdx (ns.map D.int) (some 9) (some 49)=cs3.map D.int:=e3;have q0:0<=n0 / 512 % 3:=Int.emod_nonneg _ (2:);have q1:n0 / 512 % 3 < 3:=Int.emod_lt_of_pos _ (2:);obtain ⟨m,em⟩:∃ m:Nat,2+n0 / 512 % 3=(m:Int):=⟨(2+n0 / 512 % 3).toNat,by omega⟩;obtain ⟨zs,ez,lz,hz⟩:=qcW (pg:=pg) 18 n0 m (1:);have ez:clK pg 19 "_law_lands" [.val (.int n0),.val (.int (m:Int))]=.ok (.tmp (zs.map D.str)):=ez;have s0:0<=n1 % 999999801:=Int.emod_nonneg _ (2:);have s1:n1 % 999999801 < 999999801:=Int.emod_lt_of_pos _ (2:);generalize hS:n1 % 999999801=qm at s0 s1;obtain ⟨rs,r1,r2,er⟩:=Jz (pg:=pg) 18 zs hz (n2::cs1) [] .no (by simp;omega);have er:zN (pg.kk 19) qbu (.one 0) .yes (.int n2::cs1.map D.int) [.no,.bor (zs.map D.str)] []=.ok (rs.map ruD):=er;rw [List.length_cons] at r2;obtain ⟨st,h1,h2,est⟩:=FA.yz (pg:=pg) 18 cs3 (1:) zs hz qm s0 (1:);have est:clK pg 19 "_law_stays" [.val (.lst (cs3.map D.int)),.bor (zs.map D.str),.val (.int qm)]=.ok (.tmp (st.map stD)):=est;have nmk:∀ s∈st,NameOk s.1:=fun s hs=>hz.ok _ (h1.nm s hs)
 have inb:∀ s∈st,qm<=s.2.1/\s.2.2<=qm+59:=fun s hs=>by have a:=Ch.lo h1.ch s hs;have b:=h1.hi s hs;omega
 have hs:StRight st:=qdd (lo:=qm) (Ch.weak (1:) h1.ch) nmk (1:) fun s hs=>by have:=inb s hs;omega
 obtain ⟨ps,p1,p2,ep⟩:=y6 (pg:=pg) 18 qm (rs.map ruD) (by rw [List.length_map];omega) cs2 [] .no (by simp;omega);have ep:zN (pg.kk 19) qbv (.one 0) .yes (cs2.map D.int) [.no,.val (.int qm),.bor (rs.map ruD)] []=.ok (ps.map paD):=ep;rw [List.length_map] at p1
 have hp:∀ p∈ps,p.2.1<=p.2.2:=fun p hp=>by
  have h:=p1 p hp
  have:=h.b0
  omega
 have emd:=YW (pg:=pg) 6 rs [] .no (by simp;omega) r1;have emd:zN (pg.kk 19) qbw (.one 0) .yes (rs.map ruD) [.no] []=.ok (rs.map ruI):=emd
 have ebk:pg.nw 19 "Book" [.val (.lst (rs.map ruI)),.bor (ps.map paD)]=.ok (.val (bkI rs ps)):=qfw (pg:=pg) 7 false true rs ps (1:) (1:) fun p hp=>by
  have h:=p1 p hp
  have:=h.o0;have:=h.o1;have:=h.a0;have:=h.a1;have:=h.b0;have:=h.b1
  omega
 have hb:BkOk rs ps:=⟨r1,by omega,by omega⟩;have es:eqD (.lst (st.map stD)) (.lst (st.map stD))=some true:=JS (by simpa only [okD] using (qbA st nmk).1) (by simp only [dpD];have:=(qbA st nmk).2;omega)
 have el:qH (qm - 3) (qm+63)++[D.int 0,.int (qm+100000000)]=(((List.range 66).map fun i:Nat=>qm - 3+(i:Int))++[0,qm+100000000]).map D.int:=by unfold qH;rw [show (qm+63 - (qm - 3)).toNat=66 by omega,List.map_append,List.map_map];rfl
 have ll:(qH (qm - 3) (qm+63)).length+(0+1+1)<=sizeLine:=by unfold qH;rw [List.length_map,List.length_range];exact yc (1:)
 have lr:lrD (.val (.int (qm - 3))) (.val (.int (qm+63)))=.ok (.tmp (qH (qm - 3) (qm+63))):=by show (if yg (qm - 3)=true/\yg (qm+63)=true/\(qm+63 - (qm - 3)).toNat<=10000 then _ else _)=_;rw [if_pos];unfold yg;simp;omega
 obtain ⟨s9,s10,lp0⟩:=qih hs (.scr (ns.map D.int)) (.own (zs.map D.str)) (.val (.int qm)) (.val (.lst (rs.map ruD))) (.own (ps.map paD)) .no (.val (bkI rs ps)) .no .no (((List.range 66).map fun i:Nat=>qm - 3+(i:Int))++[0,qm+100000000]) .no .no;rw [<-el] at lp0;obtain ⟨s6,s9',s11,s12,lp2⟩:=qij hb hp hs s0 s1 (.scr (ns.map D.int)) (.own (zs.map D.str)) s10 rs 0 .no s9 .no .no (fun m r hr=>by rw [Nat.zero_add];exact hr) (1:);have z1:1+cs1.length<=sizeLine:=yc (1:);have z2:cs1.length+1<=sizeLine:=yc (1:);have z3:cs2.length<=sizeLine:=yc (1:);have z4:rs.length<=sizeLine:=yc (1:);have z5:0+1<=sizeLine:=by decide+kernel
 have z6:(0:Nat)+1+1<=sizeLine:=by decide+kernel
 have w9:(10:Int) ^ (9:Int).toNat - 199=999999801:=by decide
 have w8:(0:Int)<=9/\(9:Int)<=1000000/\(10:Int).natAbs < 2 ^ 64:=by decide
 have w7:(0:Int)<=8/\(8:Int)<=1000000/\(10:Int).natAbs < 2 ^ 64:=by decide
 have w6:(10:Int) ^ (8:Int).toNat=100000000:=by decide
 rw [show (20:Nat)=19+1 from rfl,qjI];simp? only [qig,c0,c1,c2,em,ez,w7,w8,w9,w6,hS,e1,e2,e3,z1,z2,z3,z4,z5,z6,qdM,qgL,List.getD_cons_succ,List.getD_cons_zero,er,ep,est,emd,ebk,List.length_map,lr,ll,lp0,JU,lp2,es]
end K22
namespace DE
open PySem PySem.Spec PyProof.Rows L2
def jJ (G G' H:Hp):Prop:=∀ a o,G' a=some o->(∃ o',G a=some o')\/H a=none
def But (p:Addr) (H H':Hp):Prop:=∀ a o,a≠p->H a=some o->H' a=some o
noncomputable def ZY (κ:KC) (K:Frag) (ok:Str->Bool) (go:List Ar->Option (List (Str×D))):Sp:=fun vs H Q _=>∃ (G:Hp) (c:Str) (C p dx:Addr) (us:List V) (args:List Ar) (fs:List (Str×D)),vs=.ref p::us/\ok c=true/\κ c=some C/\
 H p=some (.ins C dx [])/\G p=none/\qv G H/\jZ κ K G H args us/\go args=some fs/\
 ∀ G' H' xs,qv G G'->qv G' H'->G' p=none->But p H H'->jJ G G' H->H' p=some (.ins C dx ((fs.map (·.1)).zip xs))->xs.length=fs.length->qq κ G' (fs.map (·.2)) xs->Q .non H'
section
variable {κ:KC} {K:Frag} {G H G' H':Hp}
theorem JA {cl:Str->List Ar->R Rv} {f:Str} {args:List Ar} {vs:List V} {r:Rv} {Q:VK} {E:XK} (sub:qv G H) (ha:jZ κ K G H args vs) (e:cl f args=.ok r)
  (h:∀ v G' H',qv H H'->qv G G'->qv G' H'->jJ G G' H->ReR κ G' H' H r v->Q v H'):spF κ K cl f vs H Q E:=⟨G,args,sub,ha,by rw [e];exact h⟩
theorem ArR.low {a:Ar} {v:V} (h:ArR κ K G H a v) (gs:qv G G') (hs:∀ b o,H b=some o->(∀ C dx fs,o≠.ins C dx fs)->H' b=some o):(∀ l,a≠.scr l)->ArR κ K G' H' a v:=fun hn=>by
 cases a with
 | val d=>exact Rep.same gs h
 | bor l=>obtain ⟨b,xs,e,h1,h2⟩:=h;exact ⟨b,xs,e,hs _ _ h1 (by intros;intro z;cases z),h2.same gs⟩
 | scr l=>exact absurd rfl (hn l)
theorem J2 {nw:Str->List Ar->R Rv} {f c:Str} {C:Addr} {ok:Str->Bool} {go:List Ar->Option (List (Str×D))} (hC:κ c=some C) (hok:ok c=true)
  (hgo:∀ args r,nw f args=.ok r->(∀ a∈args,∀ l,a≠.scr l)/\∃ fs,go args=some fs/\r=.val (.ins c (fs.map (·.1)) (fs.map (·.2)))) :
  ∀ vs H Q,spF κ K nw f vs H Q E0->∀ x dx,H x=none->H dx=none->dx≠x->ZY κ K ok go (.ref x::vs) (upd (upd H dx (.own x)) x (.ins C dx [])) (fun v H2=>v=.non/\Q (.ref x) H2) E0:=by
 rintro vs H Q ⟨G,args,sub,ha,hw⟩ x dx hx hdx ne
 cases e:nw f args with
 | no=>rw [e] at hw;exact hw.elim
 | exc c l=>rw [e] at hw;exact hw.elim
 | ok r=>
  rw [e] at hw;obtain ⟨hs,fs,hg,rfl⟩:=hgo args r e;have gx:G x=none:=qv.none sub hx;have gd:G dx=none:=qv.none sub hdx
  have up:qv H (upd (upd H dx (.own x)) x (.ins C dx [])):=fun b o hb=>by
   have nb:b≠x:=fun z=>by rw [z,hx] at hb;cases hb
   have nd:b≠dx:=fun z=>by rw [z,hdx] at hb;cases hb
   rw [qf nb,qf nd];exact hb
  have ha':∀ {args:List Ar} {vs:List V},(∀ a∈args,∀ l,a≠.scr l)->jZ κ K G H args vs->jZ κ K G (upd (upd H dx (.own x)) x (.ins C dx [])) args vs:=by
   intro args
   induction args with
   | nil=>intro vs _ h;simp only [jZ] at h ⊢;exact h
   | cons a l ih=>intro vs hn h;simp only [jZ] at h ⊢;obtain ⟨v,r,e,h1,h2⟩:=h;exact ⟨v,r,e,h1.low (fun _ _ z=>z) (fun b o hb _=>up b o hb) (hn a (List.mem_cons_self ..)),ih (fun b hb=>hn b (List.mem_cons_of_mem _ hb)) h2⟩
  refine ⟨G,c,C,x,dx,vs,args,fs,rfl,hok,hC,qi,gx,fun b o hb=>up b o (sub b o hb),ha' hs ha,hg,fun G' H' xs gs sub' gx' but fr hp hl rp=>⟨rfl,?_⟩⟩;refine hw (.ref x) (upd G' x (.ins C dx ((fs.map (·.1)).zip xs))) H' (fun b o hb=>?_) (fun b o hb=>?_) (fun b o hb=>?_) (fun b o hb=>?_) ?_
  ·exact but b o (fun z=>by rw [z,hx] at hb;cases hb) (up b o hb)
  ·exact qv.upd gx' b o (gs b o hb)
  ·by_cases z:b=x
   ·subst z;rw [qi] at hb;cases hb;exact hp
   ·rw [qf z] at hb;exact sub' b o hb
  ·by_cases z:b=x
   ·subst z;exact .inr hx
   ·rw [qf z] at hb;rcases fr b o hb with q | q
    ·exact .inl q
    ·refine .inr ?_
     cases w:H b with
     | none=>rfl
     | some o'=>rw [up b o' w] at q;cases q
  ·simp only [ReR,Rep];exact ⟨x,dx,C,xs,hC,rfl,qi,by rw [hl,List.length_map],rp.same (qv.upd gx')⟩
end
end DE
namespace DG
open PySem PySem.Spec PyProof.Rows L2 DE
theorem zm {G G' H:Hp} {p:Addr} {o:L2.HO} (fr:jJ G G' H) (g:G p=none) (h:H p=some o):G' p=none:=by
 cases e:G' p with
 | none=>rfl
 | some o'=>
  rcases fr p o' e with ⟨o'',z⟩ | z
  ·rw [g] at z;cases z
  ·rw [h] at z;cases z
theorem jJ.trans {G G1 G2 H H1:Hp} (a:jJ G G1 H) (s:qv H H1) (b:jJ G1 G2 H1):jJ G G2 H:=fun x o h=>by
 rcases b x o h with ⟨o',z⟩ | z
 ·exact a x o' z
 ·exact .inr (qv.none s z)
theorem jJ.transB {G G1 G2 H H1:Hp} {p:Addr} {o:L2.HO} (a:jJ G G1 H) (s:But p H H1) (hp:H1 p=some o) (b:jJ G1 G2 H1):jJ G G2 H:=fun x o h=>by
 rcases b x o h with ⟨o',z⟩ | z
 ·exact a x o' z
 ·refine .inr ?_;have nx:x≠p:=fun q=>by rw [q,hp] at z;cases z
  cases w:H x with
  | none=>rfl
  | some o'=>rw [s x o' nx w] at z;cases z
def aA (b:Bool) (l:List D):Ar:=match b with
 | true=>.bor l
 | false=>.val (.lst l)
theorem YY {a:Ar} {l:List D} (e:arL a=some l):∃ b,a=aA b l:=by
 unfold arL at e
 split at e
 ·cases e;exact ⟨false,rfl⟩
 ·cases e;exact ⟨true,rfl⟩
 ·cases e
theorem Zh {a:Ar} {n:Int} (e:arI a=some n):a=.val (.int n):=by
 unfold arI at e
 split at e
 ·cases e;rfl
 ·cases e
theorem QH {κ:KC} {K:Frag} {G H:Hp} {b:Bool} {l:List D} {v:V} (sub:qv G H) (h:ArR κ K G H (aA b l) v):∃ p xs,v=.ref p/\H p=some (.lst xs)/\qq κ G l xs:=by
 cases b with
 | false=>simp only [aA,ArR,Rep] at h;obtain ⟨a,xs,e,h1,h2⟩:=h;exact ⟨a,xs,e,sub _ _ h1,h2⟩
 | true=>exact h
theorem qik {κ:KC} {K:Frag} {G H G' H':Hp} {b:Bool} {l:List D} {v:V} (h:ArR κ K G H (aA b l) v) (gs:qv G G') (hs:qv H H'):ArR κ K G' H' (aA b l) v:=h.low gs (fun b o e _=>hs b o e) (fun l'=>by cases b<;>(intro z;cases z))
theorem YZ {args:List Ar} {fs:List (Str×D)} (h:Q6 args=some fs):∃ b l m,args=[aA b l,.val (.int m)]/\qB l=true/\btw m 0 1000000000=true/\fs=([("lands",.tup l),("most",.int m)]:List (Str×D)):=by
 unfold Q6 at h
 split at h
 ·split at h
  ·rename_i e1 e2
   split at h
   ·rename_i hc;cases h;rw [Bool.and_eq_true] at hc;obtain ⟨b,rfl⟩:=YY e1;obtain rfl:=Zh e2;exact ⟨b,_,_,rfl,hc.1,hc.2,rfl⟩
   ·cases h
  ·cases h
 ·cases h
theorem zK {x:Str} {args:List Ar} {fs:List (Str×D)} (h:jf x args=some fs):∃ b l m s,args=[aA b l,.val (.int m),.val (.int s)]/\qB l=true/\btw m 0 1000000000=true/\btw s 1 1000000000=true/\fs=([("lands",.tup l),("most",.int m),(x,.int s)]:List (Str×D)):=by
 unfold jf at h
 split at h
 ·split at h
  ·rename_i e1 e2 e3
   split at h
   ·rename_i hc;cases h;rw [Bool.and_eq_true,Bool.and_eq_true] at hc;obtain ⟨b,rfl⟩:=YY e1;obtain rfl:=Zh e2;obtain rfl:=Zh e3;exact ⟨b,_,_,_,rfl,hc.1.1,hc.1.2,hc.2,rfl⟩
   ·cases h
  ·cases h
 ·cases h
theorem J3 {args:List Ar} {fs:List (Str×D)} (h:ZO args=some fs):∃ b l m,args=[aA b l,.val (.int m)]/\qB l=true/\btw m 0 1000000000=true/\fs=([("lands",.tup l),("most",.int m),("leave",.int 1)]:List (Str×D)):=by
 unfold ZO at h
 split at h
 ·split at h
  ·rename_i e1 e2
   split at h
   ·rename_i hc;cases h;rw [Bool.and_eq_true] at hc;obtain ⟨b,rfl⟩:=YY e1;obtain rfl:=Zh e2;exact ⟨b,_,_,rfl,hc.1,hc.2,rfl⟩
   ·cases h
  ·cases h
 ·cases h
theorem y7 {args:List Ar} {fs:List (Str×D)} (h:Jp args=some fs):∃ b c l ps,args=[aA b l,aA c ps]/\(decide (l.length<=8)&&l.all YL)=true/\(decide (ps.length<=12)&&ps.all (js l.length))=true/\fs=([("kept_rules",.lst l),("kept_papers",.lst ps)]:List (Str×D)):=by
 unfold Jp at h
 split at h
 ·split at h
  ·rename_i e1 e2
   split at h
   ·rename_i hc;cases h;rw [Bool.and_eq_true] at hc;obtain ⟨b,rfl⟩:=YY e1;obtain ⟨c,rfl⟩:=YY e2;exact ⟨b,c,_,_,rfl,hc.1,hc.2,rfl⟩
   ·cases h
  ·cases h
 ·cases h
theorem Y0 {b:Bool} {l:List D} {m:Int} (ol:qB l=true) (om:btw m 0 1000000000=true):Q6 [aA b l,.val (.int m)]=some ([("lands",.tup l),("most",.int m)]:List (Str×D)):=by cases b<;>(show (if (qB l&&btw m 0 1000000000)=true then _ else none)=_;rw [if_pos (by rw [ol,om];rfl)])
theorem qbC {x:Str} {b:Bool} {l:List D} {m s:Int} (ol:qB l=true) (om:btw m 0 1000000000=true) (os:btw s 1 1000000000=true):jf x [aA b l,.val (.int m),.val (.int s)]=some ([("lands",.tup l),("most",.int m),(x,.int s)]:List (Str×D)):=by cases b<;>(show (if (qB l&&btw m 0 1000000000&&btw s 1 1000000000)=true then _ else none)=_;rw [if_pos (by rw [ol,om,os];rfl)])
structure Tx (κ:KC) (K:Frag) (mg:PR):Prop where
 tup:mg "tuple" = none
 lst:mg "list" = none
 len:mg "len" = none
 gG:∃ t,mg "GREATEST" = some (.int 1000000000 t)
 cls:∀ c C,κ c=some C->Cls K C
 nA:∀ c x C,pcs.fld c x=true->κ c=some C->zn K C x
structure Ck (pg:Pg) (j:Nat):Prop where
 lands:∀ b l,qB l=true->clK pg j "are_lands" [aA b l]=.ok (.val (.bl true))
 rules:∀ b l,(decide (l.length<=8)&&l.all YL)=true->clK pg j "are_rules" [aA b l]=.ok (.val (.bl true))
 papers:∀ b (ps:List D) (n:Int),(decide (ps.length<=12)&&ps.all (js n))=true->clK pg j "check_papers" [aA b ps,.val (.int n)]=.ok (.val .non)
 btw:∀ n a b,btw n a b=true->clK pg j "is_between" [.val (.int n),.val (.int a),.val (.int b)]=.ok (.val (.bl true))
theorem Zi {c:Str} (h:rk c=true):pcs.fld c "lands" = true/\pcs.fld c "most" = true:=by
 constructor
 ·show ((rk c&&(true||_||_||_))||_)=true;rw [h];rfl
 ·show ((rk c&&(false||true||_||_))||_)=true;rw [h];rfl
def okW (c:Str):Bool:=c == "Within"
def okS (c:Str):Bool:=c == "Since" || c == "InRow"
def okI (c:Str):Bool:=c == "InRow"
def okB (c:Str):Bool:=c == "Book"
theorem qil {c:Str} (h:okW c=true):rk c=true:=by unfold okW at h;unfold rk;rw [h];rfl
theorem qim {c:Str} (h:okS c=true):rk c=true:=by unfold okS at h;unfold rk;rw [Bool.or_assoc,h,Bool.or_true]
theorem qfy {c:Str} (h:okI c=true):okS c=true:=by unfold okI at h;unfold okS;rw [h,Bool.or_true]
theorem qfz {c:Str} (h:okW c=true):pcs.fld c "span" = true:=by
 have e:c = "Within":=by simpa [okW] using h
 subst e;decide
theorem qdf {c:Str} (h:okS c=true):pcs.fld c "leave" = true:=by
 have e:c = "Since"\/c = "InRow":=by simpa [okS] using h
 rcases e with e | e<;>subst e<;>decide
theorem qbD {c:Str} (h:okB c=true):pcs.fld c "kept_rules" = true/\pcs.fld c "kept_papers" = true:=by
 have e:c = "Book":=by simpa [okB] using h
 subst e;decide
end DG
namespace K22
open PySem PySem.Spec PyProof.Rows L2 DE DG
section
variable {P:Program} {wd:World} {κ:KC} {K:Frag} {mg:PR} {base:Heap} {j:Nat} {f:Addr} {fd:FuncData}
theorem qfA:FnScope ["self","lands","most"] ["self","lands","most"] (qp (mem 23 0)):=⟨rfl,rfl,rfl,by decide+kernel,rfl,by decide+kernel,by decide+kernel⟩
theorem Zj (tx:Tx κ K mg) (F:Fun K "__init__" "Rule.__init__" (mem 23 0) f fd) (at_:Z6 P wd κ K mg base pg j) (ck:Ck pg j):FnOk P wd K mg base CX0 (j+1) f fd ["self","lands","most"] (ZY κ K rk Q6):=by
 obtain ⟨fA,dA,FA,mA,kA,bA⟩:=at_.1 "are_lands" (top 22) (by kernel_rfl);obtain ⟨fB,dB,FB,mB,kB,bB⟩:=at_.1 "is_between" (top 9) (by kernel_rfl);obtain ⟨t1,g1⟩:=tx.gG;refine F.ok qfA (fun vs H Q E h=>?_) (fun cdv A outer s H vs Q E hr h=>?_)
 ·obtain ⟨G,c,C,p,dx,us,args,fs,rfl,_,_,_,_,_,ha,hg,_⟩:=h;obtain ⟨b,l,m,rfl,_⟩:=YZ hg
  have:=ha.len
  simp at this;simp [<-this]
 ·obtain ⟨G,c,C,p,dx,us,args,fs,rfl,hrk,hC,hp,gp,sub,ha,hg,k1⟩:=h;obtain ⟨b,l,m,rfl,ol,om,rfl⟩:=YZ hg;simp only [jZ] at ha;obtain ⟨v1,us1,rfl,r1,v2,us2,rfl,r2,rfl⟩:=ha;simp only [ArR,Rep] at r2;subst r2;obtain ⟨a,xs,rfl,hxa,rl⟩:=QH sub r1
  refine ⟨_,qP (Zl (Jg (J9 (jz FA hr (by rfl) mA kA bA .nil jA (qg (pv 1) qu)))) (zx jL) j4)
   (qP (Zl (Jg (J9 (jz FB hr (by rfl) mB kB bB .nil jA (qg (pv 2) (qg J8 (qg (jy (v:=.int 1000000000) (by rfl) g1 ⟨_,rfl⟩) qu)))))) (zx jL) j4)
   (qP (Jj (pv 0) (qQ JE (by rfl) tx.tup PyProof.Rows.boot_tuple (qg (pv 1) qu)) rfl)
   (zx (Jj (pv 0) (pv 2) rfl)))),?_⟩
  refine ⟨_,rfl,JA (E:=E0) (G:=G) (args:=[aA b l]) sub ⟨_,_,rfl,r1,rfl⟩ (ck.lands b l ol) fun v G1 H1 hs1 gs1 sub1 fr1 rr=>?_⟩;simp only [ReR,Rep] at rr;subst rr;refine ⟨_,rfl,?_⟩;refine ⟨_,rfl,JA (E:=E0) (G:=G1) (args:=[.val (.int m),.val (.int 0),.val (.int 1000000000)]) sub1 ⟨_,_,rfl,by simp only [ArR,Rep],_,_,rfl,by simp only [ArR,Rep],_,_,rfl,by simp only [ArR,Rep],rfl⟩ (ck.btw m 0 1000000000 om) fun v G2 H2 hs2 gs2 sub2 fr2 rr=>?_⟩;simp only [ReR,Rep] at rr;subst rr;refine ⟨_,rfl,?_⟩;have hp2:H2 p=some (.ins C dx []):=hs2 _ _ (hs1 _ _ hp);have ga2:H2 a=some (.lst xs):=hs2 _ _ (hs1 _ _ hxa);have gp1:G1 p=none:=zm fr1 gp hp;have gp2:G2 p=none:=zm fr2 gp1 (hs1 _ _ hp);refine ⟨_,rfl,a,xs,rfl,.inl ⟨SqL.of ga2,fun t ht=>?_⟩⟩;have ntp:t≠p:=fun z=>by rw [z,hp2] at ht;cases ht
  have gt:G2 t=none:=qv.none sub2 ht;refine ⟨_,rfl,p,C,dx,_,rfl,by rw [qf ntp.symm];exact hp2,tx.cls c C hC,tx.nA c _ C (Zi hrk).1 hC,by decide,?_⟩;refine ⟨_,rfl,_,rfl,p,C,dx,_,rfl,qi,tx.cls c C hC,tx.nA c _ C (Zi hrk).2 hC,(by show 1 < 1000;decide),?_⟩;refine k1 (upd G2 t (.tup xs)) _ [.ref t,.int m] ?_ ?_ ?_ ?_ ?_ ?_ rfl ?_
  ·exact fun b o e=>qv.upd gt b o (gs2 b o (gs1 b o e))
  ·intro b o e
   by_cases z:b=t
   ·subst z;rw [qi] at e;cases e;rw [qf ntp,qf ntp,qi]
   ·rw [qf z] at e;have nb:b≠p:=fun q=>by rw [q,gp2] at e;cases e
    rw [qf nb,qf nb,qf z];exact sub2 b o e
  ·rw [qf ntp.symm];exact gp2
  ·intro b o nb e;have e2:=hs2 b o (hs1 b o e);have nt:b≠t:=fun q=>by rw [q,ht] at e2;cases e2
   rw [qf nb,qf nb,qf nt];exact e2
  ·intro b o e
   by_cases z:b=t
   ·subst z;exact .inr (qv.none hs1 (qv.none hs2 ht))
   ·rw [qf z] at e;exact (jJ.trans fr1 hs1 fr2) b o e
  ·rw [qi];rfl
  ·simp only [List.map_cons,List.map_nil,qq,Rep];exact ⟨_,_,rfl,⟨t,xs,rfl,qi,(rl.same gs1 |>.same gs2).same (qv.upd gt)⟩,_,_,rfl,rfl,rfl⟩
theorem qbE:FnScope ["self","lands","most","span"] ["self","lands","most","span"] (qp (mem 24 0)):=⟨rfl,rfl,rfl,by decide+kernel,rfl,by decide+kernel,by decide+kernel⟩
theorem ZZ {fR cR:Addr} {dR:FuncData} (tx:Tx κ K mg) (F:Fun K "__init__" "Within.__init__" (mem 24 0) f fd) (FR:Fun K "__init__" "Rule.__init__" (mem 23 0) fR dR) (bR:zg K dR ["self","lands","most"] []) (mR:mg "Rule" = some (.ref cR)) (cf:ClsFn K cR "__init__" fR)
  (at0:Z6 P wd κ K mg base pg j) (at1:Z6 P wd κ K mg base pg (j+1)) (ck0:Ck pg j) (ck1:Ck pg (j+1)):FnOk P wd K mg base CX0 (j+2) f fd ["self","lands","most","span"] (ZY κ K okW (jf "span")):=by
 obtain ⟨fB,dB,FB,mB,kB,bB⟩:=at1.1 "is_between" (top 9) (by kernel_rfl);obtain ⟨t1,g1⟩:=tx.gG;refine F.ok qbE (fun vs H Q E h=>?_) (fun cdv A outer s H vs Q E hr h=>?_)
 ·obtain ⟨G,c,C,p,dx,us,args,fs,rfl,_,_,_,_,_,ha,hg,_⟩:=h;obtain ⟨b,l,m,z,rfl,_⟩:=zK hg
  have:=ha.len
  simp at this;simp [<-this]
 ·obtain ⟨G,c,C,p,dx,us,args,fs,rfl,hrk,hC,hp,gp,sub,ha,hg,k1⟩:=h;obtain ⟨b,l,m,z,rfl,ol,om,oz,rfl⟩:=zK hg;simp only [jZ] at ha;obtain ⟨v1,us1,rfl,r1,v2,us2,rfl,r2,v3,us3,rfl,r3,rfl⟩:=ha;simp only [ArR,Rep] at r2 r3;subst r2 r3
  refine ⟨_,qP (ja (JI cf (Zj tx FR at0 ck0) hr (by rfl) mR bR .nil jA (qg (pv 0) (qg (pv 1) (qg (pv 2) qu)))))
   (qP (Zl (Jg (J9 (jz FB hr (by rfl) mB kB bB .nil jA (qg (pv 3) (qg J8 (qg (jy (v:=.int 1000000000) (by rfl) g1 ⟨_,rfl⟩) qu)))))) (zx jL) j4)
   (zx (Jj (pv 0) (pv 3) rfl))),?_⟩
  refine ⟨_,rfl,_,rfl,_,rfl,G,c,C,p,dx,[v1,.int m],[aA b l,.val (.int m)],_,rfl,qil hrk,hC,hp,gp,sub,⟨_,_,rfl,r1,_,_,rfl,by simp only [ArR,Rep],rfl⟩,Y0 ol om,fun G1 H1 xs gs1 sub1 gp1 but1 fr1 hp1 hl1 rp1=>?_⟩;simp only [List.map_cons,List.map_nil,qq] at rp1;obtain ⟨x1,w1,rfl,q1,x2,w2,rfl,q2,rfl⟩:=rp1;refine ⟨_,rfl,JA (E:=E0) (G:=G1) (args:=[.val (.int z),.val (.int 1),.val (.int 1000000000)]) sub1 ⟨_,_,rfl,by simp only [ArR,Rep],_,_,rfl,by simp only [ArR,Rep],_,_,rfl,by simp only [ArR,Rep],rfl⟩ (ck1.btw z 1 1000000000 oz) fun v G2 H2 hs2 gs2 sub2 fr2 rr=>?_⟩;simp only [ReR,Rep] at rr;subst rr;refine ⟨_,rfl,?_⟩;have hp2:=hs2 _ _ hp1;have gp2:G2 p=none:=zm fr2 gp1 hp1;refine ⟨_,rfl,_,rfl,p,C,dx,_,rfl,hp2,tx.cls c C hC,tx.nA c _ C (qfz hrk) hC,(by show 2 < 1000;decide),?_⟩;refine k1 G2 _ [x1,x2,.int z] (fun b o e=>gs2 b o (gs1 b o e)) (fun b o e=>?_) gp2 (fun b o nb e=>?_) (fun b o e=>?_) ?_ rfl ?_
  ·rw [qf (fun q=>by rw [q,gp2] at e;cases e)];exact sub2 b o e
  ·rw [qf nb];exact hs2 b o (but1 b o nb e)
  ·exact (jJ.transB fr1 but1 hp1 fr2) b o e
  ·rw [qi];rfl
  ·simp only [List.map_cons,List.map_nil,qq];exact ⟨_,_,rfl,q1.same gs2,_,_,rfl,q2.same gs2,_,_,rfl,by simp only [Rep],rfl⟩
theorem qdg:FnScope ["self","lands","most","leave"] ["self","lands","most","leave"] (qp (mem 25 0)):=⟨rfl,rfl,rfl,by decide+kernel,rfl,by decide+kernel,by decide+kernel⟩
theorem Y1 {fR cR:Addr} {dR:FuncData} (tx:Tx κ K mg) (F:Fun K "__init__" "Since.__init__" (mem 25 0) f fd) (FR:Fun K "__init__" "Rule.__init__" (mem 23 0) fR dR) (bR:zg K dR ["self","lands","most"] []) (mR:mg "Rule" = some (.ref cR)) (cf:ClsFn K cR "__init__" fR)
  (at0:Z6 P wd κ K mg base pg j) (at1:Z6 P wd κ K mg base pg (j+1)) (ck0:Ck pg j) (ck1:Ck pg (j+1)):FnOk P wd K mg base CX0 (j+2) f fd ["self","lands","most","leave"] (ZY κ K okS (jf "leave")):=by
 obtain ⟨fB,dB,FB,mB,kB,bB⟩:=at1.1 "is_between" (top 9) (by kernel_rfl);obtain ⟨t1,g1⟩:=tx.gG;refine F.ok qdg (fun vs H Q E h=>?_) (fun cdv A outer s H vs Q E hr h=>?_)
 ·obtain ⟨G,c,C,p,dx,us,args,fs,rfl,_,_,_,_,_,ha,hg,_⟩:=h;obtain ⟨b,l,m,z,rfl,_⟩:=zK hg
  have:=ha.len
  simp at this;simp [<-this]
 ·obtain ⟨G,c,C,p,dx,us,args,fs,rfl,hrk,hC,hp,gp,sub,ha,hg,k1⟩:=h;obtain ⟨b,l,m,z,rfl,ol,om,oz,rfl⟩:=zK hg;simp only [jZ] at ha;obtain ⟨v1,us1,rfl,r1,v2,us2,rfl,r2,v3,us3,rfl,r3,rfl⟩:=ha;simp only [ArR,Rep] at r2 r3;subst r2 r3
  refine ⟨_,qP (ja (JI cf (Zj tx FR at0 ck0) hr (by rfl) mR bR .nil jA (qg (pv 0) (qg (pv 1) (qg (pv 2) qu)))))
   (qP (Zl (Jg (J9 (jz FB hr (by rfl) mB kB bB .nil jA (qg (pv 3) (qg J8 (qg (jy (v:=.int 1000000000) (by rfl) g1 ⟨_,rfl⟩) qu)))))) (zx jL) j4)
   (zx (Jj (pv 0) (pv 3) rfl))),?_⟩
  refine ⟨_,rfl,_,rfl,_,rfl,G,c,C,p,dx,[v1,.int m],[aA b l,.val (.int m)],_,rfl,qim hrk,hC,hp,gp,sub,⟨_,_,rfl,r1,_,_,rfl,by simp only [ArR,Rep],rfl⟩,Y0 ol om,fun G1 H1 xs gs1 sub1 gp1 but1 fr1 hp1 hl1 rp1=>?_⟩;simp only [List.map_cons,List.map_nil,qq] at rp1;obtain ⟨x1,w1,rfl,q1,x2,w2,rfl,q2,rfl⟩:=rp1;refine ⟨_,rfl,JA (E:=E0) (G:=G1) (args:=[.val (.int z),.val (.int 1),.val (.int 1000000000)]) sub1 ⟨_,_,rfl,by simp only [ArR,Rep],_,_,rfl,by simp only [ArR,Rep],_,_,rfl,by simp only [ArR,Rep],rfl⟩ (ck1.btw z 1 1000000000 oz) fun v G2 H2 hs2 gs2 sub2 fr2 rr=>?_⟩;simp only [ReR,Rep] at rr;subst rr;refine ⟨_,rfl,?_⟩;have hp2:=hs2 _ _ hp1;have gp2:G2 p=none:=zm fr2 gp1 hp1;refine ⟨_,rfl,_,rfl,p,C,dx,_,rfl,hp2,tx.cls c C hC,tx.nA c _ C (qdf hrk) hC,(by show 2 < 1000;decide),?_⟩;refine k1 G2 _ [x1,x2,.int z] (fun b o e=>gs2 b o (gs1 b o e)) (fun b o e=>?_) gp2 (fun b o nb e=>?_) (fun b o e=>?_) ?_ rfl ?_
  ·rw [qf (fun q=>by rw [q,gp2] at e;cases e)];exact sub2 b o e
  ·rw [qf nb];exact hs2 b o (but1 b o nb e)
  ·exact (jJ.transB fr1 but1 hp1 fr2) b o e
  ·rw [qi];rfl
  ·simp only [List.map_cons,List.map_nil,qq];exact ⟨_,_,rfl,q1.same gs2,_,_,rfl,q2.same gs2,_,_,rfl,by simp only [Rep],rfl⟩
theorem qdh:FnScope ["self","lands","most"] ["self","lands","most"] (qp (mem 26 0)):=⟨rfl,rfl,rfl,by decide+kernel,rfl,by decide+kernel,by decide+kernel⟩
theorem qbF {fR cR fS cS:Addr} {dR dS:FuncData} (tx:Tx κ K mg) (F:Fun K "__init__" "InRow.__init__" (mem 26 0) f fd) (FS:Fun K "__init__" "Since.__init__" (mem 25 0) fS dS) (bS:zg K dS ["self","lands","most","leave"] []) (mS:mg "Since" = some (.ref cS)) (cfS:ClsFn K cS "__init__" fS)
  (FR:Fun K "__init__" "Rule.__init__" (mem 23 0) fR dR) (bR:zg K dR ["self","lands","most"] []) (mR:mg "Rule" = some (.ref cR)) (cf:ClsFn K cR "__init__" fR)
  (at0:Z6 P wd κ K mg base pg j) (at1:Z6 P wd κ K mg base pg (j+1)) (ck0:Ck pg j) (ck1:Ck pg (j+1)):FnOk P wd K mg base CX0 (j+3) f fd ["self","lands","most"] (ZY κ K okI ZO):=by
 refine F.ok qdh (fun vs H Q E h=>?_) (fun cdv A outer s H vs Q E hr h=>?_)
 ·obtain ⟨G,c,C,p,dx,us,args,fs,rfl,_,_,_,_,_,ha,hg,_⟩:=h;obtain ⟨b,l,m,rfl,_⟩:=J3 hg
  have:=ha.len
  simp at this;simp [<-this]
 ·obtain ⟨G,c,C,p,dx,us,args,fs,rfl,hrk,hC,hp,gp,sub,ha,hg,k1⟩:=h;obtain ⟨b,l,m,rfl,ol,om,rfl⟩:=J3 hg;simp only [jZ] at ha;obtain ⟨v1,us1,rfl,r1,v2,us2,rfl,r2,rfl⟩:=ha;simp only [ArR,Rep] at r2;subst r2;refine ⟨_,zx (ja (JI cfS (Y1 tx FS FR bR mR cf at0 at1 ck0 ck1) hr (by rfl) mS bS .nil jA (qg (pv 0) (qg (pv 1) (qg (pv 2) (qg J8 qu)))))),?_⟩
  exact ⟨_,rfl,_,rfl,_,rfl,G,c,C,p,dx,[v1,.int m,.int 1],[aA b l,.val (.int m),.val (.int 1)],_,rfl,qfy hrk,hC,hp,gp,sub,⟨_,_,rfl,r1,_,_,rfl,by simp only [ArR,Rep],_,_,rfl,by simp only [ArR,Rep],rfl⟩,
   qbC ol om (2:),fun G1 H1 xs gs1 sub1 gp1 but1 fr1 hp1 hl1 rp1=>k1 G1 H1 xs gs1 sub1 gp1 but1 fr1 hp1 hl1 rp1⟩
theorem qfB:FnScope ["self","rules","papers"] ["self","rules","papers"] (qp (mem 42 0)):=⟨rfl,rfl,rfl,by decide+kernel,rfl,by decide+kernel,by decide+kernel⟩
theorem qdi (tx:Tx κ K mg) (F:Fun K "__init__" "Book.__init__" (mem 42 0) f fd) (at_:Z6 P wd κ K mg base pg j) (ck:Ck pg j):FnOk P wd K mg base CX0 (j+1) f fd ["self","rules","papers"] (ZY κ K okB Jp):=by
 obtain ⟨fA,dA,FA,mA,kA,bA⟩:=at_.1 "are_rules" (top 39) (by kernel_rfl);obtain ⟨fB,dB,FB,mB,kB,bB⟩:=at_.1 "check_papers" (top 41) (by kernel_rfl);refine F.ok qfB (fun vs H Q E h=>?_) (fun cdv A outer s H vs Q E hr h=>?_)
 ·obtain ⟨G,c,C,p,dx,us,args,fs,rfl,_,_,_,_,_,ha,hg,_⟩:=h;obtain ⟨b0,c0,l,ps,rfl,_⟩:=y7 hg
  have:=ha.len
  simp at this;simp [<-this]
 ·obtain ⟨G,c,C,p,dx,us,args,fs,rfl,hrk,hC,hp,gp,sub,ha,hg,k1⟩:=h;obtain ⟨b0,c0,l,ps,rfl,ol,op,rfl⟩:=y7 hg;simp only [jZ] at ha;obtain ⟨v1,us1,rfl,r1,v2,us2,rfl,r2,rfl⟩:=ha;obtain ⟨a,xs,rfl,hxa,rl⟩:=QH sub r1;obtain ⟨b,ys,rfl,hb,rp⟩:=QH sub r2
  refine ⟨_,qP (Zl (Jg (J9 (jz FA hr (by rfl) mA kA bA .nil jA (qg (pv 1) qu)))) (zx jL) j4)
   (qP (ja (jz FB hr (by rfl) mB kB bB .nil jA (qg (pv 2) (qg (zh yd (by rfl) tx.len PySem.boot_len (qg (pv 1) qu)) qu))))
   (qP (Jj (pv 0) (qQ jb (by rfl) tx.lst PyProof.Rows.boot_list (qg (pv 1) qu)) rfl)
   (zx (Jj (pv 0) (qQ jb (by rfl) tx.lst PyProof.Rows.boot_list (qg (pv 2) qu)) rfl)))),?_⟩
  refine ⟨_,rfl,JA (E:=E0) (G:=G) (args:=[aA b0 l]) sub ⟨_,_,rfl,r1,rfl⟩ (ck.rules b0 l ol) fun v G1 H1 hs1 gs1 sub1 fr1 rr=>?_⟩;simp only [ReR,Rep] at rr;subst rr;refine ⟨_,rfl,?_⟩;have ga1:H1 a=some (.lst xs):=hs1 _ _ hxa;refine ⟨_,rfl,_,rfl,a,xs,rfl,.inl (SqL.of ga1),?_⟩;refine JA (E:=E0) (G:=G1) (args:=[aA c0 ps,.val (.int l.length)]) sub1 ⟨_,_,rfl,qik r2 gs1 hs1,_,_,rfl,by simp only [ArR,Rep];rw [rl.len],rfl⟩ (ck.papers c0 ps l.length op) fun v G2 H2 hs2 gs2 sub2 fr2 rr=>?_;have hp2:H2 p=some (.ins C dx []):=hs2 _ _ (hs1 _ _ hp);have gp1:G1 p=none:=zm fr1 gp hp;have gp2:G2 p=none:=zm fr2 gp1 (hs1 _ _ hp);have ga2:H2 a=some (.lst xs):=hs2 _ _ ga1;have hb2:H2 b=some (.lst ys):=hs2 _ _ (hs1 _ _ hb);refine ⟨_,rfl,a,xs,rfl,.inl (SqL.of ga2),fun t ht=>?_⟩;have ntp:t≠p:=fun z=>by rw [z,hp2] at ht;cases ht
  have gt:G2 t=none:=qv.none sub2 ht;refine ⟨_,rfl,p,C,dx,_,rfl,by rw [qf ntp.symm];exact hp2,tx.cls c C hC,tx.nA c _ C (qbD hrk).1 hC,by decide,?_⟩;have nbt:b≠t:=fun z=>by rw [z,ht] at hb2;cases hb2
  have nbp:b≠p:=fun z=>by rw [z,hp2] at hb2;cases hb2
  refine ⟨_,rfl,b,ys,rfl,.inl (SqL.of (by rw [qf nbp,qf nbt];exact hb2)),fun u hu=>?_⟩;have nup:u≠p:=fun z=>by rw [z,qi] at hu;cases hu
  have nut:u≠t:=fun z=>by rw [z,qf ntp,qi] at hu;cases hu
  have hu2:H2 u=none:=by rw [qf nup,qf nut] at hu;exact hu
  have gu:G2 u=none:=qv.none sub2 hu2;refine ⟨_,rfl,p,C,dx,_,rfl,by rw [qf nup.symm,qi],tx.cls c C hC,tx.nA c _ C (qbD hrk).2 hC,(by show 1 < 1000;decide),?_⟩;have gut:upd G2 t (.lst xs) u=none:=by rw [qf nut];exact gu
  refine k1 (upd (upd G2 t (.lst xs)) u (.lst ys)) _ [.ref t,.ref u] ?_ ?_ ?_ ?_ ?_ ?_ rfl ?_
  ·exact fun b o e=>qv.upd gut b o (qv.upd gt b o (gs2 b o (gs1 b o e)))
  ·intro q o e
   by_cases z:q=u
   ·subst z;rw [qi] at e;cases e;rw [qf nup,qi]
   ·rw [qf z] at e
    by_cases z2:q=t
    ·subst z2;rw [qi] at e;cases e;rw [qf ntp,qf z,qf ntp,qi]
    ·rw [qf z2] at e;have nq:q≠p:=fun w=>by rw [w,gp2] at e;cases e
     rw [qf nq,qf z,qf nq,qf z2];exact sub2 q o e
  ·rw [qf nup.symm,qf ntp.symm];exact gp2
  ·intro q o nq e;have e2:=hs2 q o (hs1 q o e);have n1:q≠t:=fun w=>by rw [w,ht] at e2;cases e2
   have n2:q≠u:=fun w=>by rw [w,hu2] at e2;cases e2
   rw [qf nq,qf n2,qf nq,qf n1];exact e2
  ·intro q o e
   by_cases z:q=u
   ·subst z;exact .inr (qv.none hs1 (qv.none hs2 hu2))
   ·rw [qf z] at e
    by_cases z2:q=t
    ·subst z2;exact .inr (qv.none hs1 (qv.none hs2 ht))
    ·rw [qf z2] at e;exact (jJ.trans fr1 hs1 fr2) q o e
  ·rw [qi];rfl
  ·simp only [List.map_cons,List.map_nil,qq,Rep];exact ⟨_,_,rfl,⟨t,xs,rfl,by rw [qf nut.symm];exact qi,((rl.same gs1 |>.same gs2).same (qv.upd gt)).same (qv.upd gut)⟩,_,_,rfl,⟨u,ys,rfl,qi,((rp.same gs1 |>.same gs2).same (qv.upd gt)).same (qv.upd gut)⟩,rfl⟩
end
end K22
namespace HD
open PySem PySem.W
noncomputable def y8 (tb:String->Option Builtin) (p:Program) (w:World) (n₀:Nat) (ann:Option Value):Nat->SharedT->Thread->Option SharedT
 | 0,_,_=>none
 | n+1,s,t=>match through t with
  | true=>some s
  | false=>match stepOk n₀ ann t with
   | false=>none
   | true=>match stepT (denote tb) p w s t with
    | some (s',t')=>y8 tb p w n₀ ann n s' t'
    | none=>none
theorem Y2 {tb:String->Option Builtin} {p:Program} {w:World} {n₀:Nat} {ann:Option Value}:∀ {n:Nat} {s s':SharedT} {t:Thread},y8 tb p w n₀ ann n s t=some s'->topRun tb p w n₀ ann n s.abs t=some s'.abs
 | 0,_,_,_,h=>by cases h
 | n+1,s,s',t,h=>by
  unfold y8 at h;unfold topRun
  cases ht:through t with
  | true=>rw [ht] at h;cases h;rfl
  | false=>
   rw [ht] at h
   cases hk:stepOk n₀ ann t with
   | false=>rw [hk] at h;cases h
   | true=>
    rw [hk] at h
    cases hs:stepT (denote tb) p w s t with
    | none=>rw [hs] at h;cases h
    | some r=>obtain ⟨s₂,t₂⟩:=r;rw [hs] at h;dsimp only;rw [stepT_spec hs];exact Y2 h
def ofL:List Obj->Nat->BT->BT
 | [],_,t=>t
 | o::r,n,t=>ofL r (n+1) (t.ins n o)
noncomputable def qfC (P:Params) (os:OsState):SharedT:=⟨ofL (boot_heap P).objs.toList 0 .nil,(boot_heap P).objs.toList.length,(boot_heap P).life,Array.mk [],boot_drawn,boot_toks,os⟩
theorem qbG (P:Params) (os:OsState):(qfC P os).abs=⟨boot_heap P,Array.mk [],boot_drawn,boot_toks,os⟩:=by kernel_rfl
noncomputable def qfD {α:Type} (p q:Program) (loose:List Str) (Xt:Shared->Bool) (Yf:Shared->α) (g0:Bool) (H₀:Heap) (s:Shared):=
 (staticsOk (importedModules p.main.body) H₀ s.heap&&namesBound p s.heap&&gensDone s&&laidKept H₀ s.heap,openSeen q loose (importedModules p.main.body) Xt g0 s,Yf s)
theorem qfE {p q:Program} {loose:List Str} {Xt:Shared->Bool} {α:Type} {Yf:Shared->α} {Ya:World->α} {N:Nat} {g0:Bool} {m₀:Nat} {ann:Option Value}
  (open_:∀ w:World,(fencedOpening treeTable p w N).map (fun s=>(s.heap,s.gens,s.drawn,s.toks))=some (boot_heap w.params,Array.mk [],boot_drawn,boot_toks))
  (size:∀ w:World,((boot_heap w.params).isNs mainGlobals&&(Array.mk []:Array GenState).size == 0,(boot_heap w.params).objs.size,(boot_heap w.params).nsMap mainGlobals "__annotations__")=(true,m₀,ann))
  (h:∀ w os,(y8 treeTable p w m₀ ann N (qfC w.params os) (topStub p)).map (fun s=>qfD p q loose Xt Yf g0 (boot_heap w.params) s.abs)=some (true,openGood q loose,Ya w)):LeftO p q loose Xt Yf Ya N g0:=fun w=>by
 obtain ⟨⟨h0,gs,d,k,os⟩,e,e'⟩:=Option.map_eq_some_iff.mp (open_ w);obtain ⟨rfl,rfl,rfl,rfl⟩:h0=boot_heap w.params/\gs=Array.mk []/\d=boot_drawn/\k=boot_toks:=by simpa using e'
 obtain ⟨z1,z2,z3⟩:_/\_/\_:=by simpa only [Prod.mk.injEq] using size w
 obtain ⟨s₁,r,l⟩:=Option.map_eq_some_iff.mp (h w os);have r':=Y2 r;rw [qbG] at r';obtain ⟨l1,l2,l3⟩:_/\_/\_:=by simpa only [qfD,Prod.mk.injEq] using l
 have t:topFrom treeTable p w N ⟨boot_heap w.params,Array.mk [],boot_drawn,boot_toks,os⟩=some s₁.abs:=by unfold topFrom;dsimp only;rw [z1,z2,z3,r'];show (match staticsOk (importedModules p.main.body) (boot_heap w.params) s₁.abs.heap&&namesBound p s₁.abs.heap&&gensDone s₁.abs&&laidKept (boot_heap w.params) s₁.abs.heap with | true=>_ | false=>_)=_;rw [l1]
 unfold openEnds;rw [e];show (topFrom treeTable p w N _).map _=_;rw [t];exact congrArg some (Prod.ext l2 l3)
end HD
namespace HD
open PySem PySem.W
def dE (P:Params) (k:Str) (t:Tok) (v:Value):DictEntry:=⟨PyData.keyHash P k,.str k t,v⟩
noncomputable def oFn (d:Option Addr) (st:Stmt) (name qual:Str) (dV kV doc pm:Value) (an:Option Addr) (cd ct:Value):Obj:=⟨.type "function",d,.func (fnOf name qual (L2.qV st) (L2.qI st) (L2.qp st) dV kV doc pm an cd ct),#[]⟩
noncomputable def oC (n:Str) (t1:Tok) (q:Str) (t2 t3:Tok) (l ar:Int) (a b:Addr) (x y:Value) (c:Addr) (u:Int) (v:Tok):Obj:=⟨.type "code",none,.fields #[.str n t1,.str q t2,.str "/claim/cut.py" t3,.int l 0,.int ar 0,.int 0 0,.int 0 0,.int 3 0,.ref a,.bool true,.int 181 0,.ref b,.none,x,y,.ref c,.int u 0,.int l 0,.str "/claim/cut.py" v],#[]⟩
noncomputable def oG (st:Stmt) (n m:Str) (t:Tok) (a:Addr):Obj:=oFn none st n n .none .none .none (.str m t) none (.ref a) .none
noncomputable def oB (n:Str) (t:Tok) (l ar:Int) (a:Addr) (v:Nat):Obj:=oC n t n (t+1) (t+2) l ar a (a+1) (.ref (a+2)) (.ref (a+3)) (a+4) v (v+1)
theorem qbH (w:World):((boot_heap w.params).isNs mainGlobals&&(Array.mk []:Array GenState).size == 0,(boot_heap w.params).objs.size,(boot_heap w.params).nsMap mainGlobals "__annotations__")=(true,11,some (.ref 6)):=by kernel_rfl
end HD
namespace K22
open PySem PySem.W HD DG
abbrev HP:Program:=PySem.Challenge.rw_daysgate_k22_what_a_day_counts.row.toRowW.prog
noncomputable def Hq:Program:=view HP [0,2,3,5,6,7,8,9,10,11,12,14,15,16,17,19,20,21,22,23,24,25,26,28,29,30,31,32,34,35,37,38,39,40,41,42,44,45,46,47,48,49,50,51,52]
noncomputable def Hx (s:Shared):Bool:=xlAt Hq [] s&&recOk (RowW.records PySem.Challenge.rw_daysgate_k22_what_a_day_counts.row.toRowW) s
noncomputable def Has:List Addr:=[nat_lit 2,nat_lit 3,nat_lit 27,nat_lit 28,nat_lit 34,nat_lit 35,nat_lit 41,nat_lit 42,nat_lit 48,nat_lit 49,nat_lit 55,nat_lit 56,nat_lit 62,nat_lit 63,nat_lit 69,nat_lit 70,nat_lit 81,nat_lit 139,nat_lit 140,nat_lit 146,nat_lit 147,nat_lit 160,nat_lit 161,nat_lit 167,nat_lit 168,nat_lit 170,nat_lit 171,nat_lit 172,nat_lit 173,nat_lit 188,nat_lit 189,nat_lit 195,nat_lit 196,nat_lit 198,nat_lit 199,nat_lit 214,nat_lit 215,nat_lit 221,nat_lit 222,nat_lit 224,nat_lit 225,nat_lit 240,nat_lit 241,nat_lit 247,nat_lit 248,nat_lit 250,nat_lit 251,nat_lit 259,nat_lit 260,nat_lit 266,nat_lit 267,nat_lit 273,nat_lit 274,nat_lit 280,nat_lit 281,nat_lit 287,nat_lit 288,nat_lit 294,nat_lit 295,nat_lit 301,nat_lit 302,nat_lit 308,nat_lit 309,nat_lit 315,nat_lit 316,nat_lit 329,nat_lit 330,nat_lit 336,nat_lit 337,nat_lit 343,nat_lit 344,nat_lit 348,nat_lit 349,nat_lit 351,nat_lit 352,nat_lit 353,nat_lit 354,nat_lit 362,nat_lit 363,nat_lit 369,nat_lit 370,nat_lit 376,nat_lit 377,nat_lit 383,nat_lit 384,nat_lit 390,nat_lit 391,nat_lit 397,nat_lit 398,nat_lit 404,nat_lit 405,nat_lit 411,nat_lit 412,nat_lit 416,nat_lit 417]
noncomputable def HK (P:Params):Frag:=(nat_lit 2,⟨.none,none,.dict #[] 0,#[]⟩)::(nat_lit 3,⟨(.type "dict"),none,.dict #[dE P "__name__" 165 (.str "law_daysgate_k22_what_a_day_counts" 658),dE P "__doc__" 166 .none,dE P "__package__" 167 .none,dE P "__loader__" 168 (.builtin "__main__.__loader__#opaque"),dE P "__spec__" 169 .none,dE P "__annotations__" 170 (.ref 6),dE P "__builtins__" 171 (.ref 4),dE P "__file__" 173 (.str "/claim/cut.py" 172),dE P "__cached__" 174 .none,dE P "_wall" 193 (.ref 21),dE P "spread" 205 (.ref 28),dE P "holds" 215 (.ref 35),dE P "GREATEST" 219 (.int (1000000000) 218),dE P "LETTERS" 221 (.str "abcdefghijklmnopqrstuvwxyz" 220),dE P "LONGEST_NAME" 223 (.int (8) 222),dE P "is_whole" 230 (.ref 42),dE P "is_between" 239 (.ref 49),dE P "are_days" 247 (.ref 56),dE P "is_made_of" 256 (.ref 63),dE P "is_name" 263 (.ref 70),dE P "DayError" 283 (.ref 80),dE P "NoRule" 299 (.ref 93),dE P "NoPaper" 324 (.ref 112),dE P "NoStay" 349 (.ref 131),dE P "MOST_LANDS" 353 (.int (6) 352),dE P "GREATEST_WEIGHT" 355 (.int (9) 354),dE P "is_land" 362 (.ref 140),dE P "are_lands" 371 (.ref 147),dE P "Rule" 412 (.ref 171),dE P "Within" 446 (.ref 199),dE P "Since" 480 (.ref 225),dE P "InRow" 512 (.ref 251),dE P "MOST_STAYS" 516 (.int (60) 515),dE P "is_stay" 523 (.ref 260),dE P "stays_of" 533 (.ref 267),dE P "land_among" 544 (.ref 274),dE P "land_on" 552 (.ref 281),dE P "weigh" 564 (.ref 288),dE P "weight_on" 574 (.ref 295),dE P "MOST_RULES" 578 (.int (8) 577),dE P "MOST_PAPERS" 580 (.int (12) 579),dE P "are_rules" 588 (.ref 302),dE P "is_paper" 596 (.ref 309),dE P "check_papers" 606 (.ref 316),dE P "Book" 657 (.ref 352),dE P "_law_cell_at" 667 (.ref 363),dE P "_law_lands" 683 (.ref 370),dE P "_law_rule" 696 (.ref 377),dE P "_law_made" 707 (.ref 384),dE P "_law_paper" 718 (.ref 391),dE P "_law_stays" 733 (.ref 398),dE P "_law_weight" 748 (.ref 405),dE P "_law_land" 759 (.ref 412),dE P "law" 765 (.ref 417)] 54,#[]⟩)::(nat_lit 27,oB "spread" 196 5 1 22 203)::(nat_lit 28,oG (top 2) "spread" "daysgate.days" 194 27)::(nat_lit 34,oB "holds" 206 13 2 29 213)::(nat_lit 35,oG (top 3) "holds" "daysgate.days" 194 34)::(nat_lit 41,oB "is_whole" 224 22 1 36 228)::(nat_lit 42,oG (top 8) "is_whole" "daysgate.checks" 216 41)::(nat_lit 48,oB "is_between" 231 24 3 43 237)::(nat_lit 49,oG (top 9) "is_between" "daysgate.checks" 216 48)::(nat_lit 55,oB "are_days" 240 26 2 50 245)::(nat_lit 56,oG (top 10) "are_days" "daysgate.checks" 216 55)::(nat_lit 62,oB "is_made_of" 248 28 2 57 254)::(nat_lit 63,oG (top 11) "is_made_of" "daysgate.checks" 216 62)::(nat_lit 69,oB "is_name" 257 33 1 64 261)::(nat_lit 70,oG (top 12) "is_name" "daysgate.checks" 216 69)::(nat_lit 81,⟨(.type "getset_descriptor"),none,.fields #[(.str "__weakref__" 279),(.ref 80),(.builtin "ExceptionGroup.__weakref__"),.none],#[]⟩)::(nat_lit 139,oB "is_land" 356 55 1 134 360)::(nat_lit 140,oG (top 21) "is_land" "daysgate.rules" 350 139)::(nat_lit 146,oB "are_lands" 363 59 1 141 369)::(nat_lit 147,oG (top 22) "are_lands" "daysgate.rules" 350 146)::(nat_lit 160,oC "__init__" 384 "Rule.__init__" 385 386 70 3 155 156 (.ref 157) (.ref 158) 159 390 391)::(nat_lit 161,oFn none (mem 23 0) "__init__" "Rule.__init__" .none .none .none (.str "daysgate.rules" 350) none (.ref 160) .none)::(nat_lit 167,oC "weight" 393 "Rule.weight" 394 395 78 2 162 163 (.ref 164) (.ref 165) 166 400 401)::(nat_lit 168,oFn none (mem 23 1) "weight" "Rule.weight" .none .none .none (.str "daysgate.rules" 350) none (.ref 167) .none)::(nat_lit 170,⟨(.type "dict"),none,.dict #[dE P "__module__" 379 (.str "daysgate.rules" 350),dE P "__firstlineno__" 383 (.int (68) 382),dE P "__init__" 392 (.ref 161),dE P "weight" 402 (.ref 168),dE P "__static_attributes__" 405 (.ref 169),dE P "__dict__" 407 (.ref 172),dE P "__weakref__" 409 (.ref 173),dE P "__doc__" 410 .none] 4,#[]⟩)::(nat_lit 171,⟨(.type "type"),none,.cls ⟨"Rule",[(.type "object")],[(.ref 171),(.type "object")],170,"Rule",true,[],[(.ref 199),(.ref 225)],false,none,false⟩,#[none,none,some (.str "Rule" 372),some (.str "Rule" 380),some (.builtin "object.__new__"),some (.bool true)]⟩)::(nat_lit 172,⟨(.type "getset_descriptor"),none,.fields #[(.str "__dict__" 406),(.ref 171),(.builtin "function.__dict__"),(.builtin "function.__dict__#set")],#[]⟩)::(nat_lit 173,⟨(.type "getset_descriptor"),none,.fields #[(.str "__weakref__" 408),(.ref 171),(.builtin "ExceptionGroup.__weakref__"),.none],#[]⟩)::(nat_lit 188,oC "__init__" 425 "Within.__init__" 426 427 85 4 183 184 (.ref 185) (.ref 186) 187 432 433)::(nat_lit 189,oFn none (mem 24 0) "__init__" "Within.__init__" .none .none .none (.str "daysgate.rules" 350) none (.ref 188) .none)::(nat_lit 195,oC "line" 435 "Within.line" 436 437 91 1 190 191 (.ref 192) (.ref 193) 194 439 440)::(nat_lit 196,oFn none (mem 24 1) "line" "Within.line" .none .none .none (.str "daysgate.rules" 350) none (.ref 195) .none)::(nat_lit 198,⟨(.type "dict"),none,.dict #[dE P "__module__" 420 (.str "daysgate.rules" 350),dE P "__firstlineno__" 424 (.int (83) 423),dE P "__init__" 434 (.ref 189),dE P "line" 441 (.ref 196),dE P "__static_attributes__" 443 (.ref 197),dE P "__doc__" 444 .none] 2,#[]⟩)::(nat_lit 199,⟨(.type "type"),none,.cls ⟨"Within",[(.ref 171)],[(.ref 199),(.ref 171),(.type "object")],198,"Within",true,[],[],false,none,false⟩,#[some (.ref 176),none,some (.str "Within" 413),some (.str "Within" 421),some (.builtin "object.__new__"),some (.bool true)]⟩)::(nat_lit 214,oC "__init__" 459 "Since.__init__" 460 461 95 4 209 210 (.ref 211) (.ref 212) 213 466 467)::(nat_lit 215,oFn none (mem 25 0) "__init__" "Since.__init__" .none .none .none (.str "daysgate.rules" 350) none (.ref 214) .none)::(nat_lit 221,oC "line" 469 "Since.line" 470 471 101 1 216 217 (.ref 218) (.ref 219) 220 473 474)::(nat_lit 222,oFn none (mem 25 1) "line" "Since.line" .none .none .none (.str "daysgate.rules" 350) none (.ref 221) .none)::(nat_lit 224,⟨(.type "dict"),none,.dict #[dE P "__module__" 454 (.str "daysgate.rules" 350),dE P "__firstlineno__" 458 (.int (93) 457),dE P "__init__" 468 (.ref 215),dE P "line" 475 (.ref 222),dE P "__static_attributes__" 477 (.ref 223),dE P "__doc__" 478 .none] 2,#[]⟩)::(nat_lit 225,⟨(.type "type"),none,.cls ⟨"Since",[(.ref 171)],[(.ref 225),(.ref 171),(.type "object")],224,"Since",true,[],[(.ref 251)],false,none,false⟩,#[some (.ref 202),none,some (.str "Since" 447),some (.str "Since" 455),some (.builtin "object.__new__"),some (.bool true)]⟩)::(nat_lit 240,oC "__init__" 493 "InRow.__init__" 494 495 105 3 235 236 (.ref 237) (.ref 238) 239 499 500)::(nat_lit 241,oFn none (mem 26 0) "__init__" "InRow.__init__" .none .none .none (.str "daysgate.rules" 350) none (.ref 240) .none)::(nat_lit 247,oC "line" 502 "InRow.line" 503 504 108 1 242 243 (.ref 244) (.ref 245) 246 506 507)::(nat_lit 248,oFn none (mem 26 1) "line" "InRow.line" .none .none .none (.str "daysgate.rules" 350) none (.ref 247) .none)::(nat_lit 250,⟨(.type "dict"),none,.dict #[dE P "__module__" 488 (.str "daysgate.rules" 350),dE P "__firstlineno__" 492 (.int (103) 491),dE P "__init__" 501 (.ref 241),dE P "line" 508 (.ref 248),dE P "__static_attributes__" 509 (.ref 249),dE P "__doc__" 510 .none] 2,#[]⟩)::(nat_lit 251,⟨(.type "type"),none,.cls ⟨"InRow",[(.ref 225)],[(.ref 251),(.ref 225),(.ref 171),(.type "object")],250,"InRow",true,[],[],false,none,false⟩,#[some (.ref 228),none,some (.str "InRow" 481),some (.str "InRow" 489),some (.builtin "object.__new__"),some (.bool true)]⟩)::(nat_lit 259,oB "is_stay" 517 112 1 254 521)::(nat_lit 260,oG (top 29) "is_stay" "daysgate.stays" 513 259)::(nat_lit 266,oB "stays_of" 524 116 1 261 531)::(nat_lit 267,oG (top 30) "stays_of" "daysgate.stays" 513 266)::(nat_lit 273,oB "land_among" 534 127 2 268 542)::(nat_lit 274,oG (top 31) "land_among" "daysgate.stays" 513 273)::(nat_lit 280,oB "land_on" 545 132 2 275 550)::(nat_lit 281,oG (top 32) "land_on" "daysgate.stays" 513 280)::(nat_lit 287,oB "weigh" 555 135 4 282 562)::(nat_lit 288,oG (top 34) "weigh" "daysgate.meaning" 553 287)::(nat_lit 294,oB "weight_on" 565 139 4 289 572)::(nat_lit 295,oG (top 35) "weight_on" "daysgate.meaning" 553 294)::(nat_lit 301,oB "are_rules" 581 144 1 296 586)::(nat_lit 302,oG (top 39) "are_rules" "daysgate.books" 575 301)::(nat_lit 308,oB "is_paper" 589 151 2 303 594)::(nat_lit 309,oG (top 40) "is_paper" "daysgate.books" 575 308)::(nat_lit 315,oB "check_papers" 597 155 2 310 604)::(nat_lit 316,oG (top 41) "check_papers" "daysgate.books" 575 315)::(nat_lit 329,oC "__init__" 619 "Book.__init__" 620 621 165 3 324 325 (.ref 326) (.ref 327) 328 625 626)::(nat_lit 330,oFn none (mem 42 0) "__init__" "Book.__init__" .none .none .none (.str "daysgate.books" 575) none (.ref 329) .none)::(nat_lit 336,oC "rules" 628 "Book.rules" 629 630 172 1 331 332 (.ref 333) (.ref 334) 335 632 633)::(nat_lit 337,oFn none (mem 42 1) "rules" "Book.rules" .none .none .none (.str "daysgate.books" 575) none (.ref 336) .none)::(nat_lit 343,oC "papers" 635 "Book.papers" 636 637 175 1 338 339 (.ref 340) (.ref 341) 342 639 640)::(nat_lit 344,oFn none (mem 42 2) "papers" "Book.papers" .none .none .none (.str "daysgate.books" 575) none (.ref 343) .none)::(nat_lit 348,oC "lifted" 642 "Book.lifted" 643 644 178 2 345 346 .none .none 347 645 646)::(nat_lit 349,oFn none (mem 42 3) "lifted" "Book.lifted" .none .none .none (.str "daysgate.books" 575) none (.ref 348) .none)::(nat_lit 351,⟨(.type "dict"),none,.dict #[dE P "__module__" 614 (.str "daysgate.books" 575),dE P "__firstlineno__" 618 (.int (163) 617),dE P "__init__" 627 (.ref 330),dE P "rules" 634 (.ref 337),dE P "papers" 641 (.ref 344),dE P "lifted" 647 (.ref 349),dE P "__static_attributes__" 650 (.ref 350),dE P "__dict__" 652 (.ref 353),dE P "__weakref__" 654 (.ref 354),dE P "__doc__" 655 .none] 4,#[]⟩)::(nat_lit 352,⟨(.type "type"),none,.cls ⟨"Book",[(.type "object")],[(.ref 352),(.type "object")],351,"Book",true,[],[],false,none,false⟩,#[none,none,some (.str "Book" 607),some (.str "Book" 615),some (.builtin "object.__new__"),some (.bool true)]⟩)::(nat_lit 353,⟨(.type "getset_descriptor"),none,.fields #[(.str "__dict__" 651),(.ref 352),(.builtin "function.__dict__"),(.builtin "function.__dict__#set")],#[]⟩)::(nat_lit 354,⟨(.type "getset_descriptor"),none,.fields #[(.str "__weakref__" 653),(.ref 352),(.builtin "ExceptionGroup.__weakref__"),.none],#[]⟩)::(nat_lit 362,oB "_law_cell_at" 660 181 2 357 665)::(nat_lit 363,oG (top 44) "_law_cell_at" "law_daysgate_k22_what_a_day_counts" 658 362)::(nat_lit 369,oB "_law_lands" 668 185 2 364 681)::(nat_lit 370,oG (top 45) "_law_lands" "law_daysgate_k22_what_a_day_counts" 658 369)::(nat_lit 376,oB "_law_rule" 684 197 2 371 694)::(nat_lit 377,oG (top 46) "_law_rule" "law_daysgate_k22_what_a_day_counts" 658 376)::(nat_lit 383,oB "_law_made" 697 209 1 378 705)::(nat_lit 384,oG (top 47) "_law_made" "law_daysgate_k22_what_a_day_counts" 658 383)::(nat_lit 390,oB "_law_paper" 708 216 3 385 716)::(nat_lit 391,oG (top 48) "_law_paper" "law_daysgate_k22_what_a_day_counts" 658 390)::(nat_lit 397,oB "_law_stays" 719 220 3 392 731)::(nat_lit 398,oG (top 49) "_law_stays" "law_daysgate_k22_what_a_day_counts" 658 397)::(nat_lit 404,oB "_law_weight" 734 231 5 399 746)::(nat_lit 405,oG (top 50) "_law_weight" "law_daysgate_k22_what_a_day_counts" 658 404)::(nat_lit 411,oB "_law_land" 749 239 2 406 757)::(nat_lit 412,oG (top 51) "_law_land" "law_daysgate_k22_what_a_day_counts" 658 411)::(nat_lit 416,oC "law" 760 "law" 761 762 244 1 413 414 .none .none 415 763 764)::(nat_lit 417,oG (top 52) "law" "law_daysgate_k22_what_a_day_counts" 658 416)::[]
theorem HKe (P:Params):Has=(HK P).map (·.1):=by kernel_rfl
noncomputable def qin (p q:Program) (rc:Shared->Bool) (w:World) (H0:Heap) (s0:SharedT):=(y8 treeTable p w 11 (some (.ref 6)) 7398 s0 (topStub p)).map (fun s=>qfD p q [] (fun s=>xlAt q [] s&&rc s) (fun s=>Has.map s.heap.get?) true H0 s.abs)
noncomputable def Hlk (w:World) (H0:Heap) (s0:SharedT):=qin HP Hq (recOk (RowW.records PySem.Challenge.rw_daysgate_k22_what_a_day_counts.row.toRowW)) w H0 s0
def qio (q:Program):=openGood q []
def Hgd:=qio Hq
theorem qbI:qin=qin:=rfl
theorem qbJ:qio=qio:=rfl
end K22
lay_quick K22.qin K22.qio
name_quick hlkQ for K22.qin by K22.qbI
name_quick hgdQ for K22.qio by K22.qbJ
namespace K22
open PySem PySem.W HD DG
theorem qip (w:World) (os:OsState):Hlk w (boot_heap w.params) (qfC w.params os)=some (true,Hgd,(HK w.params).map fun p=>some p.2):=by
 unfold Hlk Hgd;rw [PySem.W.Fast.hlkQ_eq,PySem.W.Fast.hgdQ_eq]
 kernel_rfl
theorem qjM:LeftO HP Hq [] Hx (fun s=>Has.map s.heap.get?) (fun w=>(HK w.params).map fun p=>some p.2) 7398 true:=
 qfE (boot_open (by kernel_rfl) (2:) (fun _=>by kernel_rfl)) qbH qip
end K22
namespace DG
open PySem PySem.Spec PyProof.Rows L2 DE
theorem qfF (b:Bool) (l:List D):aA b l=aL b l:=by cases b<;>rfl
theorem QI {pg:Pg} [CH pg] [RU pg] [BO pg] (j:Nat):Ck pg (j+5) where
 lands:=fun b l h=>by rw [qfF];exact Qu (j+1) b l h
 rules:=fun b l h=>by rw [qfF];exact Qv (j+4) b l h
 papers:=fun b ps n h=>by rw [qfF];exact Jd j b ps n h
 btw:=fun n a b h=>qib (j+3) n a b h
noncomputable def kap (cW cS cI cB:Addr):KC:=fun c=>if c = "Within" then some cW else if c = "Since" then some cS else if c = "InRow" then some cI else if c = "Book" then some cB else none
theorem qiq {cW cS cI cB C:Addr} {c:Str} (h:kap cW cS cI cB c=some C):(c = "Within"/\C=cW)\/(c = "Since"/\C=cS)\/(c = "InRow"/\C=cI)\/(c = "Book"/\C=cB):=by
 unfold kap at h
 split at h
 ·cases h;exact .inl ⟨‹_›,rfl⟩
 split at h
 ·cases h;exact .inr (.inl ⟨‹_›,rfl⟩)
 split at h
 ·cases h;exact .inr (.inr (.inl ⟨‹_›,rfl⟩))
 split at h
 ·cases h;exact .inr (.inr (.inr ⟨‹_›,rfl⟩))
 cases h
theorem Z0 {c:Str} (h:rk c=true):c = "Within"\/c = "Since"\/c = "InRow":=by
 unfold rk at h
 simpa [or_assoc] using h
theorem qir {c x:Str} (h:pcs.fld c x=true):(rk c=true/\(x = "lands"\/x = "most"))\/(c = "Within"/\x = "span")\/((c = "Since"\/c = "InRow")/\x = "leave")\/(c = "Book"/\(x = "kept_rules"\/x = "kept_papers")):=by
 have h:((rk c&&(x == "lands" || x == "most" || (x == "span" && c == "Within")||(x == "leave" && c != "Within")))||(c == "Book" && (x == "kept_rules" || x == "kept_papers")))=true:=h;simp only [Bool.or_eq_true,Bool.and_eq_true,beq_iff_eq,bne_iff_ne] at h;rcases h with ⟨h1,((h2 | h2) | h2) | h2⟩ | h2
 ·exact .inl ⟨h1,.inl h2⟩
 ·exact .inl ⟨h1,.inr h2⟩
 ·exact .inr (.inl ⟨h2.2,h2.1⟩)
 ·refine .inr (.inr (.inl ⟨?_,h2.1⟩));rcases Z0 h1 with q | q
  ·exact absurd q h2.2
  ·exact q
 ·exact .inr (.inr (.inr h2))
theorem qjN {c x f:Str} (h:pcs.mt c x=some f):(rk c=true/\x = "weight"/\f = "Rule.weight")\/(c = "Book"/\x = "rules"/\f = "Book.rules")\/(c = "Book"/\x = "lifted"/\f = "Book.lifted")\/(c = "Book"/\x = "papers"/\f = "Book.papers"):=by
 have h:(if (rk c&&x == "weight")=true then some ("Rule.weight" : Str) else if (c == "Book" && x == "rules")=true then some ("Book.rules" : Str) else if (c == "Book" && x == "lifted")=true then some ("Book.lifted" : Str) else if (c == "Book" && x == "papers")=true then some ("Book.papers" : Str) else none)=some f:=h
 split at h
 ·rename_i q;simp only [Bool.and_eq_true,beq_iff_eq] at q;cases h;exact .inl ⟨q.1,q.2,rfl⟩
 split at h
 ·rename_i q;simp only [Bool.and_eq_true,beq_iff_eq] at q;cases h;exact .inr (.inl ⟨q.1,q.2,rfl⟩)
 split at h
 ·rename_i q;simp only [Bool.and_eq_true,beq_iff_eq] at q;cases h;exact .inr (.inr (.inl ⟨q.1,q.2,rfl⟩))
 split at h
 ·rename_i q;simp only [Bool.and_eq_true,beq_iff_eq] at q;cases h;exact .inr (.inr (.inr ⟨q.1,q.2,rfl⟩))
 cases h
theorem qis {c t:Str} {b:Bool} (h:pcs.sub c t=some b):rk c=true/\((t = "Within"/\b=(c == "Within"))\/(t = "Since"/\b=(c != "Within"))):=by
 have h:(if (rk c&&t == "Within")=true then some (c == "Within") else if (rk c&&t == "Since")=true then some (c != "Within") else none)=some b:=h
 split at h
 ·rename_i q;simp only [Bool.and_eq_true,beq_iff_eq] at q;cases h;exact ⟨q.1,.inl ⟨q.2,rfl⟩⟩
 split at h
 ·rename_i q;simp only [Bool.and_eq_true,beq_iff_eq] at q;cases h;exact ⟨q.1,.inr ⟨q.2,rfl⟩⟩
 cases h
theorem J4 {c:Str} {o:Option (List (Str×D))} {r:Rv} (h:ZQ c o=.ok r):∃ fs,o=some fs/\r=.val (.ins c (fs.map (·.1)) (fs.map (·.2))):=by
 cases o with
 | none=>cases h
 | some fs=>cases h;exact ⟨fs,rfl,rfl⟩
theorem Y3 (b:Bool) (l l':List D):aA b l≠.scr l':=by cases b<;>(intro z;cases z)
theorem qkP {j:Nat} {args:List Ar} {r:Rv} (h:pnw (j+12) "Within" args=.ok r):(∀ a∈args,∀ l,a≠.scr l)/\∃ fs,jf "span" args=some fs/\r=.val (.ins "Within" (fs.map (·.1)) (fs.map (·.2))):=by
 have h:(if j+12 < 12 then R.no else ZQ "Within" (jf "span" args))=.ok r:=h;rw [if_neg (1:)] at h;obtain ⟨fs,e,er⟩:=J4 h;obtain ⟨b,l,m,s,rfl,_⟩:=zK e;refine ⟨fun a ha=>?_,fs,e,er⟩;simp only [List.mem_cons,List.not_mem_nil,or_false] at ha;rcases ha with rfl | rfl | rfl
 ·exact fun l'=>Y3 b l l'
 ·exact fun l' z=>by cases z
 ·exact fun l' z=>by cases z
theorem qkQ {j:Nat} {args:List Ar} {r:Rv} (h:pnw (j+12) "Since" args=.ok r):(∀ a∈args,∀ l,a≠.scr l)/\∃ fs,jf "leave" args=some fs/\r=.val (.ins "Since" (fs.map (·.1)) (fs.map (·.2))):=by
 have h:(if j+12 < 12 then R.no else ZQ "Since" (jf "leave" args))=.ok r:=h;rw [if_neg (1:)] at h;obtain ⟨fs,e,er⟩:=J4 h;obtain ⟨b,l,m,s,rfl,_⟩:=zK e;refine ⟨fun a ha=>?_,fs,e,er⟩;simp only [List.mem_cons,List.not_mem_nil,or_false] at ha;rcases ha with rfl | rfl | rfl
 ·exact fun l'=>Y3 b l l'
 ·exact fun l' z=>by cases z
 ·exact fun l' z=>by cases z
theorem qkR {j:Nat} {args:List Ar} {r:Rv} (h:pnw (j+12) "InRow" args=.ok r):(∀ a∈args,∀ l,a≠.scr l)/\∃ fs,ZO args=some fs/\r=.val (.ins "InRow" (fs.map (·.1)) (fs.map (·.2))):=by
 have h:(if j+12 < 12 then R.no else ZQ "InRow" (ZO args))=.ok r:=h;rw [if_neg (1:)] at h;obtain ⟨fs,e,er⟩:=J4 h;obtain ⟨b,l,m,rfl,_⟩:=J3 e;refine ⟨fun a ha=>?_,fs,e,er⟩;simp only [List.mem_cons,List.not_mem_nil,or_false] at ha;rcases ha with rfl | rfl
 ·exact fun l'=>Y3 b l l'
 ·exact fun l' z=>by cases z
theorem qkS {j:Nat} {args:List Ar} {r:Rv} (h:pnw (j+12) "Book" args=.ok r):(∀ a∈args,∀ l,a≠.scr l)/\∃ fs,Jp args=some fs/\r=.val (.ins "Book" (fs.map (·.1)) (fs.map (·.2))):=by
 have h:(if j+12 < 12 then R.no else ZQ "Book" (Jp args))=.ok r:=h;rw [if_neg (1:)] at h;obtain ⟨fs,e,er⟩:=J4 h;obtain ⟨b,c,l,ps,rfl,_⟩:=y7 e;refine ⟨fun a ha=>?_,fs,e,er⟩;simp only [List.mem_cons,List.not_mem_nil,or_false] at ha;rcases ha with rfl | rfl
 ·exact fun l'=>Y3 b l l'
 ·exact fun l'=>Y3 c ps l'
structure Kl (K:Frag) (C:Addr):Prop where
 cls:Cls K C
 tc:PySem.W.findIn K (.ref C) "__class__" = some (some (.builtin "object.__class__"))
 mo:PySem.W.mroIn K C (.type "object")=some true
structure Kr (K:Frag) (fw C cW cS:Addr) (x:Str) (b:Bool):Prop where
 kl:Kl K C
 la:zn K C "lands"
 mo:zn K C "most"
 fx:zn K C x
 wt:Meth K C "weight" fw
 iw:PySem.W.kitOne K (.ref C) (.ref cW)=some b
 is:PySem.W.kitOne K (.ref C) (.ref cS)=some (!b)
structure Kb (K:Frag) (fr fl fp C:Addr):Prop where
 kl:Kl K C
 a1:zn K C "kept_rules"
 a2:zn K C "kept_papers"
 m1:Meth K C "rules" fr
 m2:Meth K C "lifted" fl
 m3:Meth K C "papers" fp
section
variable {K:Frag} {mg:PR} {cW cS cI cB fw fr fl fp:Addr} (W:Kr K fw cW cW cS "span" true) (S:Kr K fw cS cW cS "leave" false) (I:Kr K fw cI cW cS "leave" false) (B:Kb K fr fl fp cB)
include W S I B
theorem qdX (c:Str) (C:Addr) (h:kap cW cS cI cB c=some C):Cls K C:=by
 rcases qiq h with ⟨_,rfl⟩ | ⟨_,rfl⟩ | ⟨_,rfl⟩ | ⟨_,rfl⟩
 ·exact W.kl.cls
 ·exact S.kl.cls
 ·exact I.kl.cls
 ·exact B.kl.cls
theorem qbK (c x:Str) (C:Addr) (hf:pcs.fld c x=true) (h:kap cW cS cI cB c=some C):zn K C x:=by
 rcases qir hf with ⟨hr,rfl | rfl⟩ | ⟨rfl,rfl⟩ | ⟨rfl | rfl,rfl⟩ | ⟨rfl,rfl | rfl⟩
 ·rcases Z0 hr with rfl | rfl | rfl
  ·cases h;exact W.la
  ·cases h;exact S.la
  ·cases h;exact I.la
 ·rcases Z0 hr with rfl | rfl | rfl
  ·cases h;exact W.mo
  ·cases h;exact S.mo
  ·cases h;exact I.mo
 ·cases h;exact W.fx
 ·cases h;exact S.fx
 ·cases h;exact I.fx
 ·cases h;exact B.a1
 ·cases h;exact B.a2
theorem Z1 {C:Addr} (k:Kl K C) (n:PySem.W.specialIn K (.builtin "object.__class__") "__get__" = some (some (.builtin "getset_descriptor.__get__"))) (tk:PySem.W.takesIn K (.builtin "object.__class__")=some true) :
  ∀ (H:Hp) (p dx:Addr) (fs:List (Str×V)),H p=some (L2.HO.ins C dx fs)->TyOf K H (.ref p) (.ref C):=fun H p dx fs hp=>.ins hp k.cls k.tc n tk k.mo
theorem qfG (n:PySem.W.specialIn K (.builtin "object.__class__") "__get__" = some (some (.builtin "getset_descriptor.__get__"))) (tk:PySem.W.takesIn K (.builtin "object.__class__")=some true) (mW:mg "Within" = some (.ref cW)) (mS:mg "Since" = some (.ref cS))
  (c t:Str) (b:Bool) (h:pcs.sub c t=some b):∃ C T,kap cW cS cI cB c=some C/\(∀ H p dx fs,H p=some (L2.HO.ins C dx fs)->TyOf K H (.ref p) (.ref C))/\mg t=some (.ref T)/\PySem.W.kitOne K (.ref C) (.ref T)=some b:=by
 obtain ⟨hr,⟨rfl,rfl⟩ | ⟨rfl,rfl⟩⟩:=qis h
 ·rcases Z0 hr with rfl | rfl | rfl
  ·exact ⟨cW,cW,rfl,Z1 W S I B W.kl n tk,mW,W.iw⟩
  ·exact ⟨cS,cW,rfl,Z1 W S I B S.kl n tk,mW,S.iw⟩
  ·exact ⟨cI,cW,rfl,Z1 W S I B I.kl n tk,mW,I.iw⟩
 ·rcases Z0 hr with rfl | rfl | rfl
  ·exact ⟨cW,cS,rfl,Z1 W S I B W.kl n tk,mS,W.is⟩
  ·exact ⟨cS,cS,rfl,Z1 W S I B S.kl n tk,mS,S.is⟩
  ·exact ⟨cI,cS,rfl,Z1 W S I B I.kl n tk,mS,I.is⟩
end
noncomputable def JB (K:Frag) (f:Addr) (n q:Str) (st:Stmt):Prop:=∃ oc od kV dc pm an cd ct sl,K.lookup f=some ⟨oc,od,.func (PySem.W.fnOf n q (qV st) (qI st) (qp st) .none kV dc pm an cd ct),sl⟩/\PySem.W.codeIn K cd q=true/\PySem.W.keepIn K (.ref f)=true
noncomputable abbrev FG (K:Frag) (f:Addr) (n:Str) (st:Stmt):Prop:=PySem.W.nsIn K mainGlobals n=some (some (.ref f))/\JB K f n n st
section
variable {K:Frag} {f:Addr} {n q:Str} {st:Stmt} {mg:PR} {h:Heap}
theorem JB.fn (i:JB K f n q st):∃ fd,Fun K n q st f fd:=by obtain ⟨oc,od,kV,dc,pm,an,cd,ct,sl,l,c,k⟩:=i;exact ⟨_,qdn l c k⟩
theorem JB.kp (i:JB K f n q st):PySem.W.keepIn K (.ref f)=true:=by obtain ⟨oc,od,kV,dc,pm,an,cd,ct,sl,l,c,k⟩:=i;exact k
noncomputable def Bd (n q:Str) (st:Stmt) (ps:List Str):Prop:=∀ (kV doc pm:Value) (an:Option Addr) (cdv ct:Value) (us:List Value),us.length=ps.length->bindArgs (PySem.W.fnOf n q (qV st) (qI st) (qp st) .none kV doc pm an cdv ct) ⟨us,[]⟩=pure (ps.zip us)
theorem qit (X:K.In h) (G:h.Ns mainGlobals mg) (a:PySem.W.nsIn K mainGlobals n=some (some (.ref f))) (i:JB K f n n st) {ps:List Str} (hp:Jm st=ps) (hb:Bd n n st ps):FnF K mg n st:=by obtain ⟨fd,F⟩:=i.fn;exact ⟨f,fd,F,PySem.W.mg_of X G a,hp▸F.binds hb⟩
theorem jX (i:JB K f n q st) {ps:List Str} (hb:Bd n q st ps):∃ fd,Fun K n q st f fd/\zg K fd ps []:=by obtain ⟨fd,F⟩:=i.fn;exact ⟨fd,F,F.binds hb⟩
theorem qiu (i:JB K f n n st) (hb:Bd n n st ["_law_script"]):∃ fd,Fun K n n st f fd/\∀ (s:Shared) (v:Value),BindsTo s fd ⟨[v],[]⟩ [("_law_script",v)]:=by obtain ⟨oc,od,kV,dc,pm,an,cd,ct,sl,l,c,k⟩:=i;exact ⟨_,qdn l c k,fun s v=>.of_eq (hb _ _ _ _ _ _ [v] rfl)⟩
end
section
variable {n q:Str} {st:Stmt} {a b c d e:Str}
theorem bd1 (h:∀ (kV doc pm:Value) (an:Option Addr) (cdv ct x:Value),bindArgs (PySem.W.fnOf n q (qV st) (qI st) (qp st) .none kV doc pm an cdv ct) ⟨[x],[]⟩=pure [(a,x)]):Bd n q st [a]:=fun _ _ _ _ _ _ us hl=>match us,hl with | [_],_=>h ..
theorem bd2 (h:∀ (kV doc pm:Value) (an:Option Addr) (cdv ct x y:Value),bindArgs (PySem.W.fnOf n q (qV st) (qI st) (qp st) .none kV doc pm an cdv ct) ⟨[x,y],[]⟩=pure [(a,x),(b,y)]):Bd n q st [a,b]:=fun _ _ _ _ _ _ us hl=>match us,hl with | [_,_],_=>h ..
theorem bd3 (h:∀ (kV doc pm:Value) (an:Option Addr) (cdv ct x y z:Value),bindArgs (PySem.W.fnOf n q (qV st) (qI st) (qp st) .none kV doc pm an cdv ct) ⟨[x,y,z],[]⟩=pure [(a,x),(b,y),(c,z)]):Bd n q st [a,b,c]:=fun _ _ _ _ _ _ us hl=>match us,hl with | [_,_,_],_=>h ..
theorem bd4 (h:∀ (kV doc pm:Value) (an:Option Addr) (cdv ct x y z u:Value),bindArgs (PySem.W.fnOf n q (qV st) (qI st) (qp st) .none kV doc pm an cdv ct) ⟨[x,y,z,u],[]⟩=pure [(a,x),(b,y),(c,z),(d,u)]):Bd n q st [a,b,c,d]:=fun _ _ _ _ _ _ us hl=>match us,hl with | [_,_,_,_],_=>h ..
theorem bd5 (h:∀ (kV doc pm:Value) (an:Option Addr) (cdv ct x y z u v:Value),bindArgs (PySem.W.fnOf n q (qV st) (qI st) (qp st) .none kV doc pm an cdv ct) ⟨[x,y,z,u,v],[]⟩=pure [(a,x),(b,y),(c,z),(d,u),(e,v)]):Bd n q st [a,b,c,d,e]:=fun _ _ _ _ _ _ us hl=>match us,hl with | [_,_,_,_,_],_=>h ..
end
end DG
namespace DG
open PySem PySem.Spec PyProof.Rows L2 DE
inductive BDs:List (Str×Stmt)->Prop
 | nil:BDs []
 | cons {n st l ps}:Jm st=ps->Bd n n st ps->BDs l->BDs ((n,st)::l)
inductive FGs (K:Frag):List (Str×Stmt)->Prop
 | nil:FGs K []
 | cons {f n st l}:FG K f n st->FGs K l->FGs K ((n,st)::l)
inductive ZNs (K:Frag):List Str->Prop
 | nil:ZNs K []
 | cons {n l}:PySem.W.nsIn K mainGlobals n=some none->ZNs K l->ZNs K (n::l)
section
variable {K:Frag} {mg:PR} {h:Heap}
theorem FGs.all (X:K.In h) (G:h.Ns mainGlobals mg) {l:List (Str×Stmt)} (a:FGs K l) (p:BDs l):AllF K mg l:=by
 induction a with
 | nil=>exact .nil
 | cons i _ ih=>
  cases p with
  | cons e b p=>exact .cons (qit X G i.1 i.2 e b) (ih p)
theorem ZNs.all (X:K.In h) (G:h.Ns mainGlobals mg) {l:List Str} (a:ZNs K l):∀ f∈l,mg f=none:=by
 induction a with
 | nil=>exact nofun
 | cons i _ ih=>
  intro f hf;rcases List.mem_cons.mp hf with rfl | hf
  ·exact PySem.W.mg_none_of X G i
  ·exact ih f hf
end
end DG
namespace K22
open PySem PySem.W L2 DE DG
theorem qiv {l:OpenLaw} {w:World} {K:Frag} {h:Heap} {mg:PR} {fa cR cW cS cI cB f26 fiR fiW fiS fiI fiB fmw fmr fmp fml:Addr} {t0 t1 t2 t3 t4 t5 t6 t7:Tok} (X:K.In h) (G:h.Ns mainGlobals mg) (hfa:mg "law" = some (.ref fa))
  (aL:FG K f26 "law" (top 52))
  (a:FGs K pg.defs)
  (z:ZNs K qaQ)
  (v0:nsIn K mainGlobals "GREATEST" = some (some (.int 1000000000 t0)))
  (v1:nsIn K mainGlobals "LETTERS" = some (some (.str "abcdefghijklmnopqrstuvwxyz" t1)))
  (v2:nsIn K mainGlobals "LONGEST_NAME" = some (some (.int 8 t2)))
  (v3:nsIn K mainGlobals "MOST_LANDS" = some (some (.int 6 t3)))
  (v4:nsIn K mainGlobals "GREATEST_WEIGHT" = some (some (.int 9 t4)))
  (v5:nsIn K mainGlobals "MOST_STAYS" = some (some (.int 60 t5)))
  (v6:nsIn K mainGlobals "MOST_RULES" = some (some (.int 8 t6)))
  (v7:nsIn K mainGlobals "MOST_PAPERS" = some (some (.int 12 t7)))
  (ncR:nsIn K mainGlobals "Rule" = some (some (.ref cR)))
  (ncW:nsIn K mainGlobals "Within" = some (some (.ref cW)))
  (ncS:nsIn K mainGlobals "Since" = some (some (.ref cS)))
  (ncI:nsIn K mainGlobals "InRow" = some (some (.ref cI)))
  (ncB:nsIn K mainGlobals "Book" = some (some (.ref cB)))
  (inR:findIn K (.ref cR) "__init__" = some (some (.ref fiR)))
  (inW:findIn K (.ref cW) "__init__" = some (some (.ref fiW)))
  (inS:findIn K (.ref cS) "__init__" = some (some (.ref fiS)))
  (inI:findIn K (.ref cI) "__init__" = some (some (.ref fiI)))
  (inB:findIn K (.ref cB) "__init__" = some (some (.ref fiB)))
  (tmr:findIn K (.ref cB) "rules" = some (some (.ref fmr)))
  (tml:findIn K (.ref cB) "lifted" = some (some (.ref fml)))
  (tmp:findIn K (.ref cB) "papers" = some (some (.ref fmp)))
  (twW:findIn K (.ref cW) "weight" = some (some (.ref fmw)))
  (twS:findIn K (.ref cS) "weight" = some (some (.ref fmw)))
  (twI:findIn K (.ref cI) "weight" = some (some (.ref fmw)))
  (hiR:JB K fiR "__init__" "Rule.__init__" (mem 23 0))
  (niR:isFn K (.ref fiR)=true)
  (hiW:JB K fiW "__init__" "Within.__init__" (mem 24 0))
  (niW:isFn K (.ref fiW)=true)
  (hiS:JB K fiS "__init__" "Since.__init__" (mem 25 0))
  (niS:isFn K (.ref fiS)=true)
  (hiI:JB K fiI "__init__" "InRow.__init__" (mem 26 0))
  (niI:isFn K (.ref fiI)=true)
  (hiB:JB K fiB "__init__" "Book.__init__" (mem 42 0))
  (niB:isFn K (.ref fiB)=true)
  (hmw:JB K fmw "weight" "Rule.weight" (mem 23 1))
  (nmw:isFn K (.ref fmw)=true)
  (hmr:JB K fmr "rules" "Book.rules" (mem 42 1))
  (nmr:isFn K (.ref fmr)=true)
  (hmp:JB K fmp "papers" "Book.papers" (mem 42 2))
  (nmp:isFn K (.ref fmp)=true)
  (hml:JB K fml "lifted" "Book.lifted" (mem 42 3))
  (nml:isFn K (.ref fml)=true)
  (mkW:makesIn K cW=true)
  (kcW:keepIn K (.ref cW)=true)
  (LW:Kl K cW)
  (na_landsW:findIn K (.ref cW) "lands" = some none)
  (na_mostW:findIn K (.ref cW) "most" = some none)
  (na_spanW:findIn K (.ref cW) "span" = some none)
  (kwW:kitOne K (.ref cW) (.ref cW)=some true)
  (ksW:kitOne K (.ref cW) (.ref cS)=some false)
  (mkS:makesIn K cS=true)
  (kcS:keepIn K (.ref cS)=true)
  (LS:Kl K cS)
  (na_landsS:findIn K (.ref cS) "lands" = some none)
  (na_mostS:findIn K (.ref cS) "most" = some none)
  (na_leaveS:findIn K (.ref cS) "leave" = some none)
  (kwS:kitOne K (.ref cS) (.ref cW)=some false)
  (ksS:kitOne K (.ref cS) (.ref cS)=some true)
  (mkI:makesIn K cI=true)
  (kcI:keepIn K (.ref cI)=true)
  (LI:Kl K cI)
  (na_landsI:findIn K (.ref cI) "lands" = some none)
  (na_mostI:findIn K (.ref cI) "most" = some none)
  (na_leaveI:findIn K (.ref cI) "leave" = some none)
  (kwI:kitOne K (.ref cI) (.ref cW)=some false)
  (ksI:kitOne K (.ref cI) (.ref cS)=some true)
  (mkB:makesIn K cB=true)
  (kcB:keepIn K (.ref cB)=true)
  (LB:Kl K cB)
  (na_kept_rulesB:findIn K (.ref cB) "kept_rules" = some none)
  (na_kept_papersB:findIn K (.ref cB) "kept_papers" = some none)
  (rdR:readsIn K cR (.type "type")=true)
  (gsR:specialIn K (.ref cR) "__getattribute__" = some (some (.builtin "type.__getattribute__")))
  (fcR:findCls K (.ref cR) (.type "type") "__init__" = some (.val (.ref fiR)))
  (rdS:readsIn K cS (.type "type")=true)
  (gsS:specialIn K (.ref cS) "__getattribute__" = some (some (.builtin "type.__getattribute__")))
  (fcS:findCls K (.ref cS) (.type "type") "__init__" = some (.val (.ref fiS)))
  (og:specialIn K (.builtin "object.__class__") "__get__" = some (some (.builtin "getset_descriptor.__get__")))
  (ot:takesIn K (.builtin "object.__class__")=some true)
  :
  ∃ fd:FuncData,(∀ (s:Shared) (v:Value),BindsTo s fd ⟨[v],[]⟩ [("_law_script",v)])/\∀ base:Heap,K.In base->base.Ns mainGlobals mg->FnOk l.prog w K mg base CX0 20 fa fd ["_law_script"] (spF (kap cW cS cI cB) K (clK pg 20) "law"):=by
 have e:=hfa.symm.trans (mg_of X G aL.1);cases e;obtain ⟨dL,FL,bL⟩:=qiu aL.2 ((bd1 fun _ _ _ _ _ _ _ =>rfl));have z:=z.all X G;obtain ⟨diR,FiR,biR⟩:=jX hiR (ps:=["self","lands","most"]) ((bd3 fun _ _ _ _ _ _ _ _ _ =>rfl));obtain ⟨diW,FiW,biW⟩:=jX hiW (ps:=["self","lands","most","span"]) ((bd4 fun _ _ _ _ _ _ _ _ _ _ =>rfl));obtain ⟨diS,FiS,biS⟩:=jX hiS (ps:=["self","lands","most","leave"]) ((bd4 fun _ _ _ _ _ _ _ _ _ _ =>rfl));obtain ⟨diI,FiI,biI⟩:=jX hiI (ps:=["self","lands","most"]) ((bd3 fun _ _ _ _ _ _ _ _ _ =>rfl));obtain ⟨diB,FiB,biB⟩:=jX hiB (ps:=["self","rules","papers"]) ((bd3 fun _ _ _ _ _ _ _ _ _ =>rfl));obtain ⟨dmw,Fmw,bmw⟩:=jX hmw (ps:=["self","land"]) ((bd2 fun _ _ _ _ _ _ _ _ =>rfl));obtain ⟨dmr,Fmr,bmr⟩:=jX hmr (ps:=["self"]) ((bd1 fun _ _ _ _ _ _ _ =>rfl));obtain ⟨dmp,Fmp,bmp⟩:=jX hmp (ps:=["self"]) ((bd1 fun _ _ _ _ _ _ _ =>rfl));obtain ⟨dml,Fml,bml⟩:=jX hml (ps:=["self","number"]) ((bd2 fun _ _ _ _ _ _ _ _ =>rfl));have mcR:=mg_of X G ncR;have mcW:=mg_of X G ncW;have mcS:=mg_of X G ncS;have mcI:=mg_of X G ncI;have mcB:=mg_of X G ncB;have rW:Kr K fmw cW cW cS "span" true:=⟨LW,na_landsW,na_mostW,na_spanW,⟨twW,nmw,hmw.kp⟩,kwW,ksW⟩;have rS:Kr K fmw cS cW cS "leave" false:=⟨LS,na_landsS,na_mostS,na_leaveS,⟨twS,nmw,hmw.kp⟩,kwS,ksS⟩;have rI:Kr K fmw cI cW cS "leave" false:=⟨LI,na_landsI,na_mostI,na_leaveI,⟨twI,nmw,hmw.kp⟩,kwI,ksI⟩;have rB:Kb K fmr fml fmp cB:=⟨LB,na_kept_rulesB,na_kept_papersB,⟨tmr,nmr,hmr.kp⟩,⟨tml,nml,hml.kp⟩,⟨tmp,nmp,hmp.kp⟩⟩;have tx:Tx (kap cW cS cI cB) K mg:=⟨z "tuple" (by decide+kernel),z "list" (by decide+kernel),z "len" (by decide+kernel),⟨_,mg_of X G v0⟩,qdX rW rS rI rB,qbK rW rS rI rB⟩;have cfR:ClsFn K cR "__init__" fiR:=⟨rdR,gsR,fcR,hiR.kp⟩;have cfS:ClsFn K cS "__init__" fiS:=⟨rdS,gsS,fcS,hiS.kp⟩;refine ⟨dL,bL,fun base _ _=>qhr (k:=19) (st:=top 52) ?ok FL (by kernel_rfl) (by kernel_rfl)⟩
 case ok=>
 refine ⟨a.all X G ?q,z,?g,qdX rW rS rI rB,qbK rW rS rI rB,?m,?k,qfG rW rS rI rB og ot mcW mcS⟩
 case q=>repeat first | exact .nil | refine .cons (by kernel_rfl) (bd2 fun _ _ _ _ _ _ _ _ =>rfl) ?_ | refine .cons (by kernel_rfl) (bd3 fun _ _ _ _ _ _ _ _ _ =>rfl) ?_ | refine .cons (by kernel_rfl) (bd1 fun _ _ _ _ _ _ _ =>rfl) ?_ | refine .cons (by kernel_rfl) (bd4 fun _ _ _ _ _ _ _ _ _ _ =>rfl) ?_ | refine .cons (by kernel_rfl) (bd5 fun _ _ _ _ _ _ _ _ _ _ _ =>rfl) ?_
 case g=>
  intro x d hd;unfold pg at hd;dsimp only at hd
  by_cases h0:x = "GREATEST"
  ·rw [if_pos h0] at hd;cases hd;exact ⟨.int 1000000000,_,h0▸mg_of X G v0,⟨_,rfl⟩,fun _=>by simp only [Rep]⟩
  rw [if_neg h0] at hd
  by_cases h1:x = "LETTERS"
  ·rw [if_pos h1] at hd;cases hd;exact ⟨.str "abcdefghijklmnopqrstuvwxyz",_,h1▸mg_of X G v1,⟨_,rfl⟩,fun _=>by simp only [Rep]⟩
  rw [if_neg h1] at hd
  by_cases h2:x = "LONGEST_NAME"
  ·rw [if_pos h2] at hd;cases hd;exact ⟨.int 8,_,h2▸mg_of X G v2,⟨_,rfl⟩,fun _=>by simp only [Rep]⟩
  rw [if_neg h2] at hd
  by_cases h3:x = "MOST_LANDS"
  ·rw [if_pos h3] at hd;cases hd;exact ⟨.int 6,_,h3▸mg_of X G v3,⟨_,rfl⟩,fun _=>by simp only [Rep]⟩
  rw [if_neg h3] at hd
  by_cases h4:x = "GREATEST_WEIGHT"
  ·rw [if_pos h4] at hd;cases hd;exact ⟨.int 9,_,h4▸mg_of X G v4,⟨_,rfl⟩,fun _=>by simp only [Rep]⟩
  rw [if_neg h4] at hd
  by_cases h5:x = "MOST_STAYS"
  ·rw [if_pos h5] at hd;cases hd;exact ⟨.int 60,_,h5▸mg_of X G v5,⟨_,rfl⟩,fun _=>by simp only [Rep]⟩
  rw [if_neg h5] at hd
  by_cases h6:x = "MOST_RULES"
  ·rw [if_pos h6] at hd;cases hd;exact ⟨.int 8,_,h6▸mg_of X G v6,⟨_,rfl⟩,fun _=>by simp only [Rep]⟩
  rw [if_neg h6] at hd
  by_cases h7:x = "MOST_PAPERS"
  ·rw [if_pos h7] at hd;cases hd;exact ⟨.int 12,_,h7▸mg_of X G v7,⟨_,rfl⟩,fun _=>by simp only [Rep]⟩
  rw [if_neg h7] at hd;cases hd
 case m=>
  intro c x f hm;rcases qjN hm with ⟨hr,rfl,rfl⟩ | ⟨rfl,rfl,rfl⟩ | ⟨rfl,rfl,rfl⟩ | ⟨rfl,rfl,rfl⟩
  ·rcases Z0 hr with rfl | rfl | rfl
   ·exact ⟨cW,fmw,_,mem 23 1,"weight",rfl,rW.wt,by kernel_rfl,by kernel_rfl,Fmw,bmw⟩
   ·exact ⟨cS,fmw,_,mem 23 1,"weight",rfl,rS.wt,by kernel_rfl,by kernel_rfl,Fmw,bmw⟩
   ·exact ⟨cI,fmw,_,mem 23 1,"weight",rfl,rI.wt,by kernel_rfl,by kernel_rfl,Fmw,bmw⟩
  ·exact ⟨cB,fmr,_,mem 42 1,"rules",rfl,rB.m1,by kernel_rfl,by kernel_rfl,Fmr,bmr⟩
  ·exact ⟨cB,fml,_,mem 42 3,"lifted",rfl,rB.m2,by kernel_rfl,by kernel_rfl,Fml,bml⟩
  ·exact ⟨cB,fmp,_,mem 42 2,"papers",rfl,rB.m3,by kernel_rfl,by kernel_rfl,Fmp,bmp⟩
 case k=>
  intro P wd base k ih f hf
  by_cases hk:k < 12
  ·exact .inl fun args=>if_pos hk
  obtain ⟨j,rfl⟩:∃ j,k=j+12:=⟨k - 12,by omega⟩;right
  have hf:f = "Within"\/f = "Since"\/f = "InRow"\/f = "Book":=by
   have hf:((["Within","Since","InRow","Book"]:List Str).contains f)=true:=hf
   simpa using hf
  rcases hf with rfl | rfl | rfl | rfl
  ·exact ⟨cW,fiW,_,_,_,⟨mkW,inW,niW,kcW⟩,ZZ (j:=j+9) tx FiW FiR biR mcR cfR (ih (j+9) (1:)) (ih (j+10) (1:)) (QI (j+4)) (QI (j+5)),mcW,biW,by omega,J2 (c:="Within") rfl rfl fun args r=>qkP (j:=j)⟩
  ·exact ⟨cS,fiS,_,_,_,⟨mkS,inS,niS,kcS⟩,Y1 (j:=j+9) tx FiS FiR biR mcR cfR (ih (j+9) (1:)) (ih (j+10) (1:)) (QI (j+4)) (QI (j+5)),mcS,biS,by omega,J2 (c:="Since") rfl rfl fun args r=>qkQ (j:=j)⟩
  ·exact ⟨cI,fiI,_,_,_,⟨mkI,inI,niI,kcI⟩,qbF (j:=j+8) tx FiI FiS biS mcS cfS FiR biR mcR cfR (ih (j+8) (1:)) (ih (j+9) (1:)) (QI (j+3)) (QI (j+4)),mcI,biI,by omega,J2 (c:="InRow") rfl rfl fun args r=>qkR (j:=j)⟩
  ·exact ⟨cB,fiB,_,_,_,⟨mkB,inB,niB,kcB⟩,qdi (j:=j+10) tx FiB (ih (j+10) (1:)) (QI (j+5)),mcB,biB,by omega,J2 (c:="Book") rfl rfl fun args r=>qkS (j:=j)⟩
theorem qkT {l:PySem.W.OpenLaw} {q:Program} {loose:List Str} {XP:(Str->Option Value)->Heap->Prop} {YP:World->Heap->Prop} {d:DefRec} {K:Params->Frag} {κ:KC} (hn:l.most=some 63) (hdf:d.params.defaults=[])
  (hY:∀ (w:World) (h:Heap),YP w h->(K w.params).In h)
  (F:∀ (w:World) (mg:PR) (fa:Addr) (h:Heap),(K w.params).In h->h.Ns mainGlobals mg->mg d.name=some (.ref fa)->
   ∃ fd:FuncData,(∀ (s:Shared) (u:Value),BindsTo s fd ⟨[u],[]⟩ [("_law_script",u)])/\∀ base:Heap,(K w.params).In base->base.Ns mainGlobals mg->FnOk l.prog w (K w.params) mg base CX0 20 fa fd ["_law_script"] (spF κ (K w.params) (clK pg 20) "law")) :
  PySem.W.WalkO q loose XP YP l.row.toRowW d [] (fun f vs=>PySem.call f vs):=
 L2.qel (n:=63) (k:=20) (x:="_law_script") (CX:=fun _=>CX0) (sp:=fun w=>spF κ (K w.params) (clK pg 20) "law") hn (2:) hdf ⟨rfl,by decide,by decide⟩ hY F (fun _ _ a ns hl _ hS=>qhs hS (qde ns hl)) fun _ _ _ _ _ z=>z
end K22
open PySem PySem.W PyProof.Rows
set_option maxRecDepth 100000 in
set_option maxHeartbeats 0 in
theorem PySem.Challenge.cw_daysgate_k22_what_a_day_counts_holds : PySem.Challenge.rw_daysgate_k22_what_a_day_counts.Holds := by
 w_on;refine holds_law (by kernel_rfl) fun said=>?_
 refine holds_open (q:=K22.Hq) (loose:=[]) (Xt:=K22.Hx) (XP:=XL K22.Hq []) (Yf:=fun s=>K22.Has.map s.heap.get?) (Ya:=fun w=>(K22.HK w.params).map fun p=>some p.2) (YP:=InK K22.HK) (N:=7398) K22.qjM (InK.of K22.HKe) InK.keeps (fun s e=>xl_of s (Bool.and_eq_true_iff.mp e).1) XL.keeps (by rfl) (by rfl) (by rfl) (fun s e=>recFacts_of (Bool.and_eq_true_iff.mp e).2) (by rfl) (by first | assumption | decide+kernel) (by decide+kernel) ⟨rfl,rfl,rfl,rfl,rfl,by decide+kernel⟩ ?hw ?hc
 (case hw=>w_witness2)
 k_fill
 refine K22.qkT (l:=PySem.Challenge.rw_daysgate_k22_what_a_day_counts) (κ:=(DG.kap (nat_lit 199) (nat_lit 225) (nat_lit 251) (nat_lit 352))) rfl rfl (fun w h Y=>Y) ?F
 case F=>
  intro w mg fa h KX G hmg
  refine' K22.qiv KX G hmg ?_ ?_ ?_ ?_ ?_ ?_ ?_ ?_ ?_ ?_ ?_ ?_ ?_ ?_ ?_ ?_ ?_ ?_ ?_ ?_ ?_ ?_ ?_ ?_ ?_ ?_ ?_ ?_ ?_ ?_ ?_ ?_ ?_ ?_ ?_ ?_ ?_ ?_ ?_ ?_ ?_ ?_ ?_ ?_ ?_ ?_ ?_ ?_ ?_ ?_ ?_ ?_ ?_ ?_ ?_ ?_ ?_ ?_ ?_ ?_ ?_ ?_ ?_ ?_ ?_ ?_ ?_ ?_ ?_ ?_ ?_ ?_ ?_ ?_ ?_ ?_ ?_ ?_ ?_ ?_ ?_ ?_
  all_goals try first | k_is | exact ⟨by k_is,by unfold DG.JB;exact ⟨_,_,_,_,_,_,_,_,_,by k_is,by k_is,by k_is⟩⟩ | (unfold DG.JB;exact ⟨_,_,_,_,_,_,_,_,_,by k_is,by k_is,by k_is⟩) | (refine ⟨⟨?_,?_,?_,?_⟩,?_,?_⟩<;>k_is) | kit_is | (repeat first | exact .nil | refine .cons ⟨by k_is,by unfold DG.JB;exact ⟨_,_,_,_,_,_,_,_,_,by k_is,by k_is,by k_is⟩⟩ ?_ | refine .cons (by k_is) ?_)
#print axioms PySem.Challenge.cw_daysgate_k22_what_a_day_counts_holds
