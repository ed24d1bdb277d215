import PyProof.Rows.All
import Wide.All
import OpenK.AllK
import Wide.FinOn
import Lean
import PyProof.EqAt
import PyProof.EqKinds
import PyProof.TupleCall
import PyProof.Rows.Range3
import KE.KRevIter
import PySem.Challenge.RW_daysgate_k34_whole_fault_shown
set_option Elab.async false
set_option linter.all false
set_option maxRecDepth 100000
set_option compiler.extract_closed false
set_option bootstrap.genMatcherCode false
set_option genSizeOf false
set_option genInjectivity false
set_option backward.eqns.nonrecursive false
noncomputable section
abbrev PP:=List (PySem.Addr×PySem.Obj)
abbrev PQ:=PySem.Value->PySem.Shared->Prop
abbrev PR:=PySem.Str->Option PySem.Value
open PySem.W (Frag)
set_option hygiene false
local macro_rules
| `(%[$n:num|0])=>`(.cons (.var $n) .nil)
| `(%[$a|0])=>`(.cons $a .nil)
| `(%[$n:num,$b,*|0])=>`(.cons (.var $n) %[$b,*|0])
| `(%[$a,$b,*|0])=>`(.cons $a %[$b,*|0])
| `(%[$n:num|1])=>`(qq (pg:=pg) (st:=top $n) (by kernel_rfl) (fun k cl=>by kernel_rfl))
set_option hygiene true
local macro_rules | `((1:))=>`(by omega) | `((2:))=>`(by decide)
set_option hygiene false
local macro_rules
| `(tactic|show 0)=>`(tactic|(obtain ⟨ρ,G,er,h⟩:=hq1))
| `(tactic|show 1)=>`(tactic|(refine (qk _).symm.trans ?_))
| `(tactic|show 2)=>`(tactic|(exact qi fun σ H Q h=>Exists.elim h fun _ h=>Exists.elim h fun _ h=>h.2))
| `(tactic|show 3)=>`(tactic|(have h:=(Wk.iff (show Wk (if (_&&_&&_)=true then _ else R.no) _ from h)).2))
| `(tactic|show 4)=>`(tactic|(exact False.elim h))
| `(tactic|show 5)=>`(tactic|(refine qi fun σ H Q hq1=>?_;show 0))
| `(tactic|show 6)=>`(tactic|(refine congrArg (forIn _ _) (funext fun _=>funext fun c=>?_);refine congrArg (fun z=>_ >>= z) (funext fun r=>?_)))
| `(tactic|show 7)=>`(tactic|(refine congrArg (fun z=>_ >>= z) (funext fun _=>?_);show (forIn _ _ _ >>= _:StateT SortSt Sem (Option Nat))=asc lo d2 nrem >>= _;refine congr (congrArg Bind.bind ?_) (funext fun e=>?_)))
set_option hygiene true
local macro_rules | `(tactic| simp? only [$ls,*]) => do
  let f (s : String) (k : Lean.Name) := (s.splitOn " ").toArray.map fun n => Lean.mkIdent (k ++ n.toName)
  let b <- (f "Rv.list? Rv.plain? Rv.data Rv.int? Rv.str? Rv.bl? Rv.tup? int2 seqD Rv.non? idxD sliceD truthD lenD listD intD maxD minD toSl flR B1.go B2.go Ty.of Ty.go toAr slN runD th_ok of_some slR_s slR_v slR_o slR_b slR_c slX_s slX_v slX_o ownI_s ownI_o kk_f kk_cs kk_nw at_0 at_1 at_2 ixN_app set_app emp_app xR_var xR_con xR_bin xR_neg xR_not xR_one xR_and xR_cmp xR_ite xR_idx xR_sli xR_lst xR_tup xR_call xR_b1 xR_b2 xR_isc xR_fld xR_met xR_new xR_isi xR_comp yRet yBl yTmp yB1 yB2 yNeg yNot yAnd yC1 yC2 yIf yI1 yI2 yS1 yS2 yS3 yLst yTup yCall yF1 yG1 yG2 yIsc yDat yFld yMt3 yMt2 yMt1 yMtO yNew yIsi yComp xT_not xT_one xT_and xT_or xT_cmp xT_val yBo yTn yTa yTo yD1 yD2 yTv xF_yes xF_test xEs_nil xEs_cons yE1 yE2 xAs_nil xAs_cons yA1 yA2 xO_none xO_some yO xI_seq xI_rng xI_rev xI_enum xI_zip ySeq yRng yRev yEnum yZ1 yZ2 yVal yValL yValLt yValLs yValLm yX yXt yAv yAx yAxt yCons xE_s xE_v xE_o xL_s xL_l xL_t xL_z xL_o oGo_some xS_app yApp yApp2 xS_ext yExt yExt2 xS_ret yRt xS_set ySet xS_setT yST yNx xS_setI ySI ySI2 ySI3 ySI4 xS_ite yIte xS_for yFor xS_whl xSs_nil xSs_cons yNext yNextr xFo_cons yFo1 yFo2 yFo2r xWh yWh1 yWh2 xP_nil xP_cons yP1 yP2 yP3 eE_bin eL_bin eX_bin eA_bin eA_neg eX_and eX_cmp eA_cmp eX_ite eE_idx eX_idx eA_idx eL_sli eA_sli eA_lst eE_tup eX_tup eA_tup eE_call eL_call eX_call eA_call eL_b1 eX_b1 eA_b1 eE_b2 eA_b2 eL_fld eL_met eA_met eX_new eA_new eX_comp eA_comp eE_var eE_con eL_var eX_var eX_con eA_var eA_con bAdd bAdds bAddtt bAddct bSub bMult bDiv bMod bPow cEq cNe cLt cLe cGt cGe cIs cIsN cIn cNi mIn rgoV rgoT setIs_nil setIs_cons g_mapc g_mapn g_lenc g_lenn g_rep0 g_reps g_appc g_appn g_set0 g_sets g_last g_nott g_notf g_omap g_fe g_and g_dt g_df lend_v" `DE ++ f "Int.reduceLT Int.reduceLE Nat.reduceAdd Nat.reduceSub" .anonymous).mapM fun n => `(Lean.Parser.Tactic.simpLemma| $n:ident)
  let d <- (f "sA_p sA_R sA_L sL_L rA_a rA_l rA_s rA_t rA_y" `DE ++ f "reduceIte" .anonymous).mapM fun n => `(Lean.Parser.Tactic.simpLemma| ↓ $n:ident)
  let c : Array (Lean.TSyntax [`Lean.Parser.Tactic.simpStar, `Lean.Parser.Tactic.simpErase, `Lean.Parser.Tactic.simpLemma]) := (b ++ d).map (⟨·.raw⟩) ++ ls.getElems
  `(tactic| simp only [$c,*])
namespace L2
open PySem PySem.Spec PyProof.Rows
abbrev Key:=Sum Int Str
def qcj:Key->Value->Bool
 | .inl k,v=>Value.isInt k v
 | .inr x,v=>Value.isStrOf x v
def qnL (w:World):Key->Int
 | .inl k=>hashInt k
 | .inr x=>hashStr w x
theorem qI:∀ {k:Key} {v:Value},qcj k v=true->(∃ i t,k=Sum.inl i/\v=Value.int i t)\/(∃ x t,k=Sum.inr x/\v=Value.str x t)
 | .inl i,v,h=>by obtain ⟨t,e⟩:=Value.isInt_shape (k:=i) (v:=v) h;exact .inl ⟨i,t,rfl,e⟩
 | .inr x,v,h=>by obtain ⟨t,e⟩:=Value.isStrOf_shape (x:=x) (v:=v) h;exact .inr ⟨x,t,rfl,e⟩
theorem qc7 (i:Int) (t:Tok):qcj (.inl i) (.int i t)=true:=by simp [qcj,Value.isInt]
theorem qc8 (x:Str) (t:Tok):qcj (.inr x) (.str x t)=true:=by simp [qcj,Value.isStrOf]
theorem qjj (a b:Int):decide ((Sum.inl a:Key)=Sum.inl b)=(a == b):=by
 by_cases e:a=b
 ·subst e;simp
 ·have h:¬ (Sum.inl a:Key)=Sum.inl b:=fun q=>e (Sum.inl.inj q);rw [decide_eq_false h];exact (beq_eq_false_iff_ne.mpr e).symm
theorem qjk (a b:Str):decide ((Sum.inr a:Key)=Sum.inr b)=decide (a=b):=by
 by_cases e:a=b
 ·subst e;simp
 ·have h:¬ (Sum.inr a:Key)=Sum.inr b:=fun q=>e (Sum.inr.inj q);rw [decide_eq_false h,decide_eq_false e]
theorem qjl (a:Int) (b:Str):decide ((Sum.inl a:Key)=Sum.inr b)=false:=decide_eq_false (fun q=>nomatch q)
theorem qjm (a:Str) (b:Int):decide ((Sum.inr a:Key)=Sum.inl b)=false:=decide_eq_false (fun q=>nomatch q)
noncomputable def qA (prog:Program) (w:World):PySem.KeyKind prog w Key where
 is:=qcj
 hash:=qnL w
 inj:=fun v a b ha hb=>by
  rcases qI ha with ⟨i,t,rfl,rfl⟩ | ⟨x,t,rfl,rfl⟩
  ·rcases qI hb with ⟨j,u,rfl,e⟩ | ⟨y,u,rfl,e⟩
   ·injection e with e1 _;rw [e1]
   ·exact nomatch e
  ·rcases qI hb with ⟨j,u,rfl,e⟩ | ⟨y,u,rfl,e⟩
   ·exact nomatch e
   ·injection e with e1 _;rw [e1]
 byValue:=fun k v h=>by rcases qI h with ⟨i,t,rfl,rfl⟩ | ⟨x,t,rfl,rfl⟩<;>rfl
 pyHash:=fun hv h=>by
  rcases qI hv with ⟨i,t,rfl,rfl⟩ | ⟨x,t,rfl,rfl⟩
  ·exact wpAny_pyHash_int h
  ·exact wpAny_pyHash_str h
 eqBool:=fun hu hv h=>by
  rcases qI hu with ⟨i,t,rfl,rfl⟩ | ⟨x,t,rfl,rfl⟩
  ·rcases qI hv with ⟨j,u,rfl,rfl⟩ | ⟨y,u,rfl,rfl⟩
   ·rw [qjj] at h;exact wpAny_eqBool_int h
   ·rw [qjl] at h;exact SeqAt.EqAt.int_str i t y u _ _ _ _ h
  ·rcases qI hv with ⟨j,u,rfl,rfl⟩ | ⟨y,u,rfl,rfl⟩
   ·rw [qjm] at h;exact SeqAt.EqAt.str_int x t j u _ _ _ _ h
   ·rw [qjk] at h;exact wpAny_eqBool_str h
 «strs»:=fun k x t v h=>by
  rcases qI h with ⟨i,u,rfl,e⟩ | ⟨y,u,rfl,e⟩
  ·exact nomatch e
  ·injection e with e1 _;subst e1;cases v<;>rfl
theorem qaZ (prog:Program) (w:World) (i:Int) (t:Tok):(qA prog w).is (.inl i) (.int i t)=true:=qc7 i t
theorem qa0 (prog:Program) (w:World) (x:Str) (t:Tok):(qA prog w).is (.inr x) (.str x t)=true:=qc8 x t
end L2
namespace L2
open PySem PySem.Spec PyProof.Rows
inductive V where
 | non | bl (b:Bool) | int (i:Int) | str (x:Str) | byt (b:Array UInt8) | flt (b:UInt64) | ref (a:Addr) | ty (n:String)
 deriving DecidableEq
noncomputable def qN:V->Value->Prop
 | .non,u=>u=Value.none
 | .bl b,u=>u=Value.bool b
 | .int i,u=>∃ t,u=Value.int i t
 | .str x,u=>∃ t,u=Value.str x t
 | .byt b,u=>∃ t,u=Value.bytes b t
 | .flt b,u=>∃ t,u=Value.float b t
 | .ref a,u=>u=Value.ref a
 | .ty n,u=>u=Value.type n
abbrev qK:List V->List Value->Prop:=Paired qN
theorem qK.length {xs:List V} {us:List Value} (r:qK xs us):xs.length=us.length:=Paired.length r
theorem qK.get:∀ {xs:List V} {us:List Value} {i:Nat} {x:V},qK xs us->xs[i]?=some x->∃ u,us[i]?=some u/\qN x u
 | _,_,_,_,.nil,e=>by simp at e
 | _,_,0,_,.cons r _,e=>by simp at e;subst e;exact ⟨_,rfl,r⟩
 | _,_,i+1,x,.cons _ t,e=>by obtain ⟨u,h1,h2⟩:=qK.get (i:=i) (x:=x) t (by simpa using e);exact ⟨u,by simpa using h1,h2⟩
theorem qK.set {x:V} {u:Value} (r:qN x u):∀ {xs:List V} {us:List Value} (i:Nat),qK xs us->qK (xs.set i x) (us.set i u)
 | _,_,_,.nil=>.nil
 | _,_,0,.cons _ t=>.cons r t
 | _,_,i+1,.cons q t=>.cons q (qK.set r i t)
theorem qK.append:∀ {xs ys:List V} {us ws:List Value},qK xs us->qK ys ws->qK (xs++ys) (us++ws)
 | _,_,_,_,.nil,s=>s
 | _,_,_,_,.cons r t,s=>.cons r (qK.append t s)
theorem qK.take:∀ {xs:List V} {us:List Value} (n:Nat),qK xs us->qK (xs.take n) (us.take n)
 | _,_,0,_=>.nil
 | _,_,_+1,.nil=>.nil
 | _,_,n+1,.cons r t=>.cons r (qK.take n t)
theorem qK.drop:∀ {xs:List V} {us:List Value} (n:Nat),qK xs us->qK (xs.drop n) (us.drop n)
 | _,_,0,r=>r
 | _,_,_+1,.nil=>.nil
 | _,_,n+1,.cons _ t=>qK.drop n t
def qbv:Option V->Option Value->Prop
 | some v,some u=>qN v u
 | none,none=>True
 | _,_=>False
noncomputable def KV {κ:Type}:List (κ×V)->List (κ×Value)->Prop:=Paired fun (p:κ×V) (q:κ×Value)=>p.1=q.1/\qN p.2 q.2
def kV:Key->V
 | .inl i=>.int i
 | .inr x=>.str x
inductive HO where
 | lst (xs:List V)
 | tup (xs:List V)
 | dK (kvs:List (Key×V)) | dT (kvs:List (List Key×V))
 | set (S:Int->Bool) (n:Nat)
 | ins (C dx:Addr) (fs:List (Str×V))
 | own (x:Addr)
 | xd (fs:List (Str×V))
 | met (f x:Addr)
 | rng (lo hi:Int)
 | frz (o:Obj) (u:HO)
 | tbl (ps:Array Value)
 | ext (φ:Heap->Prop)
abbrev Hp:=Addr->Option HO
def upd (H:Hp) (a:Addr) (o:HO):Hp:=fun b=>if b=a then some o else H b
theorem qh {H:Hp} {a:Addr} {o:HO}:upd H a o a=some o:=by unfold upd;rw [if_pos rfl]
theorem qe {H:Hp} {a b:Addr} {o:HO} (h:b≠a):upd H a o b=H b:=by unfold upd;rw [if_neg h]
theorem q9 {H:Hp} {a b:Addr} {o:HO} (h:H a=some o) (h':H b=none):a≠b:=by intro e;subst e;rw [h] at h';cases h'
section
variable (P:Program) (w:World)
noncomputable def qW (H:Hp) (h:Heap) (a:Addr):HO->Prop
 | .lst xs=>xs.length<=sizeLine/\∃ (its:List Value) (n:Nat),qK xs its/\h.get? a=some { cls:=.type "list",data:=.seq its.toArray n }
 | .tup xs=>xs.length<=sizeLine/\∃ its:List Value,qK xs its/\IsTup h a its.toArray
 | .dK kvs=>kvs.length<=sizeLine/\(a == sysModules)=false/\∃ vs,KV kvs vs/\h.DictOf (qA P w) a vs
 | .dT kvs=>kvs.length<=sizeLine/\(a == sysModules)=false/\∃ xs:List (List Key×Addr×Value),
   Paired (fun (p:List Key×V) (q:List Key×Addr×Value)=>p.1=q.1/\H q.2.1=some (.tup (p.1.map kV))/\qN p.2 q.2.2) kvs xs/\
   ∃ o es ep,h.get? a=some o/\o.ExactDict/\o.data=.dict es ep/\es.toList=xs.map (entryOfKey (tupleKind (qA P w)))/\(xs.map (·.1)).Nodup
 | .set S n=>h.SetOf (intKind P w) a S n
 | .ins C dx fs=>H dx=some (.own a)/\fs.length<=1000/\dx≠a/\h.get? a=some (PySem.W.instObj C dx)/\
   ∃ mA,h.Ns1 dx mA/\(∀ f,qbv (fs.lookup f) (mA f))/\PySem.Within mA (fs.map (·.1))
 | .own _=>∃ o,h.get? a=some o
 | .xd fs=>∃ mA,h.Ns1 a mA/\∀ f,qbv (fs.lookup f) (mA f)
 | .rng lo hi=>∃ t u v,h.get? a=some { cls:=.type "range",data:=.fields #[.int lo t,.int hi u,.int 1 v] }
 | .frz o u=>h.get? a=some o/\qW H h a u
 | .tbl ps=>h.get? a=some { cls:=.none,data:=.fields ps }
 | .met f x=>h.get? a=some (PySem.W.methodObj (.ref f) (.ref x))
 | .ext φ=>φ h/\(∃ o,h.get? a=some o)/\∀ h1 h2:Heap,φ h1->(∀ o,h1.get? a=some o->h2.get? a=some o)->φ h2
def HOk (H:Hp) (h:Heap):Prop:=∀ a o,H a=some o->qW P w H h a o
end
section
variable {P:Program} {w:World} {H H':Hp} {h h':Heap} {a:Addr} {o:HO}
theorem qW.lt (x:qW P w H h a o):a < h.objs.size:=by
 cases o with
 | lst xs=>obtain ⟨_,_,_,_,e⟩:=x;exact Heap.lt_size e
 | tup xs=>obtain ⟨_,_,_,p⟩:=x;exact p.lt
 | dK kvs=>obtain ⟨_,_,_,_,o,_,_,e,_⟩:=x;exact Heap.lt_size e
 | dT kvs=>obtain ⟨_,_,_,_,o,_,_,e,_⟩:=x;exact Heap.lt_size e
 | set S n=>obtain ⟨o,_,_,_,e,_⟩:=x;exact Heap.lt_size e
 | ins C dx fs=>obtain ⟨_,_,_,e,_⟩:=x;exact Heap.lt_size e
 | own y=>obtain ⟨_,e⟩:=x;exact Heap.lt_size e
 | xd fs=>obtain ⟨_,⟨_,_,_,e,_⟩,_⟩:=x;exact Heap.lt_size e
 | rng lo hi=>obtain ⟨_,_,_,e⟩:=x;exact Heap.lt_size e
 | frz ob u=>obtain ⟨e,_⟩:=x;exact Heap.lt_size e
 | tbl ps=>exact Heap.lt_size (show h.get? a=some _ from x)
 | met f y=>exact Heap.lt_size (show h.get? a=some _ from x)
 | ext φ=>obtain ⟨_,⟨_,e⟩,_⟩:=x;exact Heap.lt_size e
theorem Paired.mapP {α β:Type} {F G:α->β->Prop}:∀ {l₁:List α} {l₂:List β},Paired F l₁ l₂->(∀ a b,F a b->G a b)->Paired G l₁ l₂
 | _,_,.nil,_=>.nil
 | _,_,.cons r t,f=>.cons (f _ _ r) (Paired.mapP t f)
theorem qW.stay (x:qW P w H h a o) (k:∀ b u,(b=a\/H b=some (.own a))->h.get? b=some u->h'.get? b=some u)
  (ho:∀ b,H b=some (.own a)->H' b=some (.own a)) (ht:∀ b xs,H b=some (.tup xs)->H' b=some (.tup xs)):qW P w H' h' a o:=by
 induction o with
 | lst xs=>obtain ⟨z,its,n,r,e⟩:=x;exact ⟨z,its,n,r,k _ _ (.inl rfl) e⟩
 | tup xs=>obtain ⟨z,its,r,ob,e,c⟩:=x;exact ⟨z,its,r,ob,k _ _ (.inl rfl) e,c⟩
 | dK kvs=>obtain ⟨z,y,vs,r,ob,es,ep,e,c⟩:=x;exact ⟨z,y,vs,r,ob,es,ep,k _ _ (.inl rfl) e,c⟩
 | dT kvs=>obtain ⟨z,y,xs,r,ob,es,ep,e,c⟩:=x;exact ⟨z,y,xs,Paired.mapP r fun p q z=>⟨z.1,ht _ _ z.2.1,z.2.2⟩,ob,es,ep,k _ _ (.inl rfl) e,c⟩
 | set S n=>obtain ⟨ob,es,ep,t,e,c⟩:=x;exact ⟨ob,es,ep,t,k _ _ (.inl rfl) e,c⟩
 | ins C dx fs=>obtain ⟨d,z,ne,e,mA,⟨od,es,ep,e2,c⟩,r⟩:=x;exact ⟨ho _ d,z,ne,k _ _ (.inl rfl) e,mA,⟨od,es,ep,k _ _ (.inr d) e2,c⟩,r⟩
 | own y=>obtain ⟨ob,e⟩:=x;exact ⟨ob,k _ _ (.inl rfl) e⟩
 | xd fs=>obtain ⟨mA,⟨od,es,ep,e,c⟩,r⟩:=x;exact ⟨mA,⟨od,es,ep,k _ _ (.inl rfl) e,c⟩,r⟩
 | rng lo hi=>obtain ⟨t,u,v,e⟩:=x;exact ⟨t,u,v,k _ _ (.inl rfl) e⟩
 | frz ob u ih=>obtain ⟨e,q⟩:=x;exact ⟨k _ _ (.inl rfl) e,ih q⟩
 | tbl ps=>have e:h.get? a=some { cls:=.none,data:=.fields ps }:=x;show h'.get? a=some { cls:=.none,data:=.fields ps };exact k a _ (.inl rfl) e
 | met f y=>have e:h.get? a=some (PySem.W.methodObj (.ref f) (.ref y)):=x;show h'.get? a=some (PySem.W.methodObj (.ref f) (.ref y));exact k a _ (.inl rfl) e
 | ext φ=>obtain ⟨p,⟨o,e⟩,st⟩:=x;exact ⟨st _ _ p fun o q=>k _ _ (.inl rfl) q,⟨o,k _ _ (.inl rfl) e⟩,st⟩
theorem HOk.lt (x:HOk P w H h) (e:H a=some o):a < h.objs.size:=(x a o e).lt
theorem HOk.fresh (x:HOk P w H h) (e:h.objs.size<=a):H a=none:=by
 cases q:H a with
 | none=>rfl
 | some u=>exact absurd (Nat.lt_of_lt_of_le (x.lt q) e) (Nat.lt_irrefl _)
theorem HOk.kept (x:HOk P w H h) (k:∀ b u,h.get? b=some u->h'.get? b=some u):HOk P w H h':=fun a o e=>(x a o e).stay (fun b u _ q=>k b u q) (fun _ q=>q) fun _ _ q=>q
theorem HOk.laid (x:HOk P w H h) (k:∀ b u,h.get? b=some u->h'.get? b=some u) (hp:h.objs.size<=a) (new:qW P w (upd H a o) h' a o):HOk P w (upd H a o) h':=fun b u e=>by
 have hn:=x.fresh hp
 by_cases hb:b=a
 ·subst hb;rw [qh] at e;cases e;exact new
 ·rw [qe hb] at e;exact (x b u e).stay (fun c v _ q=>k c v q) (fun c q=>by rw [qe (q9 q hn)];exact q) fun c xs q=>by rw [qe (q9 q hn)];exact q
end
def Rd (H:Hp) (a:Addr) (u:HO):Prop:=H a=some u\/∃ o,H a=some (.frz o u)
theorem Rd.ok {P:Program} {w:World} {H:Hp} {h:Heap} {a:Addr} {u:HO} (r:Rd H a u) (x:HOk P w H h):qW P w H h a u:=by
 rcases r with r | ⟨o,r⟩
 ·exact x a u r
 ·obtain ⟨_,q⟩:=x a _ r;exact q
noncomputable def Mut:Option HO->Prop
 | some (.lst _)=>True
 | some (.dK _)=>True
 | some (.dT _)=>True
 | some (.set _ _)=>True
 | some (.ins _ _ _)=>True
 | some (.ext _)=>True
 | _=>False
section
variable {P:Program} {w:World} {H:Hp} {h h':Heap} {x e:Addr} {o':HO}
theorem HOk.write (ok:HOk P w H h) (mu:Mut (H x)) (he:e=x\/H e=some (.own x)) (k:∀ b u,b≠e->h.get? b=some u->h'.get? b=some u) (heo:∃ u,h'.get? e=some u)
  (new:qW P w (upd H x o') h' x o'):HOk P w (upd H x o') h':=fun b u q=>by
 have nown:∀ c y,H c=some (.own y)->c≠x:=fun c y r z=>by subst z;rw [r] at mu;exact mu
 have ntup:∀ c xs,H c=some (.tup xs)->c≠x:=fun c xs r z=>by subst z;rw [r] at mu;exact mu
 by_cases hb:b=x
 ·subst hb;rw [qh] at q;cases q;exact new
 ·rw [qe hb] at q
  by_cases hbe:b=e
  ·have q':H b=some (.own x):=by
    rcases he with z | z
    ·exact absurd (hbe.trans z) hb
    ·rw [hbe];exact z
   rw [q] at q';cases q';obtain ⟨v,hv⟩:=heo;exact ⟨v,by rw [hbe];exact hv⟩
  ·refine (ok b u q).stay (fun c v hc r=>k c v ?_ r) (fun c r=>by rw [qe (nown c b r)];exact r) fun c xs r=>by rw [qe (ntup c xs r)];exact r
   rcases hc with rfl | hc
   ·exact hbe
   ·rintro rfl;rcases he with z | z
    ·exact nown c b hc z
    ·rw [hc] at z;cases z;exact hb rfl
end
structure Un (fs ex:List Addr) (H H':Hp) (h h':Heap):Prop where
 keep:∀ b o,h.get? b=some o->H b=none->b∉fs->b∉ex->h'.get? b=some o
 slot:∀ b o,h.get? b=some o->H b=none->b∈fs->b∉ex->∃ sl,h'.get? b=some { o with slots:=sl }
 free:∀ b o,h.get? b=some o->H b=none->b∉ex->H' b=none
 there:∀ b o,h.get? b=some o->b∉ex->∃ o',h'.get? b=some o'
 tups:∀ b xs,H b=some (.tup xs)->H' b=some (.tup xs)
 frzs:∀ b o u,H b=some (.frz o u)->H' b=some (.frz o u)
 tbls:∀ b ps,H b=some (.tbl ps)->∃ more,H' b=some (.tbl (ps++more))
section
variable {fs fs' ex ex':List Addr} {H H1 H2:Hp} {h h1 h2 h':Heap} {a x e:Addr} {o:HO}
theorem Un.any (u:Un fs ex H H1 h h1) {b:Addr} {ob:Obj} (q:h.get? b=some ob) (n:H b=none) (hx:b∉ex):∃ sl,h1.get? b=some { ob with slots:=sl }:=by
 by_cases hb:b∈fs
 ·exact u.slot b ob q n hb hx
 ·exact ⟨ob.slots,u.keep b ob q n hb hx⟩
theorem Un.kept (k:∀ b u,h.get? b=some u->h'.get? b=some u):Un fs ex H H h h':=
 ⟨fun b ob q _ _ _=>k b ob q,fun b ob q _ _ _=>⟨ob.slots,k b ob q⟩,fun _ _ _ n _=>n,fun b ob q _=>⟨ob,k b ob q⟩,fun _ _ q=>q,fun _ _ _ q=>q,fun _ ps q=>⟨#[],by rw [q];simp⟩⟩
theorem Un.refl:Un fs ex H H h h:=Un.kept fun _ _ q=>q
theorem Un.laid (k:∀ b u,h.get? b=some u->h'.get? b=some u) (hp:h.objs.size<=a) (hn:H a=none):Un fs ex H (upd H a o) h h' where
 keep:=fun b u q _ _ _=>k b u q
 slot:=fun b u q _ _ _=>⟨u.slots,k b u q⟩
 free:=fun b u q n _=>by rw [qe (Nat.ne_of_lt (Nat.lt_of_lt_of_le (Heap.lt_size q) hp))];exact n
 there:=fun b u q _=>⟨u,k b u q⟩
 tups:=fun b xs q=>by rw [qe (q9 q hn)];exact q
 frzs:=fun b u xs q=>by rw [qe (q9 q hn)];exact q
 tbls:=fun b ps q=>⟨#[],by rw [qe (q9 q hn),q];simp⟩
theorem Un.write (mu:Mut (H x)) (he:e=x\/H e=some (.own x)) (k:∀ b u,b≠e->h.get? b=some u->h'.get? b=some u) (heo:∃ u,h'.get? e=some u):Un fs ex H (upd H x o) h h':=by
 have hx:∀ b,H b=none->b≠x:=fun b n z=>by subst z;rw [n] at mu;exact mu
 have hb:∀ b,H b=none->b≠e:=fun b n z=>by
  subst z;rcases he with r | r
  ·exact hx b n r
  ·rw [n] at r;cases r
 have hm:∀ b u,H b=some u->¬ Mut (some u)->b≠x:=fun b u q nm z=>by subst z;rw [q] at mu;exact nm mu
 refine ⟨fun b u q n _ _=>k b u (hb b n) q,fun b u q n _ _=>⟨u.slots,k b u (hb b n) q⟩,fun b u q n _=>by rw [qe (hx b n)];exact n,fun b u q _=>?_,
  fun b xs q=>by rw [qe (hm b _ q fun z=>z)];exact q,fun b u xs q=>by rw [qe (hm b _ q fun z=>z)];exact q,fun b ps q=>⟨#[],by rw [qe (hm b _ q fun z=>z),q];simp⟩⟩
 by_cases hbe:b=e
 ·subst hbe;exact heo
 ·exact ⟨u,k b u hbe q⟩
end
def trk (h:Heap) (H:Hp):List Addr:=(List.range h.objs.size).filter fun a=>(H a).isSome
def qe1 (h:Heap) (H:Hp):Heap:=PySem.W.hideAll h (trk h H)
theorem qc9 (h:Heap) (H:Hp):(qe1 h H).objs.size=h.objs.size:=PySem.W.hideAll_size _ _
theorem qe2 {h:Heap} {H:Hp} {b:Addr} {o:Obj} (e:h.get? b=some o) (n:H b=none):(qe1 h H).get? b=some o:=
 PySem.W.hideAll_get _ e fun hm=>by have q:(H b).isSome=true:=(List.mem_filter.mp hm).2;rw [n] at q;simp at q
theorem qhl {h:Heap} {H:Hp} {b:Addr} {o:Obj} (e:(qe1 h H).get? b=some o):h.get? b=some o/\H b=none:=by
 have e':h.get? b=some o:=PySem.W.of_hideAll (trk h H) e;refine ⟨e',?_⟩
 cases q:H b with
 | none=>rfl
 | some x=>have hm:b∈trk h H:=List.mem_filter.mpr ⟨List.mem_range.mpr (Heap.lt_size e'),by simp [q]⟩;have z:(qe1 h H).get? b=none:=PySem.W.hideAll_none (trk h H) hm;rw [z] at e;cases e
end L2
namespace L2
open PySem PySem.Spec PyProof.Rows
structure Mod (K:Frag) (mg:PR) (base:Heap):Prop where
 kin:K.In base
 glob:base.Ns mainGlobals mg
 blt:∃ mb,base.Ns builtinsNs mb/\∀ x:Str,x≠"__name__"->mb x=bootBuiltins x
 nolimit:base.NoLimit
structure Cx where
 prog:Program
 w:World
 K:Frag
 mg:PR
 base:Heap
 A:Around
 N:List Str
 s₀:Shared
 H₀:Hp
 env:Env
 outer:List Env
 stack:List Env
 ex:List Addr
 fn:Str->Bool
 calm:Bool
 pn:PP
 xe:PQ
def frs (l:List Env):List Addr:=l.filterMap (·.frame)
abbrev Cx.fs (X:Cx):List Addr:=frs X.outer
noncomputable def Vis (sc:Scope) (x:Str):Prop:=sc.names.lookup x=some .local\/sc.names.lookup x=some .cell\/sc.names.lookup x=some .free
def Loc (sc:Scope) (x:Str):Prop:=sc.names.lookup x=some .local\/sc.names.lookup x=some .cell
noncomputable def qnM (env:Env) (h:Heap) (m:PR) (x:Str) (u:Value):Prop:=
 (env.kindOf x=some .local/\m x=some u)\/((env.kindOf x=some .cell\/env.kindOf x=some .free)/\∃ c,env.cells.lookup x=some c/\h.IsCell c (some u))
structure Cx.Ok (X:Cx):Prop where
 mod:Mod X.K X.mg X.base
 kind:X.env.scope.kind=.function
 glob:X.env.globals=mainGlobals
 blt:X.env.builtins=builtinsNs
 above:X.s₀.heap.objs.size<=X.env.locals
 inj:∀ x y c,X.env.cells.lookup x=some c->X.env.cells.lookup y=some c->x=y
 has:∀ x,(X.env.kindOf x=some .cell\/X.env.kindOf x=some .free)->∃ c,X.env.cells.lookup x=some c
 cab:∀ x c,X.fn x=true->X.env.cells.lookup x=some c->X.s₀.heap.objs.size<=c
 hd:X.calm=true->X.A.handled=none
 frames:X.A.frames=some X.stack
 stk:X.stack=X.outer\/(X.stack=X.env::X.outer/\X.env.frame=some X.env.locals)
 exf:∀ b∈X.ex,b≠X.env.locals/\∀ x c,X.env.cells.lookup x=some c->c≠b
 bs:∀ b o,X.base.get? b=some o->X.s₀.heap.get? b=some o/\X.H₀ b=none
 bsz:X.base.objs.size<=X.s₀.heap.objs.size
 noex:∀ b o,X.base.get? b=some o->b∉X.ex
 exfs:∀ b∈X.ex,b∉X.fs
 funs:X.s₀.heap.FunFrames X.base X.outer
 frf:∀ b∈X.fs,X.H₀ b=none
structure Inv (X:Cx) (pins:PP) (σ:List (Option V)) (H:Hp) (s:Shared):Prop where
 ok:X.Ok
 os:s.os=X.s₀.os
 bare:AllBare s.gens
 base:Un X.fs X.ex X.H₀ H X.s₀.heap s.heap
 loc:∃ m,s.heap.Ns X.env.locals m/\∀ (i:Nat) (x:Str) (v:V),X.N[i]?=some x->σ[i]?=some (some v)->Vis X.env.scope x->∃ u,qN v u/\qnM X.env s.heap m x u
 cell:∀ x c,X.env.cells.lookup x=some c->∃ v,s.heap.IsCell c v
 free:H X.env.locals=none
 freeC:∀ x c,X.env.cells.lookup x=some c->H c=none
 pin:∀ p∈X.pn++pins,s.heap.get? p.1=some p.2/\H p.1=none/\p.1≠X.env.locals/\p.1∉X.fs/\∀ v,p.2.data≠.cell v
 hok:HOk X.prog X.w H s.heap
 len:σ.length=X.N.length
section
variable {X:Cx} {pins:PP} {σ:List (Option V)} {H H':Hp} {s:Shared} {h':Heap}
theorem Cx.Ok.nofr (ok:X.Ok) {b:Addr} {o:Obj} (e:X.base.get? b=some o):b∉X.fs:=fun hb=>by
 have:=(ok.funs.mem hb).1
 rw [e] at this;cases this
theorem Inv.bs (I:Inv X pins σ H s):∀ b o,X.base.get? b=some o->s.heap.get? b=some o/\H b=none:=fun b o e=>⟨I.base.keep b o (I.ok.bs b o e).1 (I.ok.bs b o e).2 (I.ok.nofr e) (I.ok.noex b o e),I.base.free b o (I.ok.bs b o e).1 (I.ok.bs b o e).2 (I.ok.noex b o e)⟩
theorem Inv.bk (I:Inv X pins σ H s):∀ b o,X.base.get? b=some o->s.heap.get? b=some o:=fun b o e=>(I.bs b o e).1
theorem Inv.mod (I:Inv X pins σ H s):Mod X.K X.mg X.base:=I.ok.mod
theorem Inv.kIn (I:Inv X pins σ H s):X.K.In s.heap:=I.ok.mod.kin.keeps I.bk
theorem Inv.lt (I:Inv X pins σ H s):X.env.locals < s.heap.objs.size:=let ⟨_,hn,_⟩:=I.loc;hn.lt
theorem Inv.sz (I:Inv X pins σ H s):X.s₀.heap.objs.size<=s.heap.objs.size:=Nat.le_trans I.ok.above (Nat.le_of_lt I.lt)
theorem Inv.nofs (I:Inv X pins σ H s) {a:Addr} (h:s.heap.objs.size<=a):a∉X.fs:=fun hb=>by obtain ⟨_,o,ho,_⟩:=I.ok.funs.mem hb;exact absurd (Nat.lt_of_lt_of_le (Heap.lt_size ho) (Nat.le_trans I.sz h)) (Nat.lt_irrefl _)
theorem Inv.cne (I:Inv X pins σ H s):∀ x c,X.env.cells.lookup x=some c->c≠X.env.locals:=fun x c e z=>by obtain ⟨v,o,ho,hd⟩:=I.cell x c e;obtain ⟨m,⟨o',es,ep,ho',hd',_⟩,_⟩:=I.loc;rw [z,ho'] at ho;cases ho;rw [hd'] at hd;cases hd
theorem Inv.funs (I:Inv X pins σ H s):s.heap.FunFrames X.base X.outer:=by
 have all:∀ (l:List Env),(∀ b∈frs l,b∈X.fs)->X.s₀.heap.FunFrames X.base l->s.heap.FunFrames X.base l:=by
  intro l
  induction l with
  | nil=>intro _ _;trivial
  | cons env r ih=>intro hs hl;obtain ⟨hk,⟨L,o,hf,hn,ho,hd⟩,hr⟩:=hl;have hL:L∈X.fs:=hs L (by unfold frs;rw [List.filterMap_cons,hf];exact List.mem_cons_self);obtain ⟨sl,e⟩:=I.base.slot L o ho (I.ok.frf L hL) hL fun z=>I.ok.exfs L z hL;exact ⟨hk,⟨L,_,hf,hn,e,hd⟩,ih (fun b hb=>hs b (by unfold frs;rw [List.filterMap_cons,hf];exact List.mem_cons_of_mem _ hb)) hr⟩
 exact all X.outer (fun _ hb=>hb) I.ok.funs
theorem Inv.stack (I:Inv X pins σ H s):s.heap.FunFrames X.base X.stack:=by
 rcases I.ok.stk with e | ⟨e,hf⟩
 ·rw [e];exact I.funs
 ·rw [e];obtain ⟨m,hn,_⟩:=I.loc;refine .cons (by rw [I.ok.kind];decide) hf hn ?_ I.funs;exact Heap.get?_none_of_le (Nat.le_trans I.ok.bsz I.ok.above)
theorem Inv.stkSub (I:Inv X pins σ H s):∀ b∈frs X.stack,b∈X.env.locals::X.fs:=fun b hb=>by
 rcases I.ok.stk with e | ⟨e,hf⟩
 ·rw [e] at hb;exact List.mem_cons_of_mem _ hb
 ·rw [e] at hb;unfold frs at hb;rw [List.filterMap_cons,hf] at hb;exact hb
theorem Inv.stkFree (I:Inv X pins σ H s):∀ b∈frs X.stack,H b=none:=fun b hb=>by
 rcases List.mem_cons.mp (I.stkSub b hb) with e | hb
 ·rw [e];exact I.free
 ·obtain ⟨_,o,ho,_⟩:=I.ok.funs.mem hb;exact I.base.free b o ho (I.ok.frf b hb) fun z=>I.ok.exfs b z hb
theorem Inv.step {g':Array GenState} {t':Nat} {d':Drawn} {ch:List Addr} (I:Inv X pins σ H s)
  (hch:∀ b∈ch,(b∈X.ex\/X.s₀.heap.objs.size<=b)/\b≠X.env.locals/\(∀ x c,X.env.cells.lookup x=some c->c≠b)/\∀ p∈X.pn++pins,p.1≠b)
  (keep:∀ b o,b≠X.env.locals->b∉X.fs->b∉ch->s.heap.get? b=some o->H b=none->h'.get? b=some o)
  (slot:∀ b o,b≠X.env.locals->b∈X.fs->b∉ch->s.heap.get? b=some o->H b=none->∃ sl,h'.get? b=some { o with slots:=sl }) (free:∀ b o,b∉ch->s.heap.get? b=some o->H b=none->H' b=none)
  (there:∀ b o,b∉ch->s.heap.get? b=some o->∃ o',h'.get? b=some o')
  (tups:∀ b xs,H b=some (.tup xs)->H' b=some (.tup xs)) (frzs:∀ b o u,H b=some (.frz o u)->H' b=some (.frz o u)) (tbls:∀ b ps,H b=some (.tbl ps)->∃ more,H' b=some (.tbl (ps++more)))
  (ns:∀ m,s.heap.Ns X.env.locals m->h'.Ns X.env.locals m) (hok:HOk X.prog X.w H' h') (hg:AllBare g') :
  Inv X pins σ H' { s with heap:=h',gens:=g',drawn:=d',toks:=t' }:=by
 have neL:∀ b o,X.s₀.heap.get? b=some o->b≠X.env.locals:=fun b o e=>Nat.ne_of_lt (Nat.lt_of_lt_of_le (Heap.lt_size e) I.ok.above)
 have neC:∀ b o,X.s₀.heap.get? b=some o->b∉X.ex->b∉ch:=fun b o e hx hb=>by
  rcases (hch b hb).1 with z | z
  ·exact hx z
  ·exact absurd (Nat.lt_of_lt_of_le (Heap.lt_size e) z) (Nat.lt_irrefl _)
 have cellK:∀ x c,X.env.cells.lookup x=some c->∀ v,s.heap.IsCell c v->h'.IsCell c v:=fun x c e v ⟨o,ho,hd⟩=>by
  have nch:c∉ch:=fun z=>(hch c z).2.2.1 x c e rfl
  by_cases hc:c∈X.fs
  ·obtain ⟨sl,q⟩:=slot c o (I.cne x c e) hc nch ho (I.freeC x c e);exact ⟨_,q,hd⟩
  ·exact ⟨o,keep c o (I.cne x c e) hc nch ho (I.freeC x c e),hd⟩
 refine ⟨I.ok,I.os,hg,⟨fun b o e n hb hx=>?_,fun b o e n hb hx=>?_,fun b o e n hx=>?_,fun b o e hx=>?_,fun b xs e=>tups b xs (I.base.tups b xs e),fun b o xs e=>frzs b o xs (I.base.frzs b o xs e),fun b ps e=>?_⟩,?_,fun x c e=>?_,?_,fun x c e=>?_,fun p hp=>?_,hok,I.len⟩
 ·exact keep b o (neL b o e) hb (neC b o e hx) (I.base.keep b o e n hb hx) (I.base.free b o e n hx)
 ·obtain ⟨sl,e1⟩:=I.base.slot b o e n hb hx;obtain ⟨sl',e2⟩:=slot b _ (neL b o e) hb (neC b o e hx) e1 (I.base.free b o e n hx);exact ⟨sl',e2⟩
 ·obtain ⟨o',e1⟩:=I.base.there b o e hx;exact free b o' (neC b o e hx) e1 (I.base.free b o e n hx)
 ·obtain ⟨o',e1⟩:=I.base.there b o e hx;exact there b o' (neC b o e hx) e1
 ·obtain ⟨m1,e1⟩:=I.base.tbls b ps e;obtain ⟨m2,e2⟩:=tbls b _ e1;exact ⟨m1++m2,by rw [e2,Array.append_assoc]⟩
 ·obtain ⟨m,hn,hl⟩:=I.loc;refine ⟨m,ns m hn,fun i x v e1 e2 e3=>?_⟩;obtain ⟨u,r,l⟩:=hl i x v e1 e2 e3;refine ⟨u,r,?_⟩;rcases l with l | ⟨k,c,e,z⟩
  ·exact .inl l
  ·exact .inr ⟨k,c,e,cellK x c e _ z⟩
 ·obtain ⟨v,z⟩:=I.cell x c e;exact ⟨v,cellK x c e v z⟩
 ·obtain ⟨m,⟨o,_,_,ho,_⟩,_⟩:=I.loc;exact free _ o (fun z=>(hch _ z).2.1 rfl) ho I.free
 ·obtain ⟨v,o,ho,hd⟩:=I.cell x c e;exact free c o (fun z=>(hch c z).2.2.1 x c e rfl) ho (I.freeC x c e)
 ·obtain ⟨e,n,ne,nf,d⟩:=I.pin p hp;have nch:p.1∉ch:=fun z=>(hch p.1 z).2.2.2 p hp rfl;exact ⟨keep p.1 p.2 ne nf nch e n,free p.1 p.2 nch e n,ne,nf,d⟩
theorem Inv.un {t':Nat} (I:Inv X pins σ H s) (u:Un X.fs [] H H' s.heap h') (hok:HOk X.prog X.w H' h'):Inv X pins σ H' { s with heap:=h',toks:=t' }:=by
 obtain ⟨m,⟨o,es,ep,ho,r⟩,_⟩:=id I.loc;obtain ⟨sl,hL⟩:=u.any ho I.free (by simp)
 exact I.step (g':=s.gens) (d':=s.drawn) (ch:=[]) (fun _ z=>nomatch z) (fun b o _ hb _ e n=>u.keep b o e n hb (by simp)) (fun b o _ hb _ e n=>u.slot b o e n hb (by simp)) (fun b o _ e n=>u.free b o e n (by simp)) (fun b o _ e=>u.there b o e (by simp)) u.tups u.frzs u.tbls (fun m' hm=>by obtain ⟨o',es',ep',ho',r'⟩:=hm;rw [ho] at ho';cases ho';exact ⟨_,es',ep',hL,r'⟩) hok I.bare
theorem Inv.call {g':Array GenState} {t':Nat} {d':Drawn} {ch:List Addr} (I:Inv X pins σ H s) (u:Un (frs X.stack) ch H H' s.heap h') (hok:HOk X.prog X.w H' h') (hg:AllBare g')
  (hch:∀ b∈ch,(b∈X.ex\/X.s₀.heap.objs.size<=b)/\b≠X.env.locals/\(∀ x c,X.env.cells.lookup x=some c->c≠b)/\∀ p∈X.pn++pins,p.1≠b) :
  Inv X pins σ H' { s with heap:=h',gens:=g',drawn:=d',toks:=t' }:=by
 obtain ⟨m,⟨o,es,ep,ho,r⟩,_⟩:=id I.loc;obtain ⟨sl,hL⟩:=u.any ho I.free fun z=>(hch _ z).2.1 rfl
 exact I.step (ch:=ch) hch (fun b o hL hb hc e n=>u.keep b o e n (fun z=>(List.mem_cons.mp (I.stkSub b z)).elim hL hb) hc) (fun b o _ _ hc e n=>u.any e n hc) (fun b o hc e n=>u.free b o e n hc) (fun b o hc e=>u.there b o e hc) u.tups u.frzs u.tbls (fun m' hm=>by obtain ⟨o',es',ep',ho',r'⟩:=hm;rw [ho] at ho';cases ho';exact ⟨_,es',ep',hL,r'⟩) hok hg
theorem Inv.turned {t':Nat} {it:Addr} (I:Inv X pins σ H s) (k:∀ b o,b≠it->s.heap.get? b=some o->h'.get? b=some o) (hn:H it=none) (hL:it≠X.env.locals)
  (h1:it∈X.ex\/X.s₀.heap.objs.size<=it) (h2:∀ x c,X.env.cells.lookup x=some c->c≠it) (h3:∀ p∈X.pn++pins,p.1≠it):Inv X pins σ H { s with heap:=h',toks:=t' }:=by
 have nit:∀ b u,H b=some u->b≠it:=fun b u e z=>by rw [z,hn] at e;cases e
 refine I.step (g':=s.gens) (d':=s.drawn) (ch:=[it]) (fun b hb=>?_) (fun b o _ _ hc e _=>k b o (fun z=>hc (by simp [z])) e) (fun b o _ _ hc e _=>⟨o.slots,k b o (fun z=>hc (by simp [z])) e⟩) (fun _ _ _ _ n=>n)
  (fun b o hc e=>⟨o,k b o (fun z=>hc (by simp [z])) e⟩) (fun _ _ e=>e) (fun _ _ _ e=>e) (fun b ps e=>⟨#[],by rw [e];simp⟩) (fun m hm=>?_) (fun b u e=>?_) I.bare
 ·have e:b=it:=by simpa using hb
  subst e;exact ⟨h1,hL,h2,h3⟩
 ·obtain ⟨o,es,ep,ho,r⟩:=hm;exact ⟨o,es,ep,k _ o (Ne.symm hL) ho,r⟩
 ·refine (I.hok b u e).stay (fun c v hc q=>k c v ?_ q) (fun _ q=>q) fun _ _ q=>q;rcases hc with z | z
  ·rw [z];exact nit b u e
  ·exact nit c _ z
theorem Inv.tok (I:Inv X pins σ H s) (t:Nat):Inv X pins σ H { s with toks:=t }:=I.un (h':=s.heap) (t':=t) Un.refl I.hok
theorem Inv.kept {t':Nat} (I:Inv X pins σ H s) (k:∀ b u,s.heap.get? b=some u->h'.get? b=some u):Inv X pins σ H { s with heap:=h',toks:=t' }:=I.un (Un.kept k) (I.hok.kept k)
theorem Inv.laid {a:Addr} {o:HO} {t':Nat} (I:Inv X pins σ H s) (k:∀ b u,s.heap.get? b=some u->h'.get? b=some u) (hp:s.heap.objs.size<=a) (new:qW X.prog X.w (upd H a o) h' a o) :
  Inv X pins σ (upd H a o) { s with heap:=h',toks:=t' }:=I.un (Un.laid k hp (I.hok.fresh hp)) (I.hok.laid k hp new)
theorem Inv.write {x e:Addr} {o:HO} {t':Nat} (I:Inv X pins σ H s) (mu:Mut (H x)) (he:e=x\/H e=some (.own x)) (k:∀ b u,b≠e->s.heap.get? b=some u->h'.get? b=some u) (heo:∃ u,h'.get? e=some u)
  (new:qW X.prog X.w (upd H x o) h' x o):Inv X pins σ (upd H x o) { s with heap:=h',toks:=t' }:=I.un (Un.write mu he k heo) (I.hok.write mu he k heo new)
theorem Inv.pins_of {pins':PP} (I:Inv X pins σ H s) (h:∀ p∈pins',s.heap.get? p.1=some p.2/\H p.1=none/\p.1≠X.env.locals/\p.1∉X.fs/\∀ v,p.2.data≠.cell v):Inv X pins' σ H s:=
 ⟨I.ok,I.os,I.bare,I.base,I.loc,I.cell,I.free,I.freeC,fun p hp=>(List.mem_append.mp hp).elim (fun z=>I.pin p (List.mem_append_left _ z)) (h p),I.hok,I.len⟩
theorem qbw {N:List Str} (hN:N.Nodup) {i j:Nat} {x:Str} (a:N[i]?=some x) (b:N[j]?=some x):i=j:=by obtain ⟨h1,e1⟩:=List.getElem?_eq_some_iff.mp a;obtain ⟨h2,e2⟩:=List.getElem?_eq_some_iff.mp b;exact (List.getElem_inj hN).mp (e1.trans e2.symm)
theorem ZG {M:Model} {A:Around} {E:PQ} {i:Nat} {x:Str} {v:V} {u:Value} {Q:Unit->Shared->Prop} (I:Inv X pins σ H s) (hN:X.N.Nodup) (hi:X.N[i]?=some x) (hx:Loc X.env.scope x) (r:qN v u)
  (h:∀ s',Inv X pins (σ.set i (some v)) H s'->(∃ a,Heap.SameBut a s.heap s'.heap/\(a=X.env.locals\/X.env.cells.lookup x=some a))->Q () s') (hf:X.fn x=true\/X.env.scope.names.lookup x=some .local:=by first | exact .inl rfl | exact .inr rfl | assumption):wpAny M A (storeName X.env x u) Q E s:=by
 obtain ⟨m,hn,hl⟩:=id I.loc;have hcls:(X.env.scope.kind == .class||(X.env.scope.kind == .module&&X.env.locals != X.env.globals))=false:=by rw [I.ok.kind];rfl
 have hiσ:i < σ.length:=by rw [I.len];exact (List.getElem?_eq_some_iff.mp hi).1
 have cne:=I.cne
 have tracked:∀ {a:Addr} {h':Heap},(∃ o,s.heap.get? a=some o/\H a=none)->Heap.SameBut a s.heap h'->HOk X.prog X.w H h':=fun {a h'} ha hs b ob e=>by
  obtain ⟨_,_,hfree⟩:=ha;refine (I.hok b ob e).stay (fun c w' hc q=>(hs.2 c ?_).trans q) (fun _ q=>q) fun _ _ q=>q;rintro rfl;rcases hc with rfl | hc
  ·rw [hfree] at e;cases e
  ·rw [hfree] at hc;cases hc
 rcases hx with hk | hk
 ·refine wpAny_storeName_local hk hn (fun h' hn' hs=>?_) hcls;obtain ⟨oL,_,_,hoL,_⟩:=id hn;refine h _ ⟨I.ok,I.os,I.bare,⟨fun b o e n hb hx=>?_,fun b o e n hb hx=>?_,I.base.free,fun b o e hx=>?_,I.base.tups,I.base.frzs,I.base.tbls⟩,⟨_,hn',fun j y v' e1 e2 e3=>?_⟩,fun y c e=>?_,I.free,I.freeC,fun p hp=>?_,tracked ⟨oL,hoL,I.free⟩ hs,by simpa using I.len⟩ ⟨_,hs,.inl rfl⟩
  ·exact (hs.2 b (Nat.ne_of_lt (Nat.lt_of_lt_of_le (Heap.lt_size e) I.ok.above))).trans (I.base.keep b o e n hb hx)
  ·obtain ⟨sl,e1⟩:=I.base.slot b o e n hb hx;exact ⟨sl,(hs.2 b (Nat.ne_of_lt (Nat.lt_of_lt_of_le (Heap.lt_size e) I.ok.above))).trans e1⟩
  ·obtain ⟨o',e1⟩:=I.base.there b o e hx;exact ⟨o',(hs.2 b (Nat.ne_of_lt (Nat.lt_of_lt_of_le (Heap.lt_size e) I.ok.above))).trans e1⟩
  ·by_cases hj:j=i
   ·subst hj;rw [hi] at e1;cases e1;rw [List.getElem?_set_self hiσ] at e2;cases e2;exact ⟨u,r,.inl ⟨hk,by simp⟩⟩
   ·rw [List.getElem?_set_ne (Ne.symm hj)] at e2;obtain ⟨u',r',q⟩:=hl j y v' e1 e2 e3;refine ⟨u',r',?_⟩;rcases q with ⟨k,e⟩ | ⟨k,c,e,z⟩
    ·refine .inl ⟨k,?_⟩
     have:y≠x:=fun e=>hj (qbw hN e1 (e▸hi))
     simp [this,e]
    ·exact .inr ⟨k,c,e,z.sameBut hs (cne y c e)⟩
  ·obtain ⟨w',z⟩:=I.cell y c e;exact ⟨w',z.sameBut hs (cne y c e)⟩
  ·obtain ⟨e,n,ne,nf,d⟩:=I.pin p hp;exact ⟨(hs.2 p.1 ne).trans e,n,ne,nf,d⟩
 ·have hfn:X.fn x=true:=by
   rcases hf with z | z
   ·exact z
   ·rw [z] at hk;cases hk
  obtain ⟨c,hc⟩:=I.ok.has x (.inl hk);obtain ⟨w',z⟩:=I.cell x c hc;refine wpAny_storeName_cell I.ok.kind hk hc z (fun h' hc' hs=>?_);obtain ⟨oc,hoc,hocd⟩:=id z;refine h { s with heap:=h' } ⟨I.ok,I.os,I.bare,⟨fun b o e n hb hx=>?_,fun b o e n hb hx=>?_,I.base.free,fun b o e hx=>?_,I.base.tups,I.base.frzs,I.base.tbls⟩,⟨m,hn.sameBut hs (Ne.symm (cne x c hc)),fun j y v' e1 e2 e3=>?_⟩,fun y c' e=>?_,I.free,I.freeC,fun p hp=>?_,tracked ⟨oc,hoc,I.freeC x c hc⟩ hs,by simpa using I.len⟩ ⟨c,hs,.inr hc⟩
  ·exact (hs.2 b (Nat.ne_of_lt (Nat.lt_of_lt_of_le (Heap.lt_size e) (I.ok.cab x c hfn hc)))).trans (I.base.keep b o e n hb hx)
  ·obtain ⟨sl,e1⟩:=I.base.slot b o e n hb hx;exact ⟨sl,(hs.2 b (Nat.ne_of_lt (Nat.lt_of_lt_of_le (Heap.lt_size e) (I.ok.cab x c hfn hc)))).trans e1⟩
  ·obtain ⟨o',e1⟩:=I.base.there b o e hx;exact ⟨o',(hs.2 b (Nat.ne_of_lt (Nat.lt_of_lt_of_le (Heap.lt_size e) (I.ok.cab x c hfn hc)))).trans e1⟩
  ·by_cases hj:j=i
   ·subst hj;rw [hi] at e1;cases e1;rw [List.getElem?_set_self hiσ] at e2;cases e2;exact ⟨u,r,.inr ⟨.inl hk,c,hc,hc'⟩⟩
   ·rw [List.getElem?_set_ne (Ne.symm hj)] at e2;obtain ⟨u',r',q⟩:=hl j y v' e1 e2 e3;refine ⟨u',r',?_⟩;rcases q with q | ⟨k,c',e,z'⟩
    ·exact .inl q
    ·refine .inr ⟨k,c',e,z'.sameBut hs ?_⟩;rintro rfl;exact hj (qbw hN e1 (I.ok.inj _ _ _ e hc▸hi))
  ·by_cases hcc:c'=c
   ·subst hcc;exact ⟨_,hc'⟩
   ·obtain ⟨w2,z2⟩:=I.cell y c' e;exact ⟨w2,z2.sameBut hs hcc⟩
  ·obtain ⟨e,n,ne,nf,d⟩:=I.pin p hp;refine ⟨(hs.2 p.1 ?_).trans e,n,ne,nf,d⟩;intro q;rw [q,hoc] at e;have q':oc=p.2:=Option.some.inj e;exact d w' (by rw [<-q'];exact hocd)
theorem qbx {M:Model} {A:Around} {E:PQ} {i:Nat} {x:Str} {v:V} {u:Value} {Q:Unit->Shared->Prop} (I:Inv X pins σ H s) (hN:X.N.Nodup) (hi:X.N[i]?=some x) (hx:Loc X.env.scope x) (r:qN v u)
  (h:∀ s',Inv X pins (σ.set i (some v)) H s'->Q () s') (hf:X.fn x=true\/X.env.scope.names.lookup x=some .local:=by first | exact .inl rfl | exact .inr rfl | assumption):wpAny M A (storeName X.env x u) Q E s:=
 ZG I hN hi hx r (fun s' I' _=>h s' I') hf
theorem Inv.call' {s':Shared} {ch:List Addr} (I:Inv X pins σ H s) (ho:s'.os=s.os) (u:Un (frs X.stack) ch H H' s.heap s'.heap) (hok:HOk X.prog X.w H' s'.heap) (hg:AllBare s'.gens)
  (hch:∀ b∈ch,(b∈X.ex\/X.s₀.heap.objs.size<=b)/\b≠X.env.locals/\(∀ x c,X.env.cells.lookup x=some c->c≠b)/\∀ p∈X.pn++pins,p.1≠b):Inv X pins σ H' s':=by
 obtain ⟨h',g',d',t',o'⟩:=s';have e:o'=s.os:=ho;subst e;exact I.call (g':=g') (t':=t') (d':=d') u hok hg hch
end
abbrev XK:=Value->Option Addr->Hp->Prop
abbrev St:=List (Option V)
abbrev VK:=V->Hp->Prop
abbrev TE:=St->Hp->VK->Prop
abbrev TT:=St->Hp->(Bool->Hp->Prop)->Prop
abbrev TA:=St->Hp->(List V->Hp->Prop)->Prop
structure Ends where
 nx:St->Hp->Prop
 rt:VK
 bk:St->Hp->Prop:=fun _ _=>False
 ct:St->Hp->Prop:=fun _ _=>False
abbrev TS:=Ends->St->Hp->Prop
noncomputable def EP (X:Cx) (pins:PP) (σ:St) (Q:VK) (u:Value) (s':Shared):Prop:=∃ v H',Inv X pins σ H' s'/\qN v u/\Q v H'
noncomputable def TP (X:Cx) (pins:PP) (σ:St) (Q:Bool->Hp->Prop) (b:Bool) (s':Shared):Prop:=∃ H',Inv X pins σ H' s'/\Q b H'
noncomputable def AP (X:Cx) (pins:PP) (σ:St) (Q:List V->Hp->Prop) (us:List Value) (s':Shared):Prop:=∃ vs H',Inv X pins σ H' s'/\qK vs us/\Q vs H'
noncomputable def SP (X:Cx) (pins:PP) (D:Ends) (f:Flow) (s':Shared):Prop:=
 match f with
 | .next=>∃ σ' H',Inv X pins σ' H' s'/\D.nx σ' H'
 | .brk=>∃ σ' H',Inv X pins σ' H' s'/\D.bk σ' H'
 | .cont=>∃ σ' H',Inv X pins σ' H' s'/\D.ct σ' H'
 | .ret u=>∃ v σ' H',Inv X pins σ' H' s'/\qN v u/\D.rt v H'
noncomputable def PE (X:Cx) (e:Expr) (t:TE):Prop:=
 ∀ (pins:PP) (s:Shared) (σ:St) (H:Hp) (Q:VK),Inv X pins σ H s->t σ H Q->wpAny (model X.prog X.w) X.A (eval e X.env) (EP X pins σ Q) X.xe s
noncomputable def PT (X:Cx) (e:Expr) (t:TT):Prop:=
 ∀ (pins:PP) (s:Shared) (σ:St) (H:Hp) (Q:Bool->Hp->Prop),Inv X pins σ H s->t σ H Q->wpAny (model X.prog X.w) X.A (isTrue e X.env (eval e X.env)) (TP X pins σ Q) X.xe s
noncomputable def PW (X:Cx) (e:Expr) (t:TT):Prop:=
 ∀ (whole:Sem Value) (pins:PP) (s:Shared) (σ:St) (H:Hp) (Q:Bool->Hp->Prop),Inv X pins σ H s->t σ H Q->wpAny (model X.prog X.w) X.A (isTrue e X.env whole) (TP X pins σ Q) X.xe s
theorem PW.pt {X:Cx} {e:Expr} {t:TT} (h:PW X e t):PT X e t:=h _
noncomputable def PA (X:Cx) (es:List Expr) (t:TA):Prop:=
 ∀ (pos:Pos) (pins:PP) (s:Shared) (σ:St) (H:Hp) (Q:List V->Hp->Prop),Inv X pins σ H s->t σ H Q->wpAny (model X.prog X.w) X.A (spliced (backTo pos (starEach es X.env))) (AP X pins σ Q) X.xe s
noncomputable def PS (X:Cx) (st:Stmt) (t:TS):Prop:=
 ∀ (pins:PP) (s:Shared) (σ:St) (H:Hp) (D:Ends),Inv X pins σ H s->t D σ H->wpAny (model X.prog X.w) X.A (exec st X.env) (SP X pins D) X.xe s
noncomputable def PSs (X:Cx) (st:List Stmt) (t:TS):Prop:=
 ∀ (pins:PP) (s:Shared) (σ:St) (H:Hp) (D:Ends),Inv X pins σ H s->t D σ H->wpAny (model X.prog X.w) X.A (execs st X.env) (SP X pins D) X.xe s
theorem thn {α:Type} {t:Sem α} {Q Q':α->Shared->Prop} {M:Model} {A:Around} {E:PQ} {s:Shared} (h:wpAny M A t Q E s) (hQ:∀ a s,Q a s->Q' a s):wpAny M A t Q' E s:=wpAny_mono h hQ fun _ _ x=>x
end L2
namespace L2
open PySem PySem.Spec PyProof.Rows
section
variable {X:Cx}
theorem bin {a b:Expr} {ta tb:TE} (ha:PE X a ta) (hb:PE X b tb) {pins:PP} {s:Shared} {σ:St} {H:Hp} {R:V->V->Hp->Prop} (I:Inv X pins σ H s) (h:ta σ H fun x H1=>tb σ H1 fun y H2=>R x y H2)
  {α:Type} {Q:α->Shared->Prop} {f:Value->Value->Sem α}
  (hf:∀ v u s2 x y H2,Inv X pins σ H2 s2->qN x v->qN y u->R x y H2->wpAny (model X.prog X.w) X.A (f v u) Q X.xe s2) :
  wpAny (model X.prog X.w) X.A (eval a X.env) (fun v s₁=>wpAny (model X.prog X.w) X.A (eval b X.env) (fun u s₂=>wpAny (model X.prog X.w) X.A (f v u) Q X.xe s₂) X.xe s₁) X.xe s:=by
 refine thn (ha pins s σ H _ I h) fun v s1 hq1=>?_;obtain ⟨x,H1,I1,r1,q1⟩:=hq1;refine thn (hb pins s1 σ H1 _ I1 q1) fun u s2 hq1=>?_;obtain ⟨y,H2,I2,r2,q2⟩:=hq1;exact hf v u s2 x y H2 I2 r1 r2 q2
def qmh (i:Nat):TE:=fun σ H Q=>∃ v,σ[i]?=some (some v)/\Q v H
def tC (v:V):TE:=fun _ H Q=>Q v H
theorem Qo {i:Nat} {x:Str} {pos:Pos} (hN:X.N[i]?=some x) (hv:Vis X.env.scope x) (hd:(x == ("__debug__" : Str))=false:=by decide) (hcd:(x == ("__classdict__" : Str))=false:=by decide):PE X (.Name x pos) (qmh i):=by
 intro pins s σ H Q I h;obtain ⟨v,e,h⟩:=h;obtain ⟨m,hn,hl⟩:=I.loc;obtain ⟨u,r,l⟩:=hl i x v hN e hv;have fin:EP X pins σ Q u s:=⟨v,H,I,r,h⟩;rcases l with ⟨hk,hm⟩ | ⟨hk,c,hc,hcell⟩
 ·exact wpAny_Name (wpAny_loadName_local I.ok.kind hk hn hm fin) hd
 ·rcases hk with hk | hk
  ·exact wpAny_Name (wpAny_loadName_cell I.ok.kind hk hc hcell fin) hd
  ·exact wpAny_Name (wpAny_loadName_free I.ok.kind hk hc hcell fin hcd) hd
theorem ZH {i j pos}:PE X (.Constant (.int i) j pos) (tC (.int i)):=fun _ _ _ H _ I h=>wpAny_Constant_int ⟨.int i,H,I.tok _,⟨_,rfl⟩,h⟩
theorem qmi {b j pos}:PE X (.Constant (.bool b) j pos) (tC (.bl b)):=fun _ _ _ H _ I h=>Constant_bool ⟨.bl b,H,I,rfl,h⟩
theorem qjn {j pos}:PE X (.Constant .none j pos) (tC .non):=fun _ _ _ H _ I h=>Constant_none ⟨.non,H,I,rfl,h⟩
theorem qjo {x j pos}:PE X (.Constant (.str x) j pos) (tC (.str x)):=fun _ _ _ H _ I h=>Calls.Constant_str ⟨.str x,H,I.tok _,⟨_,rfl⟩,h⟩
def Gl (X:Cx) (x:Str):Prop:=X.env.kindOf x=some .globalImplicit
theorem JD {E:PQ} {pins:PP} {s:Shared} {σ:St} {H:Hp} {x:Str} {u:Value} {pos:Pos} {Q:PQ} (I:Inv X pins σ H s) (hg:Gl X x) (hm:X.mg x=some u) (h:Q u s)
  (hd:(x == ("__debug__" : Str))=false:=by decide):wpAny (model X.prog X.w) X.A (eval (.Name x pos) X.env) Q E s:=
 Calls.Name_function_global I.ok.kind hg (Calls.loadGlobal_global (by rw [I.ok.glob];exact I.mod.glob.keeps I.bk) hm h) hd
theorem JU {E:PQ} {pins:PP} {s:Shared} {σ:St} {H:Hp} {x:Str} {u:Value} {pos:Pos} {Q:PQ} (I:Inv X pins σ H s) (hg:Gl X x) (hm:X.mg x=none) (hv:bootBuiltins x=some u) (h:Q u s)
  (hn:x≠"__name__":=by decide) (hd:(x == ("__debug__" : Str))=false:=by decide):wpAny (model X.prog X.w) X.A (eval (.Name x pos) X.env) Q E s:=by
 obtain ⟨mb,h1,h2⟩:=I.mod.blt;exact Calls.Name_function_global I.ok.kind hg (Calls.loadGlobal_builtin (by rw [I.ok.glob];exact I.mod.glob.keeps I.bk) hm (by rw [I.ok.blt];exact h1.keeps I.bk) ((h2 x hn).trans hv) h) hd
theorem yP {x:Str} {v:V} {u:Value} {pos:Pos} (hg:Gl X x) (hm:X.mg x=some u) (r:qN v u) (hd:(x == ("__debug__" : Str))=false:=by decide):PE X (.Name x pos) (tC v):=
 fun _ _ _ H _ I h=>JD I hg hm ⟨v,H,I,r,h⟩ hd
theorem Yt {x:Str} {v:V} {u:Value} {pos:Pos} (hg:Gl X x) (hm:X.mg x=none) (hv:bootBuiltins x=some u) (r:qN v u) (hn:x≠"__name__":=by decide) (hd:(x == ("__debug__" : Str))=false:=by decide):PE X (.Name x pos) (tC v):=
 fun _ _ _ H _ I h=>JU I hg hm hv ⟨v,H,I,r,h⟩ hn hd
variable {a b:Expr} {ta tb:TE} {pos:Pos}
def tB (t:TE):TT:=fun σ H Q=>t σ H fun x H1=>∃ c,x=.bl c/\Q c H1
theorem ZI {e:Expr} {t:TE} (h:PE X e t) (he:∀ whole,isTrue e X.env whole=(do let v<-whole;standAt e.pos;holding [v] (truthy v)):=by intro _;rfl):PT X e (tB t):=by intro pins s σ H Q I hw;refine isTrue_plain (thn (h pins s σ H _ I hw) fun v s1 ⟨x,H1,I1,r1,q1⟩=>?_) (he _);obtain ⟨d,rfl,q⟩:=q1;cases r1;exact wpAny_truthy_bool ⟨H1,I1,q⟩
variable {tA tB':TT} {rest:List Expr}
def qnN (t:TT):TT:=fun σ H Q=>t σ H fun c H1=>Q (!c) H1
theorem qhm (ha:PT X a tA):PW X (.BoolOp .And [a] pos) tA:=by
 intro wh pins s σ H Q I h;refine isTrue_and (thn (ha pins s σ H Q I h) fun c s1 e=>?_)
 cases c with
 | true=>exact isTrue_and_nil e
 | false=>exact e
theorem qjp (ha:PT X a tA):PW X (.BoolOp .Or [a] pos) tA:=by
 intro wh pins s σ H Q I h;refine isTrue_or (thn (ha pins s σ H Q I h) fun c s1 e=>?_)
 cases c with
 | false=>exact isTrue_or_nil e
 | true=>exact e
theorem Qp (ha:PT X a tA):PT X (.UnaryOp .Not a pos) (qnN tA):=by intro pins s σ H Q I h;exact isTrue_not (ha pins s σ H (fun c H1=>Q (!c) H1) I h)
noncomputable def qmj (ta tb:TE):TE:=fun σ H Q=>ta σ H fun x H1=>∃ c,x=.bl c/\if c=true then tb σ H1 Q else Q (.bl false) H1
def qmk (ta:TE):TE:=fun σ H Q=>ta σ H fun x H1=>∃ c,x=.bl c/\Q (.bl (!c)) H1
theorem qjq {op} {t:TE} (h:PE X a t):PE X (.BoolOp op [a] pos) t:=fun pins s σ H Q I hw=>BoolOp_one (h pins s σ H Q I hw)
theorem qjr (ha:PE X a ta) (hb:PE X (.BoolOp .And (b::rest) pos) tb):PE X (.BoolOp .And (a::b::rest) pos) (qmj ta tb):=by
 intro pins s σ H Q I h;refine BoolOp_and (thn (ha pins s σ H _ I h) fun v s1 hq1=>?_);obtain ⟨x,H1,I1,r1,q1⟩:=hq1;obtain ⟨c,rfl,q1⟩:=q1;cases r1;refine wpAny_truthy_bool ?_
 cases c with
 | true=>exact hb pins s1 σ H1 Q I1 q1
 | false=>exact ⟨.bl false,H1,I1,rfl,q1⟩
theorem qjs (ha:PE X a ta):PE X (.UnaryOp .Not a pos) (qmk ta):=by intro pins s σ H Q I h;refine UnaryOp_ (thn (ha pins s σ H _ I h) fun v s1 hq1=>?_);obtain ⟨x,H1,I1,r1,q1⟩:=hq1;obtain ⟨c,rfl,q1⟩:=q1;cases r1;exact not_of (wpAny_truthy_bool ⟨.bl (!c),H1,I1,rfl,q1⟩)
def tIf (t:TT) (ta tb:TE):TE:=fun σ H Q=>t σ H fun c H1=>if c=true then ta σ H1 Q else tb σ H1 Q
theorem qe3 {c:Expr} (hc:PT X c tA) (ha:PE X a ta) (hb:PE X b tb):PE X (.IfExp c a b pos) (tIf tA ta tb):=by
 intro pins s σ H Q I h;refine wpAny_IfExp (thn (hc pins s σ H _ I h) fun d s1 hq1=>?_);obtain ⟨H1,I1,q1⟩:=hq1
 cases d with
 | true=>exact ha pins s1 σ H1 Q I1 q1
 | false=>exact hb pins s1 σ H1 Q I1 q1
end
end L2
namespace L2
open PySem PySem.Spec PyProof.Rows
noncomputable def SqL (K:Frag) (H:Hp) (a:Addr) (xs:List V):Prop:=
 Rd H a (.lst xs)\/
  ∃ (o:Obj) (its:Array Value) (n:Nat),K.lookup a=some o/\o.cls=.type "list"/\o.dict=none/\o.data=.seq its n/\its.size<=sizeLine/\qK xs its.toList
noncomputable def SqT (K:Frag) (H:Hp) (a:Addr) (xs:List V):Prop:=
 Rd H a (.tup xs)\/
  ∃ (o:Obj) (its:Array Value) (n:Nat),K.lookup a=some o/\o.cls=.type "tuple"/\o.data=.seq its n/\its.size<=sizeLine/\qK xs its.toList
noncomputable def qnO:Value->Option V
 | .none=>some .non
 | .bool b=>some (.bl b)
 | .int i _=>some (.int i)
 | .str x _=>some (.str x)
 | .bytes b _=>some (.byt b)
 | .float b _=>some (.flt b)
 | .ref a=>some (.ref a)
 | .type n=>some (.ty n)
 | _=>none
theorem qN.abs {x:V} {u:Value} (r:qN x u):qnO u=some x:=by
 cases x with
 | non=>cases r;rfl
 | bl _=>cases r;rfl
 | int _=>obtain ⟨t,rfl⟩:=r;rfl
 | str _=>obtain ⟨t,rfl⟩:=r;rfl
 | byt _=>obtain ⟨t,rfl⟩:=r;rfl
 | flt _=>obtain ⟨t,rfl⟩:=r;rfl
 | ref _=>cases r;rfl
 | ty _=>cases r;rfl
theorem qN.inj {x y:V} {u:Value} (r:qN x u) (q:qN y u):x=y:=Option.some.inj (r.abs.symm.trans q.abs)
theorem qK.inj:∀ {xs ys:List V} {us:List Value},qK xs us->qK ys us->xs=ys
 | _,_,_,.nil,.nil=>rfl
 | _,_,_,.cons r t,.cons r' t'=>by rw [r.inj r',qK.inj t t']
section
variable {X:Cx} {pins:PP} {σ:St} {H:Hp} {s:Shared} {a:Addr} {xs ys:List V}
theorem SqL.of {K:Frag} (h:H a=some (.lst xs)):SqL K H a xs:=.inl (.inl h)
theorem SqT.of {K:Frag} (h:H a=some (.tup xs)):SqT K H a xs:=.inl (.inl h)
theorem Inv.list (I:Inv X pins σ H s) (h:SqL X.K H a xs):∃ its:List Value,qK xs its/\PlainL s.heap a its.toArray/\xs.length<=sizeLine:=by
 rcases h with h | ⟨o,its,n,hk,hc,hd,hs,hz,r⟩
 ·obtain ⟨z,its,n,r,e⟩:=h.ok I.hok;exact ⟨its,r,⟨_,n,e,rfl,rfl,rfl⟩,z⟩
 ·refine ⟨its.toList,r,⟨o,n,I.kIn a o hk,hc,hd,by simpa using hs⟩,?_⟩;have e:=r.length;simp only [Array.length_toList] at e;omega
theorem Inv.tuple (I:Inv X pins σ H s) (h:SqT X.K H a xs):∃ its:List Value,qK xs its/\IsTup s.heap a its.toArray/\xs.length<=sizeLine:=by
 rcases h with h | ⟨o,its,n,hk,hc,hs,hz,r⟩
 ·obtain ⟨z,its,r,p⟩:=h.ok I.hok;exact ⟨its,r,p,z⟩
 ·refine ⟨its.toList,r,⟨o,I.kIn a o hk,hc,n,by simpa using hs⟩,?_⟩;have e:=r.length;simp only [Array.length_toList] at e;omega
theorem Inv.list_inj (I:Inv X pins σ H s) (h:SqL X.K H a xs) (h':SqL X.K H a ys):xs=ys:=by
 obtain ⟨its,r,⟨o,n,e,_,_,d⟩,_⟩:=I.list h;obtain ⟨its',r',⟨o',n',e',_,_,d'⟩,_⟩:=I.list h';rw [e] at e';cases e';rw [d] at d';injection d' with d1 _
 have:its=its':=by simpa using congrArg Array.toList d1
 subst this;exact r.inj r'
theorem Inv.tuple_inj (I:Inv X pins σ H s) (h:SqT X.K H a xs) (h':SqT X.K H a ys):xs=ys:=by
 obtain ⟨its,r,⟨o,e,_,n,d⟩,_⟩:=I.tuple h;obtain ⟨its',r',⟨o',e',_,n',d'⟩,_⟩:=I.tuple h';rw [e] at e';cases e';rw [d] at d';injection d' with d1 _
 have:its=its':=by simpa using congrArg Array.toList d1
 subst this;exact r.inj r'
end
abbrev Cx.wish (X:Cx) (E:PQ):Cx:={ X with xe:=E }
abbrev Cx.nox (X:Cx):Cx:=X.wish fun _ _=>False
theorem Cx.Ok.wish {X:Cx} (ok:X.Ok) (E:PQ):(X.wish E).Ok:=
 ⟨ok.mod,ok.kind,ok.glob,ok.blt,ok.above,ok.inj,ok.has,ok.cab,ok.hd,ok.frames,ok.stk,ok.exf,ok.bs,ok.bsz,ok.noex,ok.exfs,ok.funs,ok.frf⟩
theorem Cx.Ok.unwish {X:Cx} {E:PQ} (ok:(X.wish E).Ok):X.Ok:=
 ⟨ok.mod,ok.kind,ok.glob,ok.blt,ok.above,ok.inj,ok.has,ok.cab,ok.hd,ok.frames,ok.stk,ok.exf,ok.bs,ok.bsz,ok.noex,ok.exfs,ok.funs,ok.frf⟩
section
variable {X:Cx} {pins:PP} {σ:St} {H:Hp} {s:Shared} {E:PQ}
theorem Inv.wish (I:Inv X pins σ H s) (E:PQ):Inv (X.wish E) pins σ H s:=⟨I.ok.wish E,I.os,I.bare,I.base,I.loc,I.cell,I.free,I.freeC,I.pin,I.hok,I.len⟩
theorem Inv.unwish (I:Inv (X.wish E) pins σ H s):Inv X pins σ H s:=⟨I.ok.unwish,I.os,I.bare,I.base,I.loc,I.cell,I.free,I.freeC,I.pin,I.hok,I.len⟩
theorem SP.unwish {D:Ends} {f:Flow} {s':Shared} (h:SP (X.wish E) pins D f s'):SP X pins D f s':=by
 cases f with
 | next=>obtain ⟨σ',H',I,q⟩:=h;exact ⟨σ',H',I.unwish,q⟩
 | brk=>obtain ⟨σ',H',I,q⟩:=h;exact ⟨σ',H',I.unwish,q⟩
 | cont=>obtain ⟨σ',H',I,q⟩:=h;exact ⟨σ',H',I.unwish,q⟩
 | ret u=>obtain ⟨v,σ',H',I,r,q⟩:=h;exact ⟨v,σ',H',I.unwish,r,q⟩
theorem PSs.nox {st:List Stmt} {t:TS} (h:PSs X.nox st t):PSs X st t:=fun pins s σ H D I hw=>wpAny_mono (h pins s σ H D (I.wish _) hw) (fun _ _ q=>q.unwish) fun _ _ z=>False.elim z
end
section
variable {X:Cx} {st:Stmt} {rest:List Stmt} {t u:TS} {e:Expr} {te:TE} {pos:Pos}
def qjt:TS:=fun D σ H=>D.nx σ H
def qnP (t u:TS):TS:=fun D σ H=>t { D with nx:=u D } σ H
theorem JE:PSs X [] qjt:=fun _ _ σ H _ I h=>wpAny_execs_nil ⟨σ,H,I,h⟩
theorem qX (h1:PS X st t) (h2:PSs X rest u):PSs X (st::rest) (qnP t u):=by
 intro pins s σ H D I h;refine wpAny_execs_cons (thn (h1 pins s σ H { D with nx:=u D } I h) fun f s1 q=>?_)
 cases f with
 | next=>obtain ⟨σ',H',I',q⟩:=q;exact h2 pins s1 σ' H' D I' q
 | ret v=>exact q
 | brk=>exact q
 | cont=>exact q
theorem jb (h1:PS X st t):PSs X [st] t:=by
 intro pins s σ H D I h;refine wpAny_execs_cons (thn (h1 pins s σ H D I h) fun f s1 q=>?_)
 cases f with
 | next=>exact wpAny_execs_nil q
 | ret v=>exact q
 | brk=>exact q
 | cont=>exact q
theorem qhn:PS X (.Pass pos) qjt:=fun _ _ σ H _ I h=>wpAny_Pass ⟨σ,H,I,h⟩
theorem Inv.quiet {pins:PP} {σ:St} {H:Hp} {s:Shared} (I:Inv X pins σ H s):interactive X.env=false:=by simp [interactive,I.ok.kind]
def qml (te:TE):TS:=fun D σ H=>te σ H fun _ H1=>D.nx σ H1
theorem yQ (he:PE X e te) (hs:swapsWith e none pos.line X.env=pure false:=by rfl):PS X (.Expr e pos) (qml te):=by intro pins s σ H D I h;exact wpAny_Expr_any (thn (he pins s σ H _ I h) fun v s1 ⟨x,H1,I1,r1,q1⟩=>⟨σ,H1,I1,q1⟩) I.quiet hs
def qnQ (te:TE):TS:=fun D σ H=>te σ H D.rt
theorem qda (he:PE X e te):PS X (.Return (some e) pos) (qnQ te):=by intro pins s σ H D I h;exact wpAny_Return_some (thn (he pins s σ H _ I h) fun v s1 ⟨x,H1,I1,r1,q1⟩=>⟨x,σ,H1,I1,r1,q1⟩)
def qmm:TS:=fun D _ H=>D.rt .non H
theorem qho:PS X (.Return none pos) qmm:=fun _ _ σ H _ I h=>wpAny_Return_none ⟨.non,σ,H,I,rfl,h⟩
def qnR (c:TT) (t u:TS):TS:=fun D σ H=>c σ H fun b H1=>if b=true then t D σ H1 else u D σ H1
theorem qck {c:Expr} {a b:List Stmt} {tc:TT} (hc:PT X c tc) (ha:PSs X a t) (hb:PSs X b u):PS X (.If c a b pos) (qnR tc t u):=by
 intro pins s σ H D I h;refine wpAny_If (thn (hc pins s σ H _ I h) fun d s1 hq1=>?_);obtain ⟨H1,I1,q1⟩:=hq1
 cases d with
 | true=>exact ha pins s1 σ H1 D I1 q1
 | false=>exact hb pins s1 σ H1 D I1 q1
def qju:TS:=fun _ _ _=>False
theorem Jb:PS X st qju:=fun _ _ _ _ _ _ h=>h.elim
end
abbrev TG:=V->St->Hp->(St->Hp->Prop)->Prop
abbrev TGs:=List V->St->Hp->(St->Hp->Prop)->Prop
noncomputable def PG (X:Cx) (target:Expr) (t:TG):Prop:=
 ∀ (pins:PP) (s:Shared) (σ:St) (H:Hp) (v:V) (u:Value) (Q:St->Hp->Prop),Inv X pins σ H s->qN v u->t v σ H Q->
  wpAny (model X.prog X.w) X.A (assign target X.env u) (fun _ s'=>∃ σ' H',Inv X pins σ' H' s'/\Q σ' H') X.xe s
noncomputable def PGs (X:Cx) (ts:List Expr) (t:TGs):Prop:=
 ∀ (pins:PP) (s:Shared) (σ:St) (H:Hp) (vs:List V) (us:List Value) (Q:St->Hp->Prop),Inv X pins σ H s->qK vs us->t vs σ H Q->
  wpAny (model X.prog X.w) X.A (assignInOrder ((assignEach ts X.env).map (·.2)) us) (fun _ s'=>∃ σ' H',Inv X pins σ' H' s'/\Q σ' H') X.xe s
abbrev qmn:=V->V->V->Hp->(Hp->Prop)->Prop
noncomputable def qnn (X:Cx) (t:qmn):Prop:=
 ∀ (pins:PP) (s:Shared) (σ:St) (H:Hp) (o i v:V) (ov iv u:Value) (Q:Hp->Prop),Inv X pins σ H s->qN o ov->qN i iv->qN v u->t o i v H Q->
  wpAny (model X.prog X.w) X.A (setItem ov iv u) (fun _ s'=>∃ H',Inv X pins σ H' s'/\Q H') X.xe s
section
variable {X:Cx} {pos:Pos}
def qe4 (i:Nat):TG:=fun v σ H Q=>Q (σ.set i (some v)) H
theorem qhp {i:Nat} {x:Str} (hN:X.N.Nodup) (hi:X.N[i]?=some x) (hx:Loc X.env.scope x) (hf:X.fn x=true\/X.env.scope.names.lookup x=some .local:=by first | exact .inl rfl | exact .inr rfl | assumption):PG X (.Name x pos) (qe4 i):=by intro pins s σ H v u Q I r h;exact wpAny_assign_Name (qbx I hN hi hx r (fun s' I'=>⟨_,H,I',h⟩) hf)
def qnS:TGs:=fun vs σ H Q=>vs=[]/\Q σ H
def qmo (t:TG) (u:TGs):TGs:=fun vs σ H Q=>∃ v r,vs=v::r/\t v σ H fun σ' H'=>u r σ' H' Q
theorem qhq:PGs X [] qnS:=by intro pins s σ H vs us Q I r h;obtain ⟨e,h⟩:=h;subst e;cases r;exact assignInOrder_nil ⟨σ,H,I,h⟩
theorem qe5 {e:Expr} {es:List Expr} {t:TG} {u:TGs} (h1:PG X e t) (h2:PGs X es u)
  (hs:(assignEach (e::es) X.env).map (·.2)=assign e X.env::(assignEach es X.env).map (·.2):=by rfl):PGs X (e::es) (qmo t u):=by
 intro pins s σ H vs us Q I r h;obtain ⟨v,vr,e1,h⟩:=h;subst e1
 cases r with
 | cons r rr=>rw [hs];refine assignInOrder_cons (thn (h1 pins s σ H _ _ _ I r h) fun _ s1 hq1=>?_);obtain ⟨σ1,H1,I1,q1⟩:=hq1;exact h2 pins s1 σ1 H1 _ _ Q I1 rr q1
noncomputable def qnT (K:Frag) (n:Nat) (t:TGs):TG:=fun v σ H Q=>∃ a xs,v=.ref a/\SqT K H a xs/\xs.length=n/\t xs σ H Q
theorem qjv {es:List Expr} {k:Nat} {t:TGs} {n:Nat} (hc:X.calm=true) (h:PGs X es t)
  (hn:(assignEach es X.env).length=n:=by rfl) (hst:(assignEach es X.env).findIdx? (·.1)=none:=by rfl):PG X (.Tuple es k pos) (qnT X.K n t):=by
 intro pins s σ H v u Q I r hw;obtain ⟨a,xs,e1,hq,hl,hw⟩:=hw;subst e1;cases r;obtain ⟨its,rv,ht,hz⟩:=I.tuple hq;refine assign_Tuple_tuple (I.ok.hd hc) ht (by simp [hn,<-hl,rv.length]) hst fun h' hx=>?_;have I1:Inv X pins σ H { s with heap:=h' }:=I.kept (t':=s.toks) fun b o e=>hx b o (Nat.ne_of_lt (Heap.lt_size e)) e;exact h pins _ σ H xs _ Q I1 (by simpa using rv) hw
noncomputable def qnU (to ti:TE) (t:qmn):TG:=fun v σ H Q=>to σ H fun o H1=>ti σ H1 fun i H2=>t o i v H2 fun H3=>Q σ H3
theorem qjw {o i:Expr} {to ti:TE} {t:qmn} (ho:PE X o to) (hi:PE X i ti) (hs:qnn X t)
  (ha:∀ v,assign (.Subscript o i pos) X.env v=(do
   let ov<-holding [v] (eval o X.env)
   let iv<-holding [v,ov] (eval i X.env)
   standAt pos
   holding [v,ov,iv] (setItem ov iv v)
   release [v,ov,iv] []):=by intro _;rfl):PG X (.Subscript o i pos) (qnU to ti t):=by
 intro pins s σ H v u Q I r h;rw [ha];refine wpAny_bind (wpAny_holding (thn (ho pins s σ H _ I h) fun ov s1 hq1=>?_));obtain ⟨x,H1,I1,r1,q1⟩:=hq1;refine wpAny_bind (wpAny_holding (thn (hi pins s1 σ H1 _ I1 q1) fun iv s2 hq1=>?_));obtain ⟨y,H2,I2,r2,q2⟩:=hq1;refine wpAny_bind (wpAny_standAt (wpAny_bind (wpAny_holding (thn (hs pins s2 σ H2 x y v ov iv u _ I2 r1 r2 r q2) fun _ s3 hq1=>?_))));obtain ⟨H3,I3,q3⟩:=hq1;exact wpAny_release ⟨σ,H3,I3,q3⟩
def qmp (te:TE) (g:TG):TS:=fun D σ H=>te σ H fun x H1=>g x σ H1 D.nx
theorem qgv {tg e:Expr} {te:TE} {g:TG} (he:PE X e te) (hg:PG X tg g) (hs:swapsWithSole [tg] e pos.line X.env=pure false:=by rfl) (hw:swappedStores [tg] e X.env=pure none:=by rfl)
  (h1:(assignEach [tg] X.env).map (·.2)=[assign tg X.env]:=by rfl):PS X (.Assign [tg] e pos) (qmp te g):=by
 intro pins s σ H D I h;refine wpAny_Assign_stores (thn (he pins s σ H _ I h) fun v s1 ⟨x,H1,I1,r1,q1⟩=>?_) hs hw;rw [h1];exact thn (hg pins s1 σ H1 x v _ I1 r1 q1) fun _ s2 q=>q
theorem qgw {i:Nat} {x:Str} {e:Expr} {te:TE} {pos':Pos} (hN:X.N.Nodup) (hi:X.N[i]?=some x) (hx:Loc X.env.scope x) (he:PE X e te) (hs:swapsWith e (some (.Name x pos')) pos.line X.env=pure false:=by rfl) (hf:X.fn x=true\/X.env.scope.names.lookup x=some .local:=by first | exact .inl rfl | exact .inr rfl | assumption) :
  PS X (.Assign [.Name x pos'] e pos) (qmp te (qe4 i)):=by
 intro pins s σ H D I h;refine wpAny_Assign_Name (thn (he pins s σ H _ I h) fun v s1 ⟨y,H1,I1,r1,q1⟩=>?_) hs;exact qbx I1 hN hi hx r1 (fun s2 I2=>⟨_,H1,I2,q1⟩) hf
end
section
variable {X:Cx} {pos:Pos}
noncomputable def qjx (c:TT) (tb:TS):TS:=fun D σ H=>∃ W:Nat->St->Hp->Prop,(∃ m,W m σ H)/\∀ m σ H,W m σ H->
 c σ H fun b H1=>if b=true then ∃ N:St->Hp->Prop,(∀ σ' H',N σ' H'->∃ m',m' < m/\W m' σ' H')/\tb { D with nx:=N,ct:=N,bk:=D.nx } σ H1 else D.nx σ H1
theorem qe6 {c:Expr} {body:List Stmt} {tc:TT} {tb:TS} (hp:PassesOwn (model X.prog X.w) X.A X.env X.xe) (hc:PT X c tc) (hb:PSs X body tb):PS X (.While c body [] pos) (qjx tc tb):=by
 intro pins s σ H D I h;obtain ⟨W,⟨m0,w0⟩,turn⟩:=h;refine wpAny_While (codeAny_whileLoop (fun n s'=>∃ σ' H',Inv X pins σ' H' s'/\W n σ' H') ?_ m0 ⟨σ,H,I,w0⟩);rintro n s1 ⟨σ1,H1,I1,w1⟩;refine wpAny_passesOwn hp (thn (hc pins s1 σ1 H1 _ I1 (turn n σ1 H1 w1)) fun b s2 hq1=>?_);obtain ⟨H2,I2,q2⟩:=hq1
 cases b with
 | true=>
  obtain ⟨N,hN,q2⟩:=q2;rw [if_pos rfl];refine wpAny_passesOwn hp (thn (hb pins s2 σ1 H2 _ I2 q2) fun f s3 q3=>?_)
  cases f with
  | next=>obtain ⟨σ3,H3,I3,n3⟩:=q3;obtain ⟨m',hm,w3⟩:=hN σ3 H3 n3;exact ⟨m',hm,σ3,H3,I3,w3⟩
  | cont=>obtain ⟨σ3,H3,I3,n3⟩:=q3;obtain ⟨m',hm,w3⟩:=hN σ3 H3 n3;exact ⟨m',hm,σ3,H3,I3,w3⟩
  | brk=>exact q3
  | ret v=>exact q3
 | false=>rw [if_neg Bool.false_ne_true];exact wpAny_execs_nil ⟨σ1,H2,I2,q2⟩
end
structure It where
 go:Nat->Hp->Prop
 yld:Nat->Hp->V->Hp->Prop
 stop:Nat->Hp->Prop
noncomputable def qcl (X:Cx) (pins:PP) (H:Hp) (b:Addr):Prop:=
 H b=none/\b≠X.env.locals/\b∉X.fs/\(b∈X.ex\/X.s₀.heap.objs.size<=b)/\(∀ x c,X.env.cells.lookup x=some c->c≠b)/\∀ p∈X.pn++pins,p.1≠b
theorem Inv.fpOk {X:Cx} {pins:PP} {σ:St} {H H':Hp} {s:Shared} {b:Addr} (I:Inv X pins σ H s) (hb:s.heap.objs.size<=b) (hn:H' b=none):qcl X pins H' b:=by
 refine ⟨hn,Nat.ne_of_gt (Nat.lt_of_lt_of_le I.lt hb),I.nofs hb,.inr (Nat.le_trans I.sz hb),fun x c e z=>?_,fun p hp z=>?_⟩
 ·obtain ⟨v,q⟩:=I.cell x c e;exact absurd (Nat.lt_of_lt_of_le q.lt (by rw [z];exact hb)) (Nat.lt_irrefl _)
 ·exact absurd (Nat.lt_of_lt_of_le (Heap.lt_size (I.pin p hp).1) (by rw [z];exact hb)) (Nat.lt_irrefl _)
structure Turn (P:Program) (w:World) (K:Frag) (tg:Expr) (J:It) (fp:List Addr) (it:Addr) (tn:Nat->Heap->Prop):Prop where
 mem:it∈fp
 obj:∀ i h,tn i h->∀ b∈fp,∃ o,h.get? b=some o/\∀ v,o.data≠.cell v
 keep:∀ i h h',tn i h->(∀ b∈fp,∀ o,h.get? b=some o->h'.get? b=some o)->tn i h'
 item:∀ (X:Cx),X.prog=P->X.w=w->X.K=K->X.calm=true->∀ (i:Nat) (pins:PP) (s:Shared) (σ:St) (H:Hp) (E:PQ),Inv X pins σ H s->(∀ b∈fp,qcl X pins H b)->tn i s.heap->J.go i H->
  wpAny (model P w) X.A (pyNext (.ref it)) (fun r s1=>∃ u,r=some u/\
   wpAny (model P w) X.A (letOwnedTupleGo tg (.ref it) u) (fun _ s2=>∃ x H',Inv X pins σ H' s2/\qN x u/\J.yld i H x H'/\tn (i+1) s2.heap/\∀ b∈fp,H' b=none) E s1) E s
 done:∀ (X:Cx),X.prog=P->X.w=w->X.K=K->X.calm=true->∀ (i:Nat) (pins:PP) (s:Shared) (σ:St) (H:Hp) (E:PQ),Inv X pins σ H s->(∀ b∈fp,qcl X pins H b)->tn i s.heap->J.stop i H->
  wpAny (model P w) X.A (pyNext (.ref it)) (fun r s1=>r=none/\Inv X pins σ H s1) E s
 self:∀ (A:Around) (i:Nat) (s:Shared) (Q:PQ) (E:PQ),tn i s.heap->Q (.ref it) s->wpAny (model P w) A (pyIter (.ref it)) Q E s
abbrev TI:=St->Hp->(It->Hp->Prop)->Prop
noncomputable def PIE (X:Cx) (pins:PP) (σ:St) (tg:Expr) (R:It->Hp->Prop) (itv:Value) (s2:Shared):Prop:=
 ∃ (it:Addr) (fp:List Addr) (tn:Nat->Heap->Prop) (J:It) (H':Hp),itv=.ref it/\Inv X pins σ H' s2/\Turn X.prog X.w X.K tg J fp it tn/\tn 0 s2.heap/\(∀ b∈fp,qcl X pins H' b)/\R J H'
noncomputable def PI (X:Cx) (tg iter:Expr) (wi:TI):Prop:=
 ∀ (pins:PP) (s:Shared) (σ:St) (H:Hp) (R:It->Hp->Prop),Inv X pins σ H s->wi σ H R->
  wpAny (model X.prog X.w) X.A (eval iter X.env) (fun v s1=>wpAny (model X.prog X.w) X.A (pyIter v) (PIE X pins σ tg R) X.xe s1) X.xe s
theorem qdb {M:Model} {A:Around} {E:PQ} {s:Shared} {tg:Expr} {it:Addr} {u:Value} {o:Obj} {n:String} {vs:Array Value} {Q:Unit->Shared->Prop} (ho:s.heap.get? it=some o) (hc:o.cls=.type n) (hd:o.data=.fields vs)
  (hn:["enumerate","zip","dict_itemiterator","dict_reverseitemiterator","odict_iterator","itertools.zip_longest","itertools.pairwise"].contains n=false) (hQ:Q () s):wpAny M A (letOwnedTupleGo tg (.ref it) u) Q E s:=by
 unfold letOwnedTupleGo
 cases tg<;>first
  | exact wpAny_pure hQ
  | (cases u<;>first
    | exact wpAny_pure hQ
    | (refine wpAny_bind (wpAny_load ho ?_)
       rw [hc,hd];show wpAny M A (if (["enumerate","zip","dict_itemiterator","dict_reverseitemiterator","odict_iterator","itertools.zip_longest","itertools.pairwise"].contains n&&vs[0]? == some (rawInt _))=true then _ else _) Q E s;rw [if_neg (by intro h;rw [hn,Bool.false_and] at h;cases h)];exact wpAny_pure hQ))
noncomputable def Itl (K:Frag) (a:Addr):It:=
 ⟨fun i H=>∃ xs x,SqL K H a xs/\xs[i]?=some x,fun i H x H'=>H'=H/\∀ xs,SqL K H a xs->xs[i]?=some x,fun i H=>∃ xs,SqL K H a xs/\xs.length<=i⟩
noncomputable def Itt (K:Frag) (a:Addr):It:=
 ⟨fun i H=>∃ xs x,SqT K H a xs/\xs[i]?=some x,fun i H x H'=>H'=H/\∀ xs,SqT K H a xs->xs[i]?=some x,fun i H=>∃ xs,SqT K H a xs/\xs.length<=i⟩
def Itr (lo:Int) (n:Nat):It:=⟨fun i _=>i < n,fun i H x H'=>H'=H/\x=.int (lo+i),fun i _=>n<=i⟩
theorem qdc {P:Program} {w:World} {K:Frag} {tg:Expr} (a it:Addr):Turn P w K tg (Itl K a) [it] it (fun i h=>h.IsListIter it a i) where
 mem:=by simp
 obj:=fun i h st b hb=>by
  have e:b=it:=by simpa using hb
  subst e;obtain ⟨o,e,c,d⟩:=st;exact ⟨o,e,fun v z=>by rw [d] at z;cases z⟩
 keep:=fun i h h' st k=>st.at fun o e=>k it (by simp) o e
 item:=by intro X hP hw hK hc i pins s σ H E I hf st hg;subst hP hw hK;obtain ⟨xs,x,hq,hx⟩:=hg;obtain ⟨its,rv,p,hz⟩:=I.list hq;obtain ⟨u,hu,ru⟩:=rv.get hx;obtain ⟨f0,f1,f2,f3,f4,f5⟩:=hf it (by simp);refine wpAny_pyNext_list_item st p.isList (x:=u) (by simpa using hu) fun h' st' sb=>?_;have I1:Inv X pins σ H { s with heap:=h' }:=I.turned (t':=s.toks) (fun b o hb e=>(sb.2 b hb).trans e) f0 f1 f3 f4 f5;obtain ⟨o,e,c,d⟩:=id st';exact ⟨u,rfl,qdb (s:={ s with heap:=h' }) e c d (2:) ⟨x,H,I1,ru,⟨rfl,fun ys hy=>by rw [I.list_inj hy hq];exact hx⟩,st',fun b hb=>(hf b hb).1⟩⟩
 done:=by intro X hP hw hK hc i pins s σ H E I hf st hg;subst hP hw hK;obtain ⟨xs,hq,hx⟩:=hg;obtain ⟨its,rv,p,hz⟩:=I.list hq;obtain ⟨f0,f1,f2,f3,f4,f5⟩:=hf it (by simp);have hl:=rv.length;exact wpAny_pyNext_list_end (I.ok.hd hc) st p.isList (by simp;omega) fun h' eb=>⟨rfl,I.turned (t':=s.toks) (fun b o hb e=>eb b o hb e) f0 f1 f3 f4 f5⟩
 self:=fun _ _ _ _ _ st h=>wpAny_pyIter_listiter st h
theorem qcm {P:Program} {w:World} {K:Frag} {tg:Expr} (a it:Addr):Turn P w K tg (Itt K a) [it] it (fun i h=>h.IsTupleIter it a i) where
 mem:=by simp
 obj:=fun i h st b hb=>by
  have e:b=it:=by simpa using hb
  subst e;obtain ⟨o,e,c,d⟩:=st;exact ⟨o,e,fun v z=>by rw [d] at z;cases z⟩
 keep:=fun i h h' st k=>st.at fun o e=>k it (by simp) o e
 item:=by intro X hP hw hK hc i pins s σ H E I hf st hg;subst hP hw hK;obtain ⟨xs,x,hq,hx⟩:=hg;obtain ⟨its,rv,p,hz⟩:=I.tuple hq;obtain ⟨u,hu,ru⟩:=rv.get hx;obtain ⟨f0,f1,f2,f3,f4,f5⟩:=hf it (by simp);refine wpAny_pyNext_tuple_item st (show s.heap.IsTuple a its.toArray from p) (x:=u) (by simpa using hu) fun h' st' sb=>?_;have I1:Inv X pins σ H { s with heap:=h' }:=I.turned (t':=s.toks) (fun b o hb e=>(sb.2 b hb).trans e) f0 f1 f3 f4 f5;obtain ⟨o,e,c,d⟩:=id st';exact ⟨u,rfl,qdb (s:={ s with heap:=h' }) e c d (2:) ⟨x,H,I1,ru,⟨rfl,fun ys hy=>by rw [I.tuple_inj hy hq];exact hx⟩,st',fun b hb=>(hf b hb).1⟩⟩
 done:=by intro X hP hw hK hc i pins s σ H E I hf st hg;subst hP hw hK;obtain ⟨xs,hq,hx⟩:=hg;obtain ⟨its,rv,p,hz⟩:=I.tuple hq;obtain ⟨f0,f1,f2,f3,f4,f5⟩:=hf it (by simp);have hl:=rv.length;exact wpAny_pyNext_tuple_end (I.ok.hd hc) st (show s.heap.IsTuple a its.toArray from p) (by simp;omega) fun h' eb=>⟨rfl,I.turned (t':=s.toks) (fun b o hb e=>eb b o hb e) f0 f1 f3 f4 f5⟩
 self:=fun _ _ _ _ _ st h=>wpAny_pyIter_tupleiter st h
theorem qcn {P:Program} {w:World} {K:Frag} {tg:Expr} (it:Addr) (lo:Int) (n:Nat):Turn P w K tg (Itr lo n) [it] it (fun i h=>IsRangeIter h it (lo+(i:Nat) * 1) ((n:Int) - (i:Nat)) 1) where
 mem:=by simp
 obj:=fun i h st b hb=>by
  have e:b=it:=by simpa using hb
  subst e
  exact ⟨_,st,fun v z=>by have z':Data.fields _=Data.cell v:=z;cases z'⟩
 keep:=fun i h h' st k=>k it (by simp) _ st
 item:=by intro X hP hw hK hc i pins s σ H E I hf st hg;subst hP hw hK;obtain ⟨f0,f1,f2,f3,f4,f5⟩:=hf it (by simp);have W:=Walks.range (prog:=X.prog) (w:=X.w) (I.ok.hd hc) it lo 1 n;refine W.item i s _ _ hg st fun v h' tk hv st' kk=>?_;obtain ⟨t,rfl⟩:=hv;have I1:Inv X pins σ H { s with heap:=h',toks:=tk }:=I.turned (fun b o hb e=>kk b o (by simpa using hb) e) f0 f1 f3 f4 f5;refine ⟨_,rfl,qdb (s:={ s with heap:=h',toks:=tk }) (n:="range_iterator") st' rfl rfl (2:) ⟨.int (lo+i),H,I1,⟨t,?_⟩,⟨rfl,rfl⟩,st',fun b hb=>(hf b hb).1⟩⟩;rw [Int.mul_one]
 done:=by intro X hP hw hK hc i pins s σ H E I hf st hg;subst hP hw hK;obtain ⟨f0,f1,f2,f3,f4,f5⟩:=hf it (by simp);exact wpAny_pyNext_range_end (I.ok.hd hc) st (by have:n<=i:=hg;omega) fun h' eb=>⟨rfl,I.turned (t':=s.toks) (fun b o hb e=>eb b o hb e) f0 f1 f3 f4 f5⟩
 self:=fun _ _ _ _ _ st h=>wpAny_pyIter_rangeiter st h
end L2
namespace L2
open PySem PySem.Spec PyProof.Rows
section
variable {X:Cx} {tg:Expr}
theorem qby {pins:PP} {σ:St} {H:Hp} {s:Shared} {R:It->Hp->Prop} {E:PQ} {lo hi:Int} {t u v:Tok} {tk:Nat} (I:Inv X pins σ H s) (h1:-(2 ^ 62)<=lo) (h2:lo < 2 ^ 62) (h3:-(2 ^ 62)<=hi) (h4:hi < 2 ^ 62)
  (q:R (Itr lo (hi - lo).toNat) H):wpAny (model X.prog X.w) X.A (pyIter (.ref s.heap.objs.size)) (PIE X pins σ tg R) E { s with heap:=s.heap.push { cls:=.type "range",data:=.fields #[.int lo t,.int hi u,.int 1 v] },toks:=tk }:=by
 refine wpAny_pyIter_range (IsRange.new ..) (small_one h1 h2 h3 h4) ?_;have I1:Inv X pins σ H { s with heap:=s.heap.push { cls:=.type "range",data:=.fields #[.int lo t,.int hi u,.int 1 v] },toks:=tk }:=I.kept fun b o e=>Heap.get?_push_of_some _ e
 refine ⟨(s.heap.push { cls:=.type "range",data:=.fields #[.int lo t,.int hi u,.int 1 v] }).objs.size,[(s.heap.push { cls:=.type "range",data:=.fields #[.int lo t,.int hi u,.int 1 v] }).objs.size],_,_,H,rfl,
  I1.kept (t':=tk) fun b o e=>Heap.get?_push_of_some _ e,qcn _ lo (hi - lo).toNat,?_,fun b hb=>?_,q⟩
 ·have e1:lo+((0:Nat):Int) * 1=lo:=by simp
  have e2:(((hi - lo).toNat:Nat):Int) - ((0:Nat):Int)=Builtin.Range.rangeSize lo hi 1:=by rw [rangeSize_one];split<;>omega
  show IsRangeIter _ _ (lo+((0:Nat):Int) * 1) ((((hi - lo).toNat:Nat):Int) - ((0:Nat):Int)) 1;rw [e1,e2];exact Heap.get?_push_size _ rfl
 ·have e:b=(s.heap.push { cls:=.type "range",data:=.fields #[.int lo t,.int hi u,.int 1 v] }).objs.size:=by simpa using hb
  subst e;exact I1.fpOk (Nat.le_refl _) (I1.hok.fresh (Nat.le_refl _))
noncomputable def qmq (ta:TA):TI:=fun σ H R=>ta σ H fun vs H1=>∃ j:Int,vs=[.int j]/\-(2 ^ 62)<=j/\j < 2 ^ 62/\R (Itr 0 j.toNat) H1
noncomputable def qmr (ta:TA):TI:=fun σ H R=>ta σ H fun vs H1=>∃ i j:Int,vs=[.int i,.int j]/\(-(2 ^ 62)<=i/\i < 2 ^ 62/\-(2 ^ 62)<=j/\j < 2 ^ 62)/\R (Itr i (j - i).toNat) H1
theorem qdd {a:Expr} {ta:TA} {p pos:Pos} (hg:Gl X "range") (hm:X.mg "range" = none) (ha:PA X [a] ta) (hs:starEach [a] X.env=[(false,eval a X.env)]:=by rfl):PI X tg (.Call (.Name "range" p) [a] [] pos) (qmq ta):=by
 intro pins s σ H R I h;refine Call_ (JU I hg hm boot_range (PyProof.Rows.callWith_type1 (thn (ha pos pins s σ H _ I h) fun us s1 ⟨vs,H1,I1,r1,q1⟩=>?_) hs rfl));obtain ⟨j,e,q1,q2,q⟩:=q1;subst e
 cases r1 with
 | cons r rr=>cases rr;obtain ⟨t,rfl⟩:=r;exact call_range_1 (qby I1 (1:) (1:) q1 q2 (by simpa using q))
theorem qde {a b:Expr} {ta:TA} {p pos:Pos} (hg:Gl X "range") (hm:X.mg "range" = none) (ha:PA X [a,b] ta) (hs:starEach [a,b] X.env=[(false,eval a X.env),(false,eval b X.env)]:=by rfl) (hs2:starEach [b] X.env=[(false,eval b X.env)]:=by rfl) :
  PI X tg (.Call (.Name "range" p) [a,b] [] pos) (qmr ta):=by
 intro pins s σ H R I h;refine Call_ (JU I hg hm boot_range (PyProof.Rows.callWith_type1 (thn (ha pos pins s σ H _ I h) fun us s1 ⟨vs,H1,I1,r1,q1⟩=>?_) (by rw [hs,hs2]) (by rw [hs2];rfl)));obtain ⟨i,j,e,⟨q1,q2,q3,q4⟩,q⟩:=q1;subst e
 cases r1 with
 | cons r rr=>
  cases rr with
  | cons r' rr=>cases rr;obtain ⟨t,rfl⟩:=r;obtain ⟨t',rfl⟩:=r';exact call_range_2 (qby I1 q1 q2 q3 q4 q)
noncomputable def qnV (wi:TI) (g:TG) (tb:TS):TS:=fun D σ H=>wi σ H fun J H1=>∃ W:Nat->Nat->St->Hp->Prop,(∃ m,W 0 m σ H1)/\∀ i m σ H,W i m σ H->
 (J.stop i H/\D.nx σ H)\/(J.go i H/\∃ N:St->Hp->Prop,(∀ σ' H',N σ' H'->∃ m',m' < m/\W (i+1) m' σ' H')/\∀ x H',J.yld i H x H'->g x σ H' fun σ2 H2=>tb { D with nx:=N,ct:=N,bk:=D.nx } σ2 H2)
def ZJ (fp:List Addr) (h:Heap):List (Addr×Obj):=fp.filterMap fun b=>(h.get? b).map fun o=>(b,o)
theorem yy {fp:List Addr} {h:Heap} {b:Addr} {o:Obj} (hb:b∈fp) (e:h.get? b=some o):(b,o)∈ZJ fp h:=List.mem_filterMap.mpr ⟨b,hb,by rw [e];rfl⟩
theorem qdf {fp:List Addr} {h:Heap} {p:Addr×Obj} (hp:p∈ZJ fp h):p.1∈fp/\h.get? p.1=some p.2:=by
 obtain ⟨b,hb,e⟩:=List.mem_filterMap.mp hp
 cases q:h.get? b with
 | none=>rw [q] at e;cases e
 | some o=>rw [q] at e;have e':(b,o)=p:=Option.some.inj e;subst e';exact ⟨hb,q⟩
theorem Inv.pinned {pins:PP} {σ:St} {H:Hp} {s:Shared} {fp:List Addr} (I:Inv X pins σ H s) (hf:∀ b∈fp,qcl X pins H b) (ho:∀ b∈fp,∃ o,s.heap.get? b=some o/\∀ v,o.data≠.cell v):Inv X (pins++ZJ fp s.heap) σ H s:=
 I.pins_of fun p hp=>(List.mem_append.mp hp).elim (fun z=>I.pin p (List.mem_append_right _ z)) fun z=>by obtain ⟨hb,e⟩:=qdf z;obtain ⟨f0,f1,f2,_⟩:=hf p.1 hb;obtain ⟨o,e',d⟩:=ho p.1 hb;rw [e] at e';cases e';exact ⟨e,f0,f1,f2,d⟩
theorem Inv.unpinned {pins pl:PP} {σ:St} {H:Hp} {s:Shared} (I:Inv X (pins++pl) σ H s):Inv X pins σ H s:=I.pins_of fun p hp=>I.pin p (List.mem_append_right _ (List.mem_append_left _ hp))
theorem qjy {iter:Expr} {body:List Stmt} {wi:TI} {g:TG} {tb:TS} {pos:Pos} (hp:PassesOwn (model X.prog X.w) X.A X.env X.xe) (hc:X.calm=true) (hi:PI X tg iter wi) (hg:PG X tg g) (hb:PSs X body tb)
  (hs:∀ x,foldedSetIterable iter X.env x=pure x:=by intro _;rfl):PS X (.For tg iter body [] pos) (qnV wi g tb):=by
 intro pins s σ H D I h;refine wpAny_For (thn (hi pins s σ H _ I h) fun v s1 h1=>thn h1 fun itv s2 h2=>?_) hs;obtain ⟨it,fp,tn,J,H2,e,I2,T,st2,f2,W,⟨m0,w0⟩,turn⟩:=h2;subst e;have stat:∀ {H':Hp},(∀ b∈fp,H' b=none)->∀ b∈fp,qcl X pins H' b:=fun hn b hb=>⟨hn b hb,(f2 b hb).2⟩;refine codeAny_forLoop_any (fun n s'=>∃ i σ' H',Inv X pins σ' H' s'/\tn i s'.heap/\(∀ b∈fp,H' b=none)/\W i n σ' H') ?_ m0 ⟨0,σ,H2,I2,st2,fun b hb=>(f2 b hb).1,w0⟩;rintro n s3 ⟨i,σ3,H3,I3,st3,fr3,w3⟩;rcases turn i n σ3 H3 w3 with ⟨stop,qn⟩ | ⟨go,N,hN,step⟩
 ·refine wpAny_passesOwn hp (thn (T.done X rfl rfl rfl hc i pins s3 σ3 H3 X.xe I3 (stat fr3) st3 stop) fun r s4 hq1=>?_);obtain ⟨hr,I4⟩:=hq1;subst hr;exact wpAny_execs_nil ⟨σ3,H3,I4,qn⟩
 ·refine wpAny_passesOwn hp (thn (T.item X rfl rfl rfl hc i pins s3 σ3 H3 X.xe I3 (stat fr3) st3 go) fun r s4 hq1=>?_);obtain ⟨u,hr,h4⟩:=hq1;subst hr;refine wpAny_passesOwn hp (thn h4 fun _ s5 hq1=>?_);obtain ⟨x,H5,I5,r5,y5,st5,fr5⟩:=hq1;have I5':=I5.pinned (stat fr5) (T.obj _ _ st5);refine wpAny_passesOwn hp (thn (hg _ s5 σ3 H5 x u _ I5' r5 (step x H5 y5)) fun _ s6 hq1=>?_);obtain ⟨σ6,H6,I6,q6⟩:=hq1;refine wpAny_passesOwn hp (thn (hb _ s6 σ6 H6 _ I6 q6) fun f s7 q7=>?_)
  have again:∀ {σ7:St} {H7:Hp},Inv X (pins++ZJ fp s5.heap) σ7 H7 s7->N σ7 H7->∃ m,m < n/\∃ i σ' H',Inv X pins σ' H' s7/\tn i s7.heap/\(∀ b∈fp,H' b=none)/\W i m σ' H':=fun {σ7 H7} I7 n7=>by obtain ⟨m',hm,w7⟩:=hN σ7 H7 n7;refine ⟨m',hm,i+1,σ7,H7,I7.unpinned,T.keep _ _ _ st5 fun b hb o e=>(I7.pin (b,o) (List.mem_append_right _ (List.mem_append_right _ (yy hb e)))).1,fun b hb=>?_,w7⟩;obtain ⟨o,e,d⟩:=T.obj _ _ st5 b hb;exact (I7.pin (b,o) (List.mem_append_right _ (List.mem_append_right _ (yy hb e)))).2.1
  cases f with
  | next=>obtain ⟨σ7,H7,I7,n7⟩:=q7;exact again I7 n7
  | cont=>obtain ⟨σ7,H7,I7,n7⟩:=q7;exact again I7 n7
  | brk=>obtain ⟨σ7,H7,I7,q7⟩:=q7;exact ⟨σ7,H7,I7.unpinned,q7⟩
  | ret v=>obtain ⟨x7,σ7,H7,I7,r7,q7⟩:=q7;exact ⟨x7,σ7,H7,I7.unpinned,r7,q7⟩
end
end L2
namespace L2
open PySem PySem.Spec PyProof.Rows
abbrev R2:=V->V->Hp->VK->Prop
noncomputable def OpR (X:Cx) (f:Value->Value->Sem Value) (r:R2):Prop:=
 ∀ (pins:PP) (s:Shared) (σ:St) (H:Hp) (x y:V) (v u:Value) (Q:VK),Inv X pins σ H s->qN x v->qN y u->r x y H Q->
  wpAny (model X.prog X.w) X.A (f v u) (EP X pins σ Q) X.xe s
noncomputable def UnR (X:Cx) (f:Value->Sem Value) (r:V->Hp->VK->Prop):Prop:=
 ∀ (pins:PP) (s:Shared) (σ:St) (H:Hp) (x:V) (v:Value) (Q:VK),Inv X pins σ H s->qN x v->r x H Q->
  wpAny (model X.prog X.w) X.A (f v) (EP X pins σ Q) X.xe s
noncomputable def zw (X:Cx) (f:Value) (r:List V->Hp->VK->Prop):Prop:=
 ∀ (pins:PP) (s:Shared) (σ:St) (H:Hp) (xs:List V) (us:List Value) (Q:VK),Inv X pins σ H s->qK xs us->r xs H Q->
  wpAny (model X.prog X.w) X.A (call f us) (EP X pins σ Q) X.xe s
noncomputable def qnW (X:Cx) (r:V->Hp->(Bool->Hp->Prop)->Prop):Prop:=
 ∀ (pins:PP) (s:Shared) (σ:St) (H:Hp) (x:V) (v:Value) (Q:Bool->Hp->Prop),Inv X pins σ H s->qN x v->r x H Q->
  wpAny (model X.prog X.w) X.A (truthy v) (TP X pins σ Q) X.xe s
def tOp (r:R2) (ta tb:TE):TE:=fun σ H Q=>ta σ H fun x H1=>tb σ H1 fun y H2=>r x y H2 Q
def tUn (r:V->Hp->VK->Prop) (ta:TE):TE:=fun σ H Q=>ta σ H fun x H1=>r x H1 Q
noncomputable def rI (C:Int->Int->Prop) (g:Int->Int->V):R2:=fun x y H Q=>∃ i j,x=.int i/\y=.int j/\C i j/\Q (g i j) H
def rI0 (g:Int->Int->V):R2:=fun x y H Q=>∃ i j,x=.int i/\y=.int j/\Q (g i j) H
def rU (g:Int->V):V->Hp->VK->Prop:=fun x H Q=>∃ i,x=.int i/\Q (g i) H
section
variable {X:Cx} {a b c:Expr} {ta tb tc:TE} {pos:Pos}
theorem qms (ha:PE X a ta) (hb:PE X b tb) {pins:PP} {s:Shared} {σ:St} {H:Hp} {R:V->V->Hp->Prop} (I:Inv X pins σ H s)
  (h:ta σ H fun x H1=>tb σ H1 fun y H2=>R x y H2) {Q:PQ} {f:Value->Value->Sem Value}
  (hf:∀ v u s2 x y H2,Inv X pins σ H2 s2->qN x v->qN y u->R x y H2->wpAny (model X.prog X.w) X.A (f v u) Q X.xe s2) :
  wpAny (model X.prog X.w) X.A (eval a X.env) (fun v s₁=>wpAny (model X.prog X.w) X.A (eval b X.env) (fun u s₂=>wpAny (model X.prog X.w) X.A (f v u) Q X.xe s₂) X.xe s₁) X.xe s:=by
 refine thn (ha pins s σ H _ I h) fun v s1 hq1=>?_;obtain ⟨x,H1,I1,r1,q1⟩:=hq1;refine thn (hb pins s1 σ H1 _ I1 q1) fun u s2 hq1=>?_;obtain ⟨y,H2,I2,r2,q2⟩:=hq1;exact hf v u s2 x y H2 I2 r1 r2 q2
theorem qmt {op:Operator} {r:R2} (ho:OpR X (binaryOp op) r) (ha:PE X a ta) (hb:PE X b tb):PE X (.BinOp a op b pos) (tOp r ta tb):=by intro pins s σ H Q I h;exact wpAny_BinOp (qms ha hb I h fun v u s2 x y H2 I2 rx ry q=>ho pins s2 σ H2 x y v u Q I2 rx ry q)
theorem qmu {op:UnaryOp} {r:V->Hp->VK->Prop} (ho:UnR X (unaryOp op) r) (ha:PE X a ta):PE X (.UnaryOp op a pos) (tUn r ta):=by intro pins s σ H Q I h;exact UnaryOp_ (thn (ha pins s σ H _ I h) fun v s1 ⟨x,H1,I1,r1,q1⟩=>ho pins s1 σ H1 x v Q I1 r1 q1)
theorem opI {f:Value->Value->Sem Value} {C:Int->Int->Prop} {g:Int->Int->Int}
  (rule:∀ (i j:Int) (t u:Tok) (s:Shared) (Q:PQ) (E:PQ),C i j->Q (.int (g i j) s.toks) { s with toks:=s.toks+1 }->wpAny (model X.prog X.w) X.A (f (.int i t) (.int j u)) Q E s) :
  OpR X f (rI C fun i j=>.int (g i j)):=by
 intro pins s σ H x y v u Q I rx ry h;obtain ⟨i,j,rfl,rfl,hc,q⟩:=h;obtain ⟨t,rfl⟩:=rx;obtain ⟨t',rfl⟩:=ry;exact rule i j t t' s _ _ hc ⟨.int (g i j),H,I.tok _,⟨_,rfl⟩,q⟩
theorem qno {f:Value->Value->Sem Value} {g:Int->Int->Int}
  (rule:∀ (i j:Int) (t u:Tok) (s:Shared) (Q:PQ) (E:PQ),Q (.int (g i j) s.toks) { s with toks:=s.toks+1 }->wpAny (model X.prog X.w) X.A (f (.int i t) (.int j u)) Q E s) :
  OpR X f (rI0 fun i j=>.int (g i j)):=by
 intro pins s σ H x y v u Q I rx ry h;obtain ⟨i,j,rfl,rfl,q⟩:=h;obtain ⟨t,rfl⟩:=rx;obtain ⟨t',rfl⟩:=ry;exact rule i j t t' s _ _ ⟨.int (g i j),H,I.tok _,⟨_,rfl⟩,q⟩
theorem ql9 {f:Value->Value->Sem Value} {g:Int->Int->Bool}
  (rule:∀ (i j:Int) (t u:Tok) (s:Shared) (Q:PQ) (E:PQ),Q (.bool (g i j)) s->wpAny (model X.prog X.w) X.A (f (.int i t) (.int j u)) Q E s) :
  OpR X f (rI0 fun i j=>.bl (g i j)):=by
 intro pins s σ H x y v u Q I rx ry h;obtain ⟨i,j,rfl,rfl,q⟩:=h;obtain ⟨t,rfl⟩:=rx;obtain ⟨t',rfl⟩:=ry;exact rule i j t t' s _ _ ⟨.bl (g i j),H,I,rfl,q⟩
def qnX (i j:Int):Prop:=0 < j/\j < 1073741824
def qnY (i j:Int):Prop:=0<=j/\j<=1000000/\i.natAbs < 2 ^ 64
def qma (i j:Int):Prop:=(-(2 ^ 64) < i/\i < 2 ^ 64)\/(-(2 ^ 64) < j/\j < 2 ^ 64)
theorem qma.ok {i j:Int} (h:qma i j):IntMulOk i j:=by
 rcases h with ⟨h1,h2⟩ | ⟨h1,h2⟩
 ·exact .of_left (intBits_le_64 h1 h2)
 ·exact .of_right (intBits_le_64 h1 h2)
theorem qjz:OpR X (binaryOp .Add) (rI0 fun i j=>.int (i+j)):=qno fun _ _ _ _ _ _ _ q=>add_int q
theorem qjA:OpR X (binaryOp .Sub) (rI0 fun i j=>.int (i - j)):=qno fun _ _ _ _ _ _ _ q=>sub_int q
theorem qjB:OpR X (binaryOp .Mult) (rI qma fun i j=>.int (i * j)):=opI fun _ _ _ _ _ _ _ hc q=>mul_int q hc.ok
theorem qhr:OpR X (binaryOp .FloorDiv) (rI qnX fun i j=>.int (i / j)):=opI fun i j _ _ _ _ _ hc q=>by have h1:(0:Int) < j:=hc.1;have h2:j < 1073741824:=hc.2;exact floordiv_int (1:) (by rw [Int.fdiv_eq_ediv_of_nonneg i (1:)];exact q) (.inl (PyProof.noPylong_small (1:)))
theorem qjC:OpR X (binaryOp .Mod) (rI (fun _ j=>0 < j) fun i j=>.int (i % j)):=opI fun i j _ _ _ _ _ hc q=>by have h1:(0:Int) < j:=hc;exact mod_int' (1:) (by rw [Int.fmod_eq_emod_of_nonneg i (1:)];exact q)
theorem qjD:OpR X (binaryOp .Pow) (rI qnY fun i j=>.int (i ^ j.toNat)):=opI fun _ _ _ _ _ _ _ hc q=>pow_int_small hc.1 hc.2.1 hc.2.2 q
theorem unI {f:Value->Sem Value} {g:Int->Int}
  (rule:∀ (i:Int) (t:Tok) (s:Shared) (Q:PQ) (E:PQ),Q (.int (g i) s.toks) { s with toks:=s.toks+1 }->wpAny (model X.prog X.w) X.A (f (.int i t)) Q E s) :
  UnR X f (rU fun i=>.int (g i)):=by
 intro pins s σ H x v Q I rx h;obtain ⟨i,rfl,q⟩:=h;obtain ⟨t,rfl⟩:=rx;exact rule i t s _ _ ⟨.int (g i),H,I.tok _,⟨_,rfl⟩,q⟩
theorem qjE:UnR X (unaryOp .USub) (rU fun i=>.int (-i)):=unI fun _ _ _ _ _ q=>neg_int q
end
section
variable {X:Cx} {a b c:Expr} {ta tb tc:TE} {pos:Pos}
theorem qbz {pins:PP} {σ:St} {H:Hp} {s:Shared} {Q:VK} {k k':Bool} (I:Inv X pins σ H s) (q:Q (.bl k) H) (e:k=k'):EP X pins σ Q (.bool k') s:=by subst e;exact ⟨.bl k,H,I,rfl,q⟩
theorem qmv:OpR X (compareOp .Lt) (rI0 fun i j=>.bl (decide (i < j))):=ql9 fun _ _ _ _ _ _ _ q=>lt_int q
theorem qmw:OpR X (compareOp .LtE) (rI0 fun i j=>.bl (decide (i<=j))):=ql9 fun _ _ _ _ _ _ _ q=>le_int q
theorem qmx:OpR X (compareOp .Gt) (rI0 fun i j=>.bl (decide (j < i))):=ql9 fun _ _ _ _ _ _ _ q=>gt_int q
theorem qmy:OpR X (compareOp .GtE) (rI0 fun i j=>.bl (decide (j<=i))):=ql9 fun _ _ _ _ _ _ _ q=>ge_int q
theorem qdg:OpR X (compareOp .In) (fun x y H Q=>∃ i j,x=.str i/\y=.str j/\Q (.bl (!(Builtin.Str.occurrences j i 0 j.length 1).isEmpty)) H):=by intro pins s σ H x y v u Q I rx ry h;obtain ⟨i,j,rfl,rfl,q⟩:=h;obtain ⟨t,rfl⟩:=rx;obtain ⟨t',rfl⟩:=ry;exact in_str (qbz I q rfl)
theorem qjF:OpR X (compareOp .Is) (fun x y H Q=>y=.non/\Q (.bl (decide (x=.non))) H):=by
 intro pins s σ H x y v u Q I rx ry h;obtain ⟨rfl,q⟩:=h;cases ry;refine is_none_gen (qbz I q ?_)
 cases x<;>first
  | (cases rx;rfl)
  | (obtain ⟨t,rfl⟩:=rx;rfl)
theorem qhs:OpR X (compareOp .IsNot) (fun x y H Q=>y=.non/\Q (.bl (!decide (x=.non))) H):=by
 intro pins s σ H x y v u Q I rx ry h;obtain ⟨rfl,q⟩:=h;cases ry;refine isnot_none_gen (qbz I q ?_)
 cases x<;>first
  | (cases rx;rfl)
  | (obtain ⟨t,rfl⟩:=rx;rfl)
theorem ZK:OpR X (compareOp .NotIn) (fun x y H Q=>∃ i j,x=.str i/\y=.str j/\Q (.bl (!(!(Builtin.Str.occurrences j i 0 j.length 1).isEmpty))) H):=by intro pins s σ H x y v u Q I rx ry h;obtain ⟨i,j,rfl,rfl,q⟩:=h;obtain ⟨t,rfl⟩:=rx;obtain ⟨t',rfl⟩:=ry;exact notIn_str (qbz I q rfl)
theorem qht {op:CmpOp} {r:R2} (ho:OpR X (compareOp op) r) (ha:PE X a ta) (hb:PE X b tb) (hm:behindInMarks op b=false):PE X (.Compare a [op] [b] pos) (tOp r ta tb):=by intro pins s σ H Q I h;exact wpAny_Compare1 (qms ha hb I h fun v u s2 x y H2 I2 rx ry q=>ho pins s2 σ H2 x y v u Q I2 rx ry q) hm
def qmz (t:TE):TT:=fun σ H Q=>t σ H fun x H'=>∃ k,x=.bl k/\Q k H'
theorem qdh {op:CmpOp} {r:R2} (ho:OpR X (compareOp op) r) (ha:PE X a ta) (hb:PE X b tb) (hm:behindInMarks op b=false):PT X (.Compare a [op] [b] pos) (qmz (tOp r ta tb)):=by
 intro pins s σ H Q I h
 refine wpAny_isTrue_Compare1 (thn (ha pins s σ H _ I h) fun v s1 ⟨x,H1,I1,r1,q1⟩=>thn (hb pins s1 σ H1 _ I1 q1) fun u s2 ⟨y,H2,I2,r2,q2⟩=>thn (ho pins s2 σ H2 x y v u _ I2 r1 r2 q2) fun c s3 ⟨z,H3,I3,r3,k,e,q3⟩=>?_) hm
 subst e;cases r3;exact wpAny_truthy_bool ⟨H3,I3,q3⟩
noncomputable def qmb (K:Frag) (x:V) (H:Hp) (k:Bool):Prop:=
 match x with
 | .non=>k=false
 | .bl b=>k=b
 | .int i=>k=(i != 0)
 | .str y=>y.length<=sizeLine/\k=((y.length:Int) != 0)
 | .byt y=>y.size<=sizeLine/\k=((y.size:Int) != 0)
 | .ref p=>(∃ xs,SqL K H p xs/\k = !xs.isEmpty)\/(∃ xs,SqT K H p xs/\k = !xs.isEmpty)\/∃ kvs,H p=some (.dK kvs)/\k = !kvs.isEmpty
 | _=>False
theorem qco {κ:Type} {kvs:List (κ×V)} {vs:List (κ×Value)} (r:KV kvs vs):(!vs.isEmpty) = !kvs.isEmpty:=by cases r<;>rfl
theorem Qq {xs:List V} {its:List Value} (r:qK xs its):(!its.toArray.isEmpty) = !xs.isEmpty:=by cases r<;>simp
theorem Yu:(sizeLine:Nat) < 2 ^ 63:=by rw [sizeLine_eq];decide
theorem qjG:qnW X (fun x H Q=>∃ k,qmb X.K x H k/\Q k H):=by
 intro pins s σ H x v Q I rx h;obtain ⟨k,e,q⟩:=h;have hl:=Yu;have hs:sizeLine=16777216:=sizeLine_eq
 cases x with
 | non=>cases rx;have e':k=false:=e;subst e';exact truthy_none ⟨H,I,q⟩
 | bl b=>cases rx;have e':k=b:=e;subst e';exact wpAny_truthy_bool ⟨H,I,q⟩
 | int i=>obtain ⟨t,rfl⟩:=rx;have e':k=(i != 0):=e;subst e';exact PySem.P.truthy_int ⟨H,I,q⟩
 | str y=>obtain ⟨t,rfl⟩:=rx;obtain ⟨hy,e'⟩:y.length<=sizeLine/\k=((y.length:Int) != 0):=e;subst e';exact PySem.P.truthy_str (1:) ⟨H,I.tok _,q⟩
 | byt y=>obtain ⟨t,rfl⟩:=rx;obtain ⟨hy,e'⟩:y.size<=sizeLine/\k=((y.size:Int) != 0):=e;subst e';exact PySem.W.truthy_bytes (1:) ⟨H,I.tok _,q⟩
 | ref p=>
  cases rx;have e':(∃ xs,SqL X.K H p xs/\k = !xs.isEmpty)\/(∃ xs,SqT X.K H p xs/\k = !xs.isEmpty)\/∃ kvs,H p=some (.dK kvs)/\k = !kvs.isEmpty:=e;rcases e' with ⟨xs,hx,e'⟩ | ⟨xs,hx,e'⟩ | ⟨kvs,hx,e'⟩
  ·subst e';obtain ⟨its,r,pl,hz⟩:=I.list hx;have hlen:=r.length;exact wpAny_truthy_list pl.isList (by simp only [List.size_toArray];omega) ⟨H,I.tok _,by rw [Qq r];exact q⟩
  ·subst e';obtain ⟨its,r,pl,hz⟩:=I.tuple hx;have hlen:=r.length;exact truthy_tuple pl (by simp only [List.size_toArray];omega) ⟨H,I.tok _,by rw [Qq r];exact q⟩
  ·subst e';obtain ⟨hz,hS,vs,r,m⟩:kvs.length<=sizeLine/\(p == sysModules)=false/\∃ vs,KV kvs vs/\s.heap.DictOf (qA X.prog X.w) p vs:=I.hok p _ hx;have hlen:kvs.length=vs.length:=Paired.length r;exact wpAny_truthy_dict hS m (1:) ⟨H,I.tok _,by rw [qco r];exact q⟩
 | _=>exact (show False from e).elim
theorem qe7 (ha:PE X a ta) (he:∀ whole,isTrue a X.env whole=(do let v<-whole;standAt a.pos;holding [v] (truthy v))) :
  PT X a (fun σ H Q=>ta σ H fun x H'=>∃ k,qmb X.K x H' k/\Q k H'):=by
 intro pins s σ H Q I h;exact isTrue_plain (thn (ha pins s σ H _ I h) fun v s1 ⟨x,H1,I1,r1,q1⟩=>qjG pins s1 σ H1 x v Q I1 r1 q1) (he _)
theorem qcp:OpR X (binaryOp .Add) (fun x y H Q=>∃ i j,x=.str i/\y=.str j/\i.length+j.length<=sizeLine/\Q (.str (i++j)) H):=by intro pins s σ H x y v u Q I rx ry h;obtain ⟨i,j,rfl,rfl,hz,q⟩:=h;obtain ⟨t,rfl⟩:=rx;obtain ⟨t',rfl⟩:=ry;exact add_str (fun t' tk=>⟨.str (i++j),H,I.tok _,⟨_,rfl⟩,q⟩) hz
theorem JF {x:V} {us:List Value} (r:qK [x] us):∃ u,us=[u]/\qN x u:=by
 cases r with
 | cons r1 r2=>cases r2;exact ⟨_,rfl,r1⟩
theorem qa1 {x y:V} {us:List Value} (r:qK [x,y] us):∃ u w',us=[u,w']/\qN x u/\qN y w':=by
 cases r with
 | cons r1 r2=>
  cases r2 with
  | cons r3 r4=>cases r4;exact ⟨_,_,rfl,r1,r3⟩
theorem qdi (hc:X.calm=true):zw X (.builtin "max") (fun xs H Q=>∃ i j,xs=[.int i,.int j]/\Q (.int (if j > i then j else i)) H):=by
 intro pins s σ H xs us Q I r h;obtain ⟨i,j,rfl,q⟩:=h;obtain ⟨u,w',rfl,⟨t,rfl⟩,⟨t',rfl⟩⟩:=qa1 r;refine max_two_ints (I.ok.hd hc) fun h' tk k=>⟨_,H,I.kept k,?_,q⟩
 by_cases hj:j > i
 ·rw [if_pos hj,if_pos hj];exact ⟨_,rfl⟩
 ·rw [if_neg hj,if_neg hj];exact ⟨_,rfl⟩
theorem qdj (hc:X.calm=true):zw X (.builtin "min") (fun xs H Q=>∃ i j,xs=[.int i,.int j]/\Q (.int (if j < i then j else i)) H):=by
 intro pins s σ H xs us Q I r h;obtain ⟨i,j,rfl,q⟩:=h;obtain ⟨u,w',rfl,⟨t,rfl⟩,⟨t',rfl⟩⟩:=qa1 r;refine min_two_ints (I.ok.hd hc) fun h' tk k=>⟨_,H,I.kept k,?_,q⟩
 by_cases hj:j < i
 ·rw [if_pos hj,if_pos hj];exact ⟨_,rfl⟩
 ·rw [if_neg hj,if_neg hj];exact ⟨_,rfl⟩
theorem ZL:zw X (.type "int") (fun xs H Q=>(∃ i,xs=[.int i]/\Q (.int i) H)\/∃ k,xs=[.bl k]/\Q (.int (if k then 1 else 0)) H):=by
 intro pins s σ H xs us Q I r h;rcases h with ⟨i,rfl,q⟩ | ⟨k,rfl,q⟩
 ·obtain ⟨u,rfl,t,rfl⟩:=JF r;exact call_int_int ⟨.int i,H,I,⟨_,rfl⟩,q⟩
 ·obtain ⟨u,rfl,r1⟩:=JF r;cases r1;exact call_int_bool ⟨.int (if k then 1 else 0),H,I.tok _,⟨_,rfl⟩,q⟩
end
end L2
namespace L2
open PySem PySem.Spec PyProof.Rows
structure ObjM (h:Heap) (x dx C:Addr) (mA:PR):Prop where
 obj:h.get? x=some (PySem.W.instObj C dx)
 ns:h.Ns1 dx mA
 ne:dx≠x
theorem qdk {h:Heap} {dx:Addr} {mA:PR} (n:h.Ns1 dx mA):∃ od,h.get? dx=some od/\∀ name,PySem.W.lookIn name od=some (mA name):=by
 obtain ⟨o,es,ep,ho,hd,hk,_,hm⟩:=n;refine ⟨o,ho,fun name=>?_⟩;have e:=hm name;unfold nsFind findBy at e;rw [<-Array.find?_toList] at e;unfold PySem.W.lookIn;rw [hd];dsimp only;split
 ·rename_i y q;rw [q] at e;exact congrArg some e
 ·rename_i q;rw [q] at e
  have a:es.toList.any (·.refKey)=false:=by rw [List.any_eq_false];intro y hy;obtain ⟨z,t,hkey⟩:=hk y (Array.mem_toList_iff.mp hy);simp [DictEntry.refKey,hkey]
  have a':¬ es.toList.any (·.refKey)=true:=by rw [a];exact Bool.false_ne_true
  rw [if_neg a'];exact congrArg some e
theorem ObjM.look {h:Heap} {x dx C:Addr} {mA:PR} (I:ObjM h x dx C mA):∃ od,PySem.W.InstAt h x (PySem.W.instObj C dx) C (some od)/\∀ name,PySem.W.lookIn name od=some (mA name):=
 let ⟨od,ho,hl⟩:=qdk I.ns
 ⟨od,⟨I.obj,rfl,rfl,ho⟩,hl⟩
section
variable {prog:Program} {w:World} {A:Around} {E:PQ} {s:Shared} {K:Frag} {x dx C f:Addr} {mA:PR} {name:Str} {v:Value}
theorem qhu {expr:Bool} {Q:PQ} (X:K.In s.heap) (I:ObjM s.heap x dx C mA) (hg:PySem.W.plainGet K C name=true) (hh:PySem.W.hasDictIn K C=true)
  (ha:PySem.W.findIn K (.ref C) name=some none) (hv:mA name=some v) (hv':PySem.W.handedIn v=true) (h:Q v { s with toks:=s.toks+1 }) :
  wpAny (model prog w) A (getAttr (.ref x) name expr) Q E s:=by
 obtain ⟨od,J,hl⟩:=I.look;exact PySem.W.get_value X J (PySem.W.plainGet_of hg).1 (PySem.W.findObj_own hh ha rfl (by rw [hl,hv])) hv' h
theorem qe8 {pl:Sem Bool} {Q:Value×List Value->Shared->Prop} (X:K.In s.heap) (I:ObjM s.heap x dx C mA) (hg:PySem.W.plainGet K C name=true)
  (hf:PySem.W.findIn K (.ref C) name=some (some (.ref f))) (ht:PySem.W.isFn K (.ref f)=true) (hv:mA name=none) (h:Q (.ref f,[.ref x]) s) :
  wpAny (model prog w) A (getMethod (.ref x) name pl) Q E s:=by
 obtain ⟨od,J,hl⟩:=I.look;exact PySem.W.method_fn X J (PySem.W.plainGet_of hg).1 (PySem.W.plainGet_of hg).2 hf (beq_iff_eq.mp ht) (by show (PySem.W.lookIn name od).map (·.isSome)=some false;rw [hl,hv];rfl) h
theorem qhv {ns:List Str} {Q:Unit->Shared->Prop} (X:K.In s.heap) (I:ObjM s.heap x dx C mA)
  (hs:PySem.W.findIn K (.ref C) "__setattr__" = some (some (.builtin "object.__setattr__"))) (hp:PySem.W.plainOver K C=true) (ht:PySem.W.takerIn K C name=some none) (hh:PySem.W.hasDictIn K C=true)
  (hw:PySem.Within mA ns) (hsz:ns.length<=sizeLine)
  (h:∀ h',ObjM h' x dx C (fun y=>if y=name then some v else mA y)->Heap.SameBut dx s.heap h'->Q () { s with heap:=h',toks:=s.toks+2 }) :
  wpAny (model prog w) A (setAttr (.ref x) name v) Q E s:=by
 obtain ⟨od,J,hl⟩:=I.look;refine PySem.W.set_plain X J hs (PySem.W.osa_open (s:={ s with toks:=s.toks+1 }) (r:=none) X J hp ht fun b=>?_);obtain ⟨cd,hc,hd'⟩:=PySem.W.any_some hh;have hx:s.heap.get? x=some ⟨.ref C,some dx,.plain,#[]⟩:=I.obj;refine wpAny_bind (wpAny_pure (wpAny_bind (wpAny_bind (wpAny_loadPart hx (wpAny_bind (PySem.W.Looks.here (s:={ s with toks:=s.toks+1 }) (PySem.W.looks_clsIn X hc) ?_))))));rw [hd'];refine wpAny_pure (a:=some dx) (wpAny_bind (wpAny_pure (wpAny_bind ?_)));refine wpAny_nsSet1 (s:={ s with toks:=s.toks+1 }) I.ns fun h' hn2 hs2=>?_;obtain ⟨oD,esD,epD,hoD,hdD,hcD⟩:=hn2.count (PySem.Within.cons name v hw);refine wpAny_bind (wpAny_lookBehind hoD (by rw [hdD];exact pastItsLine_dict (Nat.le_trans hcD (by rw [List.length_cons];omega))) ?_);exact wpAny_pure (h _ ⟨(hs2.2 _ (Ne.symm I.ne)).trans I.obj,hn2,I.ne⟩ hs2)
theorem qe9 {R:Result->Shared->Prop} {vs:List Value} {kw:List (Str×Value)} (X:K.In s.heap) (hm:PySem.W.makesIn K C=true)
  (hi:PySem.W.findIn K (.ref C) "__init__" = some (some (.ref f))) (hf:PySem.W.typeIn K (.ref f)=some (.type "function"))
  (h:codeAny (model prog w) (A.under (.builtin "type.__call__" ⟨.ref C::vs,kw⟩)) (.call (.ref f) ⟨.ref (s.heap.objs.size+1)::vs,kw⟩) (PySem.W.InitBack (s.heap.objs.size+1) R)
   { s with heap:=(s.heap.push PySem.W.emptyDict).push (PySem.W.instObj C s.heap.objs.size) }) :
  codeAny (model prog w) A (.call (.ref C) ⟨vs,kw⟩) R s:=by
 obtain ⟨hh,g,d,t,os⟩:=s;exact PySem.W.make_core (PySem.W.makes_of X hm) (PySem.W.looks_findIn X hi) (fun self=>PySem.W.bind_fn X self hf) (.inl rfl) h
end
noncomputable def qaU (f:Str) (v:V):List (Str×V)->List (Str×V)
 | []=>[(f,v)]
 | (g,x)::r=>if g=f then (g,v)::r else (g,x)::qaU f v r
theorem Yv (f g:Str) (v:V):∀ fs:List (Str×V),(qaU f v fs).lookup g=if g=f then some v else fs.lookup g
 | []=>by
  show List.lookup g [(f,v)]=_
  by_cases h:g=f
  ·have hb:(g == f)=true:=beq_iff_eq.mpr h;simp only [List.lookup,hb,if_pos h]
  ·have hb:(g == f)=false:=beq_eq_false_iff_ne.mpr h;simp only [List.lookup,hb,if_neg h]
 | (k,x)::r=>by
  have ih:=Yv f g v r;rw [show qaU f v ((k,x)::r)=(if k=f then (k,v)::r else (k,x)::qaU f v r) from rfl]
  by_cases hk:k=f
  ·rw [if_pos hk]
   by_cases h:g=k
   ·have hb:(g == k)=true:=beq_iff_eq.mpr h;simp only [List.lookup,hb,if_pos (h.trans hk)]
   ·have hb:(g == k)=false:=beq_eq_false_iff_ne.mpr h;simp only [List.lookup,hb,if_neg (fun e:g=f=>h (e.trans hk.symm))]
  ·rw [if_neg hk]
   by_cases h:g=k
   ·have hb:(g == k)=true:=beq_iff_eq.mpr h;simp only [List.lookup,hb,if_neg (fun e:g=f=>hk (h.symm.trans e))]
   ·have hb:(g == k)=false:=beq_eq_false_iff_ne.mpr h;simp only [List.lookup,hb];exact ih
theorem Yw (f:Str) (v:V):∀ fs:List (Str×V),f∈(qaU f v fs).map (·.1)/\∀ g,g∈fs.map (·.1)->g∈(qaU f v fs).map (·.1)
 | []=>⟨by simp [qaU],fun g h=>by simp at h⟩
 | (k,x)::r=>by
  obtain ⟨i1,i2⟩:=Yw f v r;rw [show qaU f v ((k,x)::r)=(if k=f then (k,v)::r else (k,x)::qaU f v r) from rfl]
  by_cases hk:k=f
  ·rw [if_pos hk];subst hk;exact ⟨by simp,fun g h=>by simpa using h⟩
  ·rw [if_neg hk];refine ⟨?_,fun g h=>?_⟩
   ·rw [List.map_cons];exact List.mem_cons_of_mem _ i1
   ·rw [List.map_cons] at h ⊢;rcases List.mem_cons.mp h with e | e
    ·exact List.mem_cons.mpr (.inl e)
    ·exact List.mem_cons_of_mem _ (i2 g e)
theorem Yx (f:Str) (v:V):∀ fs:List (Str×V),(qaU f v fs).length<=fs.length+1
 | []=>by simp [qaU]
 | (k,x)::r=>by
  have ih:=Yx f v r;rw [show qaU f v ((k,x)::r)=(if k=f then (k,v)::r else (k,x)::qaU f v r) from rfl]
  by_cases hk:k=f
  ·rw [if_pos hk,List.length_cons,List.length_cons];omega
  ·rw [if_neg hk,List.length_cons,List.length_cons];omega
theorem qbv.some_of {v:V} {o:Option Value} (r:qbv (some v) o):∃ u,o=some u/\qN v u:=by
 cases o with
 | none=>exact (show False from r).elim
 | some u=>exact ⟨u,rfl,r⟩
theorem qbv.none_of {o:Option Value} (r:qbv none o):o=none:=by
 cases o with
 | none=>rfl
 | some u=>exact (show False from r).elim
theorem qdl {v:V} {u:Value} (r:qN v u):PySem.W.handedIn u=true:=by
 cases v with
 | non=>cases (show u=Value.none from r);rfl
 | bl b=>cases (show u=Value.bool b from r);rfl
 | int i=>obtain ⟨t,e⟩:=(show ∃ t,u=Value.int i t from r);cases e;rfl
 | str x=>obtain ⟨t,e⟩:=(show ∃ t,u=Value.str x t from r);cases e;rfl
 | byt b=>obtain ⟨t,e⟩:=(show ∃ t,u=Value.bytes b t from r);cases e;rfl
 | flt b=>obtain ⟨t,e⟩:=(show ∃ t,u=Value.float b t from r);cases e;rfl
 | ref a=>cases (show u=Value.ref a from r);rfl
 | ty n=>cases (show u=Value.type n from r);rfl
section
variable {P:Program} {w:World} {H H':Hp} {h h':Heap} {a C dx:Addr} {fs fs':List (Str×V)}
theorem QX (hok:HOk P w H h) (e:H a=some (.ins C dx fs)):∃ mA,ObjM h a dx C mA/\(∀ f,qbv (fs.lookup f) (mA f))/\PySem.Within mA (fs.map (·.1))/\fs.length<=1000/\H dx=some (.own a):=by obtain ⟨d,z,ne,ob,mA,n,r,q⟩:=(show qW P w H h a (.ins C dx fs) from hok a _ e);exact ⟨mA,⟨ob,n,ne⟩,r,q,z,d⟩
end
structure Cls (K:Frag) (C:Addr):Prop where
 pg:PySem.W.plainGet K C Str.empty=true
 hd:PySem.W.hasDictIn K C=true
 po:PySem.W.plainOver K C=true
 sa:PySem.W.findIn K (.ref C) "__setattr__" = some (some (.builtin "object.__setattr__"))
theorem Cls.get {K:Frag} {C:Addr} (c:Cls K C) (f:Str):PySem.W.plainGet K C f=true:=c.pg
def zG (K:Frag) (C:Addr) (f:Str):Prop:=PySem.W.findIn K (.ref C) f=some none
theorem zG.taker {K:Frag} {C:Addr} {f:Str} (n:zG K C f):PySem.W.takerIn K C f=some none:=by unfold PySem.W.takerIn;rw [show PySem.W.findIn K (.ref C) f=some none from n];rfl
structure Meth (K:Frag) (C:Addr) (m:Str) (f:Addr):Prop where
 at_:PySem.W.findIn K (.ref C) m=some (some (.ref f))
 fn:PySem.W.isFn K (.ref f)=true
 kp:PySem.W.keepIn K (.ref f)=true
section
variable {X:Cx} {pins:PP} {σ:St} {H:Hp} {s:Shared} {a C dx:Addr} {fs:List (Str×V)} {f:Str} {v:V} {A:Around} {E:PQ}
theorem qcq {b:Bool} {Q:PQ} (I:Inv X pins σ H s) (e:H a=some (.ins C dx fs)) (c:Cls X.K C) (n:zG X.K C f) (l:fs.lookup f=some v)
  (h:∀ u s',Inv X pins σ H s'->qN v u->Q u s'):wpAny (model X.prog X.w) A (getAttr (.ref a) f b) Q E s:=by
 obtain ⟨mA,O,r,_,_,_⟩:=QX I.hok e;obtain ⟨u,hu,ru⟩:=qbv.some_of (v:=v) (o:=mA f) (by rw [<-l];exact r f);exact qhu I.kIn O (c.get f) c.hd n hu (qdl ru) (h u _ (I.tok _) ru)
theorem Qr {m:Str} {g:Addr} {pl:Sem Bool} {Q:Value×List Value->Shared->Prop} (I:Inv X pins σ H s) (e:H a=some (.ins C dx fs)) (c:Cls X.K C) (k:Meth X.K C m g) (l:fs.lookup m=none)
  (h:Q (.ref g,[.ref a]) s):wpAny (model X.prog X.w) A (getMethod (.ref a) m pl) Q E s:=by
 obtain ⟨mA,O,r,_,_,_⟩:=QX I.hok e;have hn:mA m=none:=qbv.none_of (by rw [<-l];exact r m);exact qe8 I.kIn O (c.get m) k.at_ k.fn hn h
theorem qcr {y:V} {u:Value} {Q:Unit->Shared->Prop} (I:Inv X pins σ H s) (e:H a=some (.ins C dx fs)) (c:Cls X.K C) (n:zG X.K C f) (hl:fs.length < 1000) (ry:qN y u)
  (h:∀ s',Inv X pins σ (upd H a (.ins C dx (qaU f y fs))) s'->Q () s'):wpAny (model X.prog X.w) A (setAttr (.ref a) f u) Q E s:=by
 obtain ⟨mA,O,r,wi,_,ho⟩:=QX I.hok e;have hz:(fs.map (·.1)).length<=sizeLine:=by rw [List.length_map,sizeLine_eq];omega
 refine qhv I.kIn O c.sa c.po n.taker c.hd wi hz fun h' O' sb=>h _ ?_;have hd:∃ o,h'.get? dx=some o:=let ⟨o,_,_,e',_⟩:=O'.ns;⟨o,e'⟩;refine I.write (x:=a) (e:=dx) (by rw [e];exact True.intro) (.inr ho) (fun b q hb z=>(sb.2 b hb).trans z) hd ?_;refine ⟨by rw [qe O.ne];exact ho,?_,O.ne,O'.obj,_,O'.ns,fun g=>?_,fun g hg=>?_⟩
 ·have:=Yx f y fs;omega
 ·show qbv ((qaU f y fs).lookup g) (if g=f then some u else mA g);rw [Yv]
  by_cases q:g=f
  ·rw [if_pos q,if_pos q];exact ry
  ·rw [if_neg q,if_neg q];exact r g
 ·by_cases q:g=f
  ·rw [q];exact (Yw f y fs).1
  ·refine (Yw f y fs).2 g (wi g fun z=>hg ?_);show (if g=f then some u else mA g)=none;rw [if_neg q];exact z
theorem Inv.made (I:Inv X pins σ H s):Inv X pins σ (upd (upd H s.heap.objs.size (.own (s.heap.objs.size+1))) (s.heap.objs.size+1) (.ins C s.heap.objs.size []))
  { s with heap:=(s.heap.push PySem.W.emptyDict).push (PySem.W.instObj C s.heap.objs.size) }:=by
 have e1:(s.heap.push PySem.W.emptyDict).get? s.heap.objs.size=some PySem.W.emptyDict:=Heap.get?_push_size s.heap rfl
 have e2:((s.heap.push PySem.W.emptyDict).push (PySem.W.instObj C s.heap.objs.size)).get? (s.heap.objs.size+1)=some (PySem.W.instObj C s.heap.objs.size):=by
  have:=Heap.get?_push_size (s.heap.push PySem.W.emptyDict) (o:=PySem.W.instObj C s.heap.objs.size) rfl
  rwa [Heap.size_push] at this
 have e3:(s.heap.push PySem.W.emptyDict).Ns s.heap.objs.size (fun _=>none):=⟨PySem.W.emptyDict,#[],_,e1,rfl,(fun e he=>absurd he (by simp)),fun _=>rfl⟩;have I1:=I.laid (a:=s.heap.objs.size) (o:=.own (s.heap.objs.size+1)) (h':=s.heap.push PySem.W.emptyDict) (t':=s.toks) (fun b u q=>Heap.get?_push_of_some _ q) (Nat.le_refl _) ⟨_,e1⟩;refine I1.laid (a:=s.heap.objs.size+1) (o:=.ins C s.heap.objs.size []) (t':=s.toks) (fun b u q=>Heap.get?_push_of_some _ q) (Nat.le_of_eq (Heap.size_push _ _)) ?_;have ne:s.heap.objs.size≠s.heap.objs.size+1:=Nat.ne_of_lt (Nat.lt_succ_self _);refine ⟨by rw [qe ne,qh],Nat.zero_le _,ne,e2,fun _=>none,(Heap.Ns1.of_empty e3).at fun o q=>Heap.get?_push_of_some _ q,fun _=>True.intro,fun y hy=>absurd rfl hy⟩
theorem qhw {prog:Program} {w:World} {env:Env} {e:Expr} {f:Str} {pos:Pos} {s:Shared} {Q:PQ} (hb:attributeBase e f env (eval e env)=eval e env)
  (h:wpAny (model prog w) A (eval e env) (fun o s₁=>wpAny (model prog w) A (getAttr o f true) Q E s₁) E s):wpAny (model prog w) A (eval (.Attribute e f pos) env) Q E s:=
 Attribute_any_ h (by rw [arm_eval_Attribute,hb])
end
noncomputable def qnZ (K:Frag) (ta:TE) (f:Str):TE:=fun σ H Q=>ta σ H fun x H1=>∃ a C dx fs v,x=.ref a/\H1 a=some (.ins C dx fs)/\Cls K C/\zG K C f/\fs.lookup f=some v/\Q v H1
noncomputable def qn0 (K:Frag) (ta tv:TE) (f:Str):TS:=fun D σ H=>tv σ H fun y H1=>ta σ H1 fun x H2=>∃ a C dx fs,x=.ref a/\H2 a=some (.ins C dx fs)/\Cls K C/\zG K C f/\fs.length < 1000/\
 D.nx σ (upd H2 a (.ins C dx (qaU f y fs)))
section
variable {X:Cx} {o e value:Expr} {f:Str} {pos pos' tpos:Pos} {ta tv:TE}
theorem qjH (he:PE X e ta) (hb:attributeBase e f X.env (eval e X.env)=eval e X.env):PE X (.Attribute e f pos) (qnZ X.K ta f):=by intro pins s σ H Q I h;refine qhw hb (thn (he pins s σ H _ I h) fun u s1 hq1=>?_);obtain ⟨x,H1,I1,rx,a,C,dx,fs,v,ex,ea,c,n,l,q⟩:=hq1;subst ex;obtain rfl:u=Value.ref a:=rx;exact qcq I1 ea c n l fun u' s2 I2 ru=>⟨v,H1,I2,ru,q⟩
theorem Qs (ha:PE X o ta) (hv:PE X value tv) (hs:swapsWith value (some (.Attribute o f pos')) pos.line X.env=pure false):PS X (.Assign [.Attribute o f pos'] value pos) (qn0 X.K ta tv f):=by intro pins s σ H D I h;refine plainObj_wpAny_Assign_Attribute (thn (hv pins s σ H _ I h) fun u s1 ⟨y,H1,I1,ry,q⟩=>thn (ha pins s1 σ H1 _ I1 q) fun ov s2 ⟨x,H2,I2,rx,a,C,dx,fs,ex,ea,c,n,l,q2⟩=>?_) hs;subst ex;obtain rfl:ov=Value.ref a:=rx;exact qcr I2 ea c n l ry fun s3 I3=>⟨σ,_,I3,q2⟩
end
section
variable {X:Cx} {pins:PP} {σ:St} {H:Hp} {s:Shared} {A:Around} {E:PQ} {Q:PQ} {c:Value} {b:Bool}
inductive TyOf (K:Frag) (H:Hp):V->Value->Prop where
 | non:TyOf K H .non (.type "NoneType")
 | bl (x:Bool):TyOf K H (.bl x) (.type "bool")
 | int (i:Int):TyOf K H (.int i) (.type "int")
 | str (x:Str):TyOf K H (.str x) (.type "str")
 | flt (x:UInt64):TyOf K H (.flt x) (.type "float")
 | lst {a:Addr} {xs:List V} (e:H a=some (.lst xs)):TyOf K H (.ref a) (.type "list")
 | frz {a:Addr} {o:Obj} {xs:List V} (e:H a=some (.frz o (.lst xs))):TyOf K H (.ref a) (.type "list")
 | tup {a:Addr} {xs:List V} (e:H a=some (.tup xs)):TyOf K H (.ref a) (.type "tuple")
 | dK {a:Addr} {kvs:List (Key×V)} (e:H a=some (.dK kvs)):TyOf K H (.ref a) (.type "dict")
 | dT {a:Addr} {kvs:List (List Key×V)} (e:H a=some (.dT kvs)):TyOf K H (.ref a) (.type "dict")
 | ins {a C dx:Addr} {fs:List (Str×V)} (e:H a=some (.ins C dx fs)) (cl:Cls K C) (ha:PySem.W.findIn K (.ref C) "__class__" = some (some (.builtin "object.__class__")))
   (hn:PySem.W.specialIn K (.builtin "object.__class__") "__get__" = some (some (.builtin "getset_descriptor.__get__"))) (htk:PySem.W.takesIn K (.builtin "object.__class__")=some true)
   (hm:PySem.W.mroIn K C (.type "object")=some true):TyOf K H (.ref a) (.ref C)
theorem ZM {x:V} {u t:Value} (I:Inv X pins σ H s) (rx:qN x u) (ty:TyOf X.K H x t) (e:PySem.W.kitOne X.K t c=some b) (h:∀ tk,Q (.bool b) { s with toks:=tk }) :
  wpAny (model X.prog X.w) A (call (.builtin "isinstance") [u,c]) Q E s:=by
 cases ty with
 | non=>cases (show u=Value.none from rx);exact PySem.W.kia_one PySem.W.kitx_none I.kIn True.intro e (fun z=>nomatch z) h
 | bl y=>cases (show u=Value.bool y from rx);exact PySem.W.kia_one PySem.W.kitx_bool I.kIn True.intro e (fun z=>nomatch z) h
 | int i=>obtain ⟨t,q⟩:=(show ∃ t,u=Value.int i t from rx);cases q;exact PySem.W.kia_one PySem.W.kitx_int I.kIn True.intro e (fun z=>nomatch z) h
 | str y=>obtain ⟨t,q⟩:=(show ∃ t,u=Value.str y t from rx);cases q;exact PySem.W.kia_one PySem.W.kitx_str I.kIn True.intro e (fun z=>nomatch z) h
 | flt y=>obtain ⟨t,q⟩:=(show ∃ t,u=Value.float y t from rx);cases q;exact PySem.W.kia_one PySem.W.kitx_float I.kIn True.intro e (fun z=>nomatch z) h
 | @lst a xs ea=>
  cases (show u=Value.ref a from rx)
  obtain ⟨_,_,n,_,h1⟩:=(show qW X.prog X.w H s.heap a (.lst xs) from I.hok a _ ea);exact PySem.W.kia_one PySem.W.kitx_list I.kIn ⟨_,h1,rfl⟩ e (fun z=>nomatch z) h
 | @frz a ob xs ea=>
  cases (show u=Value.ref a from rx)
  obtain ⟨_,_,_,n,_,h1⟩:=(show qW X.prog X.w H s.heap a (.frz ob (.lst xs)) from I.hok a _ ea);exact PySem.W.kia_one PySem.W.kitx_list I.kIn ⟨_,h1,rfl⟩ e (fun z=>nomatch z) h
 | @tup a xs ea=>
  cases (show u=Value.ref a from rx)
  obtain ⟨_,_,_,p⟩:=(show qW X.prog X.w H s.heap a (.tup xs) from I.hok a _ ea);obtain ⟨o,h1,h2,_⟩:=p;exact PySem.W.kia_one PySem.W.kitx_tuple I.kIn ⟨o,h1,h2⟩ e (fun z=>nomatch z) h
 | @dK a kvs ea=>
  cases (show u=Value.ref a from rx)
  obtain ⟨_,_,vs,_,p⟩:=(show qW X.prog X.w H s.heap a (.dK kvs) from I.hok a _ ea);obtain ⟨o,es,ep,h1,h2,_⟩:=p;exact PySem.W.kia_one PySem.W.kitx_dict I.kIn ⟨o,h1,h2.1⟩ e (fun z=>nomatch z) h
 | @dT a kvs ea=>
  cases (show u=Value.ref a from rx)
  obtain ⟨_,_,xs,_,o,es,ep,h1,h2,_⟩:=(show qW X.prog X.w H s.heap a (.dT kvs) from I.hok a _ ea);exact PySem.W.kia_one PySem.W.kitx_dict I.kIn ⟨o,h1,h2.1⟩ e (fun z=>nomatch z) h
 | @ins a C dx fs ea cl ha hn htk hm=>
  cases (show u=Value.ref a from rx)
  obtain ⟨mA,O,_⟩:=QX I.hok ea;obtain ⟨od,J,_⟩:=O.look;exact PySem.W.kia_one (PySem.W.kitx_own (cl.get _) cl.hd ha hn htk hm) I.kIn J e (fun z=>nomatch z) h
end
end L2
namespace L2
open PySem PySem.Spec PyProof.Rows
structure Room (k:Nat) (A:Around):Prop where
 hd:A.handled=none
 dp:A.depth+3 * k+5 < recursionLimit
 un:A.units+16 * k+200 < cLine
theorem Room.deeper {k:Nat} {A:Around} (r:Room (k+1) A) (env:Env):Room k (A.deeper env):=
 ⟨r.hd,by have:=r.dp;show A.depth+1+3 * k+5 < _;omega,by have:=r.un;show A.units+3+16 * k+200 < _;omega⟩
theorem qcs {A:Around} {C:Addr} {us:List Value} {kw:List (Str×Value)}:(A.under (.builtin "type.__call__" ⟨.ref C::us,kw⟩)).depth=A.depth+1:=by first | rfl | simp [Around.under,Code.weight,Code.isCreation,Code.isGuard,Code.isCaller,Code.frames,Code.isFrame,guardIds]
theorem qct {A:Around} {C:Addr} {us:List Value} {kw:List (Str×Value)}:(A.under (.builtin "type.__call__" ⟨.ref C::us,kw⟩)).units=A.units+1:=by first | rfl | simp [Around.under,Code.cUnits,Code.frames,Code.isFrame]
theorem Room.make {k:Nat} {A:Around} (r:Room (k+1) A) (C:Addr) (us:List Value) (kw:List (Str×Value)):Room k (A.under (.builtin "type.__call__" ⟨.ref C::us,kw⟩)):=
 ⟨r.hd,by have:=r.dp;rw [qcs];omega,by have:=r.un;rw [qct];omega⟩
theorem Room.depth {k:Nat} {A:Around} (r:Room k A):A.depth < recursionLimit:=by have:=r.dp;omega
def qfa:TA:=fun _ H Q=>Q [] H
def qcu (ta:TE) (tr:TA):TA:=fun σ H Q=>ta σ H fun x H1=>tr σ H1 fun xs H2=>Q (x::xs) H2
section
variable {X:Cx} {e:Expr} {es:List Expr} {te:TE} {t:TA} {pos:Pos}
theorem qw:PA X [] qfa:=fun _ _ _ _ H Q I h=>Calls.spliced_nil ⟨[],H,I,.nil,h⟩
theorem qg (ha:PE X e te) (hr:PA X es t) (hs:starEach (e::es) X.env=(false,eval e X.env)::starEach es X.env:=by rfl):PA X (e::es) (qcu te t):=by intro pos pins s σ H Q I h;rw [hs];show wpAny _ _ (spliced ((false,eval e X.env)::backTo pos (starEach es X.env))) _ _ s;refine Calls.spliced_cons (thn (ha pins s σ H _ I h) fun u s1 hq1=>?_);obtain ⟨x,H1,I1,r1,q1⟩:=hq1;exact thn (hr pos pins s1 σ H1 _ I1 q1) fun us s2 ⟨xs,H2,I2,r2,q2⟩=>⟨x::xs,H2,I2,.cons r1 r2,q2⟩
noncomputable def qn1 (t:TA):TE:=fun σ H Q=>t σ H fun xs H1=>xs.length<=sizeLine/\∀ p,H1 p=none->Q (.ref p) (upd H1 p (.tup xs))
noncomputable def qn2 (t:TA):TE:=fun σ H Q=>t σ H fun xs H1=>xs.length<=sizeLine/\∀ p,H1 p=none->Q (.ref p) (upd H1 p (.lst xs))
theorem qjI {x1} (h:PA X es t):PE X (.Tuple es x1 pos) (qn1 t):=by intro pins s σ H Q I hq;refine wpAny_Tuple_spliced (thn (h pos pins s σ H _ I hq) fun us s1 ⟨xs,H1,I1,r,z,q⟩=>⟨by rw [<-r.length];exact z,?_⟩);have hf:H1 s1.heap.objs.size=none:=I1.hok.fresh (Nat.le_refl _);refine ⟨.ref s1.heap.objs.size,upd H1 s1.heap.objs.size (.tup xs),I1.laid (t':=s1.toks) (fun b u e=>Heap.get?_push_of_some _ e) (Nat.le_refl _) ?_,rfl,q _ hf⟩;exact ⟨z,us,r,⟨_,Heap.get?_push_size _ rfl,rfl,_,rfl⟩⟩
theorem qjJ (h:PA X es t):PE X (.List es pos) (qn2 t):=by intro pins s σ H Q I hq;refine wpAny_List_spliced (thn (h pos pins s σ H _ I hq) fun us s1 ⟨xs,H1,I1,r,z,q⟩=>⟨by rw [<-r.length];exact z,?_⟩);have hf:H1 s1.heap.objs.size=none:=I1.hok.fresh (Nat.le_refl _);refine ⟨.ref s1.heap.objs.size,upd H1 s1.heap.objs.size (.lst xs),I1.laid (t':=s1.toks) (fun b u e=>Heap.get?_push_of_some _ e) (Nat.le_refl _) ?_,rfl,q _ hf⟩;exact ⟨z,us,0,r,Heap.get?_push_size _ rfl⟩
end
abbrev Sp:=List V->Hp->VK->XK->Prop
abbrev CXT:=List Env->Hp->Shared->XK->Value->Shared->Prop
structure Env0 (P:Program) (w:World) (K:Frag) (mg:PR) (base:Heap) (A:Around) (outer:List Env) (s:Shared) (H:Hp):Prop where
 frames:A.frames=some outer
 mod:Mod K mg base
 bs:∀ b o,base.get? b=some o->s.heap.get? b=some o/\H b=none
 bsz:base.objs.size<=s.heap.objs.size
 funs:s.heap.FunFrames base outer
 frf:∀ b∈frs outer,H b=none
 hok:HOk P w H s.heap
 bare:AllBare s.gens
noncomputable def CE (outer:List Env) (P:Program) (w:World) (H:Hp) (s:Shared) (Q:VK) (u:Value) (s':Shared):Prop:=
 ∃ v H',s'.os=s.os/\AllBare s'.gens/\Un (frs outer) [] H H' s.heap s'.heap/\HOk P w H' s'.heap/\qN v u/\Q v H'
noncomputable def CR (CX:CXT) (outer:List Env) (P:Program) (w:World) (H:Hp) (s:Shared) (Q:VK) (E:XK) (r:Result) (s':Shared):Prop:=
 match r with
 | .ok (.ret u)=>CE outer P w H s Q u s'
 | .ok _=>False
 | .error e=>CX outer H s E e s'
structure FnOk (P:Program) (w:World) (K:Frag) (mg:PR) (base:Heap) (CX:CXT) (k:Nat) (f:Addr) (fd:FuncData) (ps:List Str) (sp:Sp):Prop where
 len:∀ vs H Q E,sp vs H Q E->vs.length=ps.length
 run:∀ (A:Around) (outer:List Env) (s:Shared) (H:Hp) (args:Args) (us:List Value) (vs:List V) (Q:VK) (E:XK),Room k A->Env0 P w K mg base A outer s H->BindsTo s fd args (ps.zip us)->qK vs us->sp vs H Q E->
  codeAny (model P w) A (.call (.ref f) args) (CR CX outer P w H s Q E) s
theorem Env0.make {P:Program} {w:World} {K:Frag} {mg:PR} {base:Heap} {A:Around} {outer:List Env} {s:Shared} {H:Hp} (e:Env0 P w K mg base A outer s H) (C:Addr) (us:List Value) (kw:List (Str×Value)) :
  Env0 P w K mg base (A.under (.builtin "type.__call__" ⟨.ref C::us,kw⟩)) outer s H:=⟨by first | exact e.frames | (simpa [Around.under,Code.envs,Code.isFrame,pushEnvs] using e.frames),e.mod,e.bs,e.bsz,e.funs,e.frf,e.hok,e.bare⟩
section
variable {X:Cx} {pins:PP} {σ:St} {H:Hp} {s s':Shared}
theorem Inv.env0 (I:Inv X pins σ H s):Env0 X.prog X.w X.K X.mg X.base X.A X.stack s H:=
 ⟨I.ok.frames,I.ok.mod,I.bs,Nat.le_trans I.ok.bsz I.sz,I.stack,I.stkFree,I.hok,I.bare⟩
theorem Inv.after {Q:VK} {u:Value} (I:Inv X pins σ H s) (h:CE X.stack X.prog X.w H s Q u s'):EP X pins σ Q u s':=by obtain ⟨v,H',os,bare,un,hok,r,q⟩:=h;obtain ⟨hh,g,d,t,os'⟩:=s';obtain rfl:os'=s.os:=os;exact ⟨v,H',I.call (h':=hh) (g':=g) (d':=d) (t':=t) (ch:=[]) un hok bare (fun b z=>absurd z (by simp)),r,q⟩
end
def qfb (sp:Sp) (dvs:List V) (E:XK) (t:TA):TE:=fun σ H Q=>t σ H fun vs H1=>sp (vs++dvs) H1 Q E
noncomputable def qfc (C:Addr) (m:Str) (sp:Sp) (dvs:List V) (E:XK) (ta:TE) (t:TA):TE:=fun σ H Q=>ta σ H fun x H1=>∃ a dx fs,x=.ref a/\H1 a=some (.ins C dx fs)/\fs.lookup m=none/\
 t σ H1 fun vs H2=>sp (x::(vs++dvs)) H2 Q E
noncomputable def qfd (C:Addr) (sp:Sp) (dvs:List V) (E:XK) (t:TA):TE:=fun σ H Q=>t σ H fun vs H1=>∀ x dx,H1 x=none->H1 dx=none->dx≠x->
 sp (.ref x::(vs++dvs)) (upd (upd H1 dx (.own x)) x (.ins C dx [])) (fun v H2=>v=.non/\Q (.ref x) H2) E
noncomputable def zx (K:Frag) (fd:FuncData) (ps:List Str) (ds:List Value):Prop:=
 ∀ (s:Shared) (us:List Value),K.In s.heap->(us++ds).length=ps.length->BindsTo s fd ⟨us,[]⟩ (ps.zip (us++ds))
theorem zx.all {K:Frag} {fd:FuncData} {ps:List Str} (h:∀ us:List Value,us.length=ps.length->bindArgs fd ⟨us,[]⟩=pure (ps.zip us)):zx K fd ps []:=fun s us _ hl=>by rw [List.append_nil] at hl ⊢;exact .of_eq (h us hl)
noncomputable def yD (CX:CXT) (X:Cx) (E:XK):Prop:=∀ (pins:PP) (σ:St) (H:Hp) (s:Shared) (e:Value) (s':Shared),Inv X pins σ H s->CX X.stack H s E e s'->X.xe e s'
section
variable {X:Cx} {CX:CXT} {k:Nat} {f C:Addr} {fd:FuncData} {ps:List Str} {sp:Sp} {dvs:List V} {ds:List Value} {E:XK} {x m:Str} {p pos apos:Pos} {e o:Expr} {es:List Expr} {ta:TE} {t:TA}
theorem ZO {pins:PP} {σ:St} {H:Hp} {s:Shared} {Q:VK} {us:List Value} {vs:List V} (F:FnOk X.prog X.w X.K X.mg X.base CX k f fd ps sp) (hr:Room k X.A) (hb:zx X.K fd ps ds) (hd:qK dvs ds) (hx:yD CX X E)
  (I:Inv X pins σ H s) (r:qK vs us) (h:sp (vs++dvs) H Q E):wpAny (model X.prog X.w) X.A (call (.ref f) us) (EP X pins σ Q) X.xe s:=by
 have r2:qK (vs++dvs) (us++ds):=r.append hd;have hl:(us++ds).length=ps.length:=by rw [<-r2.length];exact F.len _ _ _ _ h
 refine wpAny_call (codeAny_mono (F.run X.A X.stack s H ⟨us,[]⟩ (us++ds) (vs++dvs) Q E hr I.env0 (hb s us I.kIn hl) r2 h) fun r s' hq=>?_)
 cases r with
 | error e=>exact hx pins σ H s e s' I hq
 | ok fl=>
  cases fl with
  | ret u=>exact I.after hq
  | next=>exact False.elim hq
  | brk=>exact False.elim hq
  | cont=>exact False.elim hq
theorem yR (F:FnOk X.prog X.w X.K X.mg X.base CX k f fd ps sp) (hr:Room k X.A) (hg:Gl X x) (hm:X.mg x=some (.ref f)) (hk:PySem.W.keepIn X.K (.ref f)=true) (hb:zx X.K fd ps ds) (hd:qK dvs ds) (hx:yD CX X E)
  (ha:PA X (e::es) t) (hdb:(x == ("__debug__" : Str))=false:=by decide) (he:starEach (e::es) X.env=(false,eval e X.env)::starEach es X.env:=by rfl) (hpl:(backTo pos (starEach es X.env)).any (·.1)=false:=by rfl) :
  PE X (.Call (.Name x p) (e::es) [] pos) (qfb sp dvs E t):=by
 intro pins s σ H Q I h;refine wpAny_Call_Name_kw (JD I hg hm ?_ hdb);refine PySem.W.callWith_K (h₀:=X.base) I.ok.mod.kin hk (thn (ha pos pins s σ H _ I h) fun us s1 ⟨vs,H1,I1,r,q⟩=>⟨I1.kIn,?_⟩) he hpl;exact ZO F hr hb hd hx I1 r q
theorem qfe (F:FnOk X.prog X.w X.K X.mg X.base CX k f fd ps sp) (hr:Room k X.A) (hg:Gl X x) (hm:X.mg x=some (.ref f)) (hk:PySem.W.keepIn X.K (.ref f)=true) (hb:zx X.K fd ps ds) (hd:qK dvs ds) (hx:yD CX X E)
  (hdb:(x == ("__debug__" : Str))=false:=by decide):PE X (.Call (.Name x p) [] [] pos) (qfb sp dvs E qfa):=by
 intro pins s σ H Q I h;refine wpAny_Call_Name_kw (JD I hg hm ?_ hdb);exact PySem.W.callWith_K0 I.kIn hk (ZO (us:=[]) F hr hb hd hx I .nil h)
theorem qhx {pl:Sem Bool} (he:PE X o ta) (c:Cls X.K C) (hm:Meth X.K C m f) (F:FnOk X.prog X.w X.K X.mg X.base CX k f fd ps sp) (hr:Room k X.A) (hb:zx X.K fd ps ds) (hd:qK dvs ds) (hx:yD CX X E) (ha:PA X (e::es) t)
  (hst:starEach (e::es) X.env=(false,eval e X.env)::starEach es X.env:=by rfl) (hpl:(backTo pos (starEach es X.env)).any (·.1)=false:=by rfl)
  (ht:eval (.Call (.Attribute o m apos) (e::es) [] pos) X.env=(do
   let ov<-eval o X.env
   standAt apos.atName
   let (f,first)<-holding [ov] (getMethod ov m pl)
   callWith pos f first (backTo pos (starEach (e::es) X.env)) (backToKw pos (keywordEach [] X.env))):=by rfl) :
  PE X (.Call (.Attribute o m apos) (e::es) [] pos) (qfc C m sp dvs E ta t):=by
 intro pins s σ H Q I h;refine PySem.W.methodCall_KW (pl:=pl) (thn (he pins s σ H _ I h) fun u s1 ⟨x,H1,I1,rx,a,dx,fs,ex,ea,l,q⟩=>?_) ht;subst ex;obtain rfl:u=Value.ref a:=rx;refine Qr I1 ea c hm l ?_;refine PySem.W.callWith_K (first:=[.ref a]) (h₀:=X.base) I.ok.mod.kin hm.kp (thn (ha pos pins s1 σ H1 _ I1 q) fun us s2 ⟨vs,H2,I2,r,q2⟩=>⟨I2.kIn,?_⟩) hst hpl;exact ZO (us:=.ref a::us) (vs:=.ref a::vs) F hr hb hd hx I2 (.cons rfl r) q2
theorem qff {pl:Sem Bool} (he:PE X o ta) (c:Cls X.K C) (hm:Meth X.K C m f) (F:FnOk X.prog X.w X.K X.mg X.base CX k f fd ps sp) (hr:Room k X.A) (hb:zx X.K fd ps ds) (hd:qK dvs ds) (hx:yD CX X E)
  (ht:eval (.Call (.Attribute o m apos) [] [] pos) X.env=(do
   let ov<-eval o X.env
   standAt apos.atName
   let (f,first)<-holding [ov] (getMethod ov m pl)
   callWith pos f first (backTo pos (starEach [] X.env)) (backToKw pos (keywordEach [] X.env))):=by rfl) :
  PE X (.Call (.Attribute o m apos) [] [] pos) (qfc C m sp dvs E ta qfa):=by
 intro pins s σ H Q I h;refine PySem.W.methodCall_KW (pl:=pl) (thn (he pins s σ H _ I h) fun u s1 ⟨x,H1,I1,rx,a,dx,fs,ex,ea,l,q⟩=>?_) ht;subst ex;obtain rfl:u=Value.ref a:=rx;refine Qr I1 ea c hm l ?_;exact PySem.W.callWith_K0 (first:=[.ref a]) I1.kIn hm.kp (ZO (us:=[.ref a]) (vs:=[.ref a]) F hr hb hd hx I1 %[rfl|0] q)
structure Mk (K:Frag) (C f:Addr):Prop where
 makes:PySem.W.makesIn K C=true
 init:PySem.W.findIn K (.ref C) "__init__" = some (some (.ref f))
 fn:PySem.W.isFn K (.ref f)=true
 kp:PySem.W.keepIn K (.ref C)=true
theorem qbA {pins:PP} {σ:St} {H:Hp} {s:Shared} {Q:VK} {us:List Value} {vs:List V} (M:Mk X.K C f) (F:FnOk X.prog X.w X.K X.mg X.base CX k f fd ps sp) (hr:Room (k+1) X.A) (hb:zx X.K fd ps ds) (hd:qK dvs ds)
  (hx:yD CX X E) (I:Inv X pins σ H s) (r:qK vs us)
  (h:∀ x dx,H x=none->H dx=none->dx≠x->sp (.ref x::(vs++dvs)) (upd (upd H dx (.own x)) x (.ins C dx [])) (fun v H2=>v=.non/\Q (.ref x) H2) E) :
  wpAny (model X.prog X.w) X.A (call (.ref C) us) (EP X pins σ Q) X.xe s:=by
 have hq:=h (s.heap.objs.size+1) s.heap.objs.size (I.hok.fresh (Nat.le_succ _)) (I.hok.fresh (Nat.le_refl _)) (Nat.ne_of_lt (Nat.lt_succ_self _));have I2:=Inv.made (C:=C) I;have r2:qK (V.ref (s.heap.objs.size+1)::(vs++dvs)) (Value.ref (s.heap.objs.size+1)::(us++ds)):=.cons rfl (r.append hd)
 have hl:(Value.ref (s.heap.objs.size+1)::us++ds).length=ps.length:=by have e:=r2.length;rw [F.len _ _ _ _ hq] at e;exact e.symm
 refine wpAny_call (qe9 (f:=f) I.kIn M.makes M.init (beq_iff_eq.mp M.fn) (codeAny_mono (F.run _ X.stack _ _ ⟨Value.ref (s.heap.objs.size+1)::us,[]⟩ (Value.ref (s.heap.objs.size+1)::(us++ds)) _ _ E (hr.make C us [])
  (I2.env0.make C us []) (hb _ (Value.ref (s.heap.objs.size+1)::us) I2.kIn hl) r2 hq) fun r s' hq'=>?_))
 cases r with
 | error e=>exact hx pins σ _ _ e s' I2 hq'
 | ok fl=>
  cases fl with
  | ret u=>obtain ⟨v,H',I3,rv,ev,q3⟩:=I2.after hq';subst ev;exact ⟨rv,⟨V.ref (s.heap.objs.size+1),H',I3,rfl,q3⟩⟩
  | next=>exact False.elim hq'
  | brk=>exact False.elim hq'
  | cont=>exact False.elim hq'
theorem qhy (M:Mk X.K C f) (F:FnOk X.prog X.w X.K X.mg X.base CX k f fd ps sp) (hr:Room (k+1) X.A) (hg:Gl X x) (hm:X.mg x=some (.ref C)) (hb:zx X.K fd ps ds) (hd:qK dvs ds) (hx:yD CX X E)
  (ha:PA X (e::es) t) (hdb:(x == ("__debug__" : Str))=false:=by decide) (he:starEach (e::es) X.env=(false,eval e X.env)::starEach es X.env:=by rfl) (hpl:(backTo pos (starEach es X.env)).any (·.1)=false:=by rfl) :
  PE X (.Call (.Name x p) (e::es) [] pos) (qfd C sp dvs E t):=by
 intro pins s σ H Q I h;refine wpAny_Call_Name_kw (JD I hg hm ?_ hdb);refine PySem.W.callWith_K (h₀:=X.base) I.ok.mod.kin M.kp (thn (ha pos pins s σ H _ I h) fun us s1 ⟨vs,H1,I1,r,q⟩=>⟨I1.kIn,?_⟩) he hpl;exact qbA M F hr hb hd hx I1 r q
theorem qfg (M:Mk X.K C f) (F:FnOk X.prog X.w X.K X.mg X.base CX k f fd ps sp) (hr:Room (k+1) X.A) (hg:Gl X x) (hm:X.mg x=some (.ref C)) (hb:zx X.K fd ps ds) (hd:qK dvs ds) (hx:yD CX X E)
  (hdb:(x == ("__debug__" : Str))=false:=by decide):PE X (.Call (.Name x p) [] [] pos) (qfd C sp dvs E qfa):=by
 intro pins s σ H Q I h;refine wpAny_Call_Name_kw (JD I hg hm ?_ hdb);exact PySem.W.callWith_K0 I.kIn M.kp (qbA (us:=[]) M F hr hb hd hx I .nil h)
end
structure FnScope (N P:List Str) (sc:Scope):Prop where
 kind:sc.kind=.function
 co:sc.isCoroutine=false
 gen:sc.isGenerator=false
 nd:N.Nodup
 pre:N.take P.length=P
 par:∀ x∈P,sc.names.lookup x=some .local\/sc.names.lookup x=some .cell
 nofree:∀ y∈sc.names,y.2≠.free
theorem ZQ {kindOf:Str->Option NameKind} {x:Str}:∀ {binds:List (Str×Value)} {m:PR},(∀ v,(x,v)∉binds)->bindL kindOf binds m x=m x
 | [],_,_=>rfl
 | (n,v)::r,m,h=>by
  unfold bindL;rw [ZQ fun w hw=>h w (List.mem_cons_of_mem _ hw)];split
  ·have:x≠n:=by rintro rfl;exact h v List.mem_cons_self
   simp [this]
  ·rfl
theorem ZU {kindOf:Str->Option NameKind} {x:Str}:∀ {binds:List (Str×Value)} {m:PR},(∀ v,(x,v)∉binds)->bindC kindOf binds m x=m x
 | [],_,_=>rfl
 | (n,v)::r,m,h=>by
  unfold bindC;rw [ZU fun w hw=>h w (List.mem_cons_of_mem _ hw)];split
  ·rfl
  ·have:x≠n:=by rintro rfl;exact h v List.mem_cons_self
   simp [this]
theorem ZV {kindOf:Str->Option NameKind} {x:Str} {v:Value}:∀ {P:List Str} {vs:List Value} {i:Nat} {m:PR},P.Nodup->P[i]?=some x->vs[i]?=some v->kindOf x=some .local->
  bindL kindOf (P.zip vs) m x=some v
 | [],_,_,_,_,h,_,_=>by simp at h
 | _::_,[],_,_,_,_,h,_=>by simp at h
 | p::P,w::vs,0,m,nd,h1,h2,hk=>by simp at h1 h2;subst h1;subst h2;show bindL kindOf ((p,w)::P.zip vs) m p=_;unfold bindL;rw [ZQ fun v hv=>(List.nodup_cons.mp nd).1 (List.of_mem_zip hv).1,if_pos hk];simp
 | p::P,w::vs,i+1,m,nd,h1,h2,hk=>by show bindL kindOf ((p,w)::P.zip vs) m x=_;unfold bindL;exact ZV (i:=i) (List.nodup_cons.mp nd).2 (by simpa using h1) (by simpa using h2) hk
theorem ZX {kindOf:Str->Option NameKind} {x:Str} {v:Value}:∀ {P:List Str} {vs:List Value} {i:Nat} {m:PR},P.Nodup->P[i]?=some x->vs[i]?=some v->kindOf x≠some .local->
  bindC kindOf (P.zip vs) m x=some v
 | [],_,_,_,_,h,_,_=>by simp at h
 | _::_,[],_,_,_,_,h,_=>by simp at h
 | p::P,w::vs,0,m,nd,h1,h2,hk=>by simp at h1 h2;subst h1;subst h2;show bindC kindOf ((p,w)::P.zip vs) m p=_;unfold bindC;rw [ZU fun v hv=>(List.nodup_cons.mp nd).1 (List.of_mem_zip hv).1,if_neg hk];simp
 | p::P,w::vs,i+1,m,nd,h1,h2,hk=>by show bindC kindOf ((p,w)::P.zip vs) m x=_;unfold bindC;exact ZX (i:=i) (List.nodup_cons.mp nd).2 (by simpa using h1) (by simpa using h2) hk
def Yy (N:List Str) (vs:List V):St:=vs.map some++List.replicate (N.length - vs.length) none
noncomputable def qhz (CX:CXT) (P:Program) (w:World) (K:Frag) (mg:PR) (base:Heap) (N:List Str) (qual:Str) (scope:Scope) (f:Addr) (cd:Value) (A:Around) (outer:List Env) (s:Shared) (H:Hp) (E:XK):Cx where
 prog:=P
 w:=w
 K:=K
 mg:=mg
 base:=base
 A:=A.deeper (envOfC qual scope s.heap.objs.size f cd)
 N:=N
 s₀:=s
 H₀:=H
 env:=envOfC qual scope s.heap.objs.size f cd
 outer:=outer
 stack:=envOfC qual scope s.heap.objs.size f cd::outer
 ex:=[]
 calm:=true
 fn:=fun _=>true
 pn:=[]
 xe:=fun e s'=>wpAny (model P w) (A.deeper (envOfC qual scope s.heap.objs.size f cd)) (leaving (envOfC qual scope s.heap.objs.size f cd) e) (fun _ s''=>CX outer H s E e s'') (fun e' s''=>CX outer H s E e' s'') s'
theorem qbB {sc:Scope} {n:Nat} {x:Str} (h:sc.names.lookup x=some .cell):∃ c,(cellsFrom n sc.names []).lookup x=some c:=by have q:=PySem.W.cellsFrom_some sc.names n [] (.inl h);exact Option.isSome_iff_exists.mp q
theorem qdm {CX:CXT} {P:Program} {w:World} {K:Frag} {mg:PR} {base:Heap} {N ps:List Str} {qual:Str} {scope:Scope} {f:Addr} {cd:Value} {A:Around} {outer:List Env} {s s1:Shared} {H:Hp} {E:XK} {us:List Value} {vs:List V}
  (S:FnScope N ps scope) (hd:A.handled=none) (e0:Env0 P w K mg base A outer s H) (hl:vs.length=ps.length) (r:qK vs us)
  (x:InCallC s s.heap.objs.size (bindL (envOfC qual scope s.heap.objs.size f cd).kindOf (ps.zip us) fun _=>none) (cellsFrom (s.heap.objs.size+1) scope.names []) (bindC (envOfC qual scope s.heap.objs.size f cd).kindOf (ps.zip us) fun _=>none) s1) :
  Inv (qhz CX P w K mg base N qual scope f cd A outer s H E) [] (Yy N vs) H s1:=by
 have hpl:ps.length<=N.length:=by have:=congrArg List.length S.pre;rw [List.length_take] at this;omega
 obtain ⟨h1,tk,rfl,hk⟩:=x.done;have noA:∀ b:Addr,b∉(qhz CX P w K mg base N qual scope f cd A outer s H E).ex:=fun b z=>absurd (show b∈([]:List Addr) from z) (by simp)
 refine ⟨⟨e0.mod,S.kind,rfl,rfl,Nat.le_refl _,fun y z c h1 h2=>?_,fun y hy=>?_,fun y c _ h=>?_,fun _=>hd,Around.frames_deeper e0.frames,.inr ⟨rfl,rfl⟩,fun b z=>absurd z (noA b),e0.bs,e0.bsz,fun b _ _=>noA b,fun b z=>absurd z (noA b),e0.funs,e0.frf⟩,
  rfl,e0.bare,Un.kept hk,⟨_,x.toInCall.ns,fun i y v h1 h2 h3=>?_⟩,fun y c h=>⟨_,x.cell y c h⟩,e0.hok.fresh (Nat.le_refl _),fun y c h=>?_,fun p hp=>absurd (show p∈([]:PP) from hp) (by simp),e0.hok.kept hk,?_⟩
 ·exact name_of_addr x.apart (PySem.mem_of_lookup h1) (PySem.mem_of_lookup h2)
 ·have hy:scope.names.lookup y=some .cell\/scope.names.lookup y=some .free:=hy;rcases hy with hy | hy
  ·exact qbB hy
  ·exact absurd rfl (S.nofree _ (PySem.mem_of_lookup hy))
 ·exact Nat.le_of_lt (x.above y c (PySem.mem_of_lookup h))
 ·have hi:i < vs.length:=by
   unfold Yy at h2
   by_cases hi:i < vs.length
   ·exact hi
   ·rw [List.getElem?_append_right (by simpa using hi)] at h2;rw [List.getElem?_replicate] at h2
    split at h2<;>cases h2
  have ha:vs[i]?=some v:=by
   unfold Yy at h2;rw [List.getElem?_append_left (by simpa using hi),List.getElem?_map] at h2
   cases e:vs[i]? with
   | none=>rw [e] at h2;cases h2
   | some a=>rw [e] at h2;cases h2;rfl
  obtain ⟨u,hu,rv⟩:=r.get ha
  have hp:ps[i]?=some y:=by rw [<-S.pre,List.getElem?_take_of_lt (1:)];exact h1
  have ndP:ps.Nodup:=by rw [<-S.pre];exact S.nd.sublist (List.take_sublist _ _)
  refine ⟨u,rv,?_⟩;rcases S.par y (List.mem_of_getElem? hp) with k | k
  ·exact .inl ⟨k,ZV ndP hp hu k⟩
  ·obtain ⟨c,e⟩:=qbB (n:=s.heap.objs.size+1) k;refine .inr ⟨.inl k,c,e,?_⟩;have q:=x.cell y c e;rw [ZX ndP hp hu (by show scope.names.lookup y≠_;rw [k];decide)] at q;exact q
 ·exact e0.hok.fresh (Nat.le_of_lt (x.above y c (PySem.mem_of_lookup h)))
 ·unfold Yy;show _=N.length;rw [List.length_append,List.length_map,List.length_replicate];omega
theorem qmA {CX:CXT} {P:Program} {w:World} {K:Frag} {mg:PR} {base:Heap} {k:Nat} {f:Addr} {name qual:Str} {params:Arguments} {body:List Stmt} {scope:Scope} {dV kV doc pm cdv ct oc:Value} {an od:Option Addr}
  {osl:Array (Option Value)} {N ps:List Str} {sp:Sp} (lk:K.lookup f=some ⟨oc,od,.func (PySem.W.fnOf name qual params body scope dV kV doc pm an cdv ct),osl⟩) (hcd:PySem.W.codeIn K cdv qual=true) (S:FnScope N ps scope)
  (len:∀ vs H Q E,sp vs H Q E->vs.length=ps.length)
  (hbody:∀ (A:Around) (outer:List Env) (s:Shared) (H:Hp) (vs:List V) (Q:VK) (E:XK),Room k (A.deeper (envOfC qual scope s.heap.objs.size f cdv))->sp vs H Q E->
   ∃ t,PSs (qhz CX P w K mg base N qual scope f cdv A outer s H E) body t/\t { nx:=fun _ H'=>Q .non H',rt:=Q } (Yy N vs) H) :
  FnOk P w K mg base CX (k+1) f (PySem.W.fnOf name qual params body scope dV kV doc pm an cdv ct) ps sp:=by
 refine ⟨len,fun A outer s H args us vs Q E hr e0 hb r hsp=>?_⟩;have hl:=len _ _ _ _ hsp;have KX:K.In s.heap:=e0.mod.kin.keeps fun b o e=>(e0.bs b o e).1;have lim:s.heap.NoLimit:=e0.mod.nolimit.keeps fun b o e=>(e0.bs b o e).1
 have hkind:∀ y∈ps.zip us,scope.names.lookup y.1=some .local\/(scope.names.lookup y.1=some .cell/\((cellsFrom (s.heap.objs.size+1) scope.names []).lookup y.1).isSome=true):=fun ⟨n,v⟩ hy=>by
  rcases S.par n (List.of_mem_zip hy).1 with q | q
  ·exact .inl q
  ·exact .inr ⟨q,PySem.W.cellsFrom_some _ _ _ (.inl q)⟩
 refine codeAny_call_function hr.depth (KX _ _ lk) rfl S.co S.gen rfl (PySem.W.codeRec_of KX hcd) (hb _ _ _ _ ?_);refine wpAny_newFunctionEnv_cells S.kind hkind fun env he s1 x=>?_;subst he;refine ⟨lim.keeps x.toInCall.keep,codeAny_func ?_⟩;obtain ⟨t,ht,hq⟩:=hbody A outer s H vs Q E (hr.deeper _) hsp;have I:Inv (qhz CX P w K mg base N qual scope f cdv A outer s H E) [] (Yy N vs) H s1:=qdm S hr.hd e0 hl r x;refine wpAny_mono (ht [] s1 (Yy N vs) H _ I hq) (fun fl s' hs=>?_) fun e s' hs=>hs
 have fin:∀ {σ':St} {H':Hp} {v:V} {u:Value},Inv (qhz CX P w K mg base N qual scope f cdv A outer s H E) [] σ' H' s'->qN v u->Q v H'->CE outer P w H s Q u s':=
  fun {σ' H' v u} J rv q=>⟨v,H',J.os,J.bare,J.base,J.hok,rv,q⟩
 cases fl with
 | ret u=>obtain ⟨v,σ',H',J,rv,q⟩:=hs;exact fin J rv q
 | next=>obtain ⟨σ',H',J,q⟩:=hs;exact fin (v:=V.non) (u:=Value.none) J rfl q
 | brk=>obtain ⟨_,_,_,q⟩:=hs;exact False.elim q
 | cont=>obtain ⟨_,_,_,q⟩:=hs;exact False.elim q
end L2
namespace L2
open PySem PySem.Spec PyProof.Rows
section
variable {X:Cx} {x:Str} {p pos:Pos} {e:Expr} {es:List Expr} {t:TA} {id T:String} {r:List V->Hp->VK->Prop}
def tCB (r:List V->Hp->VK->Prop) (t:TA):TE:=fun σ H Q=>t σ H fun vs H1=>r vs H1 Q
theorem zz (hc:zw X (.builtin id) r) (hg:Gl X x) (hm:X.mg x=none) (hv:bootBuiltins x=some (.builtin id)) (ha:PA X (e::es) t) (hn:x≠"__name__":=by decide) (hdb:(x == ("__debug__" : Str))=false:=by decide)
  (he:starEach (e::es) X.env=(false,eval e X.env)::starEach es X.env:=by rfl) (hpl:(backTo pos (starEach es X.env)).any (·.1)=false:=by rfl):PE X (.Call (.Name x p) (e::es) [] pos) (tCB r t):=by
 intro pins s σ H Q I h;refine wpAny_Call_Name_kw (JU I hg hm hv ?_ hn hdb);exact PyProof.Rows.callWith_builtin1 (thn (ha pos pins s σ H _ I h) fun us s1 ⟨vs,H1,I1,r1,q1⟩=>hc pins s1 σ H1 vs us Q I1 r1 q1) he hpl
theorem zH (hc:zw X (.type T) r) (hg:Gl X x) (hm:X.mg x=none) (hv:bootBuiltins x=some (.type T)) (ha:PA X (e::es) t) (hn:x≠"__name__":=by decide) (hdb:(x == ("__debug__" : Str))=false:=by decide)
  (he:starEach (e::es) X.env=(false,eval e X.env)::starEach es X.env:=by rfl) (hpl:(backTo pos (starEach es X.env)).any (·.1)=false:=by rfl):PE X (.Call (.Name x p) (e::es) [] pos) (tCB r t):=by
 intro pins s σ H Q I h;refine wpAny_Call_Name_kw (JU I hg hm hv ?_ hn hdb);exact PyProof.Rows.callWith_type1 (thn (ha pos pins s σ H _ I h) fun us s1 ⟨vs,H1,I1,r1,q1⟩=>hc pins s1 σ H1 vs us Q I1 r1 q1) he hpl
end
end L2
namespace HT
open PySem PyProof.Rows
section
variable {prog:Program} {w:World} {A:Around} {E:PQ} {s:Shared}
noncomputable def sIx (n d:Nat):Option Int->Nat
 | none=>d
 | some v=>if v < 0 then (v+(n:Int)).toNat else min v.toNat n
theorem QY (n d:Nat):sIx n d none=d:=rfl
theorem Yz (n d k:Nat):sIx n d (some (k:Int))=min k n:=by show (if (k:Int) < 0 then ((k:Int)+(n:Int)).toNat else min (k:Int).toNat n)=min k n;rw [if_neg (1:),Int.toNat_natCast]
end
end HT
namespace L2
open PySem PySem.Spec PyProof.Rows
abbrev TO:=St->Hp->(Option Int->Hp->Prop)->Prop
noncomputable def PO (X:Cx) (e:Option Expr) (t:TO):Prop:=
 ∀ (pins:PP) (s:Shared) (σ:St) (H:Hp) (Q:Option Int->Hp->Prop),Inv X pins σ H s->t σ H Q->
  wpAny (model X.prog X.w) X.A (evalPart e X.env) (fun u s'=>∃ o H',Inv X pins σ H' s'/\IsPart u o/\Q o H') X.xe s
def qhA:TO:=fun _ H Q=>Q none H
def qmB (t:TE):TO:=fun σ H Q=>t σ H fun x H1=>∃ i,x=.int i/\Q (some i) H1
section
variable {X:Cx} {e:Expr} {te:TE} {lo hi:Option Expr} {tl th:TO} {pos p2:Pos}
theorem qhB:PO X none qhA:=by intro pins s σ H Q I h;rw [evalPart_none];exact wpAny_pure ⟨none,H,I,.none,h⟩
theorem qhC (h:PE X e te):PO X (some e) (qmB te):=by intro pins s σ H Q I hw;rw [evalPart_some];refine thn (h pins s σ H _ I hw) fun u s1 hq1=>?_;obtain ⟨x,H1,I1,r1,q1⟩:=hq1;obtain ⟨i,rfl,q⟩:=q1;obtain ⟨t,rfl⟩:=r1;exact ⟨some i,H1,I1,.int i t,q⟩
noncomputable def SlR (X:Cx) (r:V->Option Int->Option Int->Hp->VK->Prop):Prop:=
 ∀ (pins:PP) (s:Shared) (σ:St) (H:Hp) (x:V) (v vl vu:Value) (lo hi:Option Int) (sl:Addr) (Q:VK),Inv X pins σ H s->qN x v->s.heap.IsSliceOf sl vl vu .none->IsPart vl lo->IsPart vu hi->r x lo hi H Q->
  ∃ T id,typeLookup (.type T) "__getitem__" = pure (some (.builtin id))/\s.TypeIs v T/\wpAny (model X.prog X.w) X.A (getItem v (.ref sl)) (EP X pins σ Q) X.xe s
noncomputable def tSl (r:V->Option Int->Option Int->Hp->VK->Prop) (te:TE) (tl th:TO):TE:=fun σ H Q=>te σ H fun x H1=>tl σ H1 fun l H2=>th σ H2 fun u H3=>r x l u H3 Q
theorem qfh {r:V->Option Int->Option Int->Hp->VK->Prop} (hr:SlR X r) (he:PE X e te) (hl:PO X lo tl) (hu:PO X hi th):PE X (.Subscript e (.Slice lo hi none p2) pos) (tSl r te tl th):=by intro pins s σ H Q I h;refine Subscript_ (thn (he pins s σ H _ I h) fun v s1 hq1=>?_);obtain ⟨x,H1,I1,r1,q1⟩:=hq1;refine wpAny_Slice (thn (hl pins s1 σ H1 _ I1 q1) fun vl s2 ⟨l,H2,I2,pl,q2⟩=>thn (hu pins s2 σ H2 _ I2 q2) fun vu s3 hq1=>?_);obtain ⟨u,H3,I3,pu,q3⟩:=hq1;rw [evalPart_none];refine wpAny_pure ?_;have I4:Inv X pins σ H3 { s3 with heap:=s3.heap.push { cls:=.type "slice",data:=.fields #[vl,vu,.none] } }:=I3.kept (t':=s3.toks) fun b ob q=>Heap.get?_push_of_some _ q;obtain ⟨T,id,hT,ht,hg⟩:=hr pins { s3 with heap:=s3.heap.push { cls:=.type "slice",data:=.fields #[vl,vu,.none] } } σ H3 x v vl vu l u s3.heap.objs.size Q I4 r1 (Heap.IsSliceOf.new ..) pl pu q3;show wpAny (model X.prog X.w) X.A (subscriptTail e (.Slice lo hi none p2) v (.ref s3.heap.objs.size)) (EP X pins σ Q) X.xe { s3 with heap:=s3.heap.push { cls:=.type "slice",data:=.fields #[vl,vu,.none] } };exact tail_any (ops:=[.ref s3.heap.objs.size,v]) ht hT hg (by with_unfolding_all rfl)
noncomputable def qjb (xs:List V) (lo hi:Option Int):List V:=(xs.drop (HT.sIx xs.length 0 lo)).take (HT.sIx xs.length xs.length hi - HT.sIx xs.length 0 lo)
theorem qa2 (xs:List V) (lo hi:Option Int):(qjb xs lo hi).length<=xs.length:=by unfold qjb;rw [List.length_take,List.length_drop];omega
end
end L2
namespace L2
open PySem PySem.Spec PyProof.Rows
noncomputable def ixN (n:Nat) (i:Int):Option Nat:=if 0<=i then (if i < n then some i.toNat else none) else if -(n:Int)<=i then some (i+n).toNat else none
def atI {α:Type} (xs:List α) (i:Int):Option α:=(ixN xs.length i).bind fun j=>xs[j]?
theorem qdn {n:Nat} {i:Int} {j:Nat} (h:ixN n i=some j):seqIndex? i n=some j/\j < n/\-(n:Int)<=i/\i < n:=by
 unfold ixN at h
 by_cases h0:0<=i
 ·rw [if_pos h0] at h
  by_cases h1:i < n
  ·rw [if_pos h1] at h;have e:i.toNat=j:=Option.some.inj h;exact ⟨by rw [seqIndex_of h0 h1,e],by omega,by omega,h1⟩
  ·rw [if_neg h1] at h;cases h
 ·rw [if_neg h0] at h
  by_cases h1:-(n:Int)<=i
  ·rw [if_pos h1] at h;have e:(i+n).toNat=j:=Option.some.inj h;exact ⟨by rw [seqIndex_neg (1:) h1,e],by omega,h1,by omega⟩
  ·rw [if_neg h1] at h;cases h
theorem qa3 {α:Type} {xs:List α} {i:Int} {v:α} (h:atI xs i=some v):∃ j,seqIndex? i xs.length=some j/\xs[j]?=some v/\j < xs.length/\-(xs.length:Int)<=i/\i < xs.length:=by
 unfold atI at h
 cases e:ixN xs.length i with
 | none=>rw [e] at h;cases h
 | some j=>rw [e] at h;obtain ⟨h1,h2,h3,h4⟩:=qdn e;exact ⟨j,h1,h,h2,h3,h4⟩
theorem qfi {α:Type} (xs:List α) (v:α):atI (xs++[v]) (-1)=some v:=by
 have hl:(xs++[v]).length=xs.length+1:=by simp
 have e:ixN (xs++[v]).length (-1)=some xs.length:=by
  unfold ixN;rw [hl,if_neg (2:),if_pos (1:)]
  congr 1
  omega
 unfold atI;rw [e];show (xs++[v])[xs.length]?=some v;simp
def qdo (b:Expr):Prop:=∀ o i,subscripted b false o i=operate [o,i] (getItem o i)
noncomputable def IxR (X:Cx) (r:R2):Prop:=
 ∀ (value slice:Expr) (pins:PP) (s:Shared) (σ:St) (H:Hp) (x y:V) (v u:Value) (Q:VK),Inv X pins σ H s->qN x v->qN y u->r x y H Q->
  subscripted slice false v u=operate [v,u] (getItem v u)->wpAny (model X.prog X.w) X.A (subscriptTail value slice v u) (EP X pins σ Q) X.xe s
noncomputable def MtR (X:Cx) (id:String) (r:V->List V->Hp->VK->Prop):Prop:=
 ∀ (pins:PP) (s:Shared) (σ:St) (H:Hp) (x:V) (xs:List V) (v:Value) (us:List Value) (Q:VK),Inv X pins σ H s->qN x v->qK xs us->r x xs H Q->
  wpAny (model X.prog X.w) X.A (call (.builtin id) (v::us)) (EP X pins σ Q) X.xe s
section
variable {X:Cx} {a b:Expr} {ta tb:TE} {pos:Pos}
theorem qmC {r:R2} (hr:IxR X r) (ha:PE X a ta) (hb:PE X b tb) (hs:qdo b):PE X (.Subscript a b pos) (tOp r ta tb):=by intro pins s σ H Q I h;exact Subscript_ (qms ha hb I h fun v u s2 x y H2 I2 rx ry q=>hr a b pins s2 σ H2 x y v u Q I2 rx ry q (hs _ _))
noncomputable def qn3 (K:Frag):R2:=fun x y H Q=>∃ p xs i v,x=.ref p/\y=.int i/\SqL K H p xs/\atI xs i=some v/\Q v H
noncomputable def qn4 (K:Frag):R2:=fun x y H Q=>∃ p xs i v,x=.ref p/\y=.int i/\SqT K H p xs/\atI xs i=some v/\Q v H
noncomputable def qn5:R2:=fun x y H Q=>∃ z i c,x=.str z/\y=.int i/\z.length<=sizeLine/\atI z.cps.toList i=some c/\Q (.str ⟨#[c]⟩) H
theorem qhD:IxR X (qn3 X.K):=by
 intro value slice pins s σ H x y v u Q I rx ry h hs;obtain ⟨p,xs,i,z,rfl,rfl,hq,he,q⟩:=h;cases rx;obtain ⟨t,rfl⟩:=ry;obtain ⟨its,r,pl,hz⟩:=I.list hq;obtain ⟨j,h1,h2,h3,h4,h5⟩:=qa3 he;obtain ⟨w,ew,rw'⟩:=r.get h2;have hl:=r.length;have hn:=Yu;have fin:EP X pins σ Q w s:=⟨z,H,I,rw',q⟩
 by_cases h0:0<=i
 ·have hj:i.toNat=j:=by
   rw [seqIndex_of h0 h5] at h1;exact Option.some.inj h1
  exact item_listR pl.isList h0 (1:) (by rw [hj];simpa using ew) fin hs
 ·have hj:(i+(its.toArray.size:Int)).toNat=j:=by
   rw [seqIndex_neg (1:) h4] at h1;rw [List.size_toArray,<-hl];exact Option.some.inj h1
  exact subscriptTail_builtinR (x:=w) pl.isList.typeIs slot_list_getitem.lookup
   (wpAny_getItem_list_neg (Q:=fun r s'=>r=w/\EP X pins σ Q r s') pl.isList (1:) (by rw [List.size_toArray]<;>omega) (1:) (by rw [hj];simpa using ew) ⟨rfl,fin⟩) hs
theorem qjK:IxR X (qn4 X.K):=by
 intro value slice pins s σ H x y v u Q I rx ry h hs;obtain ⟨p,xs,i,z,rfl,rfl,hq,he,q⟩:=h;cases rx;obtain ⟨t,rfl⟩:=ry;obtain ⟨its,r,pl,hz⟩:=I.tuple hq;obtain ⟨j,h1,h2,h3,h4,h5⟩:=qa3 he;obtain ⟨w,ew,rw'⟩:=r.get h2;have hl:=r.length;have hn:=Yu;have fin:EP X pins σ Q w s:=⟨z,H,I,rw',q⟩
 exact subscriptTail_builtinR (x:=w) pl.typeIs slot_tuple_getitem.lookup
  (getItem_tuple (j:=j) (Q:=fun r s'=>r=w/\EP X pins σ Q r s') pl (1:) (1:) (by rw [List.size_toArray,<-hl];exact h1) (by simpa using ew) ⟨rfl,fin⟩) hs
theorem qjL:IxR X qn5:=by
 intro value slice pins s σ H x y v u Q I rx ry h hs;obtain ⟨z,i,c,rfl,rfl,hz,he,q⟩:=h;obtain ⟨t,rfl⟩:=rx;obtain ⟨t',rfl⟩:=ry;obtain ⟨j,h1,h2,h3,h4,h5⟩:=qa3 he;have hl:z.cps.toList.length=z.length:=by simp [Str.length]
 rw [hl] at h1 h4 h5;have hn:=Yu
 exact tail_any (typeIs_str s z t) slot_str_getitem.lookup (getItem_str (c:=c) (by have e1:decide (i < -(2 ^ 63:Int))=false:=decide_eq_false (1:);have e2:decide (i≥2 ^ 63)=false:=decide_eq_false (1:);rw [e1,e2,Bool.or_false]) (by rw [h1];simpa using h2) ⟨.str ⟨#[c]⟩,H,I.tok _,⟨_,rfl⟩,q⟩) hs
theorem qcv (its:List Value) (n j:Nat) (u:Value):Obj.mapSeq (·.setIfInBounds j u) { cls:=.type "list",data:=.seq its.toArray n }={ cls:=.type "list",data:=.seq (its.set j u).toArray n }:=by simp [Obj.mapSeq]
theorem Inv.lst {pins:PP} {σ:St} {H:Hp} {s:Shared} {p:Addr} {xs:List V} (I:Inv X pins σ H s) (h:H p=some (.lst xs)) :
  ∃ (its:List Value) (n:Nat),qK xs its/\s.heap.get? p=some { cls:=.type "list",data:=.seq its.toArray n }/\xs.length<=sizeLine:=by
 obtain ⟨z,its,n,r,e⟩:=I.hok p _ h;exact ⟨its,n,r,e,z⟩
theorem Inv.lstUpd {pins:PP} {σ:St} {H:Hp} {s:Shared} {p:Addr} {xs ys:List V} {its its':List Value} {n n':Nat} {f:Obj->Obj} (I:Inv X pins σ H s) (h:H p=some (.lst xs))
  (ho:s.heap.get? p=some { cls:=.type "list",data:=.seq its.toArray n }) (hf:f { cls:=.type "list",data:=.seq its.toArray n }={ cls:=.type "list",data:=.seq its'.toArray n' }) (r:qK ys its') (hz:ys.length<=sizeLine) (t:Nat) :
  Inv X pins σ (upd H p (.lst ys)) { s with heap:=s.heap.update p f,toks:=t }:=by
 have e:(s.heap.update p f).get? p=some { cls:=.type "list",data:=.seq its'.toArray n' }:=by rw [Heap.get?_update_self f ho (by rw [hf]<;>rfl),hf]
 refine I.write (x:=p) (e:=p) (by rw [h];trivial) (.inl rfl) (fun b u hb q=>(Heap.get?_update_other _ _ (Ne.symm hb)).trans q) ⟨_,e⟩ ?_;exact ⟨hz,its',n',r,e⟩
noncomputable def qmD:V->V->V->Hp->(Hp->Prop)->Prop:=fun o i v H Q=>∃ p xs k j,o=.ref p/\i=.int k/\H p=some (.lst xs)/\ixN xs.length k=some j/\Q (upd H p (.lst (xs.set j v)))
theorem qfj:qnn X qmD:=by
 intro pins s σ H o i v ov iv u Q I ro ri rv h;obtain ⟨p,xs,k,j,rfl,rfl,hp,hj,q⟩:=h;cases ro;obtain ⟨t,rfl⟩:=ri;obtain ⟨its,n,r,ho,hz⟩:=I.lst hp;obtain ⟨h1,h2,h3,h4⟩:=qdn hj;have hl:=r.length;have hn:=Yu
 have I':Inv X pins σ (upd H p (.lst (xs.set j v))) { s with heap:=s.heap.update p (Obj.mapSeq (·.setIfInBounds j u)) }:=
  I.lstUpd hp ho (qcv its n j u) (r.set rv j) (by rw [List.length_set];exact hz) s.toks
 by_cases h0:0<=k
 ·have hk:k.toNat=j:=by
   rw [seqIndex_of h0 h4] at h1;exact Option.some.inj h1
  exact PySem.W.ki_setAt ho h0 (1:) (by rw [List.size_toArray,<-hl];exact h4) (by rw [hk];exact ⟨_,I',q⟩)
 ·have hk:(k+(its.toArray.size:Int)).toNat=j:=by
   rw [seqIndex_neg (1:) h3] at h1;rw [List.size_toArray,<-hl];exact Option.some.inj h1
  exact PySem.W.ki_setBack ho (1:) (by rw [List.size_toArray,<-hl];exact h3) (1:) (by rw [hk];exact ⟨_,I',q⟩)
theorem ZZ (lo hi:Option Int) (n:Nat):(sliceBounds lo hi none n).1=((HT.sIx n 0 lo:Nat):Int)/\(sliceBounds lo hi none n).2.1=((HT.sIx n n hi:Nat):Int)/\(sliceBounds lo hi none n).2.2=1:=by
 refine ⟨?_,?_,rfl⟩
 ·cases lo with
  | none=>simp [sliceBounds,HT.sIx]
  | some i=>
   simp only [sliceBounds,HT.sIx,Option.getD_none,show (1:Int) > 0 by decide,if_true]
   by_cases h:i < 0
   ·simp only [h,if_true]<;>omega
   ·simp only [h,if_false]<;>omega
 ·cases hi with
  | none=>simp [sliceBounds,HT.sIx]
  | some i=>
   simp only [sliceBounds,HT.sIx,Option.getD_none,show (1:Int) > 0 by decide,if_true]
   by_cases h:i < 0
   ·simp only [h,if_true]<;>omega
   ·simp only [h,if_false]<;>omega
theorem QZ (its:List Value) (lo hi:Option Int):slicePick its.toArray lo hi none=((its.drop (HT.sIx its.length 0 lo)).take (HT.sIx its.length its.length hi - HT.sIx its.length 0 lo)).toArray:=by obtain ⟨h1,h2,h3⟩:=ZZ lo hi its.toArray.size;unfold slicePick;rw [h1,h2,h3];simp only [sliceRange_one,pick_run,List.size_toArray]<;>rfl
noncomputable def qn6 (K:Frag):V->Option Int->Option Int->Hp->VK->Prop:=fun x lo hi H Q=>∃ a xs,x=.ref a/\SqL K H a xs/\∀ p,H p=none->Q (.ref p) (upd H p (.lst (qjb xs lo hi)))
theorem qhE:SlR X (qn6 X.K):=by intro pins s σ H x v vl vu lo hi sl Q I rx hs pl pu h;obtain ⟨a,xs,rfl,hx,q⟩:=h;cases rx;obtain ⟨its,r,ht,hz⟩:=I.list hx;have hlen:=r.length;refine ⟨"list",_,slot_list_getitem.lookup,ht.isList.typeIs,?_⟩;refine wpAny_getItem_list_slice ht.isList hs pl pu .none (by simp) ?_ (by rw [List.size_toArray]<;>omega);rw [QZ,<-hlen];refine ⟨.ref s.heap.objs.size,_,I.laid (t':=s.toks) (o:=.lst (qjb xs lo hi)) (fun b ob q=>Heap.get?_push_of_some _ q) (Nat.le_refl _) ?_,rfl,q _ (I.hok.fresh (Nat.le_refl _))⟩;exact ⟨Nat.le_trans (qa2 xs lo hi) hz,_,0,(r.drop (HT.sIx xs.length 0 lo)).take (HT.sIx xs.length xs.length hi - HT.sIx xs.length 0 lo),Heap.get?_push_size _ rfl⟩
def YA:V->Bool
 | .non=>true
 | .bl _=>true
 | .int _=>true
 | .str _=>true
 | _=>false
noncomputable def eqV:V->V->Bool
 | .non,.non=>true
 | .bl a,.bl b=>a == b
 | .bl a,.int b=>(if a then 1 else 0) == b
 | .int a,.bl b=>a == (if b then 1 else 0)
 | .int a,.int b=>a == b
 | .str a,.str b=>a == b
 | _,_=>false
theorem qjM {A:Around} {s:Shared} {y x:V} {u v:Value} (ry:qN y u) (rx:qN x v) (fy:YA y=true) (fx:YA x=true):SeqAt.EqAt A s u v (eqV y x):=by
 cases y with
 | non=>
  cases ry
  cases x with
  | non=>cases rx;exact SeqAt.EqAt.same _
  | bl b=>cases rx;exact SeqAt.EqAt.none_bool b
  | int b=>obtain ⟨t,rfl⟩:=rx;exact SeqAt.EqAt.none_int b t
  | str b=>obtain ⟨t,rfl⟩:=rx;exact SeqAt.EqAt.none_str b t
  | _=>exact absurd (show false=true from fx) Bool.false_ne_true
 | bl a=>
  cases ry
  cases x with
  | non=>cases rx;exact SeqAt.EqAt.bool_none a
  | bl b=>cases rx;exact SeqAt.EqAt.bool_bool a b
  | int b=>obtain ⟨t,rfl⟩:=rx;exact SeqAt.EqAt.bool_int a b t
  | str b=>obtain ⟨t,rfl⟩:=rx;exact SeqAt.EqAt.bool_str a b t
  | _=>exact absurd (show false=true from fx) Bool.false_ne_true
 | int a=>
  obtain ⟨t',rfl⟩:=ry
  cases x with
  | non=>cases rx;exact SeqAt.EqAt.int_none a t'
  | bl b=>cases rx;exact SeqAt.EqAt.int_bool a t' b
  | int b=>obtain ⟨t,rfl⟩:=rx;exact SeqAt.EqAt.int_int a t' b t
  | str b=>obtain ⟨t,rfl⟩:=rx;exact SeqAt.EqAt.int_str a t' b t
  | _=>exact absurd (show false=true from fx) Bool.false_ne_true
 | str a=>
  obtain ⟨t',rfl⟩:=ry
  cases x with
  | non=>cases rx;exact SeqAt.EqAt.str_none a t'
  | bl b=>cases rx;exact SeqAt.EqAt.str_bool a t' b
  | int b=>obtain ⟨t,rfl⟩:=rx;exact SeqAt.EqAt.str_int a t' b t
  | str b=>obtain ⟨t,rfl⟩:=rx;exact SeqAt.EqAt.str_str a t' b t
  | _=>exact absurd (show false=true from fx) Bool.false_ne_true
 | _=>exact absurd (show false=true from fy) Bool.false_ne_true
noncomputable def eqU (x:V) (u:Value):Bool:=match u with
 | .none=>eqV .non x
 | .bool b=>eqV (.bl b) x
 | .int i _=>eqV (.int i) x
 | .str z _=>eqV (.str z) x
 | _=>false
theorem qgx {x y:V} {u:Value} (r:qN y u) (f:YA y=true):eqU x u=eqV y x:=by
 cases y with
 | non=>cases r;rfl
 | bl b=>cases r;rfl
 | int i=>obtain ⟨t,rfl⟩:=r;rfl
 | str z=>obtain ⟨t,rfl⟩:=r;rfl
 | _=>exact absurd (show false=true from f) Bool.false_ne_true
theorem YB {x:V}:∀ {xs:List V} {us:List Value},qK xs us->xs.all YA=true->us.any (eqU x)=xs.any fun y=>eqV y x
 | _,_,.nil,_=>rfl
 | y::xs,u::us,.cons r t,f=>by rw [List.all_cons,Bool.and_eq_true] at f;rw [List.any_cons,List.any_cons,qgx r f.1,YB t f.2]
theorem Jc {A:Around} {s:Shared} {x:V} {v:Value} (rx:qN x v) (fx:YA x=true):∀ {xs:List V} {us:List Value},qK xs us->xs.all YA=true->∀ u∈us,SeqAt.EqAt A s u v (eqU x u)
 | _,_,.nil,_=>fun u hu=>by cases hu
 | y::xs,u::us,.cons r t,f=>fun u' hu=>by
  rw [List.all_cons,Bool.and_eq_true] at f;rcases List.mem_cons.mp hu with rfl | hu
  ·rw [qgx r f.1];exact qjM r rx f.1 fx
  ·exact Jc rx fx t f.2 u' hu
def inV (x:V) (xs:List V):Bool:=xs.any fun y=>eqV y x
noncomputable def rIn (K:Frag) (neg:Bool):R2:=fun x y H Q=>∃ p xs,y=.ref p/\(SqL K H p xs\/SqT K H p xs)/\YA x=true/\xs.all YA=true/\Q (.bl (if neg then !inV x xs else inV x xs)) H
theorem qdp:OpR X (compareOp .In) (rIn X.K false):=by
 intro pins s σ H x y v u Q I rx ry h;obtain ⟨p,xs,rfl,hq,fx,fs,q⟩:=h;cases ry;rcases hq with hq | hq
 ·obtain ⟨its,r,pl,hz⟩:=I.list hq;refine SeqAt.in_listAt (eqU x) pl.isList (fun w hw=>Jc rx fx r fs w (by simpa using hw)) ⟨.bl _,H,I,rfl,?_⟩;rw [show its.toArray.any (eqU x)=its.any (eqU x) by simp,YB r fs];exact q
 ·obtain ⟨its,r,pl,hz⟩:=I.tuple hq;refine SeqAt.in_tupleAt (eqU x) pl (fun w hw=>Jc rx fx r fs w (by simpa using hw)) ⟨.bl _,H,I,rfl,?_⟩;rw [show its.toArray.any (eqU x)=its.any (eqU x) by simp,YB r fs];exact q
theorem Z0:OpR X (compareOp .NotIn) (rIn X.K true):=by
 intro pins s σ H x y v u Q I rx ry h;obtain ⟨p,xs,rfl,hq,fx,fs,q⟩:=h;cases ry;rcases hq with hq | hq
 ·obtain ⟨its,r,pl,hz⟩:=I.list hq;refine SeqAt.notIn_listAt (eqU x) pl.isList (fun w hw=>Jc rx fx r fs w (by simpa using hw)) ⟨.bl _,H,I,rfl,?_⟩;rw [show its.toArray.any (eqU x)=its.any (eqU x) by simp,YB r fs];exact q
 ·obtain ⟨its,r,pl,hz⟩:=I.tuple hq;refine SeqAt.notIn_tupleAt (eqU x) pl (fun w hw=>Jc rx fx r fs w (by simpa using hw)) ⟨.bl _,H,I,rfl,?_⟩;rw [show its.toArray.any (eqU x)=its.any (eqU x) by simp,YB r fs];exact q
theorem JV:zw X (.builtin "len") (fun xs H Q=>∃ p ys,xs=[.ref p]/\(SqL X.K H p ys\/SqT X.K H p ys)/\Q (.int ys.length) H):=by
 intro pins s σ H xs us Q I r h;obtain ⟨p,ys,rfl,hq,q⟩:=h;obtain ⟨u,rfl,rx⟩:=JF r;cases rx;have hn:=Yu;rcases hq with hq | hq
 ·obtain ⟨its,r',pl,hz⟩:=I.list hq;have hlen:=r'.length;exact Calls.call_len_list pl.isList (by simp only [List.size_toArray]<;>omega) ⟨.int ys.length,H,I.tok _,⟨s.toks+1,by rw [List.size_toArray,hlen]⟩,q⟩
 ·obtain ⟨its,r',pl,hz⟩:=I.tuple hq;have hlen:=r'.length;exact len_tuple pl (by simp only [List.size_toArray]<;>omega) ⟨.int ys.length,H,I.tok _,⟨s.toks+1,by rw [List.size_toArray,hlen]⟩,q⟩
theorem Z1:zw X (.builtin "len") (fun xs H Q=>∃ z,xs=[.str z]/\z.length<=sizeLine/\Q (.int z.length) H):=by intro pins s σ H xs us Q I r h;obtain ⟨z,rfl,hz,q⟩:=h;obtain ⟨u,rfl,t,rfl⟩:=JF r;have hn:=Yu;exact len_str (1:) ⟨.int z.length,H,I.tok _,⟨_,rfl⟩,q⟩
theorem j7:zw X (.type "list") (fun xs H Q=>∃ p ys,xs=[.ref p]/\(SqL X.K H p ys\/SqT X.K H p ys)/\∀ l,H l=none->Q (.ref l) (upd H l (.lst ys))):=by
 intro pins s σ H xs us Q I r h;obtain ⟨p,ys,rfl,hq,q⟩:=h;obtain ⟨u,rfl,rx⟩:=JF r;cases rx
 have fin:∀ (its:List Value),qK ys its->ys.length<=sizeLine->∀ (h':Heap) (c':Nat),(∀ b o',s.heap.get? b=some o'->h'.get? b=some o')->
   h'.get? s.heap.objs.size=some { cls:=.type "list",dict:=none,data:=.seq its.toArray c',slots:=#[] }->EP X pins σ Q (.ref s.heap.objs.size) { s with heap:=h' }:=fun its r' hz h' c' kp e=>
  ⟨.ref s.heap.objs.size,_,I.laid (t':=s.toks) kp (Nat.le_refl _) (show qW X.prog X.w _ h' _ (.lst ys) from ⟨hz,its,c',r',e⟩),rfl,q _ (I.hok.fresh (Nat.le_refl _))⟩
 rcases hq with hq | hq
 ·obtain ⟨its,r',pl,hz⟩:=I.list hq;have hlen:=r'.length;obtain ⟨o,ho,hc,n,hd⟩:=pl.isList;exact call_list_seq p (.inl rfl) ho hc hd (fun h' c' kp e=>fin its r' hz h' c' kp e) (by simp only [List.size_toArray]<;>omega)
 ·obtain ⟨its,r',pl,hz⟩:=I.tuple hq;have hlen:=r'.length;obtain ⟨o,ho,hc,n,hd⟩:=pl;exact call_list_seq p (.inr rfl) ho hc hd (fun h' c' kp e=>fin its r' hz h' c' kp e) (by simp only [List.size_toArray]<;>omega)
theorem Q0:zw X (.type "tuple") (fun xs H Q=>∃ p ys,xs=[.ref p]/\((SqL X.K H p ys/\∀ l,H l=none->Q (.ref l) (upd H l (.tup ys)))\/(SqT X.K H p ys/\Q (.ref p) H))):=by
 intro pins s σ H xs us Q I r h;obtain ⟨p,ys,rfl,h⟩:=h;obtain ⟨u,rfl,rx⟩:=JF r;cases rx;rcases h with ⟨hq,q⟩ | ⟨hq,q⟩
 ·obtain ⟨its,r',pl,hz⟩:=I.list hq;have hlen:=r'.length;refine call_tuple_list pl.isList (fun h' kp=>?_) (by simp only [List.size_toArray]<;>omega);have I1:Inv X pins σ H { s with heap:=h' }:=I.kept (t':=s.toks) kp
  have I2:Inv X pins σ (upd H h'.objs.size (.tup ys)) { s with heap:=h'.push { cls:=.type "tuple",data:=.seq its.toArray } }:=
   I1.laid (t':=s.toks) (fun b o e=>Heap.get?_push_of_some _ e) (Nat.le_refl _) (show qW X.prog X.w _ _ _ (.tup ys) from ⟨hz,its,r',IsTup.new _ _⟩)
  exact ⟨.ref h'.objs.size,_,I2,rfl,q _ (I1.hok.fresh (Nat.le_refl _))⟩
 ·obtain ⟨its,r',pl,hz⟩:=I.tuple hq;exact call_tuple_same pl ⟨.ref p,H,I,rfl,q⟩
noncomputable def tyV (K:Frag) (T:String) (x:V) (H:Hp):Prop:=match x with
 | .str _=>T = "str"
 | .int _=>T = "int"
 | .ref p=>(T = "list"/\∃ xs,SqL K H p xs)\/(T = "tuple"/\∃ o,K.lookup p=some o/\o.cls=.type "tuple"/\o.dict=none)\/
   (T = "dict"/\((∃ kvs,H p=some (.dK kvs))\/∃ kvs,H p=some (.dT kvs)))\/(T = "set"/\∃ S n,H p=some (.set S n))
 | _=>False
theorem qjN {pins:PP} {σ:St} {H:Hp} {s:Shared} {T:String} {x:V} {v:Value} (I:Inv X pins σ H s) (r:qN x v) (ty:tyV X.K T x H) :
  s.TypeIs v T/\∀ a,v=.ref a->∃ ob,s.heap.get? a=some ob/\ob.dict=none:=by
 cases x with
 | str z=>
  obtain ⟨t,rfl⟩:=r
  cases (show T = "str" from ty)
  exact ⟨typeIs_str s z t,fun _ e=>nomatch e⟩
 | int i=>
  obtain ⟨t,rfl⟩:=r
  cases (show T = "int" from ty)
  exact ⟨typeIs_int s i t,fun _ e=>nomatch e⟩
 | ref p=>
  cases r;rcases ty with ⟨rfl,xs,hq⟩ | ⟨rfl,o,hk,hc,hd⟩ | ⟨rfl,hk⟩ | ⟨rfl,S,n,hk⟩
  ·obtain ⟨its,_,pl,_⟩:=I.list hq;refine ⟨pl.isList.typeIs,fun a e=>?_⟩;cases e;obtain ⟨o,n,e,c,hd,_⟩:=pl;exact ⟨o,e,hd⟩
  ·refine ⟨⟨o,I.kIn p o hk,hc⟩,fun a e=>?_⟩;cases e;exact ⟨o,I.kIn _ o hk,hd⟩
  ·have z:∃ o,s.heap.get? p=some o/\o.ExactDict:=by
    rcases hk with ⟨kvs,hk⟩ | ⟨kvs,hk⟩
    ·obtain ⟨_,_,_,_,o,_,_,e,ex,_⟩:=I.hok p _ hk;exact ⟨o,e,ex⟩
    ·obtain ⟨_,_,_,_,o,_,_,e,ex,_⟩:=I.hok p _ hk;exact ⟨o,e,ex⟩
   obtain ⟨o,e,ex⟩:=z;refine ⟨⟨o,e,ex.1⟩,fun a e2=>?_⟩;cases e2;exact ⟨o,e,ex.2.1⟩
  ·obtain ⟨o,_,_,_,e,ex,_⟩:=I.hok p _ hk;refine ⟨⟨o,e,ex.1⟩,fun a e2=>?_⟩;cases e2;exact ⟨o,e,ex.2.1⟩
 | _=>exact False.elim ty
noncomputable def tBM (K:Frag) (T:String) (r:V->List V->Hp->VK->Prop) (to:TE) (t:TA):TE:=fun σ H Q=>to σ H fun x H1=>tyV K T x H1/\t σ H1 fun xs H2=>r x xs H2 Q
variable {o e:Expr} {es:List Expr} {to:TE} {t:TA} {name:Str} {apos cpos:Pos} {T id:String} {r:V->List V->Hp->VK->Prop}
theorem qjO (pa:PlainAttrs T) (slot:Slot T name id) (hty:typeOf (.builtin id)=pure (.type "method_descriptor")) (hm:MtR X id r) (ho:PE X o to) (ha:PA X (e::es) t)
  (hbase:attributeBase o name X.env (eval o X.env)=eval o X.env:=by rfl)
  (hfew:((backTo cpos (starEach (e::es) X.env)).all (fun x=>!x.1)&&(backToKw cpos (keywordEach [] X.env)).all (fun x=>x.1.isSome)
   && decide ((e::es).length+([]:List Keyword).length+(if ([]:List Keyword).isEmpty then 0 else 1) < 30))=true:=by rfl)
  (hline:(apos.endLine == cpos.line)=true:=by rfl) (hs:starEach (e::es) X.env=(false,eval e X.env)::starEach es X.env:=by rfl) (hplain:(backTo cpos (starEach es X.env)).any (·.1)=false:=by rfl) :
  PE X (.Call (.Attribute o name apos) (e::es) [] cpos) (tBM X.K T r to t):=by
 intro pins s σ H Q I h;refine wpAny_Call_method_late hbase hfew hline rfl (thn (ho pins s σ H _ I h) fun v s1 hq1=>?_);obtain ⟨x,H1,I1,r1,ty,q1⟩:=hq1;obtain ⟨h1,h2⟩:=qjN I1 r1 ty;refine ⟨T,id,pa,slot,hty,h1,h2,?_⟩;have hA:=ha cpos pins s1 σ H1 _ I1 q1;rw [hs] at hA ⊢;refine Calls.callWith_builtin (by show (false||(backTo cpos (starEach es X.env)).any (·.1))=false;rw [hplain]<;>rfl) (Calls.evalArgs_plain ?_);exact thn hA fun us s2 ⟨vs,H2,I2,r2,q2⟩=>hm pins s2 σ H2 x vs v us Q I2 r1 r2 q2
end
end L2
namespace L2
open PySem PySem.Spec PyProof.Rows
noncomputable def MtM (X:Cx) (id:String) (r:V->List V->Hp->VK->Prop):Prop:=
 ∀ (pins:PP) (s:Shared) (σ:St) (H:Hp) (x:V) (xs:List V) (v:Value) (us:List Value) (Q:VK),Inv X pins σ H s->qN x v->qK xs us->r x xs H Q->
  wpAny (model X.prog X.w) X.A (call (.builtin id) (v::us)) (EP X pins σ Q) X.xe s
theorem qK.one:∀ {x:V} {us:List Value},qK [x] us->∃ u,us=[u]/\qN x u
 | _,_,.cons r .nil=>⟨_,rfl,r⟩
section
variable {X:Cx} {pins:PP} {σ:St} {H:Hp} {s:Shared} {l b:Addr} {xs ys zs:List V}
theorem Inv.lset {its its':List Value} {n:Nat} {f:Array Value->Array Value} {t':Nat} (I:Inv X pins σ H s) (hH:H l=some (.lst xs))
  (e:s.heap.get? l=some { cls:=.type "list",data:=.seq its.toArray n }) (hf:f its.toArray=its'.toArray) (hv:qK ys its') (hz:ys.length<=sizeLine) :
  Inv X pins σ (upd H l (.lst ys)) { s with heap:=s.heap.update l (Obj.mapSeq f),toks:=t' }:=by
 have q:=PySem.IsL.update e f;rw [hf] at q;refine I.write (x:=l) (e:=l) (by rw [hH];exact trivial) (.inl rfl) (fun b' u hb hu=>(Heap.get?_update_other s.heap (Obj.mapSeq f) (Ne.symm hb)).trans hu) ⟨_,q⟩ ?_;exact ⟨hz,its',_,hv,q⟩
theorem Inv.lnew {its:List Value} {t':Nat} (I:Inv X pins σ H s) (hv:qK ys its) (hz:ys.length<=sizeLine) :
  Inv X pins σ (upd H s.heap.objs.size (.lst ys)) { s with heap:=s.heap.push { cls:=.type "list",data:=.seq its.toArray },toks:=t' }:=
 I.laid (fun _ _ q=>Heap.get?_push_of_some _ q) (Nat.le_refl _) ⟨hz,its,0,hv,Heap.get?_push_size _ rfl⟩
theorem Inv.fresh (I:Inv X pins σ H s):H s.heap.objs.size=none:=I.hok.fresh (Nat.le_refl _)
theorem Inv.lstM (I:Inv X pins σ H s) (hH:H l=some (.lst xs)):xs.length<=sizeLine/\∃ (its:List Value) (n:Nat),qK xs its/\xs.length=its.length/\s.heap.get? l=some { cls:=.type "list",data:=.seq its.toArray n }:=by obtain ⟨z,its,n,r,e⟩:=I.hok l _ hH;exact ⟨z,its,n,r,r.length,e⟩
theorem qfk {n:Nat} (h:n<=sizeLine):Builtin.List.listTooLong n=false:=by unfold Builtin.List.listTooLong;exact decide_eq_false (1:)
end
section
variable {X:Cx}
noncomputable def qhF:V->List V->Hp->VK->Prop:=fun x vs H Q=>∃ l xs y,x=.ref l/\vs=[y]/\H l=some (.lst xs)/\xs.length < sizeLine/\Q .non (upd H l (.lst (xs++[y])))
theorem qdq:MtM X "list.append" qhF:=by intro pins s σ H x vs v us Q I rx rv h;obtain ⟨l,xs,y,rfl,rfl,hH,hz,q⟩:=h;cases rx;obtain ⟨u,rfl,ru⟩:=rv.one;obtain ⟨z,its,n,r,hl,e⟩:=I.lstM hH;refine call_meets F.slot_list_append ⟨_,e,rfl⟩ F.entry_list_append (F.args_list_append_2 _ _) (PySem.list_append l its.toArray n u (by rw [List.size_toArray];omega)) ⟨e,?_⟩;refine ⟨.non,_,I.lset (its':=its++[u]) hH e (by simp) (r.append %[ru|0]) ?_,rfl,q⟩;rw [List.length_append,List.length_singleton];omega
noncomputable def qhG:V->List V->Hp->VK->Prop:=fun x vs H Q=>∃ l b xs zs,x=.ref l/\vs=[.ref b]/\H l=some (.lst xs)/\H b=some (.lst zs)/\xs.length+zs.length<=sizeLine/\Q .non (upd H l (.lst (xs++zs)))
theorem qdr:MtM X "list.extend" qhG:=by
 intro pins s σ H x vs v us Q I rx rv h;obtain ⟨l,b,xs,zs,rfl,rfl,hH,hB,hz,q⟩:=h;cases rx;obtain ⟨u,rfl,ru⟩:=rv.one;cases ru;obtain ⟨z,its,n,r,hl,e⟩:=I.lstM hH;obtain ⟨z2,its2,n2,r2,hl2,e2⟩:=I.lstM hB;have hsz:its.toArray.size+its2.toArray.size<=sizeLine:=by rw [List.size_toArray,List.size_toArray];omega
 have hlong:¬ (!its.toArray.isEmpty&&Builtin.List.listTooLong (its.toArray.size+its2.toArray.size))=true:=by rw [qfk hsz,Bool.and_false];exact Bool.false_ne_true
 refine call_meets F.slot_list_extend ⟨_,e,rfl⟩ F.entry_list_extend (F.args_list_extend_2 _ _)
  (AutoSeq1.list_extend_list_list_0 l its.toArray n b its2.toArray n2 hlong (by rw [List.size_toArray];omega) (1:)) ⟨e,e2,?_⟩
 refine ⟨.non,_,I.lset (its':=its++its2) hH e (by simp) (r.append r2) ?_,rfl,q⟩;rw [List.length_append];omega
noncomputable def qn7:R2:=fun x y H Q=>∃ l b xs zs,x=.ref l/\y=.ref b/\H l=some (.lst xs)/\H b=some (.lst zs)/\xs.length+zs.length<=sizeLine/\∀ p,H p=none->Q (.ref p) (upd H p (.lst (xs++zs)))
theorem qjP:OpR X (binaryOp .Add) qn7:=by
 intro pins s σ H x y v u Q I rx ry h;obtain ⟨l,b,xs,zs,rfl,rfl,hH,hB,hz,q⟩:=h;cases rx;cases ry;obtain ⟨z,its,n,r,hl,e⟩:=I.lstM hH;obtain ⟨z2,its2,n2,r2,hl2,e2⟩:=I.lstM hB;refine PySem.P.add_list e e2 ?_ (by rw [List.size_toArray,List.size_toArray];omega);have ea:its.toArray++its2.toArray=(its++its2).toArray:=by simp
 rw [ea];exact ⟨.ref _,_,I.lnew (t':=s.toks) (r.append r2) (by rw [List.length_append];omega),rfl,q _ I.fresh⟩
end
end L2
namespace Att
open PySem PySem.W PySem.Calls PyProof.Rows
theorem YC {P:Params} {h:Heap}:∀ (ns:List Int) (vs:List Value),WellAll P h vs (ns.map WData.int)->IntsAre vs ns:=by
 intro ns
 induction ns with
 | nil=>intro vs w;rw [List.map_nil] at w;cases w;exact .nil
 | cons n ns ih=>
  intro vs w;rw [List.map_cons] at w
  cases w with
  | cons a b=>cases a;exact .cons _ _ (ih _ b)
theorem qds {l:OpenLaw} {n:Nat} (hn:l.most=some n) {P:Params} {h:Heap} {args:List WData} {vals:List Value}
  (hpre:l.row.toRowW.claim.pre args=true) (hwl:WellAll P h vals args) :
  ∃ a vs ns,vals=[Value.ref a]/\args=[WData.list (ns.map WData.int)]/\h.get? a=some { cls:=.type "list",data:=.seq vs.toArray }/\IntsAre vs ns/\ns.length<=n:=by
 have hsh:WShape.hasAll [] args [.list .int]=true:=(pre_splitW hpre).1;have hc:l.pre.holds [] { args:=args }=true:=(pre_splitW hpre).2;obtain ⟨d,r,rfl,h1,h2⟩:=hasAllW_cons hsh;obtain rfl:=hasAllW_nil h2;obtain ⟨xs,rfl,h3⟩:=hasW_list h1;obtain ⟨ns,rfl⟩:=items_int h3
 have hlen:ns.length<=n:=by
  unfold OpenLaw.pre at hc
  have h4:(WTm.not (.lt (.lit (.int (n:Int))) (.len (.arg 0)))).holds [] { args:=[.list (ns.map .int)] }=true:=by have h4:=(holds_andW hc).1;rw [hn] at h4;exact h4
  have h5:=condW_of h4 (w_not (w_lt w_lit (w_len_list (w_arg rfl))));rw [List.length_map] at h5;refine Nat.le_of_not_lt fun q=>?_;have q':(n:Int) < ((ns.length:Nat):Int):=by omega
  first
   | (rw [decide_eq_true q'] at h5;exact absurd h5 (2:))
   | (simp at h5;omega)
 cases hwl with
 | cons w1 w2=>
  cases w2
  cases w1 with
  | list ho hall=>exact ⟨_,_,ns,rfl,rfl,ho,YC ns _ hall,hlen⟩
theorem qdt (l:OpenLaw) (args:List WData):l.row.toRowW.claim.post args (.bool true) args=true:=
 postW_of (r:=l.row.toRowW) (X:=(true == true))
  (show WShape.has [] (.bool true) .bool=true by first | rfl | decide | simp [WShape.has,WShape.arms,WShape.armsAll])
  (show (WTm.eq .res (.lit (.bool true))).value [] { args:=args,res:=some (.bool true),after:=args }=some (.bool (true == true)) from w_eq_bool (w_res rfl) w_lit) rfl
theorem qa4 {l:OpenLaw} {n:Nat} {q:Program} {loose:List Str} {XP:(Str->Option Value)->Heap->Prop} {YP:World->Heap->Prop} {d:DefRec}
  (hn:l.most=some n) (hdf:d.params.defaults=[])
  (call:∀ (w:World) (s₀ s₁:Shared) (mg mb:PR) (fa:Addr) (o:Obj) (pm cd doc:Value) (a:Addr) (vs:List Value) (ns:List Int),
   Ground q loose [] XP w s₀ mg mb s₁.heap->YP w s₁.heap->
   s₁.heap.get? fa=some o->o.data=.func (docDef d.name d.params d.body d.scope pm cd doc)->s₁.heap.CodeRec cd d.name->mg d.name=some (.ref fa)->
   s₁.heap.get? a=some { cls:=.type "list",data:=.seq vs.toArray }->IntsAre vs ns->ns.length<=n->s₁.gens=#[]->
   codeAny (model l.prog w) callerA (.call (.ref fa) ⟨[.ref a],[]⟩) (fun r s'=>r=.ok (.ret (.bool true))/\OldK s₁.heap s'.heap/\s'.os=s₁.os/\AllBare s'.gens) s₁) :
  WalkO q loose XP YP l.row.toRowW d [] (fun f vs=>PySem.call f vs):=by
 intro w s₀ s₁ mg mb G Y fa o pm cd doc dV kV ho hd hcd hD hmg hg args vals as hpre hlay hrd hwl hlo;obtain rfl:dV=.none:=Dflts.none hD hdf;obtain rfl:kV=.none:=Dflts.noKw hD;obtain ⟨a,vs,ns,rfl,rfl,hobj,hints,hlen⟩:=qds hn hpre hwl;refine enter_call (codeAny_mono (call w s₀ s₁ mg mb fa o pm cd doc a vs ns G Y ho (fd_plain hd) hcd hmg hobj hints hlen hg) fun r s' hq=>?_);obtain ⟨rfl,h2,h3,h4⟩:=hq;exact ⟨.inl ⟨.bool true,.bool true,[],rfl,fun _=>rfl,.bool true,qdt l _,fun _=>⟨List.Pairwise.nil,fun _ hm=>(nomatch hm)⟩⟩,h2,h3,h4⟩
end Att
namespace L2
open PySem PySem.Spec PyProof.Rows
theorem Z2:∀ {vs:List Value} {ns:List Int},IntsAre vs ns->qK (ns.map V.int) vs
 | _,_,.nil=>.nil
 | _,_,.cons n t h=>.cons ⟨t,rfl⟩ (Z2 h)
def qmE (H:Hp):Prop:=∀ b,H b=none\/∃ o xs,H b=some (.frz o (.lst xs))
theorem qfl {P:Program} {w:World} {K:Frag} {mg mb:PR} {CX:CXT} {k:Nat} {fa a:Addr} {fd:FuncData} {x:Str} {sp:Sp} {s₁:Shared} {vs:List Value} {ns:List Int}
  (KX:K.In s₁.heap) (hns:s₁.heap.Ns mainGlobals mg) (hb:s₁.heap.Ns builtinsNs mb) (hbb:∀ x:Str,x≠"__name__"->mb x=bootBuiltins x) (hlim:s₁.heap.NoLimit) (hg:s₁.gens=#[])
  (ha:s₁.heap.get? a=some { cls:=.type "list",data:=.seq vs.toArray }) (hi:IntsAre vs ns) (hl:ns.length<=sizeLine) (hr:Room k callerA)
  (F:∀ base:Heap,K.In base->base.Ns mainGlobals mg->FnOk P w K mg base CX k fa fd [x] sp) (hbind:∀ (s:Shared) (u:Value),BindsTo s fd ⟨[u],[]⟩ [(x,u)])
  (hsp:∀ H:Hp,qmE H->SqL K H a (ns.map V.int)->sp [.ref a] H (fun v _=>v=.bl true) fun _ _ _=>False)
  (hCX:∀ H e s',CX [] H s₁ (fun _ _ _=>False) e s'->False) :
  codeAny (model P w) callerA (.call (.ref fa) ⟨[.ref a],[]⟩) (fun r s'=>r=.ok (.ret (.bool true))/\OldK s₁.heap s'.heap/\s'.os=s₁.os/\AllBare s'.gens) s₁:=by
 have rv:=Z2 hi;have lenV:=hi.length
 have core:∀ H:Hp,qmE H->SqL K H a (ns.map V.int)->HOk P w H s₁.heap->(∀ b,H b≠none->b=a)->(H a≠none->K.lookup a=none)->
   codeAny (model P w) callerA (.call (.ref fa) ⟨[.ref a],[]⟩) (fun r s'=>r=.ok (.ret (.bool true))/\OldK s₁.heap s'.heap/\s'.os=s₁.os/\AllBare s'.gens) s₁:=by
  intro H hO hS hok hA hK;have base_of:∀ {b:Addr} {o:Obj},s₁.heap.get? b=some o->H b=none->(qe1 s₁.heap H).get? b=some o:=fun e n=>qe2 e n
  have noA:∀ {b:Addr} {o:Obj} {es:Array DictEntry} {ep:Nat},s₁.heap.get? b=some o->o.data=.dict es ep->H b=none:=fun {b o es ep} e d=>by
   cases q:H b with
   | none=>rfl
   | some u=>have e':b=a:=hA b (by rw [q];simp);subst e';rw [ha] at e;cases e;have d':Data.seq vs.toArray _=Data.dict es ep:=d;cases d'
  have nsK:∀ {b:Addr} {m:PR},s₁.heap.Ns b m->(qe1 s₁.heap H).Ns b m:=fun {b m} ⟨o,es,ep,e,d,r⟩=>⟨o,es,ep,base_of e (noA e d),d,r⟩
  have hKb:K.In (qe1 s₁.heap H):=fun b o e=>base_of (KX b o e) (by
   cases q:H b with
   | none=>rfl
   | some u=>have e':b=a:=hA b (by rw [q];simp);subst e';rw [hK (by rw [q];simp)] at e;cases e)
  have hM:Mod K mg (qe1 s₁.heap H):=⟨hKb,nsK hns,⟨mb,nsK hb,hbb⟩,let ⟨mc,h1,h2⟩:=hlim;⟨mc,nsK h1,h2⟩⟩;have e0:Env0 P w K mg (qe1 s₁.heap H) callerA [] s₁ H:=⟨rfl,hM,fun b o e=>qhl e,Nat.le_of_eq (qc9 _ _),trivial,fun b hb=>absurd (show b∈([]:List Addr) from hb) (by simp),hok,.of_eq hg⟩;refine codeAny_mono ((F _ hKb (nsK hns)).run callerA [] s₁ H ⟨[.ref a],[]⟩ [.ref a] [.ref a] _ _ hr e0 (hbind s₁ (.ref a)) %[rfl|0] (hsp H hO hS)) fun r s' h=>?_
  cases r with
  | error e=>exact (hCX H e s' h).elim
  | ok fl=>
   cases fl with
   | next=>show 4
   | brk=>show 4
   | cont=>show 4
   | ret u=>
    obtain ⟨v,H',os,bare,un,hok',r',q⟩:=h;have q':v=.bl true:=q;subst q';obtain rfl:u=Value.bool true:=r';refine ⟨rfl,OldK.of_keep fun b o e=>?_,os,bare⟩
    cases q:H b with
    | none=>exact un.keep b o e q (by intro z;exact absurd (show b∈([]:List Addr) from z) (by simp)) (by simp)
    | some u=>
     rcases hO b with z | ⟨ob,xs,z⟩
     ·rw [q] at z;cases z
     ·have z2:=un.frzs b ob _ z;obtain ⟨e1,_⟩:=hok b _ z;obtain ⟨e2,_⟩:=hok' b _ z2;rw [e] at e1;cases e1;exact e2
 cases hk:K.lookup a with
 | some o=>have e:=KX a o hk;rw [ha] at e;cases e;refine core (fun _=>none) (fun _=>.inl rfl) (.inr ⟨_,vs.toArray,_,hk,rfl,rfl,rfl,by rw [List.size_toArray,lenV];exact hl,by simpa using rv⟩) (fun b u z=>by have z':(none:Option HO)=some u:=z;cases z') (fun b z=>absurd rfl z) fun z=>absurd rfl z
 | none=>
  refine core (fun b=>if b=a then some (.frz { cls:=.type "list",data:=.seq vs.toArray } (.lst (ns.map V.int))) else none) (fun b=>?_) (.inl (.inr ⟨{ cls:=.type "list",data:=.seq vs.toArray },if_pos rfl⟩)) (fun b u z=>?_) (fun b z=>?_) fun _=>hk
  ·by_cases hb:b=a
   ·exact .inr ⟨_,_,if_pos hb⟩
   ·exact .inl (if_neg hb)
  ·by_cases hb:b=a
   ·have z':=(if_pos hb).symm.trans z;cases z';subst hb;exact ⟨ha,by rw [List.length_map];exact hl,vs,_,rv,ha⟩
   ·have z':=(if_neg hb).symm.trans z;cases z'
  ·by_cases hb:b=a
   ·exact hb
   ·exact absurd (if_neg hb) z
end L2
namespace L2
open PySem PySem.Spec PyProof.Rows
theorem qhH {l:PySem.W.OpenLaw} {n k:Nat} {q:Program} {loose:List Str} {XP:(Str->Option Value)->Heap->Prop} {YP:World->Heap->Prop} {d:DefRec} {K:Params->Frag} {CX:World->CXT} {sp:World->Sp} {x:Str}
  (hn:l.most=some n) (hn2:n<=sizeLine) (hdf:d.params.defaults=[]) (hr:Room k callerA)
  (hY:∀ (w:World) (h:Heap),YP w h->(K w.params).In h)
  (F:∀ (w:World) (mg:PR) (fa:Addr) (h:Heap),(K w.params).In h->h.Ns mainGlobals mg->mg d.name=some (.ref fa)->
   ∃ fd:FuncData,(∀ (s:Shared) (u:Value),BindsTo s fd ⟨[u],[]⟩ [(x,u)])/\
    ∀ base:Heap,(K w.params).In base->base.Ns mainGlobals mg->FnOk l.prog w (K w.params) mg base (CX w) k fa fd [x] (sp w))
  (hsp:∀ (w:World) (H:Hp) (a:Addr) (ns:List Int),ns.length<=n->qmE H->SqL (K w.params) H a (ns.map V.int)->sp w [.ref a] H (fun v _=>v=.bl true) fun _ _ _=>False)
  (hCX:∀ (w:World) (H:Hp) (s:Shared) (e:Value) (s':Shared),CX w [] H s (fun _ _ _=>False) e s'->False) :
  PySem.W.WalkO q loose XP YP l.row.toRowW d [] (fun f vs=>PySem.call f vs):=by
 refine Att.qa4 hn hdf fun w s₀ s₁ mg mb fa o pm cd doc a vs ns G Y ho hd hcd hmg hobj hints hlen hg=>?_;have KX:=hY w _ Y;obtain ⟨fd,hb,hF⟩:=F w mg fa _ KX G.T.g hmg;exact qfl KX G.T.g G.T.b G.T.builtins G.T.nolimit hg hobj hints (Nat.le_trans hlen hn2) hr hF hb (fun H hO hS=>hsp w H a ns hlen hO hS) fun H e s'=>hCX w H s₁ e s'
end L2
namespace L2
open PySem PySem.Spec PyProof.Rows
noncomputable def zj (s:Stmt):Arguments:=match s with
 | .FunctionDef _ a _ _ _ _ _ _ _ _=>a
 | _=>{ posonlyargs:=[],args:=[],vararg:=none,kwonlyargs:=[],kw_defaults:=[],kwarg:=none,defaults:=[] }
def qS (s:Stmt):List Stmt:=match s with
 | .FunctionDef _ _ b _ _ _ _ _ _ _=>b
 | _=>[]
noncomputable def qo (s:Stmt):Scope:=match s with
 | .FunctionDef _ _ _ _ _ _ sc _ _ _=>sc
 | _=>{ kind:=.function,names:=[],isGenerator:=false,isCoroutine:=false }
abbrev CX0:CXT:=fun _ _ _ _ _ _=>False
abbrev E0:XK:=fun _ _ _=>False
theorem yS {X:Cx}:yD CX0 X E0:=fun _ _ _ _ _ _ _ h=>h.elim
structure Fun (K:Frag) (x qual:Str) (st:Stmt) (f:Addr) (fd:FuncData):Prop where
 ex:∃ (oc:Value) (od:Option Addr) (kV doc pm:Value) (an:Option Addr) (cdv ct:Value) (osl:Array (Option Value)),
  fd=PySem.W.fnOf x qual (zj st) (qS st) (qo st) .none kV doc pm an cdv ct/\K.lookup f=some ⟨oc,od,.func fd,osl⟩/\PySem.W.codeIn K cdv qual=true
 kp:PySem.W.keepIn K (.ref f)=true
section
variable {P:Program} {w:World} {K:Frag} {mg:PR} {base:Heap}
theorem Fun.ok {x qual:Str} {st:Stmt} {f:Addr} {fd:FuncData} {N ps:List Str} {k:Nat} {sp:Sp} (F:Fun K x qual st f fd) (S:FnScope N ps (qo st)) (len:∀ vs H Q E,sp vs H Q E->vs.length=ps.length)
  (hbody:∀ (cdv:Value) (A:Around) (outer:List Env) (s:Shared) (H:Hp) (vs:List V) (Q:VK) (E:XK),Room k (A.deeper (envOfC qual (qo st) s.heap.objs.size f cdv))->sp vs H Q E->
   ∃ t,PSs (qhz CX0 P w K mg base N qual (qo st) f cdv A outer s H E).nox (qS st) t/\t { nx:=fun _ H'=>Q .non H',rt:=Q } (Yy N vs) H):FnOk P w K mg base CX0 (k+1) f fd ps sp:=by
 obtain ⟨oc,od,kV,doc,pm,an,cdv,ct,osl,rfl,lk,hcd⟩:=F.ex;refine qmA lk hcd S len fun A outer s H vs Q E hr hsp=>?_;obtain ⟨t,h,q⟩:=hbody cdv A outer s H vs Q E hr hsp;exact ⟨t,h.nox,q⟩
theorem Fun.binds {x qual:Str} {st:Stmt} {f:Addr} {fd:FuncData} {ps:List Str} (F:Fun K x qual st f fd)
  (h:∀ (kV doc pm:Value) (an:Option Addr) (cdv ct:Value) (us:List Value),us.length=ps.length->bindArgs (PySem.W.fnOf x qual (zj st) (qS st) (qo st) .none kV doc pm an cdv ct) ⟨us,[]⟩=pure (ps.zip us)):zx K fd ps []:=by
 obtain ⟨oc,od,kV,doc,pm,an,cdv,ct,osl,rfl,lk,hcd⟩:=F.ex;exact .all (h kV doc pm an cdv ct)
theorem qgy {x qual:Str} {st:Stmt} {f:Addr} {oc:Value} {od an:Option Addr} {osl:Array (Option Value)} {kV doc pm cdv ct:Value} (l:K.lookup f=some ⟨oc,od,.func (PySem.W.fnOf x qual (zj st) (qS st) (qo st) .none kV doc pm an cdv ct),osl⟩)
  (c:PySem.W.codeIn K cdv qual=true) (k:PySem.W.keepIn K (.ref f)=true):Fun K x qual st f (PySem.W.fnOf x qual (zj st) (qS st) (qo st) .none kV doc pm an cdv ct):=⟨⟨oc,od,kV,doc,pm,an,cdv,ct,osl,rfl,l,c⟩,k⟩
end
theorem Z3 {n:Nat} (h:n<=1000):n < sizeLine:=Nat.lt_of_le_of_lt h (2:)
section
variable {X:Cx}
theorem pv (i:Nat) {x:Str} {pos:Pos} (hN:X.N[i]?=some x:=by rfl) (hv:Vis X.env.scope x:=by first | exact Or.inl rfl | exact Or.inr (Or.inl rfl) | exact Or.inr (Or.inr rfl)) (hd:(x == ("__debug__" : Str))=false:=by decide)
  (hcd:(x == ("__classdict__" : Str))=false:=by decide):PE X (.Name x pos) (qmh i):=Qo hN hv hd hcd
end
def qv (H H':Hp):Prop:=∀ b o,H b=some o->H' b=some o
theorem qv.seq {K:Frag} {H H':Hp} {a:Addr} {xs:List V} (e:qv H H') (h:SqL K H a xs):SqL K H' a xs:=by
 rcases h with (h | ⟨o,h⟩) | h
 ·exact .inl (.inl (e _ _ h))
 ·exact .inl (.inr ⟨o,e _ _ h⟩)
 ·exact .inr h
end L2
namespace TS
open PySem PyProof.Rows
section
variable {M:Model} {A:Around} {E:PQ} {s:Shared} {O:KeyOrd} {kf:Keyed->O.α} {κ:SortKind} {G:Keyed->Prop}
noncomputable def qfm (M:Model) (A:Around) (E:PQ) (s:Shared) (O:KeyOrd) (kf:Keyed->O.α) (κ:SortKind) (G:Keyed->Prop):Prop:=
 ∀ x y,G x->G y->∀ (st:SortSt) (Q:Option Bool->SortSt->Prop),kindOf st=κ->Q (some (O.blt (kf x) (kf y))) st->wpS M A E s (lt' x y) Q st
theorem qdu {arr:Array Keyed} {p:Nat} {x:Keyed} {st:SortSt} {Q:Keyed->SortSt->Prop} (e:arr[p]?=some x) (h:Q x st):wpS M A E s (elem' arr p) Q st:=by rw [elem'_eq,e];exact wpS_pure h
variable {left:Bool} {key:Keyed} {arr:Array Keyed} {base n hint:Nat} {st:SortSt} {P:Nat->Bool}
end
end TS
namespace TS
open PySem PyProof.Rows
section
variable {O:KeyOrd} {kf:Keyed->O.α}
def le (O:KeyOrd) (kf:Keyed->O.α) (x y:Keyed):Prop:=O.kle (kf x) (kf y)
noncomputable def Srt (O:KeyOrd) (kf:Keyed->O.α) (a:Array Keyed) (lo hi:Nat):Prop:=∀ (i j:Nat) (x y:Keyed),lo<=i->i<=j->j < hi->a[i]?=some x->a[j]?=some y->le O kf x y
theorem Srt.pw {a:Array Keyed} (h:Srt O kf a 0 a.size):a.toList.Pairwise (le O kf):=by
 rw [List.pairwise_iff_getElem];intro i j hi hj hij;have hj':j < a.size:=by simpa using hj
 have hi':i < a.size:=by simpa using hi
 exact h i j _ _ (1:) (1:) hj' (by simp [hi']) (by simp [hj'])
variable {a b o:Array Keyed} {i j:Nat}
end
end TS
namespace TS
open PySem PyProof.Rows
section
variable {M:Model} {A:Around} {E:PQ} {s:Shared} {O:KeyOrd} {kf:Keyed->O.α} {κ:SortKind} {G:Keyed->Prop} {a b:Array Keyed}
theorem qdv {a:Array Keyed} {i:Nat} (h:i < a.size):∃ x,a[i]?=some x/\x∈a.toList:=⟨a[i],Array.getElem?_eq_getElem h,by simp⟩
end
end TS
namespace TS
open PySem PyProof.Rows
section
variable {O:KeyOrd} {kf:Keyed->O.α}
noncomputable def KA (O:KeyOrd) (kf:Keyed->O.α) (xs:Array Keyed) (i:Nat):O.α:=kf (xs[i]?.getD (Value.none,Value.none))
noncomputable def Inc (O:KeyOrd) (kf:Keyed->O.α) (xs:Array Keyed) (lo hi:Nat):Prop:=∀ i j,lo<=i->i<=j->j < hi->O.kle (KA O kf xs i) (KA O kf xs j)
noncomputable def Dec (O:KeyOrd) (kf:Keyed->O.α) (xs:Array Keyed) (lo hi:Nat):Prop:=∀ i j,lo<=i->i<=j->j < hi->O.kle (KA O kf xs j) (KA O kf xs i)
theorem Jd {xs ys:Array Keyed} {i j:Nat} (h:xs[i]?=ys[j]?):KA O kf xs i=KA O kf ys j:=by unfold KA;rw [h]
theorem qfn {xs:Array Keyed} {i:Nat} {x:Keyed} (h:xs[i]?=some x):KA O kf xs i=kf x:=by unfold KA;rw [h];rfl
theorem Inc.srt {xs:Array Keyed} {lo hi:Nat} (h:Inc O kf xs lo hi):Srt O kf xs lo hi:=fun i j x y h1 h2 h3 e1 e2=>by
 have:=h i j h1 h2 h3
 rw [qfn e1,qfn e2] at this;exact this
theorem YD {xs:Array Keyed} {i j:Nat} (hj:j<=xs.size) (k:Nat):KA O kf (mirror xs i j ((j - i) / 2)) k=if i<=k/\k < j then KA O kf xs (i+j - 1 - k) else KA O kf xs k:=by
 have e:=getElem?_mirror_all (i:=i) hj k
 by_cases h:i<=k/\k < j
 ·rw [if_pos h] at e ⊢;exact Jd e
 ·rw [if_neg h] at e ⊢;exact Jd e
theorem zh {xs:Array Keyed} {i j:Nat} (hj:j<=xs.size) (heq:∀ k,i<=k->k < j->KA O kf xs k=KA O kf xs (j - 1)) (k:Nat):KA O kf (mirror xs i j ((j - i) / 2)) k=KA O kf xs k:=by
 rw [YD hj];split
 ·rw [heq _ (1:) (1:),heq k (1:) (1:)]
 ·rfl
theorem Z4 {xs:Array Keyed} {src d:Nat} (hs:src < xs.size) (hd:d<=src) (k:Nat) :
  KA O kf (bubble xs src d) k=if k=src - d then KA O kf xs src else if src - d < k/\k<=src then KA O kf xs (k - 1) else KA O kf xs k:=by
 have e:=getElem?_bubble hs d hd k
 by_cases h1:k=src - d
 ·rw [if_pos h1] at e ⊢;exact Jd e
 ·rw [if_neg h1] at e ⊢
  by_cases h2:src - d < k/\k<=src
  ·rw [if_pos h2] at e ⊢;exact Jd e
  ·rw [if_neg h2] at e ⊢;exact Jd e
structure Re (lo:Nat) (xs ys:Array Keyed):Prop where
 perm:ys.Perm xs
 keep:∀ k,k < lo->ys[k]?=xs[k]?
theorem Re.refl (lo:Nat) (xs:Array Keyed):Re lo xs xs:=⟨Array.Perm.refl _,fun _ _=>rfl⟩
theorem Re.trans {lo:Nat} {xs ys zs:Array Keyed} (a:Re lo xs ys) (b:Re lo ys zs):Re lo xs zs:=⟨b.perm.trans a.perm,fun k h=>(b.keep k h).trans (a.keep k h)⟩
theorem Re.size {lo:Nat} {xs ys:Array Keyed} (a:Re lo xs ys):ys.size=xs.size:=a.perm.size_eq
theorem Re.mirror {lo i j:Nat} {xs:Array Keyed} (hi:lo<=i) (hj:j<=xs.size):Re lo xs (mirror xs i j ((j - i) / 2)):=⟨mirror_perm _ _ _ _,fun k h=>by rw [getElem?_mirror_all hj k,if_neg (1:)]⟩
theorem Re.bubble {lo src d:Nat} {xs:Array Keyed} (hs:src < xs.size) (hd:lo+d<=src):Re lo xs (bubble xs src d):=⟨bubble_perm _ _ _,fun k h=>by rw [getElem?_bubble hs d (1:),if_neg (1:),if_neg (1:)]⟩
theorem Re.mem {lo:Nat} {xs ys:Array Keyed} (a:Re lo xs ys) {G:Keyed->Prop} (h:∀ x∈xs.toList,G x):∀ x∈ys.toList,G x:=fun x hx=>h x ((Array.perm_iff_toList_perm.mp a.perm).mem_iff.mp hx)
end
abbrev ASt:=Option (Option Nat)×Nat
abbrev BSt:=Option (Option Nat)×Nat×Nat
noncomputable def asc (lo a nrem:Nat):StateT SortSt Sem ASt:=
 forIn [a:nrem] ((none,a):ASt) fun _ c=>do
  let r<-ltAt' (lo+c.2) (lo+c.2 - 1)
  match r with
  | some sm=>if sm=true then pure (.done (none,c.2)) else pure (.yield (none,c.2+1))
  | _=>pure (.done (some none,c.2))
noncomputable def dsc (lo a nrem:Nat):StateT SortSt Sem BSt:=
 forIn [a:nrem] ((none,a,0):BSt) fun _ c=>do
  let r<-ltAt' (lo+c.2.1) (lo+c.2.1 - 1)
  match r with
  | some sm=>
   if sm=true then
    if c.2.2 > 0 then do
     reverseSlice' (lo+c.2.1 - (c.2.2+1)) (lo+c.2.1)
     pure (.yield (none,c.2.1+1,0))
    else pure (.yield (none,c.2.1+1,0))
   else do
    let r<-ltAt' (lo+c.2.1 - 1) (lo+c.2.1)
    match r with
    | some lg=>if lg=true then pure (.done (none,c.2.1,c.2.2)) else pure (.yield (none,c.2.1+1,c.2.2+1))
    | _=>pure (.done (some none,c.2.1,c.2.2))
  | _=>pure (.done (some none,c.2.1,c.2.2))
noncomputable def tl3 (lo n nrem:Nat):StateT SortSt Sem (Option Nat):=do
 reverseSlice' lo (lo+n)
 let c<-asc lo n nrem
 match c.1 with
 | some r=>pure r
 | none=>pure (some c.2)
noncomputable def dpt (lo n nrem:Nat):StateT SortSt Sem (Option Nat):=do
 rule "list.sort.descending-run"
 let c<-dsc lo (n+1) nrem
 match c.1 with
 | some r=>pure r
 | none=>if c.2.2 > 0 then do reverseSlice' (lo+c.2.1 - (c.2.2+1)) (lo+c.2.1);tl3 lo c.2.1 nrem else tl3 lo c.2.1 nrem
theorem qmF (lo nrem:Nat):countRun' lo nrem=(do
 let c<-asc lo 1 nrem
 match c.1 with
 | some r=>pure r
 | none=>
  if (c.2 == nrem)=true then pure (some c.2)
  else if c.2 > 1 then do
   let r<-ltAt' lo (lo+c.2 - 1)
   match r with
   | some rs=>if rs=true then pure (some c.2) else do reverseSlice' lo (lo+c.2);dpt lo c.2 nrem
   | _=>pure none
  else dpt lo c.2 nrem):=by
 rw [countRun'_eq];show (forIn _ _ _ >>= _:StateT SortSt Sem (Option Nat))=asc lo 1 nrem >>= _;refine congr (congrArg Bind.bind ?_) (funext fun c=>?_)
 ·delta asc
  show 6
  cases r with
  | none=>exact rfl
  | some sm=>exact rfl
 ·obtain ⟨c1,c2⟩:=c
  cases c1 with
  | some r=>rfl
  | none=>
   show (ite _ _ (ite _ _ _):StateT SortSt Sem (Option Nat))=ite _ _ (ite _ _ _);refine congrArg (ite _ _) ?_;refine congr (congrArg (ite _) ?_) ?_
   ·refine congrArg (fun z=>_ >>= z) (funext fun r=>?_)
    cases r with
    | none=>exact rfl
    | some rs=>
     show (ite _ _ _:StateT SortSt Sem (Option Nat))=ite _ _ _;refine congrArg (ite _ _) ?_;refine congrArg (fun z=>_ >>= z) (funext fun _=>?_)
     delta dpt
     refine congrArg (fun z=>_ >>= z) (funext fun _=>?_);show (forIn _ _ _ >>= _:StateT SortSt Sem (Option Nat))=dsc lo (c2+1) nrem >>= _;refine congr (congrArg Bind.bind ?_) (funext fun d=>?_)
     ·delta dsc
      show 6
      cases r with
      | none=>exact rfl
      | some sm=>
       show (ite _ _ _:StateT SortSt Sem (ForInStep BSt))=ite _ _ _;refine congr (congrArg (ite _) ?_) ?_
       ·exact rfl
       ·refine congrArg (fun z=>_ >>= z) (funext fun r=>?_)
        cases r with
        | none=>exact rfl
        | some lg=>exact rfl
     ·obtain ⟨d1,d2,d3⟩:=d
      cases d1 with
      | some r=>exact rfl
      | none=>
       show (ite _ _ _:StateT SortSt Sem (Option Nat))=ite _ _ _;refine congr (congrArg (ite _) ?_) ?_
       ·refine congrArg (fun z=>_ >>= z) (funext fun _=>?_)
        delta tl3
        show 7
        ·delta asc
         show 6
         cases r with
         | none=>exact rfl
         | some sm=>exact rfl
        ·obtain ⟨e1,e2⟩:=e
         cases e1 with
         | some r=>exact rfl
         | none=>exact rfl
       ·delta tl3
        show 7
        ·delta asc
         show 6
         cases r with
         | none=>exact rfl
         | some sm=>exact rfl
        ·obtain ⟨e1,e2⟩:=e
         cases e1 with
         | some r=>exact rfl
         | none=>exact rfl
   ·show _=dpt lo c2 nrem
    delta dpt
    refine congrArg (fun z=>_ >>= z) (funext fun _=>?_);show (forIn _ _ _ >>= _:StateT SortSt Sem (Option Nat))=dsc lo (c2+1) nrem >>= _;refine congr (congrArg Bind.bind ?_) (funext fun d=>?_)
    ·delta dsc
     show 6
     cases r with
     | none=>exact rfl
     | some sm=>
      show (ite _ _ _:StateT SortSt Sem (ForInStep BSt))=ite _ _ _;refine congr (congrArg (ite _) ?_) ?_
      ·exact rfl
      ·refine congrArg (fun z=>_ >>= z) (funext fun r=>?_)
       cases r with
       | none=>exact rfl
       | some lg=>exact rfl
    ·obtain ⟨d1,d2,d3⟩:=d
     cases d1 with
     | some r=>exact rfl
     | none=>
      show (ite _ _ _:StateT SortSt Sem (Option Nat))=ite _ _ _;refine congr (congrArg (ite _) ?_) ?_
      ·refine congrArg (fun z=>_ >>= z) (funext fun _=>?_)
       delta tl3
       show 7
       ·delta asc
        show 6
        cases r with
        | none=>exact rfl
        | some sm=>exact rfl
       ·obtain ⟨e1,e2⟩:=e
        cases e1 with
        | some r=>exact rfl
        | none=>exact rfl
      ·delta tl3
       show 7
       ·delta asc
        show 6
        cases r with
        | none=>exact rfl
        | some sm=>exact rfl
       ·obtain ⟨e1,e2⟩:=e
        cases e1 with
        | some r=>exact rfl
        | none=>exact rfl
section
variable {M:Model} {A:Around} {E:PQ} {s:Shared} {O:KeyOrd} {kf:Keyed->O.α} {κ:SortKind} {G:Keyed->Prop}
theorem YE (L:qfm M A E s O kf κ G) {st:SortSt} {i j:Nat} {Q:Option Bool->SortSt->Prop} (hk:kindOf st=κ) (hG:∀ x∈(arrOf st).toList,G x) (hi:i < (arrOf st).size) (hj:j < (arrOf st).size)
  (h:Q (some (O.blt (KA O kf (arrOf st) i) (KA O kf (arrOf st) j))) st):wpS M A E s (ltAt' i j) Q st:=by
 rw [ltAt'_eq];refine wpS_bind (wpS_get ?_);obtain ⟨x,ex,mx⟩:=qdv hi;obtain ⟨y,ey,my⟩:=qdv hj;rw [qfn ex,qfn ey] at h;exact wpS_bind (qdu ex (wpS_bind (qdu ey (L x y (hG x mx) (hG y my) st Q hk h))))
theorem qbC {i j:Nat} {st:SortSt} {Q:Unit->SortSt->Prop} (h:Q () (setArr st (mirror (arrOf st) i j ((j - i) / 2)))):wpS M A E s (reverseSlice' i j) Q st:=by rw [reverseSlice'_eq];exact wpS_modify h
theorem qgz (L:qfm M A E s O kf κ G) {st:SortSt} {lo a nrem:Nat} {Q:ASt->SortSt->Prop} (hk:kindOf st=κ) (hG:∀ x∈(arrOf st).toList,G x) (hn:lo+nrem<=(arrOf st).size) (ha:1<=a) (han:a<=nrem)
  (hs:Inc O kf (arrOf st) lo (lo+a))
  (h:∀ n,a<=n->n<=nrem->Inc O kf (arrOf st) lo (lo+n)->(n=nrem\/O.klt (KA O kf (arrOf st) (lo+n)) (KA O kf (arrOf st) (lo+n - 1)))->Q (none,n) st):wpS M A E s (asc lo a nrem) Q st:=by
 unfold asc;refine wpS_forRange (I:=fun x c st'=>st'=st/\c=(none,x)/\Inc O kf (arrOf st) lo (lo+x)) ?step ?fin ⟨rfl,rfl,hs⟩
 case fin=>rintro c st' ⟨rfl,rfl,hs'⟩;rw [show max a nrem=nrem by omega] at hs' ⊢;exact h nrem han (Nat.le_refl _) hs' (.inl rfl)
 case step=>
  rintro x c st' hax hxn ⟨rfl,rfl,hs'⟩;dsimp only;refine wpS_bind (YE L hk hG (1:) (1:) ?_)
  cases hb:O.blt (KA O kf (arrOf st') (lo+x)) (KA O kf (arrOf st') (lo+x - 1)) with
  | true=>simp only [if_true];exact wpS_pure (h x hax (1:) hs' (.inr hb))
  | false=>
   simp only [Bool.false_eq_true,if_false];refine wpS_pure ⟨rfl,rfl,fun i j h1 h2 h3=>?_⟩
   by_cases hjx:j < lo+x
   ·exact hs' i j h1 h2 hjx
   ·have:j=lo+x:=by omega
    subst this
    by_cases e:i=lo+x
    ·subst e;exact KeyOrd.kle_refl _
    ·exact KeyOrd.kle_trans (hs' i (lo+x - 1) h1 (1:) (1:)) hb
noncomputable def qcw (O:KeyOrd) (kf:Keyed->O.α) (lo nrem:Nat) (st:SortSt) (Q:Option Nat->SortSt->Prop):Prop:=
 ∀ m xs,Re lo (arrOf st) xs->1<=m->m<=nrem->Inc O kf xs lo (lo+m)->Q (some m) (setArr st xs)
theorem qcw.step {lo nrem:Nat} {st:SortSt} {Q:Option Nat->SortSt->Prop} {xs:Array Keyed} (h:qcw O kf lo nrem st Q) (r:Re lo (arrOf st) xs):qcw O kf lo nrem (setArr st xs) Q:=
 fun m ys r' h1 h2 h3=>h m ys (r.trans r') h1 h2 h3
theorem qgA (L:qfm M A E s O kf κ G) {st:SortSt} {lo n nrem:Nat} {Q:Option Nat->SortSt->Prop} (hk:kindOf st=κ) (hG:∀ x∈(arrOf st).toList,G x) (hn:lo+nrem<=(arrOf st).size) (h1:1<=n) (hnn:n<=nrem)
  (hs:Dec O kf (arrOf st) lo (lo+n)) (h:qcw O kf lo nrem st Q):wpS M A E s (tl3 lo n nrem) Q st:=by
 unfold tl3;refine wpS_bind (qbC ?_);have r:Re lo (arrOf st) (mirror (arrOf st) lo (lo+n) ((lo+n - lo) / 2)):=Re.mirror (Nat.le_refl _) (1:);refine wpS_bind (qgz L (st:=setArr st (mirror (arrOf st) lo (lo+n) ((lo+n - lo) / 2))) hk (r.mem hG) (by have:=r.size;show lo+nrem<=(mirror (arrOf st) lo (lo+n) ((lo+n - lo) / 2)).size;omega) h1 hnn ?_ fun m hm1 hm2 hs2 _=>wpS_pure (h m _ r (1:) hm2 hs2));intro i j h2 h3 h4;show O.kle (KA O kf (mirror (arrOf st) lo (lo+n) ((lo+n - lo) / 2)) i) (KA O kf (mirror (arrOf st) lo (lo+n) ((lo+n - lo) / 2)) j);rw [YD (1:),YD (1:),if_pos (1:),if_pos (1:)];exact hs _ _ (1:) (1:) (1:)
theorem qjQ (L:qfm M A E s O kf κ G) {st:SortSt} {lo n nrem:Nat} {Q:BSt->SortSt->Prop} (hk:kindOf st=κ) (hG:∀ x∈(arrOf st).toList,G x) (hn:lo+nrem<=(arrOf st).size) (h1:1<=n) (hnn:n<=nrem)
  (hs:Dec O kf (arrOf st) lo (lo+n))
  (h:∀ m ne xs,Re lo (arrOf st) xs->n<=m->m<=nrem->Dec O kf xs lo (lo+m)->ne+1<=m->(∀ i,lo+m - (ne+1)<=i->i < lo+m->KA O kf xs i=KA O kf xs (lo+m - 1))->Q (none,m,ne) (setArr st xs)):wpS M A E s (dsc lo n nrem) Q st:=by
 unfold dsc
 refine wpS_forRange (I:=fun x c st'=>∃ ne xs,c=(none,x,ne)/\st'=setArr st xs/\Re lo (arrOf st) xs/\Dec O kf xs lo (lo+x)/\ne+1<=x/\(∀ i,lo+x - (ne+1)<=i->i < lo+x->KA O kf xs i=KA O kf xs (lo+x - 1))) ?step ?fin
  ⟨0,arrOf st,rfl,rfl,Re.refl _ _,hs,by omega,fun i a b=>by congr 1;omega⟩
 case fin=>rintro c st' ⟨ne,xs,rfl,rfl,r,hs',hq,he⟩;rw [show max n nrem=nrem by omega] at hs' hq he ⊢;exact h nrem ne xs r hnn (Nat.le_refl _) hs' hq he
 case step=>
  rintro x c st' hax hxn ⟨ne,xs,rfl,rfl,r,hs',hq,he⟩;dsimp only;have hsz:xs.size=(arrOf st).size:=r.size;refine wpS_bind (YE L (st:=setArr st xs) hk (r.mem hG) (by show lo+x < xs.size;omega) (by show lo+x - 1 < xs.size;omega) ?_);show wpS M A E s _ _ _
  cases hb:O.blt (KA O kf (arrOf (setArr st xs)) (lo+x)) (KA O kf (arrOf (setArr st xs)) (lo+x - 1)) with
  | true=>
   have hb:O.blt (KA O kf xs (lo+x)) (KA O kf xs (lo+x - 1))=true:=hb;simp only [if_true]
   have step1:∀ ys:Array Keyed,(∀ k,KA O kf ys k=KA O kf xs k)->Dec O kf ys lo (lo+(x+1)):=by
    intro ys hy i j a b d;rw [hy,hy]
    by_cases hjx:j < lo+x
    ·exact hs' i j a b hjx
    ·have:j=lo+x:=by omega
     subst this
     by_cases e:i=lo+x
     ·subst e;exact KeyOrd.kle_refl _
     ·exact KeyOrd.kle_trans (KeyOrd.kle_of_klt hb) (hs' i (lo+x - 1) a (1:) (1:))
   by_cases hneq:ne > 0
   ·rw [if_pos hneq];refine wpS_bind (qbC (wpS_pure ⟨0,_,rfl,rfl,r.trans (Re.mirror (xs:=xs) (1:) (1:)),step1 _ (zh (xs:=xs) (1:) he),by omega,fun i a b=>by congr 1;omega⟩))
   ·rw [if_neg hneq];exact wpS_pure ⟨0,xs,rfl,rfl,r,step1 _ (fun _=>rfl),by omega,fun i a b=>by congr 1;omega⟩
  | false=>
   have hb:O.blt (KA O kf xs (lo+x)) (KA O kf xs (lo+x - 1))=false:=hb;simp only [Bool.false_eq_true,if_false];refine wpS_bind (YE L (st:=setArr st xs) hk (r.mem hG) (by show lo+x - 1 < xs.size;omega) (by show lo+x < xs.size;omega) ?_)
   cases hc:O.blt (KA O kf (arrOf (setArr st xs)) (lo+x - 1)) (KA O kf (arrOf (setArr st xs)) (lo+x)) with
   | true=>simp only [if_true];exact wpS_pure (h x ne xs r hax (1:) hs' hq he)
   | false=>
    have hc:O.blt (KA O kf xs (lo+x - 1)) (KA O kf xs (lo+x))=false:=hc;simp only [Bool.false_eq_true,if_false];have heqx:KA O kf xs (lo+x)=KA O kf xs (lo+x - 1):=KeyOrd.kle_antisymm hc hb;refine wpS_pure ⟨ne+1,xs,rfl,rfl,r,fun i j a b d=>?_,by omega,fun i a b=>?_⟩
    ·by_cases hjx:j < lo+x
     ·exact hs' i j a b hjx
     ·have:j=lo+x:=by omega
      subst this
      by_cases e:i=lo+x
      ·subst e;exact KeyOrd.kle_refl _
      ·rw [heqx];exact hs' i (lo+x - 1) a (1:) (1:)
    ·rw [show lo+(x+1) - 1=lo+x by omega]
     by_cases e:i=lo+x
     ·rw [e]
     ·rw [heqx];exact he i (1:) (1:)
theorem qgB (L:qfm M A E s O kf κ G) {st:SortSt} {lo n nrem:Nat} {Q:Option Nat->SortSt->Prop} (hk:kindOf st=κ) (hG:∀ x∈(arrOf st).toList,G x) (hn:lo+nrem<=(arrOf st).size) (hnn:n+1<=nrem)
  (hs:Dec O kf (arrOf st) lo (lo+(n+1))) (h:qcw O kf lo nrem st Q):wpS M A E s (dpt lo n nrem) Q st:=by
 unfold dpt;refine wpS_bind (wpS_lift (wpAny_rule ⟨rfl,?_⟩));refine wpS_bind (qjQ L hk hG hn (1:) hnn hs fun m ne xs r h1 h2 h3 h4 h5=>?_);dsimp only;have hsz:xs.size=(arrOf st).size:=r.size
 by_cases hneq:ne > 0
 ·rw [if_pos hneq];have r2:Re lo xs (mirror xs (lo+m - (ne+1)) (lo+m) ((lo+m - (lo+m - (ne+1))) / 2)):=Re.mirror (1:) (1:);refine wpS_bind (qbC (qgA L hk (r2.mem (r.mem hG)) (by have:=r2.size;show lo+nrem<=(mirror xs (lo+m - (ne+1)) (lo+m) ((lo+m - (lo+m - (ne+1))) / 2)).size;omega) (1:) h2 ?_ ((h.step r).step r2)));intro i j a b d;show O.kle (KA O kf (mirror xs _ _ _) j) (KA O kf (mirror xs _ _ _) i);rw [zh (1:) h5,zh (1:) h5];exact h3 i j a b d
 ·rw [if_neg hneq];exact qgA L (st:=setArr st xs) hk (r.mem hG) (by show lo+nrem<=xs.size;omega) (1:) h2 h3 (h.step r)
theorem qmG (L:qfm M A E s O kf κ G) {st:SortSt} {lo nrem:Nat} {Q:Option Nat->SortSt->Prop} (hk:kindOf st=κ) (hG:∀ x∈(arrOf st).toList,G x) (hn:lo+nrem<=(arrOf st).size) (h1:1<=nrem)
  (h:qcw O kf lo nrem st Q):wpS M A E s (countRun' lo nrem) Q st:=by
 rw [qmF];refine wpS_bind (qgz L hk hG hn (Nat.le_refl 1) h1 (fun i j a b d=>by have:i=j:=(1:);subst this;exact KeyOrd.kle_refl _) fun n hn1 hn2 hsn hor=>?_);dsimp only
 by_cases hnn:n=nrem
 ·rw [if_pos (by simpa using hnn)];exact wpS_pure (h n _ (Re.refl _ _) hn1 hn2 hsn)
 ·rw [if_neg (by simpa using hnn)];have hlt:=hor.resolve_left hnn
  by_cases hgt:n > 1
  ·rw [if_pos hgt];refine wpS_bind (YE L hk hG (1:) (1:) ?_)
   cases hr:O.blt (KA O kf (arrOf st) lo) (KA O kf (arrOf st) (lo+n - 1)) with
   | true=>simp only [if_true];exact wpS_pure (h n _ (Re.refl _ _) hn1 hn2 hsn)
   | false=>
    simp only [Bool.false_eq_true,if_false]
    have hall:∀ k,lo<=k->k < lo+n->KA O kf (arrOf st) k=KA O kf (arrOf st) (lo+n - 1):=by intro k a b;exact KeyOrd.kle_antisymm (hsn k (lo+n - 1) a (1:) (1:)) (KeyOrd.kle_trans hr (hsn lo k (Nat.le_refl _) a b))
    have r:Re lo (arrOf st) (mirror (arrOf st) lo (lo+n) ((lo+n - lo) / 2)):=Re.mirror (Nat.le_refl _) (1:);refine wpS_bind (qbC (qgB L hk (r.mem hG) (by have:=r.size;show lo+nrem<=(mirror (arrOf st) lo (lo+n) ((lo+n - lo) / 2)).size;omega) (1:) ?_ (h.step r)));intro i j a b d;show O.kle (KA O kf (mirror (arrOf st) _ _ _) j) (KA O kf (mirror (arrOf st) _ _ _) i);rw [zh (1:) hall,zh (1:) hall]
    by_cases hjn:j < lo+n
    ·rw [hall i (1:) (1:),hall j (1:) hjn];exact KeyOrd.kle_refl _
    ·have:j=lo+n:=by omega
     subst this
     by_cases e:i=lo+n
     ·subst e;exact KeyOrd.kle_refl _
     ·rw [hall i (1:) (1:)];exact KeyOrd.kle_of_klt hlt
  ·rw [if_neg hgt]
   have:n=1:=by omega
   subst this;refine qgB L hk hG hn (1:) ?_ h;intro i j a b d
   by_cases e:i=j
   ·subst e;exact KeyOrd.kle_refl _
   ·have e1:i=lo:=by omega
    have e2:j=lo+1:=by omega
    subst e1 e2;exact KeyOrd.kle_of_klt (by simpa using hlt)
theorem qjR (L:qfm M A E s O kf κ G) {st:SortSt} {lo n ok:Nat} {Q:Bool->SortSt->Prop} (hk:kindOf st=κ) (hG:∀ x∈(arrOf st).toList,G x) (hn:lo+n<=(arrOf st).size) (hok:ok<=n) (hs:Inc O kf (arrOf st) lo (lo+ok))
  (h:∀ xs,Re lo (arrOf st) xs->Inc O kf xs lo (lo+n)->Q true (setArr st xs)):wpS M A E s (binarySort' lo n ok) Q st:=by
 rw [binarySort'_eq]
 refine wpS_bind (wpS_mono (wpS_forRange (I:=fun k c st'=>c=(none,())/\∃ xs,st'=setArr st xs/\Re lo (arrOf st) xs/\Inc O kf xs lo (lo+min k n))
  (Q:=fun c st'=>c=(none,())/\∃ xs,st'=setArr st xs/\Re lo (arrOf st) xs/\Inc O kf xs lo (lo+n)) ?step ?fin ?init) ?post)
 case post=>rintro c st' ⟨rfl,xs,rfl,r,hs'⟩;exact wpS_pure (h xs r hs')
 case init=>
  refine ⟨rfl,arrOf st,rfl,Re.refl _ _,fun i j a b d=>?_⟩
  by_cases h1:ok=0
  ·have:i=j:=by omega
   subst this;exact KeyOrd.kle_refl _
  ·exact hs i j a b (1:)
 case fin=>
  rintro c st' ⟨hc,xs,rfl,r,hs'⟩;refine ⟨hc,xs,rfl,r,?_⟩
  rwa [show min (max (max ok 1) n) n=n by omega] at hs'
 case step=>
  rintro k c st' hak hkn ⟨rfl,xs,rfl,r,hs'⟩;rw [show min k n=k by omega] at hs';have hsz:xs.size=(arrOf st).size:=r.size
  refine wpS_bind (wpS_mono (wpS_forRange (I:=fun x c st''=>st''=setArr st xs/\∃ l u,c=(none,l,u)/\l<=u/\u<=k/\u - l<=k - x/\
    (∀ i,i < l->O.kle (KA O kf xs (lo+i)) (KA O kf xs (lo+k)))/\(∀ i,u<=i->i < k->O.klt (KA O kf xs (lo+k)) (KA O kf xs (lo+i))))
   (Q:=fun c st''=>st''=setArr st xs/\∃ l u,c=(none,l,u)/\l<=k/\
    (∀ i,i < l->O.kle (KA O kf xs (lo+i)) (KA O kf xs (lo+k)))/\(∀ i,l<=i->i < k->O.klt (KA O kf xs (lo+k)) (KA O kf xs (lo+i)))) ?istep ?ifin ?iinit) ?ipost)
  case iinit=>exact ⟨rfl,0,k,rfl,by omega,by omega,by omega,fun i hi=>by omega,fun i h1 h2=>by omega⟩
  case ifin=>
   rintro c st'' ⟨rfl,l,u,rfl,a,b,d,e,f⟩
   have:l=u:=by omega
   subst this;exact ⟨rfl,l,l,rfl,b,e,f⟩
  case istep=>
   rintro x c st'' _ hxk ⟨rfl,l,u,rfl,a,b,d,e,f⟩;dsimp only
   by_cases hge:l≥u
   ·rw [if_pos hge]
    have:l=u:=by omega
    subst this;exact wpS_pure ⟨rfl,l,l,rfl,b,e,f⟩
   ·rw [if_neg hge];refine wpS_bind (YE L (st:=setArr st xs) hk (r.mem hG) (by show lo+k < xs.size;omega) (by show lo+(l+u) / 2 < xs.size;omega) ?_)
    cases hb:O.blt (KA O kf (arrOf (setArr st xs)) (lo+k)) (KA O kf (arrOf (setArr st xs)) (lo+(l+u) / 2)) with
    | true=>have hb:O.blt (KA O kf xs (lo+k)) (KA O kf xs (lo+(l+u) / 2))=true:=hb;simp only [if_true];refine wpS_pure ⟨rfl,l,(l+u) / 2,rfl,by omega,by omega,by omega,e,fun i h1 h2=>?_⟩;exact KeyOrd.klt_of_klt_of_kle hb (hs' _ _ (1:) (1:) (1:))
    | false=>have hb:O.blt (KA O kf xs (lo+k)) (KA O kf xs (lo+(l+u) / 2))=false:=hb;simp only [Bool.false_eq_true,if_false];refine wpS_pure ⟨rfl,(l+u) / 2+1,u,rfl,by omega,by omega,by omega,fun i h1=>?_,f⟩;exact KeyOrd.kle_trans (hs' (lo+i) (lo+(l+u) / 2) (1:) (1:) (1:)) (show O.kle _ _ from hb)
  case ipost=>
   rintro c st'' ⟨rfl,l,u,rfl,hlk,hlo,hhi⟩;show wpS _ _ _ _ (do moveDown' (lo+k) (lo+l);pure (ForInStep.yield (none,()))) _ _;rw [moveDown'_eq];have hks:lo+k < xs.size:=by omega
   refine wpS_bind (wpS_modify (wpS_pure ⟨rfl,_,rfl,r.trans (Re.bubble hks (d:=lo+k - (lo+l)) (1:)),?_⟩));rw [show min (k+1) n=k+1 by omega];intro i j a b d;show O.kle (KA O kf (bubble xs (lo+k) (lo+k - (lo+l))) i) (KA O kf (bubble xs (lo+k) (lo+k - (lo+l))) j);rw [Z4 hks (1:),Z4 hks (1:),show lo+k - (lo+k - (lo+l))=lo+l by omega]
   have lo':∀ t,lo<=t->t < lo+l->O.kle (KA O kf xs t) (KA O kf xs (lo+k)):=fun t h1 h2=>by
    have:=hlo (t - lo) (1:)
    rwa [show lo+(t - lo)=t by omega] at this
   have hi':∀ t,lo+l<=t->t < lo+k->O.klt (KA O kf xs (lo+k)) (KA O kf xs t):=fun t h1 h2=>by
    have:=hhi (t - lo) (1:) (1:)
    rwa [show lo+(t - lo)=t by omega] at this
   repeat' split
   all_goals first
    | (exfalso;omega)
    | exact KeyOrd.kle_refl _
    | exact lo' _ (1:) (1:)
    | exact KeyOrd.kle_of_klt (hi' _ (1:) (1:))
    | exact hs' _ _ (1:) (1:) (1:)
end
end TS
namespace TS
open PySem PyProof.Rows
section
variable {prog:Program} {w:World} {A:Around} {E:PQ} {s:Shared} {O:KeyOrd} {kf:Keyed->O.α} {κ:SortKind}
def qdw (s s1:Shared):Prop:=∀ b o,s.heap.get? b=some o->s1.heap.get? b=some o
structure Sorts (prog:Program) (w:World) (s:Shared) (vs:List Value) (O:KeyOrd) (kf:Keyed->O.α) (κ:SortKind):Prop where
 kind:2<=vs.length->∀ (A:Around) (E:PQ) (s1:Shared) (Q:SortKind->Shared->Prop),qdw s s1->Q κ s1->wpAny (model prog w) A (keyKind' vs.toArray) Q E s1
 lt:∀ (A:Around) (E:PQ) (s1:Shared),qdw s s1->qfm (model prog w) A E s1 O kf κ (fun x=>x∈(pairsOf vs).toList)
end
end TS
namespace TS
open PySem PyProof.Rows
noncomputable def pO:KeyOrd where
 α:=Int×Int
 blt p q:=decide (p.1 < q.1)||(decide (p.1=q.1)&&decide (p.2 < q.2))
 irrefl a:=by simp
 trans a b c h1 h2:=by simp at h1 h2 ⊢;omega
 negTrans a b c h:=by simp at h ⊢;omega
 total a b h1 h2:=by
  obtain ⟨a1,a2⟩:=a;obtain ⟨b1,b2⟩:=b;simp at h1 h2;have e1:a1=b1:=by omega
  subst e1;have e2:a2=b2:=by omega
  rw [e2]
def nOf:Value->Int
 | .int n _=>n
 | _=>0
noncomputable def yE (h:Heap) (v:Value):Int×Int:=match v with
 | .ref a=>match h.get? a with
  | some o=>match o.data with
   | .seq xs _=>(nOf (xs.getD 0 .none),nOf (xs.getD 1 .none))
   | _=>(0,0)
  | none=>(0,0)
 | _=>(0,0)
def qbD (h:Heap) (v:Value) (p:Int×Int):Prop:=∃ a t u,v=.ref a/\IsTup h a #[.int p.1 t,.int p.2 u]
theorem qbD.pair {h:Heap} {v:Value} {p:Int×Int} (e:qbD h v p):yE h v=p:=by obtain ⟨a,t,u,rfl,o,ho,hc,n,hd⟩:=e;unfold yE;simp only [ho,hd];rfl
theorem qbD.grow {s s1:Shared} {v:Value} {p:Int×Int} (e:qbD s.heap v p) (g:qdw s s1):qbD s1.heap v p:=by obtain ⟨a,t,u,rfl,o,ho,hc,n,hd⟩:=e;exact ⟨a,t,u,rfl,o,g a o ho,hc,n,hd⟩
section
variable {prog:Program} {w:World} {A:Around} {E:PQ} {s:Shared}
theorem qjS {x y:Value} {p q:Int×Int} {Q:Bool->Shared->Prop} (hx:qbD s.heap x p) (hy:qbD s.heap y q) (h:Q (pO.blt p q) s):wpAny (model prog w) A (keyLt' (tuples' true) x y) Q E s:=by
 obtain ⟨a,t,u,rfl,o,ho,hc,n,hd⟩:=hx;obtain ⟨b,t',u',rfl,o',ho',hc',n',hd'⟩:=hy;refine PySem.W.kat_lt ho hd ho' hd' ?_;show PySem.W.KatLex prog w A true _ Q [(.int p.1 t,.int q.1 t'),(.int p.2 u,.int q.2 u')] 0 s;refine PySem.W.kat_cons (wpAny_eqBool_int ?_)
 by_cases e1:p.1=q.1
 ·rw [show (p.1 == q.1)=true by simpa using e1];refine PySem.W.kat_yes (PySem.W.kat_cons (wpAny_eqBool_int ?_))
  by_cases e2:p.2=q.2
  ·rw [show (p.2 == q.2)=true by simpa using e2];refine PySem.W.kat_yes (PySem.W.kat_nil ?_)
   have:pO.blt p q=false:=by unfold pO;simp [e1,e2]
   rw [this] at h;exact h
  ·rw [show (p.2 == q.2)=false by simpa using e2];refine PySem.W.kat_no (PySem.W.kat_one _ _ (lt_int ?_))
   have:pO.blt p q=decide (p.2 < q.2):=by unfold pO;simp [e1]
   rw [this] at h;exact h
 ·rw [show (p.1 == q.1)=false by simpa using e1];refine PySem.W.kat_no ?_
  have:pO.blt p q=decide (p.1 < q.1):=by unfold pO;simp [e1]
  rw [this] at h;exact oneLt_int h
theorem qdx:∀ {vs:List Value} {ps:List (Int×Int)},Paired (qbD s.heap) vs ps->∃ fs,PySem.W.KatTups s.heap vs fs/\fs.length=vs.length/\∀ v∈fs,∃ n t,v=Value.int n t
 | _,_,.nil=>⟨[],trivial,rfl,fun _ h=>nomatch h⟩
 | _,_,.cons r rs=>by
  obtain ⟨a,t,u,rfl,o,ho,hc,n,hd⟩:=r;obtain ⟨fs,h1,h2,h3⟩:=qdx rs;refine ⟨_::fs,PySem.W.KatTups.cons ho hc hd rfl h1,by simp [h2],fun v hv=>?_⟩;rcases List.mem_cons.mp hv with rfl | hv
  ·exact ⟨_,_,rfl⟩
  ·exact h3 v hv
theorem Z5 {vs:List Value} {x:Keyed} (h:x∈(pairsOf vs).toList):x.1=x.2/\x.1∈vs:=by rw [pairsOf_toList] at h;exact mem_zip_self h
theorem Paired.at_mem {α β:Type} {R:α->β->Prop}:∀ {l:List α} {m:List β},Paired R l m->∀ a∈l,∃ b∈m,R a b
 | _,_,.nil,_,h=>nomatch h
 | _,_,.cons r rs,a,h=>by
  rcases List.mem_cons.mp h with rfl | h
  ·exact ⟨_,List.mem_cons_self,r⟩
  ·obtain ⟨b,hb,q⟩:=Paired.at_mem rs a h;exact ⟨b,List.mem_cons_of_mem _ hb,q⟩
theorem Paired.grow2 {s s1:Shared} (g:qdw s s1):∀ {vs:List Value} {ps:List (Int×Int)},Paired (qbD s.heap) vs ps->Paired (qbD s1.heap) vs ps
 | _,_,.nil=>.nil
 | _,_,.cons r rs=>.cons (r.grow g) (Paired.grow2 g rs)
theorem qdy {vs:List Value} {ps:List (Int×Int)} (h:Paired (qbD s.heap) vs ps):Sorts prog w s vs pO (fun x=>yE s.heap x.1) (tuples' true) where
 kind:=fun h2 A E s1 Q g q=>by obtain ⟨fs,t1,t2,t3⟩:=qdx (Paired.grow2 g h);refine PySem.W.kat_kind t1 (1:) (T:=Value.type "int") (fun v hv=>?_) rfl q;obtain ⟨n,t,rfl⟩:=t3 v hv;exact .now
 lt:=fun A E s1 g x y hx hy st Q hk q=>by obtain ⟨p,_,hp⟩:=Paired.at_mem h _ (Z5 hx).2;obtain ⟨p',_,hp'⟩:=Paired.at_mem h _ (Z5 hy).2;have q:Q (some (pO.blt (yE s.heap x.1) (yE s.heap y.1))) st:=q;rw [hp.pair,hp'.pair] at q;rw [lt'_eq];refine wpS_bind (wpS_get ?_);rw [hk];refine wpS_bind (wpS_lift (wpAny_attempt (qjS (hp.grow g) (hp'.grow g) ⟨rfl,?_⟩)));exact wpS_pure q
end
theorem Paired.perm {α β:Type} {R:α->β->Prop} {us us':List β} (p:us'.Perm us):∀ {xs:List α},Paired R xs us->∃ xs',xs'.Perm xs/\Paired R xs' us':=by
 induction p with
 | nil=>exact fun {xs} h=>⟨xs,List.Perm.refl _,h⟩
 | cons x _ ih=>
  intro xs h
  cases h with
  | cons r rs=>obtain ⟨xs',h1,h2⟩:=ih rs;exact ⟨_::xs',h1.cons _,.cons r h2⟩
 | swap x y l=>
  intro xs h
  cases h with
  | cons r rs=>
   cases rs with
   | cons r' rs=>exact ⟨_::_::_,List.Perm.swap ..,.cons r' (.cons r rs)⟩
 | trans _ _ ih1 ih2=>intro xs h;obtain ⟨x1,h1,h2⟩:=ih2 h;obtain ⟨x2,h3,h4⟩:=ih1 h2;exact ⟨x2,h3.trans h1,h4⟩
end TS
namespace L2
open PySem PySem.Spec PyProof.Rows
noncomputable def P2 (K:Frag) (H:Hp) (v:V) (p:Int×Int):Prop:=∃ a,v=.ref a/\H a=some (.tup [.int p.1,.int p.2])
def qcx (p q:Int×Int):Prop:=p.1 < q.1\/(p.1=q.1/\p.2<=q.2)
section
variable {X:Cx}
theorem P2.raw {pins:PP} {σ:St} {H:Hp} {s:Shared} {v:V} {u:Value} {p:Int×Int} (I:Inv X pins σ H s) (h:P2 X.K H v p) (r:qN v u):TS.qbD s.heap u p:=by obtain ⟨a,rfl,hq⟩:=h;obtain rfl:u=Value.ref a:=r;obtain ⟨its,rv,pl,_⟩:=I.tuple (SqT.of hq);obtain ⟨u1,u2,rfl,⟨t1,rfl⟩,⟨t2,rfl⟩⟩:=qa1 rv;exact ⟨a,t1,t2,rfl,pl⟩
end
end L2
namespace L2
open PySem PySem.Spec PyProof.Rows
noncomputable def zA (env:Env) (ns:List (Str×NameKind)) (acc:List (Str×Addr)):List (Str×Addr):=ns.foldl (fun cs x=>if x.2 == .free then (x.1,(env.cells.lookup x.1).getD 0)::cs else cs) acc
theorem qgC {env:Env}:∀ (ns:List (Str×NameKind)) (acc:List (Str×Addr)),(∀ x∈ns,x.2=.free->∃ c,env.cells.lookup x.1=some c)->
  (forIn ns acc fun (x:Str×NameKind) (cs:List (Str×Addr))=>(match x with | (name,kind)=>if kind == .free then (do let c<-cellOf env name;pure (ForInStep.yield ((name,c)::cs)):Sem (ForInStep (List (Str×Addr)))) else pure (ForInStep.yield cs)))=(pure (zA env ns acc):Sem (List (Str×Addr)))
 | [],acc,_=>by rw [List.forIn_nil];rfl
 | (n,k)::r,acc,h=>by
  rw [List.forIn_cons];have hr:=qgC (env:=env) r
  by_cases hk:k=.free
  ·subst hk;obtain ⟨c,hc⟩:=h (n,.free) List.mem_cons_self rfl;have e1:cellOf env n=pure c:=by unfold cellOf;rw [hc]
   simp only [beq_self_eq_true,if_true,e1,pure_bind];rw [hr _ fun x hx=>h x (List.mem_cons_of_mem _ hx)];unfold zA;simp [hc]
  ·have hb:(k == NameKind.free)=false:=by simpa using hk
   simp only [hb,Bool.false_eq_true,if_false,pure_bind];rw [hr _ fun x hx=>h x (List.mem_cons_of_mem _ hx)];unfold zA;rw [List.foldl_cons];simp only [hb,Bool.false_eq_true,if_false]
theorem qgD {env:Env} {scope:Scope} (h:∀ x∈scope.names,x.2=.free->∃ c,env.cells.lookup x.1=some c):closureFor scope env=pure (zA env scope.names []):=by
 unfold closureFor
 have:=qgC scope.names [] h
 simp only [bind_pure_comp] at this;simp only [bind_pure_comp,id_map',this];rfl
theorem qdz {env:Env}:∀ (ns:List (Str×NameKind)) (acc:List (Str×Addr)),(∀ x∈ns,x.2=.free->∃ c,env.cells.lookup x.1=some c)->(∀ x c,acc.lookup x=some c->env.cells.lookup x=some c)->
  ∀ x c,(zA env ns acc).lookup x=some c->env.cells.lookup x=some c
 | [],_,_,h=>h
 | (n,k)::r,acc,hf,h=>by
  have ih:=qdz (env:=env) r (if k == .free then (n,(env.cells.lookup n).getD 0)::acc else acc) (fun x hx=>hf x (List.mem_cons_of_mem _ hx)) (fun x c e=>by
   by_cases hk:k=.free
   ·subst hk;simp only [beq_self_eq_true,if_true] at e;obtain ⟨c',hc⟩:=hf (n,.free) List.mem_cons_self rfl;rw [List.lookup_cons] at e
    by_cases hx:x=n
    ·subst hx;simp [hc] at e;rw [hc,e]
    ·rw [show (x == n)=false by simpa using hx] at e;exact h x c e
   ·rw [show (k == NameKind.free)=false by simpa using hk] at e;exact h x c e)
  exact ih
theorem Je {env:Env} {ns:List (Str×NameKind)} (h:∀ x∈ns,x.2=.free->∃ c,env.cells.lookup x.1=some c):∀ x c,(zA env ns []).lookup x=some c->env.cells.lookup x=some c:=qdz ns [] h fun _ _ e=>by cases e
theorem Q1 {env:Env}:∀ (ns:List (Str×NameKind)) (acc:List (Str×Addr)) (x:Str) (c:Addr),acc.lookup x=some c->∃ c,(zA env ns acc).lookup x=some c
 | [],_,_,c,h=>⟨c,h⟩
 | (n,k)::r,acc,x,c,h=>by
  show ∃ c,(zA env r (if k == .free then (n,(env.cells.lookup n).getD 0)::acc else acc)).lookup x=some c
  by_cases hk:k=.free
  ·subst hk;simp only [beq_self_eq_true,if_true]
   by_cases hx:x=n
   ·subst hx;exact Q1 r _ x ((env.cells.lookup x).getD 0) (by rw [List.lookup_cons];simp)
   ·exact Q1 r _ x c (by rw [List.lookup_cons,show (x == n)=false by simpa using hx];exact h)
  ·rw [show (k == NameKind.free)=false by simpa using hk];exact Q1 r _ x c h
theorem qa5 {env:Env}:∀ (ns:List (Str×NameKind)) (acc:List (Str×Addr)) (x:Str),(x,NameKind.free)∈ns->∃ c,(zA env ns acc).lookup x=some c
 | (n,k)::r,acc,x,h=>by
  show ∃ c,(zA env r (if k == .free then (n,(env.cells.lookup n).getD 0)::acc else acc)).lookup x=some c;rcases List.mem_cons.mp h with e | h
  ·injection e with e1 e2;subst e1 e2;simp only [beq_self_eq_true,if_true];exact Q1 r _ x ((env.cells.lookup x).getD 0) (by rw [List.lookup_cons];simp)
  ·exact qa5 r _ x h
theorem Yp {env:Env}:∀ {names:List (Str×NameKind)} {x:Str},names.lookup x=some .free->
  (names.map fun (n,k)=>if (k == NameKind.free&&env.scope.kind == .function&&env.kindOf n == some .cell) then (n,NameKind.cell) else (n,k)).lookup x=some .cell\/
  (names.map fun (n,k)=>if (k == NameKind.free&&env.scope.kind == .function&&env.kindOf n == some .cell) then (n,NameKind.cell) else (n,k)).lookup x=some .free
 | [],_,h=>by simp at h
 | (n,k)::r,x,h=>by
  simp only [List.map_cons]
  by_cases hx:x=n
  ·subst hx;simp [List.lookup_cons] at h;subst h
   by_cases hc:(NameKind.free == NameKind.free&&env.scope.kind == .function&&env.kindOf x == some .cell)=true
   ·rw [if_pos hc];left;simp [List.lookup_cons]
   ·rw [if_neg hc];right;simp [List.lookup_cons]
  ·have hb:(x == n)=false:=by simpa using hx
   rw [List.lookup_cons,hb] at h;have ih:=Yp (env:=env) h
   by_cases hc:(k == NameKind.free&&env.scope.kind == .function&&env.kindOf n == some .cell)=true
   ·rw [if_pos hc];simp only [List.lookup_cons,hb];exact ih
   ·rw [if_neg hc];simp only [List.lookup_cons,hb];exact ih
theorem qdA {env:Env}:∀ {names:List (Str×NameKind)} {x:Str} {k':NameKind},(names.map fun (n,k)=>if (k == NameKind.free&&env.scope.kind == .function&&env.kindOf n == some .cell) then (n,NameKind.cell) else (n,k)).lookup x=some k'->
  k'=.cell\/k'=.free->(x,NameKind.free)∈names\/(x,NameKind.cell)∈names
 | [],_,_,h,_=>by simp at h
 | (n,k)::r,x,k',h,hk=>by
  simp only [List.map_cons] at h
  by_cases hx:x=n
  ·subst hx
   by_cases hc:(k == NameKind.free&&env.scope.kind == .function&&env.kindOf x == some .cell)=true
   ·have:k=.free:=by simp at hc;exact hc.1.1
    subst this;exact .inl List.mem_cons_self
   ·rw [if_neg hc] at h;simp [List.lookup_cons] at h;subst h;rcases hk with rfl | rfl
    ·exact .inr List.mem_cons_self
    ·exact .inl List.mem_cons_self
  ·have hb:(x == n)=false:=by simpa using hx
   have ih:=qdA (env:=env) (names:=r) (x:=x) (k':=k') (by
    by_cases hc:(k == NameKind.free&&env.scope.kind == .function&&env.kindOf n == some .cell)=true
    ·rw [if_pos hc] at h;simp only [List.lookup_cons,hb] at h;exact h
    ·rw [if_neg hc] at h;simp only [List.lookup_cons,hb] at h;exact h) hk
   exact ih.imp (List.mem_cons_of_mem _) (List.mem_cons_of_mem _)
noncomputable def blk (X:Cx) (N:List Str) (scope:Scope) (cl:List (Str×Addr)) (C:Addr) (fp:List Addr) (s2:Shared) (H2:Hp):Cx:=
 { X with N:=N,s₀:=s2,H₀:=H2,env:=compEnvC scope cl C X.env,outer:=X.stack,stack:=X.stack,ex:=fp,fn:=fun _=>false,pn:=[],xe:=fun _ _=>False }
structure BlkScope (X:Cx) (own:List Str) (fr:List Nat) (scope:Scope):Prop where
 kind:scope.kind=.function
 nocell:∀ x∈scope.names,x.2≠.cell
 names:∀ x∈scope.names,x.2=.local->scope.names.lookup x.1=some .local
 free:∀ x∈scope.names,x.2=.free->X.env.kindOf x.1=some .cell\/X.env.kindOf x.1=some .free
 look:∀ i∈fr,scope.names.lookup (X.N.getD i "")=some .free
def JW (X:Cx) (own:List Str) (fr:List Nat):List Str:=own++fr.map fun i=>X.N.getD i ""
def Qg (own:List Str) (fr:List Nat) (σ:St):St:=(own.map fun _=>none)++fr.map fun i=>(σ[i]?).join
section
variable {X:Cx} {pins:PP} {σ:St} {H:Hp} {s:Shared} {own:List Str} {fr:List Nat} {scope:Scope}
abbrev qc0 (its:List Value) (n:Nat):Obj:={ cls:=.type "list",data:=.seq its.toArray n }
theorem qjT {C:Addr} {fp:List Addr} (B:BlkScope X own fr scope) (I:Inv X pins σ H s) (hf:∀ b∈fp,qcl X pins H b) (hfo:∀ b∈fp,b < s.heap.objs.size) (hC:s.heap.objs.size<=C) :
  (blk X (JW X own fr) scope (zA X.env scope.names []) C fp s H).Ok where
 mod:=I.ok.mod
 kind:=B.kind
 glob:=I.ok.glob
 blt:=I.ok.blt
 above:=hC
 inj:=fun x y c h1 h2=>I.ok.inj x y c (Je (fun z hz e=>I.ok.has _ (B.free z hz e)) x c h1) (Je (fun z hz e=>I.ok.has _ (B.free z hz e)) y c h2)
 has:=fun x h=>by
  have h':(x,NameKind.free)∈scope.names\/(x,NameKind.cell)∈scope.names:=by
   rcases h with h | h
   ·exact qdA (env:=X.env) h (.inl rfl)
   ·exact qdA (env:=X.env) h (.inr rfl)
  rcases h' with h' | h'
  ·exact qa5 _ _ _ h'
  ·exact absurd rfl (B.nocell _ h')
 cab:=fun x c h=>nomatch h
 hd:=I.ok.hd
 frames:=I.ok.frames
 stk:=.inl rfl
 exf:=fun b hb=>⟨Nat.ne_of_lt (Nat.lt_of_lt_of_le (hfo b hb) hC),fun x c e=>(hf b hb).2.2.2.2.1 x c (Je (fun z hz e=>I.ok.has _ (B.free z hz e)) x c e)⟩
 bs:=I.bs
 bsz:=Nat.le_trans I.ok.bsz I.sz
 noex:=fun b o e hb=>by
  rcases (hf b hb).2.2.2.1 with z | z
  ·exact I.ok.noex b o e z
  ·exact absurd (Nat.lt_of_lt_of_le (Heap.lt_size (I.ok.bs b o e).1) z) (Nat.lt_irrefl _)
 exfs:=fun b hb z=>by
  rcases List.mem_cons.mp (I.stkSub b z) with e | e
  ·exact (hf b hb).2.1 e
  ·exact (hf b hb).2.2.1 e
 funs:=I.stack
 frf:=I.stkFree
theorem qdB {C D:Addr} {fp:List Addr} {h4:Heap} {tk:Nat} {n:Nat} (B:BlkScope X own fr scope) (I:Inv X pins σ H s) (hf:∀ b∈fp,qcl X pins H b) (hfo:∀ b∈fp,b < s.heap.objs.size) (hC:s.heap.objs.size<=C) (hD:s.heap.objs.size<=D) (hDC:D≠C)
  (k:∀ b o,s.heap.get? b=some o->h4.get? b=some o) (hn:h4.Ns C fun _=>none) (hl:h4.get? D=some (qc0 [] n)) :
  Inv (blk X (JW X own fr) scope (zA X.env scope.names []) C fp s H) [(D,qc0 [] n)] (Qg own fr σ) H { s with heap:=h4,toks:=tk }:=by
 have sub:=Je (env:=X.env) (ns:=scope.names) (fun z hz e=>I.ok.has _ (B.free z hz e));refine ⟨qjT B I hf hfo hC,rfl,I.bare,Un.kept k,⟨_,hn,fun i x v h1 h2 h3=>?_⟩,fun x c e=>?_,I.hok.fresh hC,fun x c e=>I.freeC x c (sub x c e),fun p hp=>?_,I.hok.kept k,?_⟩
 ·have h1:(JW X own fr)[i]?=some x:=h1;unfold JW at h1;unfold Qg at h2
  by_cases hi:i < own.length
  ·rw [List.getElem?_append_left (by simpa using hi),List.getElem?_map] at h2
   cases q:own[i]? with
   | none=>rw [q] at h2;cases h2
   | some a=>rw [q] at h2;cases h2
  ·rw [List.getElem?_append_right (by simpa using hi),List.getElem?_map] at h2;rw [List.getElem?_append_right (by simpa using hi),List.getElem?_map] at h1;rw [List.length_map] at h2
   cases q:fr[i - own.length]? with
   | none=>rw [q] at h2;cases h2
   | some j=>
    rw [q] at h1 h2;have h1:X.N.getD j "" = x:=Option.some.inj h1;have h2:(σ[j]?).join=some v:=Option.some.inj h2
    have h2':σ[j]?=some (some v):=by
     cases w:σ[j]? with
     | none=>rw [w] at h2;cases h2
     | some y=>rw [w] at h2;cases y with
      | none=>cases h2
      | some y=>cases h2;rfl
    have hjl:j < X.N.length:=by rw [<-I.len];exact (List.getElem?_eq_some_iff.mp h2').1
    have hN:X.N[j]?=some x:=by rw [<-h1,List.getElem?_eq_getElem hjl];simp [hjl]
    have hfree:scope.names.lookup x=some .free:=by rw [<-h1];exact B.look j (List.mem_of_getElem? q)
    have hk:=B.free (x,.free) (PySem.mem_of_lookup hfree) rfl;obtain ⟨m,_,hloc⟩:=I.loc
    obtain ⟨u,r,l⟩:=hloc j x v hN h2' (by
     rcases hk with z | z
     ·exact .inr (.inl z)
     ·exact .inr (.inr z))
    refine ⟨u,r,.inr ⟨?_,?_⟩⟩
    ·exact Yp (env:=X.env) hfree
    ·rcases l with ⟨l,_⟩ | ⟨_,c,hc,o,ho,hd⟩
     ·have hk:X.env.kindOf x=some .cell\/X.env.kindOf x=some .free:=hk;rw [l] at hk;rcases hk with z | z<;>cases z
     ·obtain ⟨c',hc'⟩:=qa5 (env:=X.env) scope.names [] x (PySem.mem_of_lookup hfree)
      have:=sub x c' hc'
      rw [hc] at this;cases this;exact ⟨c,hc',o,k _ _ ho,hd⟩
 ·obtain ⟨v,o,ho,hd⟩:=I.cell x c (sub x c e);exact ⟨v,o,k _ _ ho,hd⟩
 ·have hp:p∈[(D,qc0 [] n)]:=by simpa [blk] using hp
  obtain rfl:=List.mem_singleton.mp hp;refine ⟨hl,I.hok.fresh hD,hDC,fun z=>?_,fun v e=>by cases e⟩;rcases List.mem_cons.mp (I.stkSub D z) with e | e
  ·exact Nat.ne_of_lt (Nat.lt_of_lt_of_le I.lt hD) e.symm
  ·exact I.nofs hD e
 ·show (Qg own fr σ).length=(JW X own fr).length;unfold Qg JW;simp
end
end L2
namespace L2
open PySem PySem.Spec PyProof.Rows
noncomputable def PIf (X:Cx) (ifs:List Expr) (t:TT):Prop:=
 ∀ (pins:PP) (s:Shared) (σ:St) (H:Hp) (Q:Bool->Hp->Prop),Inv X pins σ H s->t σ H Q->
  wpAny (model X.prog X.w) X.A (forIn ifs true fun c r=>if r=true then do let ok<-isTrue c X.env (eval c X.env);pure (ForInStep.yield ok) else pure (ForInStep.yield r)) (TP X pins σ Q) X.xe s
def qn8:TT:=fun _ H Q=>Q true H
section
variable {X:Cx} {pins:PP} {σ:St} {H:Hp} {s:Shared} {own:List Str} {fr:List Nat} {scope:Scope}
theorem qhI:PIf X [] qn8:=fun _ _ _ H _ I h=>wpAny_tests_nil ⟨H,I,h⟩
theorem qhJ {c:Expr} {t:TT} (h:PT X c t):PIf X [c] t:=fun pins s σ H Q I hw=>wpAny_tests_one (h pins s σ H Q I hw)
noncomputable def Z6 (J:It) (g:TG) (tc:TT) (te:TE) (fin:List V->Hp->Prop) (W:Nat->Nat->List V->St->Hp->Prop):Prop:=
 ∀ i m ys σ' H',W i m ys σ' H'->(J.stop i H'/\fin ys H')\/
  (J.go i H'/\ys.length < sizeLine/\∃ N:List V->St->Hp->Prop,(∀ ys' σ2 H2,N ys' σ2 H2->∃ m',m' < m/\W (i+1) m' ys' σ2 H2)/\
   ∀ x H2,J.yld i H' x H2->g x σ' H2 fun σ2 H3=>tc σ2 H3 fun b H4=>if b=true then te σ2 H4 fun y H5=>N (ys++[y]) σ2 H5 else N ys σ2 H4)
noncomputable def qhK (own:List Str) (fr:List Nat) (wi:TI) (g:TG) (tc:TT) (te:TE):TE:=fun σ H Q=>wi σ H fun J H1=>∃ W:Nat->Nat->List V->St->Hp->Prop,(∃ m,W 0 m [] (Qg own fr σ) H1)/\Z6 J g tc te (fun ys H'=>∀ l,H' l=none->Q (.ref l) (upd H' l (.lst ys))) W
theorem qhL {N:List Str} {cl:List (Str×Addr)} {C l:Addr} {fp:List Addr} {s4:Shared} {H':Hp} {σ':St} {its:List Value} {k:Nat} {ys:List V} (I:Inv X pins σ H s) (hf:∀ b∈fp,qcl X pins H b) (hl:s.heap.objs.size<=l)
  (I4:Inv (blk X N scope cl C fp s H) [(l,qc0 its k)] σ' H' s4) (rv:qK ys its) (hz:ys.length<=sizeLine):Inv X pins σ (upd H' l (.lst ys)) s4:=by
 have base:Un (frs X.stack) fp H H' s.heap s4.heap:=I4.base;have pin:=I4.pin (l,qc0 its k) (List.mem_append_right _ List.mem_cons_self);have nl:∀ b o,s.heap.get? b=some o->b≠l:=fun b o e=>Nat.ne_of_lt (Nat.lt_of_lt_of_le (Heap.lt_size e) hl);have nh:∀ b u,H' b=some u->b≠l:=fun b u e=>q9 e pin.2.1;refine I.call' (ch:=fp) I4.os ⟨base.keep,base.slot,fun b o e n hx=>?_,base.there,fun b xs e=>?_,fun b o u e=>?_,fun b ps e=>?_⟩ (fun b u e=>?_) I4.bare (fun b hb=>⟨(hf b hb).2.2.2.1,(hf b hb).2.1,(hf b hb).2.2.2.2.1,(hf b hb).2.2.2.2.2⟩)
 ·rw [qe (nl b o e)];exact base.free b o e n hx
 ·have:=base.tups b xs e
  rw [qe (nh b _ this)];exact this
 ·have:=base.frzs b o u e
  rw [qe (nh b _ this)];exact this
 ·obtain ⟨more,this⟩:=base.tbls b ps e;exact ⟨more,by rw [qe (nh b _ this)];exact this⟩
 ·by_cases hb:b=l
  ·subst hb;rw [qh] at e;cases e;exact ⟨hz,its,k,rv,pin.1⟩
  ·rw [qe hb] at e;exact (I4.hok b u e).stay (fun c v _ q=>q) (fun c q=>by rw [qe (nh c _ q)];exact q) fun c xs q=>by rw [qe (nh c _ q)];exact q
theorem Z7 {elt iter tg:Expr} {ifs:List Expr} {pos:Pos} {g:TG} {tc:TT} {te:TE} {it:Addr} {fp:List Addr} {tn:Nat->Heap->Prop} {J:It} {fin:List V->Hp->Prop} {W:Nat->Nat->List V->St->Hp->Prop} {m0:Nat}
  {RR:Value->Addr->Result->Shared->Prop} {E:PQ} (hc:X.calm=true) (B:BlkScope X own fr scope)
  (hg:∀ cl C fp s2 H2,PG (blk X (JW X own fr) scope cl C fp s2 H2) tg g) (ht:∀ cl C fp s2 H2,PIf (blk X (JW X own fr) scope cl C fp s2 H2) ifs tc) (he:∀ cl C fp s2 H2,PE (blk X (JW X own fr) scope cl C fp s2 H2) elt te)
  (I:Inv X pins σ H s) (T:Turn X.prog X.w X.K tg J fp it tn) (st0:tn 0 s.heap) (hf:∀ b∈fp,qcl X pins H b) (w0:W 0 m0 [] (Qg own fr σ) H) (hW:Z6 J g tc te fin W)
  (post:∀ (l C:Addr) (s4:Shared) (ys:List V) (H':Hp) (m:PR),s.heap.objs.size<=C->H' C=none->H' l=none->l≠C->s4.heap.Ns C m->Inv X pins σ (upd H' l (.lst ys)) s4->fin ys H'->RR (.ref l) C (.ok .next) s4) :
  wpAny (model X.prog X.w) X.A (newList []) (fun acc s₃=>wpAny (model X.prog X.w) X.A (newFunctionEnv scope X.env.globals (zA X.env scope.names []) [] X.env.qual none .none (some X.env)) (fun cenv s₄=>codeAny (model X.prog X.w) X.A (.compStart (.ListComp elt [⟨tg,iter,ifs,0⟩] scope pos) 0 (.ref it) acc { cenv with scope:=relabel scope X.env }) (RR acc cenv.locals) s₄) E s₃) E s:=by
 have hfo:∀ b∈fp,b < s.heap.objs.size:=fun b hb=>by obtain ⟨o,e,_⟩:=T.obj _ _ st0 b hb;exact Heap.lt_size e
 refine wpAny_newObj_type (wpAny_newFunctionEnv B.nocell (by intro y hy;simp at hy) (fun h1 hns hsb=>?_) B.kind);dsimp only at hns hsb ⊢;generalize hH2:s.heap.push { cls:=.type "list",dict:=none,data:=.seq ([]:List Value).toArray }=h2 at hns hsb ⊢;have hC:h2.objs.size=s.heap.objs.size+1:=by rw [<-hH2,Heap.size_push]
 have hDC:s.heap.objs.size≠h2.objs.size:=by rw [hC];exact Nat.ne_of_lt (Nat.lt_succ_self _)
 have hCle:s.heap.objs.size<=h2.objs.size:=by rw [hC];exact Nat.le_succ _
 have old:∀ b o,s.heap.get? b=some o->h1.get? b=some o:=fun b o e=>hsb.extBut b o (by rw [hC];exact Nat.ne_of_lt (Nat.lt_succ_of_lt (Heap.lt_size e))) (Heap.get?_push_of_some _ (hH2▸Heap.get?_push_of_some _ e));have hacc:h1.get? s.heap.objs.size=some (qc0 [] 0):=hsb.extBut _ _ hDC (Heap.get?_push_of_some _ (hH2▸Heap.get?_push_size _ rfl));have hns':h1.Ns h2.objs.size fun _=>none:=hns;have I0:=qdB (tk:=s.toks+([]:List (Str×Value)).length) B I hf hfo hCle (Nat.le_refl _) hDC old hns' hacc;have st1:tn 0 h1:=T.keep _ _ _ st0 fun b hb o e=>old b o e
 have loop:codeAny (model X.prog X.w) X.A (.compLoop (.ListComp elt [⟨tg,iter,ifs,0⟩] scope pos) 0 (.ref it) (.ref s.heap.objs.size) (compEnvC scope (zA X.env scope.names []) h2.objs.size X.env))
   (RR (.ref s.heap.objs.size) h2.objs.size) { s with heap:=h1,toks:=s.toks+([]:List (Str×Value)).length }:=by
  generalize hl:s.heap.objs.size=l at *;generalize hCC:h2.objs.size=C at *
  have stat:∀ {H':Hp} {o:Obj},(∀ b∈fp,H' b=none)->∀ b∈fp,qcl (blk X (JW X own fr) scope (zA X.env scope.names []) C fp s H) [(l,o)] H' b:=fun {H' o} hn b hb=>by
   refine ⟨hn b hb,fun e=>?_,fun z=>?_,.inl hb,fun x c e z=>?_,fun p hp z=>?_⟩
   ·exact Nat.ne_of_lt (Nat.lt_of_lt_of_le (hfo b hb) hCle) e
   ·rcases List.mem_cons.mp (I.stkSub b z) with e | e
    ·exact (hf b hb).2.1 e
    ·exact (hf b hb).2.2.1 e
   ·exact (hf b hb).2.2.2.2.1 x c (Je (fun z hz e=>I.ok.has _ (B.free z hz e)) x c e) z
   ·have hp:p∈[(l,o)]:=by simpa [blk] using hp
    obtain rfl:=List.mem_singleton.mp hp;exact Nat.ne_of_lt (hfo b hb) z.symm
  refine codeAny_loop rfl (fun n s'=>∃ i ys σ' H' its k,Inv (blk X (JW X own fr) scope (zA X.env scope.names []) C fp s H) [(l,qc0 its k)] σ' H' s'/\qK ys its/\ys.length<=sizeLine/\tn i s'.heap/\(∀ b∈fp,H' b=none)/\W i n ys σ' H')
   (fun n s3 hI=>?_) m0 ⟨0,[],Qg own fr σ,H,[],0,I0,.nil,Nat.zero_le _,st1,fun b hb=>(hf b hb).1,w0⟩
  show wpAny _ X.A ((compTurn (.ListComp elt [⟨tg,iter,ifs,0⟩] scope pos) 0 (.ref it) (.ref l) (compEnvC scope (zA X.env scope.names []) C X.env)).onRaise (fun x=>do noteFrame x (compEnvC scope (zA X.env scope.names []) C X.env);theTreesLotGoes x)) _ _ s3;refine wpAny_noted ?_;rw [compTurn_list];obtain ⟨i,ys,σ3,H3,its,k,I3,rv,hz,st3,fr3,w3⟩:=hI;refine wpAny_bind (wpAny_standAt (wpAny_bind ?_));rcases hW i n ys σ3 H3 w3 with ⟨stop,qn⟩ | ⟨go,hlt,N,hN,step⟩
  ·refine thn (T.done (blk X (JW X own fr) scope (zA X.env scope.names []) C fp s H) rfl rfl rfl hc i _ s3 σ3 H3 _ I3 (stat fr3) st3 stop) fun r s4 hq1=>?_;obtain ⟨hr,I4⟩:=hq1;subst hr;obtain ⟨m,hm,_⟩:=I4.loc;exact wpAny_pure (post l C s4 ys H3 m hCle I4.free (I4.pin (l,qc0 its k) (List.mem_append_right _ List.mem_cons_self)).2.1 hDC hm (qhL I hf (Nat.le_of_eq hl) I4 rv hz) qn)
  ·refine thn (T.item (blk X (JW X own fr) scope (zA X.env scope.names []) C fp s H) rfl rfl rfl hc i _ s3 σ3 H3 _ I3 (stat fr3) st3 go) fun r s4 hq1=>?_;obtain ⟨u,hr,h4⟩:=hq1;subst hr;refine wpAny_bind (thn h4 fun _ s5 hq1=>?_);obtain ⟨x,H5,I5,r5,y5,st5,fr5⟩:=hq1;have I5':=I5.pinned (stat fr5) (T.obj _ _ st5);refine wpAny_bind (wpAny_mono (hg _ _ _ _ _ _ s5 σ3 H5 x u _ I5' r5 (step x H5 y5)) (fun _ s6 ⟨σ6,H6,I6,q6⟩=>?_) fun _ _ z=>z.elim);refine wpAny_bind (wpAny_mono (ht _ _ _ _ _ _ s6 σ6 H6 _ I6 q6) (fun b s7 ⟨H7,I7,q7⟩=>?_) fun _ _ z=>z.elim)
   have back:∀ {σ8:St} {H8:Hp} {s8:Shared},Inv (blk X (JW X own fr) scope (zA X.env scope.names []) C fp s H) ([(l,qc0 its k)]++ZJ fp s5.heap) σ8 H8 s8->(∀ b∈fp,∀ o,s5.heap.get? b=some o->s8.heap.get? b=some o)/\∀ b∈fp,H8 b=none:=fun I8=>by refine ⟨fun b hb o e=>(I8.pin (b,o) (List.mem_append_right _ (List.mem_append_right _ (yy hb e)))).1,fun b hb=>?_⟩;obtain ⟨o,e,_⟩:=T.obj _ _ st5 b hb;exact (I8.pin (b,o) (List.mem_append_right _ (List.mem_append_right _ (yy hb e)))).2.1
   cases b with
   | false=>obtain ⟨k1,k2⟩:=back I7;simp only [Bool.false_eq_true,if_false] at q7 ⊢;obtain ⟨m',hm',w7⟩:=hN _ _ _ q7;exact wpAny_pure ⟨rfl,m',hm',i+1,ys,σ6,H7,its,k,I7.unpinned,rv,hz,T.keep _ _ _ st5 k1,k2,w7⟩
   | true=>
    simp only [if_true] at q7 ⊢;refine wpAny_bind (wpAny_bind (wpAny_mono (he _ _ _ _ _ _ s7 σ6 H7 _ I7 q7) (fun w s8 ⟨y,H8,I8,r8,q8⟩=>?_) fun _ _ z=>z.elim));obtain ⟨k1,k2⟩:=back I8;obtain ⟨m',hm',w8⟩:=hN _ _ _ q8;have pin:=I8.pin (l,qc0 its k) (List.mem_append_right _ (List.mem_append_left _ List.mem_cons_self));have hil:its.length=ys.length:=rv.length.symm;refine wpAny_bind (append_at pin.1 (fun h9 hs9 hD9=>?_) (by rw [List.size_toArray,hil];exact hz));have new:h9.get? l=some (qc0 (its++[w]) (k+1)):=by rw [hD9,List.push_toArray]
    have Ia:Inv (blk X (JW X own fr) scope (zA X.env scope.names []) C fp s H) [] σ6 H8 s8:=I8.pins_of (fun p hp=>nomatch hp)
    have Ib:Inv (blk X (JW X own fr) scope (zA X.env scope.names []) C fp s H) [] σ6 H8 { s8 with heap:=h9 }:=Ia.turned (t':=s8.toks) (fun b o hb e=>hs9.extBut b o hb e) pin.2.1 pin.2.2.1 (.inr (Nat.le_of_eq hl)) (fun x c e z=>by
     obtain ⟨v,o,ho,hd⟩:=I8.cell x c e;rw [z,pin.1] at ho;cases ho
     cases hd) (fun p hp=>by
      have hp:p∈([]:PP):=by simpa [blk] using hp
      cases hp)
    have Ic:Inv (blk X (JW X own fr) scope (zA X.env scope.names []) C fp s H) [(l,qc0 (its++[w]) (k+1))] σ6 H8 { s8 with heap:=h9 }:=Ib.pins_of fun p hp=>by obtain rfl:=List.mem_singleton.mp hp;exact ⟨new,pin.2.1,pin.2.2.1,pin.2.2.2.1,fun v e=>by cases e⟩
    refine wpAny_pure (wpAny_pure ⟨rfl,m',hm',i+1,ys++[y],σ6,H8,its++[w],k+1,Ic,rv.append %[r8|0],by rw [List.length_append];exact hlt,T.keep _ _ _ st5 fun b hb o e=>?_,k2,w8⟩);exact hs9.extBut b o (Nat.ne_of_lt (hfo b hb)) (k1 b hb o e)
 exact codeAny_compStart_list loop (T.self _ 0 _ _ _ st1 loop)
theorem Inv.letgo {s2 s4:Shared} {H2 H4:Hp} {C:Addr} {h':Heap} (I2:Inv X pins σ H2 s2) {σ4:St} (I4:Inv X pins σ4 H4 s4) (hC:s2.heap.objs.size<=C) (hn:H4 C=none) (hs:Heap.SameBut C s4.heap h'):Inv X pins σ4 H4 { s4 with heap:=h' }:=by obtain ⟨f0,f1,_,f3,f4,f5⟩:=I2.fpOk hC hn;exact I4.turned (t':=s4.toks) (fun b o hb e=>hs.extBut b o hb e) f0 f1 f3 f4 f5
theorem qhM {elt iter tg:Expr} {ifs:List Expr} {pos:Pos} {g:TG} {tc:TT} {te:TE} {wi:TI} (own:List Str) (fr:List Nat) (hc:X.calm=true) (B:BlkScope X own fr scope) (hi:PI X tg iter wi)
  (hg:∀ cl C fp s2 H2,PG (blk X (JW X own fr) scope cl C fp s2 H2) tg g) (ht:∀ cl C fp s2 H2,PIf (blk X (JW X own fr) scope cl C fp s2 H2) ifs tc) (he:∀ cl C fp s2 H2,PE (blk X (JW X own fr) scope cl C fp s2 H2) elt te)
  (hs:∀ x,foldedSetIterable iter X.env x=pure x:=by intro _;rfl):PE X (.ListComp elt [⟨tg,iter,ifs,0⟩] scope pos) (qhK own fr wi g tc te):=by
 intro pins s σ H Q I h;rw [eval_ListComp];refine wpAny_comprehension_free (use:=none) rfl hs (qgD fun z hz e=>I.ok.has _ (B.free z hz e)) B.kind B.names ?_;refine thn (hi pins s σ H _ I h) fun v s1 h1=>thn h1 fun itv s2 h2=>?_;obtain ⟨it,fp,tn,J,H2,e,I2,T,st2,f2,W,⟨m0,w0⟩,hW⟩:=h2;subst e;refine Z7 hc B hg ht he I2 T st2 f2 w0 hW fun l C s4 ys H' m hC nC nl hlC hm I4 fin=>?_;exact ⟨m,hm,fun h' hs'=>⟨.ref l,_,I2.letgo I4 hC (by rw [qe (Ne.symm hlC)];exact nC) hs',rfl,fin l nl⟩⟩
theorem qhN {elt iter tg:Expr} {ifs:List Expr} {pos pos' cpos:Pos} {g:TG} {tc:TT} {te:TE} {wi:TI} {i:Nat} {x:Str} (own:List Str) (fr:List Nat) (hN:X.N.Nodup) (hxi:X.N[i]?=some x) (hx:X.env.scope.names.lookup x=some .local) (hc:X.calm=true) (B:BlkScope X own fr scope) (hi:PI X tg iter wi)
  (hg:∀ cl C fp s2 H2,PG (blk X (JW X own fr) scope cl C fp s2 H2) tg g) (ht:∀ cl C fp s2 H2,PIf (blk X (JW X own fr) scope cl C fp s2 H2) ifs tc) (he:∀ cl C fp s2 H2,PE (blk X (JW X own fr) scope cl C fp s2 H2) elt te)
  (hsw:swapsWith (.ListComp elt [⟨tg,iter,ifs,0⟩] scope cpos) (some (.Name x pos')) pos.line X.env=pure true:=by rfl)
  (hs:∀ x,foldedSetIterable iter X.env x=pure x:=by intro _;rfl):PS X (.Assign [.Name x pos'] (.ListComp elt [⟨tg,iter,ifs,0⟩] scope cpos) pos) (qmp (qhK own fr wi g tc te) (qe4 i)):=by
 intro pins s σ H D I h;rw [exec_Assign_Name_used _ _ _ _ hsw];refine wpAny_bind (wpAny_standAt (wpAny_bind ?_));show wpAny _ X.A (do let _<-comprehension (.ListComp elt [⟨tg,iter,ifs,0⟩] scope cpos) scope X.env _ (newList []) false (eval iter X.env) (some (assign (.Name x pos') X.env))) _ _ s;refine wpAny_bind (wpAny_mono (wpAny_comprehension_free (use:=some (assign (.Name x pos') X.env)) (Q:=fun _ s'=>SP X pins D .next s') rfl hs (qgD fun z hz e=>I.ok.has _ (B.free z hz e)) B.kind B.names ?_) (fun _ s' hq=>wpAny_pure (wpAny_pure hq)) fun _ _ e=>e);refine thn (hi pins s σ H _ I h) fun v s1 h1=>thn h1 fun itv s2 h2=>?_;obtain ⟨it,fp,tn,J,H2,e,I2,T,st2,f2,W,⟨m0,w0⟩,hW⟩:=h2;subst e;refine Z7 (RR:=fun acc C=>compPost (model X.prog X.w) X.A X.xe (some (assign (.Name x pos') X.env)) (fun _ s'=>SP X pins D .next s') acc C) hc B hg ht he I2 T st2 f2 w0 hW fun l C s4 ys H' m hC nC nl hlC hm I4 fin=>?_;show wpAny _ X.A (assign (.Name x pos') X.env (.ref l)) _ _ s4;refine wpAny_assign_Name (ZG I4 hN hxi (.inl hx) (v:=.ref l) rfl (fun s5 I5 hsb=>?_) (.inr hx));obtain ⟨a,sb,ha⟩:=hsb
 have hCa:C≠a:=by
  rcases ha with rfl | ha
  ·exact Nat.ne_of_gt (Nat.lt_of_lt_of_le I2.lt hC)
  ·obtain ⟨v,q⟩:=I2.cell x a ha;exact Nat.ne_of_gt (Nat.lt_of_lt_of_le q.lt hC)
 exact ⟨m,hm.sameBut sb hCa,fun h' hs'=>⟨_,_,I2.letgo I5 hC (by rw [qe (Ne.symm hlC)];exact nC) hs',fin l nl⟩⟩
end
end L2
namespace L2
open PySem PySem.Spec PyProof.Rows
mutual
noncomputable def DV (K:Frag) (H:Hp):PyData->V->Prop
 | .none,v=>v=.non
 | .bool b,v=>v=.bl b
 | .int i,v=>v=.int i
 | .str x,v=>v=.str x
 | .list ds,v=>∃ a xs,v=.ref a/\SqL K H a xs/\DVs K H ds xs
 | .tuple ds,v=>∃ a xs,v=.ref a/\SqT K H a xs/\DVs K H ds xs
 | .dict _,_=>False
noncomputable def DVs (K:Frag) (H:Hp):List PyData->List V->Prop
 | [],xs=>xs=[]
 | d::ds,xs=>∃ x r,xs=x::r/\DV K H d x/\DVs K H ds r
end
section
variable {X:Cx} {pins:PP} {σ:St} {H:Hp} {s:Shared}
mutual
theorem DV.reads (I:Inv X pins σ H s):∀ {d:PyData} {v:V} {u:Value},DV X.K H d v->qN v u->∃ as,Reads s.heap u d as
 | .none,v,u,h,r=>by
  have h:v=.non:=by simpa [DV] using h
  subst h;cases r;exact ⟨_,Reads.none⟩
 | .bool b,v,u,h,r=>by
  have h:v=.bl b:=by simpa [DV] using h
  subst h;cases r;exact ⟨_,Reads.bool b⟩
 | .int i,v,u,h,r=>by
  have h:v=.int i:=by simpa [DV] using h
  subst h;obtain ⟨t,rfl⟩:=r;exact ⟨_,Reads.int i t⟩
 | .str x,v,u,h,r=>by
  have h:v=.str x:=by simpa [DV] using h
  subst h;obtain ⟨t,rfl⟩:=r;exact ⟨_,Reads.str x t⟩
 | .list ds,v,u,h,r=>by
  have h:∃ a xs,v=.ref a/\SqL X.K H a xs/\DVs X.K H ds xs:=by simpa [DV] using h
  obtain ⟨a,xs,rfl,hq,hd⟩:=h;cases r;obtain ⟨its,rv,pl,_⟩:=I.list hq;obtain ⟨as,ra⟩:=DVs.reads I hd rv;obtain ⟨o,ho,hc,n,hdd⟩:=pl.isList;exact ⟨_,reads_list_at ho hc hdd (by simpa using ra)⟩
 | .tuple ds,v,u,h,r=>by
  have h:∃ a xs,v=.ref a/\SqT X.K H a xs/\DVs X.K H ds xs:=by simpa [DV] using h
  obtain ⟨a,xs,rfl,hq,hd⟩:=h;cases r;obtain ⟨its,rv,pl,_⟩:=I.tuple hq;obtain ⟨as,ra⟩:=DVs.reads I hd rv;obtain ⟨o,ho,hc,n,hdd⟩:=pl;exact ⟨_,reads_tuple_at ho hc hdd (by simpa using ra)⟩
 | .dict _,v,u,h,r=>by simp [DV] at h
theorem DVs.reads (I:Inv X pins σ H s):∀ {ds:List PyData} {vs:List V} {us:List Value},DVs X.K H ds vs->qK vs us->∃ as,ReadsAll s.heap us ds as
 | [],vs,us,h,r=>by
  have h:vs=[]:=by simpa [DVs] using h
  subst h;cases r;exact ⟨_,ReadsAll.nil⟩
 | d::ds,vs,us,h,r=>by
  have h:∃ x r,vs=x::r/\DV X.K H d x/\DVs X.K H ds r:=by simpa [DVs] using h
  obtain ⟨x,rr,rfl,h1,h2⟩:=h
  cases r with
  | cons r1 r2=>obtain ⟨as,ra⟩:=DV.reads I h1 r1;obtain ⟨bs,rb⟩:=DVs.reads I h2 r2;exact ⟨_,ReadsAll.cons ra rb⟩
end
noncomputable def qn9 (K:Frag):R2:=fun x y H Q=>∃ d e,DV K H d x/\DV K H e y/\SeqAt.shaped d=true/\SeqAt.shaped e=true/\Q (.bl (PyData.eqv d e)) H
noncomputable def qoa (K:Frag):R2:=fun x y H Q=>∃ d e,DV K H d x/\DV K H e y/\SeqAt.shaped d=true/\SeqAt.shaped e=true/\Q (.bl (!PyData.eqv d e)) H
theorem qjU (hu:X.A.units+64 < cLine):OpR X (compareOp .Eq) (qn9 X.K):=by intro pins s σ H x y v u Q I rx ry h;obtain ⟨d,e,hd,he,sd,se,q⟩:=h;obtain ⟨as,ra⟩:=DV.reads I hd rx;obtain ⟨bs,rb⟩:=DV.reads I he ry;exact eq_dataH ra rb sd se hu ⟨.bl _,H,I,rfl,q⟩
theorem qjV (hu:X.A.units+64 < cLine):OpR X (compareOp .NotEq) (qoa X.K):=by intro pins s σ H x y v u Q I rx ry h;obtain ⟨d,e,hd,he,sd,se,q⟩:=h;obtain ⟨as,ra⟩:=DV.reads I hd rx;obtain ⟨bs,rb⟩:=DV.reads I he ry;exact ne_dataH ra rb sd se hu ⟨.bl _,H,I,rfl,q⟩
theorem qfo:zw X (.builtin "isinstance") (fun vs H Q=>∃ x n t b,vs=[x,.ty n]/\TyOf X.K H x t/\PySem.W.kitOne X.K t (.type n)=some b/\Q (.bl b) H):=by intro pins s σ H xs us Q I r h;obtain ⟨x,n,t,b,rfl,ty,e,q⟩:=h;obtain ⟨u,w,rfl,rx,rn⟩:=qa1 r;cases rn;exact ZM I rx ty e fun tk=>⟨.bl b,H,I.tok tk,rfl,q⟩
theorem Z8:∀ (bs:List Bool),((List.range bs.length).all fun i=>bs.getD i false)=bs.all id:=by
 intro bs;rw [Bool.eq_iff_iff,List.all_eq_true,List.all_eq_true];constructor
 ·intro h x hx;obtain ⟨i,hi,rfl⟩:=List.mem_iff_getElem.mp hx
  have:=h i (List.mem_range.mpr hi)
  simpa [hi] using this
 ·intro h i hi;have hi:=List.mem_range.mp hi
  have:=h bs[i] (List.getElem_mem hi)
  simpa [hi] using this
theorem qcy {p:Addr} {bs:List Bool} (hc:X.calm=true) (I:Inv X pins σ H s) (hq:SqL X.K H p (bs.map V.bl)) {Q:VK} {k:Bool} (q:Q (.bl k) H) (f:(Nat->Bool)->Bool) (hk:f (fun i=>bs.getD i false)=k) :
  wpAny (model X.prog X.w) X.A.in1 (pyIter (.ref p)) (fun it s2=>∃ I fp wr n P St tr,it=.ref I/\Walks X.prog X.w X.A.in1 I fp wr n P St/\St 0 s2.heap/\TruthOf X.prog X.w X.A.in1 P tr/\n=bs.length/\
   ∀ h' tk,(∀ b o,b∉wr->s2.heap.get? b=some o->h'.get? b=some o)->tr=(fun i=>bs.getD i false)/\EP X pins σ Q (.bool k) { s2 with heap:=h',toks:=tk }) X.xe s:=by
 obtain ⟨its,rv,pl,hz⟩:=I.list hq;have hlt:p < s.heap.objs.size:=by obtain ⟨_,e,_⟩:=pl.isList;exact Heap.lt_size e
 refine wpAny_pyIter_list pl.isList ?_;refine ⟨s.heap.objs.size,_,_,_,_,_,fun i=>bs.getD i false,rfl,Walks.list (prog:=X.prog) (w:=X.w) (A:=X.A.in1) (show X.A.in1.handled=none from I.ok.hd hc) _ p (Nat.ne_of_lt hlt) its.toArray,⟨⟨_,Heap.get?_push_size _ rfl,rfl,rfl⟩,pl.isList.push _⟩,?_,?_,fun h' tk kp=>⟨rfl,.bl k,H,?_,rfl,q⟩⟩
 ·intro i v s' Q' E' hv hq';have hv:its[i]?=some v:=by simpa using hv
  have hi:i < its.length:=(List.getElem?_eq_some_iff.mp hv).1;have hl:=rv.length;rw [List.length_map] at hl
  have hb:(bs.map V.bl)[i]?=some (.bl (bs.getD i false)):=by rw [List.getElem?_map,List.getElem?_eq_getElem (1:)];simp [show i < bs.length by omega]
  obtain ⟨u,hu,ru⟩:=rv.get hb;rw [hv] at hu;cases hu;cases ru;exact wpAny_truthy_bool hq'
 ·have hl:=rv.length;rw [List.length_map] at hl;simp [hl]
 ·refine I.kept (t':=tk) fun b o e=>kp b o (fun hb=>?_) (Heap.get?_push_of_some _ e)
  have:b=s.heap.objs.size:=by simpa using hb
  exact Nat.ne_of_lt (Heap.lt_size e) this
theorem qdC (hc:X.calm=true):zw X (.builtin "all") (fun vs H Q=>∃ (p:Addr) (bs:List Bool),vs=[.ref p]/\SqL X.K H p (bs.map V.bl)/\Q (.bl (bs.all id)) H):=by intro pins s σ H xs us Q I r h;obtain ⟨p,bs,rfl,hq,q⟩:=h;obtain ⟨u,rfl,rx⟩:=JF r;cases rx;refine call_all_walk (thn (qcy hc I hq q (fun f=>(List.range bs.length).all f) (Z8 bs)) fun it s2 h2=>?_);obtain ⟨I',fp,wr,n,P,St,tr,rfl,W,st,tt,hn,fin⟩:=h2;subst hn;refine ⟨I',fp,wr,_,P,St,tr,rfl,W,st,tt,fun h' tk kp=>?_⟩;obtain ⟨rfl,e⟩:=fin h' tk kp;rw [Z8];exact e
end
end L2
set_option maxHeartbeats 4000000
namespace L2
open PySem PySem.Spec PyProof.Rows
section
variable {X:Cx}
theorem Qt:∀ {ns:List Int} {its:List Value},qK (ns.map V.int) its->∃ xs:List (Int×Tok),its=xs.map (fun p=>Value.int p.1 p.2)/\ns=xs.map (·.1)
 | [],_,.nil=>⟨[],rfl,rfl⟩
 | n::ns,_,.cons r t=>by obtain ⟨xs,rfl,rfl⟩:=Qt t;obtain ⟨k,rfl⟩:=r;exact ⟨(n,k)::xs,rfl,rfl⟩
theorem qdD (hc:X.calm=true):zw X (.builtin "sum") (fun vs H Q=>∃ (p:Addr) (ns:List Int),vs=[.ref p]/\SqL X.K H p (ns.map V.int)/\Q (.int ns.sum) H):=by
 intro pins s σ H xs us Q I r h;obtain ⟨p,ns,rfl,hq,q⟩:=h;obtain ⟨u,rfl,rx⟩:=JF r;cases rx;obtain ⟨its,rv,pl,hz⟩:=I.list hq;obtain ⟨zs,rfl,rfl⟩:=Qt rv
 have hl:s.heap.IsList p (intItems zs.toArray):=by
  have e:(zs.map fun p=>Value.int p.1 p.2).toArray=intItems zs.toArray:=by simp [intItems]
  rw [<-e];exact pl.isList
 refine sum_intListG (I.ok.hd hc) hl fun h' tk t' hk=>?_;refine ⟨.int _,H,I.kept (t':=tk) hk,⟨t',?_⟩,q⟩;rw [preSum_eq,List.take_of_length_le (by simp)]
end
end L2
namespace L2
open PySem PySem.Spec PyProof.Rows
section
variable {κ:Type} [DecidableEq κ]
def qdE (kvs:List (κ×V)) (k:κ):Option V:=(kvs.find? fun kv=>decide (kv.1=k)).map (·.2)
theorem Q2 {p:κ×V} {r:List (κ×V)} {k:κ} (e:p.1=k):qdE (p::r) k=some p.2:=by simp [qdE,List.find?_cons,e]
theorem Q3 {p:κ×V} {r:List (κ×V)} {k:κ} (e:¬ p.1=k):qdE (p::r) k=qdE r k:=by simp [qdE,List.find?_cons,e]
theorem qbv.getD {o:Option V} {u:Option Value} {d:V} {d':Value} (r:qbv o u) (rd:qN d d'):qN (o.getD d) (u.getD d'):=by
 cases o with
 | none=>cases u with
  | none=>exact rd
  | some _=>exact (show False from r).elim
 | some _=>cases u with
  | none=>exact (show False from r).elim
  | some _=>exact r
theorem KV.val {kvs:List (κ×V)} {vs:List (κ×Value)} (r:KV kvs vs) (k:κ):qbv (qdE kvs k) (valueAt vs k):=by
 unfold KV at r
 induction r with
 | nil=>exact True.intro
 | @cons p q ps qs h t ih=>
  obtain ⟨h1,h2⟩:=h
  by_cases e:p.1=k
  ·have e':q.1=k:=h1.symm.trans e;have b:valueAt (q::qs) k=some q.2:=by simp [valueAt,List.find?_cons,e']
   rw [Q2 e,b];exact h2
  ·have e':¬ q.1=k:=fun z=>e (h1.trans z);have b:valueAt (q::qs) k=valueAt qs k:=by simp [valueAt,List.find?_cons,e']
   rw [Q3 e,b];exact ih
theorem KV.keys {kvs:List (κ×V)} {vs:List (κ×Value)} (r:KV kvs vs):kvs.map (·.1)=vs.map (·.1):=by
 unfold KV at r
 induction r with
 | nil=>rfl
 | cons h t ih=>rw [List.map_cons,List.map_cons,ih,h.1]
theorem KV.length {kvs:List (κ×V)} {vs:List (κ×Value)} (r:KV kvs vs):kvs.length=vs.length:=Paired.length r
end
theorem qhO {P:Program} {w:World} {k:Key} {u:Value} (r:qN (kV k) u):(qA P w).is k u=true:=by
 cases k with
 | inl i=>obtain ⟨t,e⟩:=(show ∃ t,u=Value.int i t from r);subst e;exact qaZ P w i t
 | inr x=>obtain ⟨t,e⟩:=(show ∃ t,u=Value.str x t from r);subst e;exact qa0 P w x t
theorem Z9 {P:Program} {w:World}:∀ {ks:List Key} {us:List Value},qK (ks.map kV) us->ItemsAre (qA P w) ks us
 | [],_,r=>by rw [List.map_nil] at r;cases r;exact .nil
 | k::ks,_,r=>by
  rw [List.map_cons] at r
  cases r with
  | cons h t=>exact .cons (qhO h) (Z9 t)
noncomputable abbrev KT (H:Hp):List (List Key×V)->List (List Key×Addr×Value)->Prop:=Paired fun p q=>p.1=q.1/\H q.2.1=some (.tup (p.1.map kV))/\qN p.2 q.2.2
theorem KT.val {H:Hp} {kvs:List (List Key×V)} {xs:List (List Key×Addr×Value)} (r:KT H kvs xs) (k:List Key):qbv (qdE kvs k) ((atKey xs k).map (·.2)):=by
 induction r with
 | nil=>exact True.intro
 | @cons p q ps qs h t ih=>
  obtain ⟨h1,_,h2⟩:=h
  by_cases e:p.1=k
  ·have e':q.1=k:=h1.symm.trans e;have b:atKey (q::qs) k=some q.2:=by simp [atKey,List.find?_cons,e']
   rw [Q2 e,b];exact h2
  ·have e':¬ q.1=k:=fun z=>e (h1.trans z);have b:atKey (q::qs) k=atKey qs k:=by simp [atKey,List.find?_cons,e']
   rw [Q3 e,b];exact ih
section
variable {P:Program} {w:World} {H:Hp} {h:Heap} {a:Addr}
theorem qjW {u:HO} (ok:HOk P w H h) (e:Rd H a u):qW P w H h a u:=e.ok ok
theorem qjX {kvs:List (Key×V)} (ok:HOk P w H h) (e:Rd H a (.dK kvs)):kvs.length<=sizeLine/\(a == sysModules)=false/\∃ vs,KV kvs vs/\h.DictOf (qA P w) a vs:=
 show qW P w H h a (.dK kvs) from qjW ok e
theorem qgE {ks:List Key} (ok:HOk P w H h) (e:H a=some (.tup (ks.map kV))):(tupleKind (qA P w)).is h ks a:=by obtain ⟨_,its,r,o,h1,h2,n,h3⟩:=(show qW P w H h a (.tup (ks.map kV)) from ok a _ e);exact ⟨o,its.toArray,n,h1,h2,h3,by simpa using Z9 r⟩
theorem qjY {kvs:List (List Key×V)} (ok:HOk P w H h) (e:Rd H a (.dT kvs)):kvs.length<=sizeLine/\(a == sysModules)=false/\
  ∃ xs,KT H kvs xs/\h.DictOfH (tupleKind (qA P w)) a xs:=by
 obtain ⟨z,y,xs,r,o,es,ep,h1,h2,h3,h4,h5⟩:=(show qW P w H h a (.dT kvs) from qjW ok e);refine ⟨z,y,xs,r,o,es,ep,h1,h2,h3,h4,fun x hx=>?_,h5⟩
 have all:∀ {l:List (List Key×V)} {m:List (List Key×Addr×Value)},KT H l m->∀ x∈m,(tupleKind (qA P w)).is h x.1 x.2.1:=by
  intro l m q
  induction q with
  | nil=>intro x hx;exact nomatch hx
  | @cons p q ps qs hq t ih=>
   intro x hx;rcases List.mem_cons.mp hx with e | hx
   ·subst e;exact qgE ok (by rw [<-hq.1];exact hq.2.1)
   ·exact ih x hx
 exact all r x hx
end
noncomputable def qjZ (H:Hp) (a:Addr) (y:V) (r:Option V):Prop:=
 (∃ kvs k,Rd H a (.dK kvs)/\y=kV k/\r=qdE kvs k)\/∃ kvs k b,Rd H a (.dT kvs)/\y=.ref b/\H b=some (.tup (k.map kV))/\r=qdE kvs k
theorem qjZ.k {H:Hp} {a:Addr} {kvs:List (Key×V)} {k:Key} (e:H a=some (.dK kvs)):qjZ H a (kV k) (qdE kvs k):=.inl ⟨kvs,k,.inl e,rfl,rfl⟩
section
variable {X:Cx} {pins:PP} {σ:St} {H:Hp} {s:Shared} {a:Addr} {y v:V} {u r:Value} {o:Option V} {A:Around} {E:PQ}
theorem Inv.big (I:Inv X pins σ H s):sysModules < s.heap.objs.size:=by have h:mainGlobals < s.heap.objs.size:=(I.mod.glob.keeps I.bk).lt;exact Nat.lt_trans (2:) h
theorem qj0 {P:Program} {w:World} {H':Hp} {h':Heap} {kvs:List (Key×V)} {vs:List (Key×Value)} (z:kvs.length<=sizeLine) (hd:(a == sysModules)=false) (rel:KV kvs vs) (dd:h'.DictOf (qA P w) a vs) :
  qW P w H' h' a (.dK kvs):=⟨z,hd,vs,rel,dd⟩
end
structure M2 (X:Cx) (o:Expr) (m:Str) (apos:Pos) (e f:Expr) (cpos:Pos):Prop where
 base:attributeBase o m X.env (eval o X.env)=eval o X.env
 few:((backTo cpos (starEach [e,f] X.env)).all (fun x=>!x.1)&&(backToKw cpos (keywordEach [] X.env)).all (fun x=>x.1.isSome)
  && decide (([e,f]:List Expr).length+([]:List Keyword).length+(if ([]:List Keyword).isEmpty then 0 else 1) < 30))=true
 line:(apos.endLine == cpos.line)=true
 trees:backTo cpos (starEach [e,f] X.env)=[(false,eval e X.env),(false,eval f X.env)]
def IsD (H:Hp) (a:Addr):Prop:=(∃ kvs,Rd H a (.dK kvs))\/∃ kvs,Rd H a (.dT kvs)
theorem qj1 {X:Cx} {pins:PP} {σ:St} {H:Hp} {s:Shared} {a:Addr} (I:Inv X pins σ H s) (d:IsD H a) :
  s.TypeIs (.ref a) "dict"/\(∀ b,Value.ref a=.ref b->∃ ob,s.heap.get? b=some ob/\ob.dict=none)/\(a == sysModules)=false:=by
 rcases d with ⟨kvs,e⟩ | ⟨kvs,e⟩
 ·obtain ⟨_,hd,vs,_,dd⟩:=qjX I.hok e;refine ⟨dd.typeIs,fun b q=>?_,hd⟩;cases q;obtain ⟨ob,_,_,h1,h2,_⟩:=dd;exact ⟨ob,h1,h2.2.1⟩
 ·obtain ⟨_,hd,xs,_,dd⟩:=qjY I.hok e;refine ⟨dd.typeIs,fun b q=>?_,hd⟩;cases q;obtain ⟨ob,_,_,h1,h2,_⟩:=dd;exact ⟨ob,h1,h2.2.1⟩
section
variable {X:Cx} {pins:PP} {σ:St} {H:Hp} {s:Shared} {a:Addr} {y d:V} {u r:Value} {o:Option V} {A:Around} {E:PQ}
theorem qj2 {Q:PQ} (hu:A.units+1 < cLine) (I:Inv X pins σ H s) (g:qjZ H a y o) (ry:qN y u) (rd:qN d r) (h:∀ w' s',Inv X pins σ H s'->qN (o.getD d) w'->Q w' s') :
  wpAny (model X.prog X.w) A (call (.builtin "dict.get") [.ref a,u,r]) Q E s:=by
 rcases g with ⟨kvs,k,e,ey,l⟩ | ⟨kvs,k,b,e,ey,eb,l⟩
 ·subst ey;obtain ⟨z,hd,vs,rel,dd⟩:=qjX I.hok e;refine call_meetsIn PySem.F.slot_dict_get dd.typeIs PySem.F.entry_dict_get (PySem.F.args_dict_get_3 _ _ _) (meets_dict_get_default (qA X.prog X.w) a (qhO ry) hd r) ⟨_,dd.mapOf,h _ _ (I.tok _) ?_⟩;rw [l];exact (rel.val k).getD rd
 ·subst ey
  cases (show u=Value.ref b from ry)
  obtain ⟨z,hd,xs,rel,dd⟩:=qjY I.hok e;refine call_meetsIn PySem.F.slot_dict_get dd.typeIs PySem.F.entry_dict_get (PySem.F.args_dict_get_3 _ _ _) (meetsH_dict_get_default (tupleKind (qA X.prog X.w)) a b hd r) ⟨tupleKind_room_in1 hu,k,xs,qgE I.hok eb,dd,h _ _ (I.tok _) ?_⟩;rw [l];exact (rel.val k).getD rd
end
noncomputable def qj3 (td ty tx:TE):TE:=fun σ H Q=>td σ H fun x H1=>∃ a,x=.ref a/\IsD H1 a/\ty σ H1 fun y H2=>tx σ H2 fun z H3=>∃ o,qjZ H3 a y o/\Q (o.getD z) H3
section
variable {X:Cx} {o e f:Expr} {apos cpos:Pos} {td ty tx:TE}
theorem qfp (hu:X.A.units+1 < cLine) (ho:PE X o td) (he:PE X e ty) (hf:PE X f tx) (m:M2 X o "get" apos e f cpos):PE X (.Call (.Attribute o "get" apos) [e,f] [] cpos) (qj3 td ty tx):=by
 intro pins s σ H Q I h;refine wpAny_Call_method m.base m.few m.line PySem.F.plainAttrs_dict PySem.F.slot_dict_get PySem.F.type_dict_get (thn (ho pins s σ H _ I h) fun u s1 hq1=>?_);obtain ⟨x,H1,I1,rx,a,ex,d,q1⟩:=hq1;subst ex;obtain rfl:u=Value.ref a:=rx;obtain ⟨t1,t2,_⟩:=qj1 I1 d;refine ⟨t1,t2,?_⟩;rw [m.trees]
 refine Calls.callWith_builtin rfl (Calls.evalArgs_plain (Calls.spliced_cons (thn (he pins s1 σ H1 _ I1 q1) fun iv s2 ⟨y,H2,I2,ry,q2⟩=>Calls.spliced_cons (thn (hf pins s2 σ H2 _ I2 q2) fun fv s3 ⟨z,H3,I3,rz,ov,g,q3⟩=>Calls.spliced_nil ?_))))
 exact qj2 hu I3 g ry rz fun w' s4 I4 rw'=>⟨_,H3,I4,rw',q3⟩
end
end L2
namespace L2
open PySem PySem.Spec PyProof.Rows
noncomputable def jE (osc:Scope) (N:List Str) (fr:List Nat) (sc:Scope):Bool:=
 sc.kind == .function&&(sc.names.all fun x=>x.2 != .cell&&(x.2 != .local||sc.names.lookup x.1 == some .local)&&(x.2 != .free||(osc.names.lookup x.1 == some .cell||osc.names.lookup x.1 == some .free)))&&fr.all fun i=>sc.names.lookup (N.getD i "") == some .free
theorem qv.upd {H:Hp} {a:Addr} {o:HO} (h:H a=none):qv H (upd H a o):=fun b u e=>by rw [qe (q9 e h)];exact e
end L2
namespace L2
open PySem PySem.Spec PyProof.Rows PySem.W
theorem qfq {P:Program} {w:World} {H:Hp} {h:Heap} {a:Addr} {o:HO} (x:qW P w H h a o):∃ ob,h.get? a=some ob:=by
 cases o with
 | lst xs=>obtain ⟨z,its,n,r,e⟩:=x;exact ⟨_,e⟩
 | tup xs=>obtain ⟨z,its,r,ob,e,c⟩:=x;exact ⟨_,e⟩
 | dK kvs=>obtain ⟨z,y,vs,r,ob,es,ep,e,c⟩:=x;exact ⟨_,e⟩
 | dT kvs=>obtain ⟨z,y,xs,r,ob,es,ep,e,c⟩:=x;exact ⟨_,e⟩
 | set S n=>obtain ⟨ob,es,ep,t,e,c⟩:=x;exact ⟨_,e⟩
 | ins C dx fs=>obtain ⟨d,z,ne,e,_⟩:=x;exact ⟨_,e⟩
 | own y=>obtain ⟨ob,e⟩:=x;exact ⟨_,e⟩
 | xd fs=>obtain ⟨mA,⟨od,es,ep,e,c⟩,r⟩:=x;exact ⟨_,e⟩
 | rng lo hi=>obtain ⟨t,u,v,e⟩:=x;exact ⟨_,e⟩
 | frz ob u=>obtain ⟨e,q⟩:=x;exact ⟨_,e⟩
 | tbl ps=>exact ⟨_,x⟩
 | met f y=>exact ⟨_,x⟩
 | ext φ=>obtain ⟨p,⟨o,e⟩,st⟩:=x;exact ⟨_,e⟩
section
variable {X:Cx} {pins:PP} {σ:St} {H:Hp} {s:Shared}
variable {x T':Addr} {oT:Option Addr} {oe:Obj} {vs:Array Value} {h':Heap}
theorem Inv.newH {x:Addr} (I:Inv X pins σ H s) (h:s.heap.get? x=none):H x=none:=by
 cases e:H x with
 | none=>rfl
 | some u=>obtain ⟨o,q⟩:=qfq (I.hok x u e);rw [h] at q;cases q
end
end L2
namespace L2
open PySem PySem.Spec PyProof.Rows PySem.W
noncomputable def Its (x:Str):It:=⟨fun i _=>i < x.cps.size,fun i H v H'=>H'=H/\∃ c,x.cps[i]?=some c/\v=.str ⟨#[c]⟩,fun i _=>i=x.cps.size⟩
theorem qfr {P:Program} {w:World} {K:Frag} {tg:Expr} {x:Str} {t:Tok} {it:Addr} {T:String} (hT:T = "str_ascii_iterator"\/T = "str_iterator") (W:∀ A':Around,A'.handled=none->Walks P w A' it [it] [it] x.cps.size (SignAt x) (fun i h=>h.IsStrIter it T x t i)) :
  Turn P w K tg (Its x) [it] it (fun i h=>h.IsStrIter it T x t i) where
 mem:=by simp
 obj:=fun i h st b hb=>by
  have e:b=it:=by simpa using hb
  subst e;obtain ⟨o,e,c,d⟩:=st;exact ⟨o,e,fun v z=>by rw [d] at z;cases z⟩
 keep:=fun i h h' st k=>let ⟨o,e,r⟩:=st;⟨o,k it (by simp) o e,r⟩
 item:=by intro X hP hw hK hc i pins s σ H E I hf st hg;subst hP hw hK;obtain ⟨f0,f1,f2,f3,f4,f5⟩:=hf it (by simp);refine (W X.A (I.ok.hd hc)).item i s _ _ hg st fun v h' tk hv st' kk=>?_;obtain ⟨c,u,hcx,rfl⟩:=hv;have I1:Inv X pins σ H { s with heap:=h',toks:=tk }:=I.turned (fun b o hb e=>kk b o (by simpa using hb) e) f0 f1 f3 f4 f5;obtain ⟨o,e1,e2,e3⟩:=id st';refine ⟨_,rfl,qdb (s:={ s with heap:=h',toks:=tk }) e1 e2 e3 (by rcases hT with z | z<;>(rw [z];decide)) ⟨.str ⟨#[c]⟩,H,I1,⟨u,rfl⟩,⟨rfl,c,hcx,rfl⟩,st',fun b hb=>(hf b hb).1⟩⟩
 done:=by intro X hP hw hK hc i pins s σ H E I hf st hg;subst hP hw hK;obtain rfl:i=x.cps.size:=hg;obtain ⟨f0,f1,f2,f3,f4,f5⟩:=hf it (by simp);exact (W X.A (I.ok.hd hc)).done s _ _ st fun h' tk kk=>⟨rfl,I.turned (fun b o hb e=>kk b o (by simpa using hb) e) f0 f1 f3 f4 f5⟩
 self:=fun A i s Q E st h=>by
  rcases hT with z | z
  ·subst z;exact wpAny_pyIter_striter_ascii st h
  ·subst z;exact wpAny_pyIter_striter_wide st h
end L2
namespace L2
open PySem PySem.Spec PyProof.Rows PySem.W
structure ClsFn (K:Frag) (C:Addr) (m:Str) (f:Addr):Prop where
 reads:readsIn K C (.type "type")=true
 sp:specialIn K (.ref C) "__getattribute__" = some (some (.builtin "type.__getattribute__"))
 at_:findCls K (.ref C) (.type "type") m=some (.val (.ref f))
 kp:keepIn K (.ref f)=true
section
variable {X:Cx} {CX:CXT} {k:Nat} {f C:Addr} {fd:FuncData} {ps:List Str} {sp:Sp} {dvs:List V} {ds:List Value} {E:XK} {x m:Str} {p pos apos:Pos} {e:Expr} {es:List Expr} {t:TA}
theorem Q4 {pl:Sem Bool} (hC:ClsFn X.K C m f) (F:FnOk X.prog X.w X.K X.mg X.base CX k f fd ps sp) (hr:Room k X.A) (hg:Gl X x) (hm:X.mg x=some (.ref C)) (hb:zx X.K fd ps ds) (hd:qK dvs ds) (hx:yD CX X E) (ha:PA X (e::es) t)
  (hdb:(x == ("__debug__" : Str))=false:=by decide) (hst:starEach (e::es) X.env=(false,eval e X.env)::starEach es X.env:=by rfl) (hpl:(backTo pos (starEach es X.env)).any (·.1)=false:=by rfl)
  (ht:eval (.Call (.Attribute (.Name x p) m apos) (e::es) [] pos) X.env=(do
   let ov<-eval (.Name x p) X.env
   standAt apos.atName
   let (f,first)<-holding [ov] (getMethod ov m pl)
   callWith pos f first (backTo pos (starEach (e::es) X.env)) (backToKw pos (keywordEach [] X.env))):=by rfl) :
  PE X (.Call (.Attribute (.Name x p) m apos) (e::es) [] pos) (qfb sp dvs E t):=by
 intro pins s σ H Q I h;refine PySem.W.methodCall_KW (pl:=pl) (JD I hg hm ?_ hdb) ht;refine method_cls I.kIn hC.sp (cls_value I.kIn hC.reads hC.at_ rfl ?_);have I1:=I.tok (s.toks+1);refine PySem.W.callWith_K (first:=[]) (h₀:=X.base) I.ok.mod.kin hC.kp (thn (ha pos pins _ σ H _ I1 h) fun us s2 z=>?_) hst hpl;obtain ⟨vs,H2,I2,r,q⟩:=z;exact ⟨I2.kIn,ZO F hr hb hd hx I2 r q⟩
end
end L2
namespace L2
open PySem PySem.Spec PyProof.Rows PySem.W
noncomputable def Itz (K:Frag) (a b:Addr):It:=
 ⟨fun i H=>∃ xs ys x y,SqL K H a xs/\SqL K H b ys/\xs[i]?=some x/\ys[i]?=some y,
  fun i H v H'=>∃ T x y,v=.ref T/\H T=none/\H'=upd H T (.tup [x,y])/\∀ xs ys,SqL K H a xs->SqL K H b ys->xs[i]?=some x/\ys[i]?=some y,
  fun i H=>∃ xs ys,SqL K H a xs/\SqL K H b ys/\(xs.length<=i\/ys.length<=i)⟩
noncomputable def ZSt (z TI TO i1 i2 a b:Addr) (i:Nat) (h:Heap):Prop:=IsZip h z TI TO .none/\IsPair h TI (.ref i1) (.ref i2)/\(∃ u v,IsPair h TO u v)/\h.IsListIter i1 a i/\h.IsListIter i2 b i
theorem Inv.turnedAll {X:Cx} {pins:PP} {σ:St} {H:Hp} {s:Shared} {h':Heap} {t':Nat} {ch:List Addr} (I:Inv X pins σ H s) (k:∀ b o,b∉ch->s.heap.get? b=some o->h'.get? b=some o) (hf:∀ b∈ch,qcl X pins H b):Inv X pins σ H { s with heap:=h',toks:=t' }:=by
 have nch:∀ {b:Addr} {u:HO},H b=some u->b∉ch:=fun {b u} e z=>by rw [(hf b z).1] at e;cases e
 refine I.step (g':=s.gens) (d':=s.drawn) (ch:=ch) (fun b hb=>?_) (fun b o _ _ hc e _=>k b o hc e) (fun b o _ _ hc e _=>⟨o.slots,k b o hc e⟩) (fun _ _ _ _ n=>n) (fun b o hc e=>⟨o,k b o hc e⟩) (fun _ _ e=>e) (fun _ _ _ e=>e) (fun b ps e=>⟨#[],by rw [e];simp⟩) (fun m hm=>?_) (fun b u e=>?_) I.bare
 ·obtain ⟨f0,f1,f2,f3,f4,f5⟩:=hf b hb;exact ⟨f3,f1,f4,f5⟩
 ·obtain ⟨o,es,ep,ho,r⟩:=hm;exact ⟨o,es,ep,k _ o (fun z=>(hf _ z).2.1 rfl) ho,r⟩
 ·refine (I.hok b u e).stay (fun c v hc q=>k c v ?_ q) (fun _ q=>q) fun _ _ q=>q;rcases hc with z | z
  ·rw [z];exact nch e
  ·exact nch z
theorem Inv.turnedNew {X:Cx} {pins:PP} {σ:St} {H:Hp} {s:Shared} {h':Heap} {t':Nat} {ch:List Addr} {T:Addr} {ob:HO} (I:Inv X pins σ H s) (k:∀ b o,b∉ch->s.heap.get? b=some o->h'.get? b=some o) (hf:∀ b∈ch,qcl X pins H b)
  (hT:s.heap.get? T=none) (new:qW X.prog X.w (upd H T ob) h' T ob):Inv X pins σ (upd H T ob) { s with heap:=h',toks:=t' }:=by
 have hH:H T=none:=I.newH hT;have nch:∀ {b:Addr} {u:HO},H b=some u->b∉ch:=fun {b u} e z=>by rw [(hf b z).1] at e;cases e
 have nT:∀ {b:Addr} {u:HO},H b=some u->b≠T:=fun {b u} e z=>by rw [z,hH] at e;cases e
 have up:∀ {b:Addr} {u:HO},H b=some u->upd H T ob b=some u:=fun {b u} e=>by rw [qe (nT e)];exact e
 refine I.step (g':=s.gens) (d':=s.drawn) (ch:=ch) (fun b hb=>?_) (fun b o _ _ hc e _=>k b o hc e) (fun b o _ _ hc e _=>⟨o.slots,k b o hc e⟩) (fun b o _ e n=>?_) (fun b o hc e=>⟨o,k b o hc e⟩) (fun _ _ e=>up e) (fun _ _ _ e=>up e) (fun b ps e=>⟨#[],by rw [up e];simp⟩) (fun m hm=>?_) (fun b u e=>?_) I.bare
 ·obtain ⟨f0,f1,f2,f3,f4,f5⟩:=hf b hb;exact ⟨f3,f1,f4,f5⟩
 ·rw [qe (fun z=>by rw [z,hT] at e;cases e)];exact n
 ·obtain ⟨o,es,ep,ho,r⟩:=hm;exact ⟨o,es,ep,k _ o (fun z=>(hf _ z).2.1 rfl) ho,r⟩
 ·by_cases hb:b=T
  ·subst hb;rw [qh] at e;cases e;exact new
  ·rw [qe hb] at e;refine (I.hok b u e).stay (fun c v hc q=>k c v ?_ q) (fun _ q=>up q) fun _ _ q=>up q;rcases hc with z | z
   ·rw [z];exact nch e
   ·exact nch z
theorem qfs {P:Program} {w:World} {K:Frag} {elts:List Expr} {kk:Nat} {pos:Pos} {z TI TO i1 i2 a b:Addr} (D:ZipApart z TI TO i1 i2 a b) :
  Turn P w K (.Tuple elts kk pos) (Itz K a b) [z,TI,TO,i1,i2] z (ZSt z TI TO i1 i2 a b) where
 mem:=by simp
 obj:=fun i h st c hc=>by
  obtain ⟨s1,s2,⟨u,v,s3⟩,⟨o4,s4,_,d4⟩,⟨o5,s5,_,d5⟩⟩:=st;simp at hc;rcases hc with rfl | rfl | rfl | rfl | rfl
  ·exact ⟨_,s1,fun v q=>by cases q⟩
  ·exact ⟨_,s2,fun v q=>by cases q⟩
  ·exact ⟨_,s3,fun v q=>by cases q⟩
  ·exact ⟨_,s4,fun v q=>by rw [d4] at q;cases q⟩
  ·exact ⟨_,s5,fun v q=>by rw [d5] at q;cases q⟩
 keep:=fun i h h' st k=>by obtain ⟨s1,s2,⟨u,v,s3⟩,s4,s5⟩:=st;exact ⟨k z (by simp) _ s1,k TI (by simp) _ s2,⟨u,v,k TO (by simp) _ s3⟩,s4.at fun o e=>k i1 (by simp) o e,s5.at fun o e=>k i2 (by simp) o e⟩
 item:=by
  intro X hP hw hK hc i pins s σ H E I hf st hg;subst hP hw hK;obtain ⟨xs,ys,x,y,qa,qb,hx,hy⟩:=hg;obtain ⟨s1,s2,⟨u,v,s3⟩,s4,s5⟩:=st;obtain ⟨ia,ra,pa,za⟩:=I.list qa;obtain ⟨ib,rb,pb,zb⟩:=I.list qb;obtain ⟨ux,ex,rx⟩:=ra.get hx;obtain ⟨uy,ey,ry⟩:=rb.get hy;refine wpAny_pyNext_zip_item D s1 s2 s3 s4 s5 pa.isList pb.isList (x:=ux) (y:=uy) (by simpa using ex) (by simpa using ey) fun h' a1 a2 a3 a4 a5 a6 kp=>?_;refine ⟨_,rfl,wpAny_letOwnedTupleGo_zip (s:={ s with heap:=h' }) a1 fun h2 b1 b2=>?_⟩;have two:(2:Nat)<=sizeLine:=Nat.le_of_lt (Z3 (2:))
  have kp2:∀ c o,c∉[z,TI,TO,i1,i2]->s.heap.get? c=some o->h2.get? c=some o:=fun c o hc e=>by simp at hc;exact b2.extBut c o hc.1 (kp c o hc.1 hc.2.2.1 hc.2.2.2.1 hc.2.2.2.2 e)
  have I1:Inv X pins σ H { s with heap:=h2 }:=I.turnedAll (t':=s.toks) kp2 hf
  have hnew:s.heap.get? s.heap.objs.size=none:=by
   cases q:s.heap.get? s.heap.objs.size with
   | none=>rfl
   | some o=>exact absurd (Heap.lt_size q) (Nat.lt_irrefl _)
  have hH:H s.heap.objs.size=none:=I.hok.fresh (Nat.le_refl _);have hTz:s.heap.objs.size≠z:=Nat.ne_of_gt (Heap.lt_size s1);have hT2:IsPair h2 s.heap.objs.size ux uy:=b2.extBut _ _ hTz a5;have hf2:=hf;have I2:Inv X pins σ (upd H s.heap.objs.size (.tup [x,y])) { s with heap:=h2 }:=I.turnedNew (t':=s.toks) kp2 hf hnew ⟨two,[ux,uy],.cons rx %[ry|0],_,hT2,rfl,0,rfl⟩;refine ⟨.ref s.heap.objs.size,_,I2,rfl,⟨_,x,y,rfl,hH,rfl,fun xs' ys' h1 h2=>?_⟩,?_,fun c hc=>?_⟩
  ·rw [I.list_inj h1 qa,I.list_inj h2 qb];exact ⟨hx,hy⟩
  ·exact ⟨b1,b2.extBut _ _ D.TIz (kp TI _ D.TIz D.TITO D.TIi1 D.TIi2 s2),⟨_,_,b2.extBut _ _ D.TOz a2⟩,a3.extBut b2.extBut D.i1z,a4.extBut b2.extBut D.i2z⟩
  ·have hc0:=(hf c hc).1;rw [qe]
   ·exact hc0
   ·intro q
    have e:∃ o,s.heap.get? c=some o:=by
     simp at hc;rcases hc with rfl | rfl | rfl | rfl | rfl
     ·exact ⟨_,s1⟩
     ·exact ⟨_,s2⟩
     ·exact ⟨_,s3⟩
     ·obtain ⟨o,e,_⟩:=s4;exact ⟨o,e⟩
     ·obtain ⟨o,e,_⟩:=s5;exact ⟨o,e⟩
    obtain ⟨o,e⟩:=e;rw [q,hnew] at e;cases e
 done:=by intro X hP hw hK hc i pins s σ H E I hf st hg;subst hP hw hK;obtain ⟨xs,ys,qa,qb,hend⟩:=hg;obtain ⟨s1,s2,⟨u,v,s3⟩,s4,s5⟩:=st;obtain ⟨ia,ra,pa,za⟩:=I.list qa;obtain ⟨ib,rb,pb,zb⟩:=I.list qb;have la:=ra.length;have lb:=rb.length;refine wpAny_pyNext_zip_end (I.ok.hd hc) D s1 s2 s3 s4 s5 pa.isList pb.isList (by simp;omega) fun h' kp=>⟨rfl,I.turnedAll (t':=s.toks) (fun c o hc e=>?_) hf⟩;simp at hc;exact kp c o hc.1 hc.2.2.1 hc.2.2.2.1 hc.2.2.2.2 e
 self:=fun A i s Q E st h=>wpAny_pyIter_zip st.1 h
noncomputable def qob (K:Frag) (ta:TA):TI:=fun σ H R=>ta σ H fun vs H1=>∃ a b,vs=[.ref a,.ref b]/\(∃ xs,SqL K H1 a xs)/\(∃ ys,SqL K H1 b ys)/\R (Itz K a b) H1
section
variable {X:Cx}
theorem qj4 {ea eb:Expr} {elts:List Expr} {kk:Nat} {tpos p pos:Pos} {ta:TA} (hg:Gl X "zip") (hm:X.mg "zip" = none) (ha:PA X [ea,eb] ta) (hs:starEach [ea,eb] X.env=[(false,eval ea X.env),(false,eval eb X.env)]:=by rfl) (hs2:starEach [eb] X.env=[(false,eval eb X.env)]:=by rfl) :
  PI X (.Tuple elts kk tpos) (.Call (.Name "zip" p) [ea,eb] [] pos) (qob X.K ta):=by
 intro pins s σ H R I h;refine Call_ (JU I hg hm boot_zip (PyProof.Rows.callWith_type1 (thn (ha pos pins s σ H _ I h) fun us s1 z=>?_) (by rw [hs,hs2]) (by rw [hs2];rfl)));obtain ⟨vs,H1,I1,r1,a,b,rfl,⟨xs,qa⟩,⟨ys,qb⟩,q⟩:=z;obtain ⟨u,v,rfl,ru,rv⟩:=qa1 r1;cases ru;cases rv;obtain ⟨ia,ra,pa,za⟩:=I1.list qa;obtain ⟨ib,rb,pb,zb⟩:=I1.list qb;have la:a < s1.heap.objs.size:=by obtain ⟨_,e,_⟩:=pa.isList;exact Heap.lt_size e
 have lb:b < s1.heap.objs.size:=by obtain ⟨_,e,_⟩:=pb.isList;exact Heap.lt_size e
 refine call_zip_2 pa.isList pb.isList fun h' z1 z2 z3 z4 z5 z6 kp=>wpAny_pyIter_zip z1 ?_
 have D:ZipApart (s1.heap.objs.size+4) (s1.heap.objs.size+2) (s1.heap.objs.size+3) s1.heap.objs.size (s1.heap.objs.size+1) a b:=by constructor<;>(first | exact Nat.ne_of_lt (Nat.lt_of_lt_of_le la (Nat.le_add_right _ _)) | exact Nat.ne_of_lt (Nat.lt_of_lt_of_le lb (Nat.le_add_right _ _)) | exact Nat.ne_of_lt la | exact Nat.ne_of_lt lb | exact Nat.ne_of_lt (1:) | exact Nat.ne_of_gt (1:))
 refine ⟨s1.heap.objs.size+4,[s1.heap.objs.size+4,s1.heap.objs.size+2,s1.heap.objs.size+3,s1.heap.objs.size,s1.heap.objs.size+1],_,_,H1,rfl,I1.kept (t':=s1.toks) kp,qfs D,⟨z1,z2,⟨_,_,z3⟩,z4,z5⟩,fun c hc=>?_,q⟩
 have:s1.heap.objs.size<=c:=by
  simp at hc;rcases hc with rfl | rfl | rfl | rfl | rfl
  ·exact Nat.le_add_right _ _
  ·exact Nat.le_add_right _ _
  ·exact Nat.le_add_right _ _
  ·exact Nat.le_refl _
  ·exact Nat.le_add_right _ _
 exact I1.fpOk this (I1.hok.fresh this)
end
end L2
namespace L2
open PySem PySem.Spec PyProof.Rows PySem.W PyProof
section
variable {X:Cx}
theorem qj5:SlR X (fun x lo hi H Q=>∃ z,x=.str z/\z.length<=sizeLine/\Q (.str (Txt.slice z lo hi)) H):=by
 intro pins s σ H x v vl vu lo hi sl Q I rx hs pl pu h;obtain ⟨z,rfl,hz,q⟩:=h;obtain ⟨t,rfl⟩:=rx;refine ⟨"str",_,F.slot_str_getitem.lookup,typeIs_str _ _ _,?_⟩;obtain ⟨o,e1,e2,e3⟩:=hs
 cases pl with
 | none=>
  cases pu with
  | none=>exact wpAny_getItem_str_slice (l:=none) (u:=none) (st:=none) ⟨o,e1,e2,e3⟩ rfl (post_val_or_str ⟨Nat.le_trans (Txt.slice_le z _ _) hz,fun t' k=>⟨.str _,H,I.tok k,⟨t',rfl⟩,q⟩⟩)
  | int j uj=>exact wpAny_getItem_str_slice (l:=none) (u:=some (j,uj)) (st:=none) ⟨o,e1,e2,e3⟩ rfl (post_val_or_str ⟨Nat.le_trans (Txt.slice_le z _ _) hz,fun t' k=>⟨.str _,H,I.tok k,⟨t',rfl⟩,q⟩⟩)
 | int i ui=>
  cases pu with
  | none=>exact wpAny_getItem_str_slice (l:=some (i,ui)) (u:=none) (st:=none) ⟨o,e1,e2,e3⟩ rfl (post_val_or_str ⟨Nat.le_trans (Txt.slice_le z _ _) hz,fun t' k=>⟨.str _,H,I.tok k,⟨t',rfl⟩,q⟩⟩)
  | int j uj=>exact wpAny_getItem_str_slice (l:=some (i,ui)) (u:=some (j,uj)) (st:=none) ⟨o,e1,e2,e3⟩ rfl (post_val_or_str ⟨Nat.le_trans (Txt.slice_le z _ _) hz,fun t' k=>⟨.str _,H,I.tok k,⟨t',rfl⟩,q⟩⟩)
end
end L2
namespace L2
open PySem PySem.Spec PyProof.Rows PySem.W
noncomputable def Ite (K:Frag) (a:Addr):It:=
 ⟨fun i H=>∃ xs x,SqL K H a xs/\xs[i]?=some x,
  fun i H v H'=>∃ T x,v=.ref T/\H T=none/\H'=upd H T (.tup [.int i,x])/\∀ xs,SqL K H a xs->xs[i]?=some x,
  fun i H=>∃ xs,SqL K H a xs/\xs.length<=i⟩
noncomputable def ESt (e it a:Addr) (i:Nat) (h:Heap):Prop:=(∃ old,IsEnum h e it ((i:Nat):Int) old)/\h.IsListIter it a i
theorem qdF {P:Program} {w:World} {K:Frag} {elts:List Expr} {kk:Nat} {pos:Pos} {e it a:Addr} (hne:e≠it) :
  Turn P w K (.Tuple elts kk pos) (Ite K a) [e,it] e (ESt e it a) where
 mem:=by simp
 obj:=fun i h st c hc=>by
  obtain ⟨⟨old,s1⟩,⟨o4,s4,_,d4⟩⟩:=st;simp at hc;rcases hc with rfl | rfl
  ·exact ⟨_,s1,fun v q=>by cases q⟩
  ·exact ⟨_,s4,fun v q=>by rw [d4] at q;cases q⟩
 keep:=fun i h h' st k=>by obtain ⟨⟨old,s1⟩,s4⟩:=st;exact ⟨⟨old,k e (by simp) _ s1⟩,s4.at fun o e=>k it (by simp) o e⟩
 item:=by
  intro X hP hw hK hc i pins s σ H E I hf st hg;subst hP hw hK;obtain ⟨xs,x,qa,hx⟩:=hg;obtain ⟨⟨old,s1⟩,s4⟩:=st;obtain ⟨ia,ra,pa,za⟩:=I.list qa;obtain ⟨ux,ex,rx⟩:=ra.get hx;refine wpAny_pyNext_enum_item s1 s4 pa.isList (x:=ux) (by simpa using ex) hne fun h' a1 a2 a3 a4 kp=>?_;refine ⟨_,rfl,wpAny_letOwnedTupleGo_enum (s:={ s with heap:=h',toks:=s.toks+1 }) a1 fun h2 b1 b2=>?_⟩;have two:(2:Nat)<=sizeLine:=Nat.le_of_lt (Z3 (2:))
  have kp2:∀ c o,c∉[e,it]->s.heap.get? c=some o->h2.get? c=some o:=fun c o hc q=>by simp at hc;exact b2.extBut c o hc.1 (kp c o hc.1 hc.2 q)
  have hnew:s.heap.get? s.heap.objs.size=none:=by
   cases q:s.heap.get? s.heap.objs.size with
   | none=>rfl
   | some o=>exact absurd (Heap.lt_size q) (Nat.lt_irrefl _)
  have hH:H s.heap.objs.size=none:=I.hok.fresh (Nat.le_refl _);have hTe:s.heap.objs.size≠e:=Nat.ne_of_gt (Heap.lt_size s1);have hT2:IsPair h2 s.heap.objs.size (.int i s.toks) ux:=b2.extBut _ _ hTe a3;have I2:Inv X pins σ (upd H s.heap.objs.size (.tup [.int i,x])) { s with heap:=h2,toks:=s.toks+1 }:=I.turnedNew (t':=s.toks+1) kp2 hf hnew ⟨two,[.int i s.toks,ux],.cons ⟨_,rfl⟩ %[rx|0],_,hT2,rfl,0,rfl⟩;refine ⟨.ref s.heap.objs.size,_,I2,rfl,⟨_,x,rfl,hH,rfl,fun xs' h1=>?_⟩,?_,fun c hc=>?_⟩
  ·rw [I.list_inj h1 qa];exact hx
  ·have e1:((i+1:Nat):Int)=(i:Int)+1:=by omega
   refine ⟨⟨ux,?_⟩,a2.extBut b2.extBut (Ne.symm hne)⟩;rw [e1];exact b1
  ·have hc0:=(hf c hc).1;rw [qe]
   ·exact hc0
   ·intro q
    have e:∃ o,s.heap.get? c=some o:=by
     simp at hc;rcases hc with rfl | rfl
     ·exact ⟨_,s1⟩
     ·obtain ⟨o,e,_⟩:=s4;exact ⟨o,e⟩
    obtain ⟨o,e⟩:=e;rw [q,hnew] at e;cases e
 done:=by intro X hP hw hK hc i pins s σ H E I hf st hg;subst hP hw hK;obtain ⟨xs,qa,hend⟩:=hg;obtain ⟨⟨old,s1⟩,s4⟩:=st;obtain ⟨ia,ra,pa,za⟩:=I.list qa;have la:=ra.length;refine wpAny_pyNext_enum_end (I.ok.hd hc) s1 s4 pa.isList (by simp;omega) fun h' kp=>⟨rfl,I.turnedAll (t':=s.toks) (fun c o hc e=>?_) hf⟩;simp at hc;exact kp c o hc.2 e
 self:=fun A i s Q E st h=>by obtain ⟨⟨old,s1⟩,_⟩:=st;exact wpAny_pyIter_enum s1 h
noncomputable def qmH (K:Frag) (ta:TA):TI:=fun σ H R=>ta σ H fun vs H1=>∃ a,vs=[.ref a]/\(∃ xs,SqL K H1 a xs)/\R (Ite K a) H1
section
variable {X:Cx}
theorem qhP {ea:Expr} {elts:List Expr} {kk:Nat} {tpos p pos:Pos} {ta:TA} (hg:Gl X "enumerate") (hm:X.mg "enumerate" = none) (ha:PA X [ea] ta) (hs:starEach [ea] X.env=[(false,eval ea X.env)]:=by rfl) :
  PI X (.Tuple elts kk tpos) (.Call (.Name "enumerate" p) [ea] [] pos) (qmH X.K ta):=by
 intro pins s σ H R I h;refine Call_ (JU I hg hm boot_enumerate (PyProof.Rows.callWith_type1 (thn (ha pos pins s σ H _ I h) fun us s1 z=>?_) hs rfl));obtain ⟨vs,H1,I1,r1,a,rfl,⟨xs,qa⟩,q⟩:=z;obtain ⟨u,rfl,ru⟩:=JF r1;cases ru;obtain ⟨ia,ra,pa,za⟩:=I1.list qa;refine call_enumerate_list pa.isList fun h' z1 z2 z3 kp=>wpAny_pyIter_enum z1 ?_;refine ⟨s1.heap.objs.size+1,[s1.heap.objs.size+1,s1.heap.objs.size],_,_,H1,rfl,I1.kept (t':=s1.toks) kp,qdF (Nat.succ_ne_self _),⟨⟨_,z1⟩,z2⟩,fun c hc=>?_,q⟩
 have:s1.heap.objs.size<=c:=by
  simp at hc;rcases hc with rfl | rfl
  ·exact Nat.le_add_right _ _
  ·exact Nat.le_refl _
 exact I1.fpOk this (I1.hok.fresh this)
end
end L2
namespace L2
open PySem PySem.Spec PyProof.Rows PySem.W
noncomputable def Itv (K:Frag) (a:Addr) (xs:List V):It:=
 ⟨fun i H=>SqL K H a xs/\i < xs.length,fun i H x H'=>H'=H/\xs[xs.length - 1 - i]?=some x,fun i H=>SqL K H a xs/\xs.length=i⟩
theorem qft {P:Program} {w:World} {K:Frag} {tg:Expr} (a it:Addr) (xs:List V):Turn P w K tg (Itv K a xs) [it] it (fun i h=>h.IsRevIter it a ((xs.length:Int) - 1 - i)) where
 mem:=by simp
 obj:=fun i h st b hb=>by
  have e:b=it:=by simpa using hb
  subst e;obtain ⟨o,e,c,d⟩:=st;exact ⟨o,e,fun v z=>by rw [d] at z;cases z⟩
 keep:=fun i h h' st k=>st.at fun o e=>k it (by simp) o e
 item:=by
  intro X hP hw hK hc i pins s σ H E I hf st hg;subst hP hw hK;obtain ⟨hq,hi⟩:=hg;obtain ⟨its,rv,p,hz⟩:=I.list hq;have hx:xs[xs.length - 1 - i]?=some xs[xs.length - 1 - i]:=List.getElem?_eq_getElem (1:);obtain ⟨u,hu,ru⟩:=rv.get hx;obtain ⟨f0,f1,f2,f3,f4,f5⟩:=hf it (by simp);have e1:(xs.length:Int) - 1 - i=((xs.length - 1 - i:Nat):Int):=by omega
  rw [e1] at st;refine wpAny_pyNext_rev_item st p.isList (x:=u) (by simpa using hu) fun h' st' sb=>?_;have I1:Inv X pins σ H { s with heap:=h' }:=I.turned (t':=s.toks) (fun b o hb e=>(sb.2 b hb).trans e) f0 f1 f3 f4 f5;have e2:((xs.length - 1 - i:Nat):Int) - 1=(xs.length:Int) - 1 - ((i+1:Nat):Int):=by omega
  rw [e2] at st';obtain ⟨o,e,c,d⟩:=id st';exact ⟨u,rfl,qdb (s:={ s with heap:=h' }) e c d (2:) ⟨_,H,I1,ru,⟨rfl,hx⟩,st',fun b hb=>(hf b hb).1⟩⟩
 done:=by
  intro X hP hw hK hc i pins s σ H E I hf st hg;subst hP hw hK;obtain ⟨hq,hi⟩:=hg;obtain ⟨f0,f1,f2,f3,f4,f5⟩:=hf it (by simp);have e1:(xs.length:Int) - 1 - i = -1:=by omega
  rw [e1] at st;exact wpAny_pyNext_rev_end (I.ok.hd hc) st fun h' eb=>⟨rfl,I.turned (t':=s.toks) (fun b o hb e=>eb b o hb e) f0 f1 f3 f4 f5⟩
 self:=fun _ _ _ _ _ st h=>wpAny_pyIter_revIter st h
noncomputable def qoc (K:Frag) (ta:TA):TI:=fun σ H R=>ta σ H fun vs H1=>∃ a xs,vs=[.ref a]/\SqL K H1 a xs/\R (Itv K a xs) H1
section
variable {X:Cx}
theorem qj6 {ea tg:Expr} {p pos:Pos} {ta:TA} (hg:Gl X "reversed") (hm:X.mg "reversed" = none) (ha:PA X [ea] ta) (hs:starEach [ea] X.env=[(false,eval ea X.env)]:=by rfl) :
  PI X tg (.Call (.Name "reversed" p) [ea] [] pos) (qoc X.K ta):=by
 intro pins s σ H R I h;refine Call_ (JU I hg hm boot_reversed (PyProof.Rows.callWith_type1 (thn (ha pos pins s σ H _ I h) fun us s1 z=>?_) hs rfl));obtain ⟨vs,H1,I1,r1,a,xs,rfl,qa,q⟩:=z;obtain ⟨u,rfl,ru⟩:=JF r1;cases ru;obtain ⟨ia,ra,pa,za⟩:=I1.list qa;have la:=ra.length;refine call_reversed_list pa.isList ?_;refine wpAny_pyIter_revIter ⟨_,Heap.get?_push_size _ rfl,rfl,rfl⟩ ?_;refine ⟨s1.heap.objs.size,[s1.heap.objs.size],_,_,H1,rfl,I1.kept (t':=s1.toks) fun b o e=>Heap.get?_push_of_some _ e,qft a _ xs,⟨_,Heap.get?_push_size _ rfl,rfl,?_⟩,fun b hb=>?_,q⟩
 ·show Data.fields #[.ref a,rawInt ((ia.toArray.size:Int) - 1)]=_
  have:(ia.toArray.size:Int) - 1=(xs.length:Int) - 1 - ((0:Nat):Int):=by simp;omega
  rw [this]
 ·have e:b=s1.heap.objs.size:=by simpa using hb
  subst e;exact I1.fpOk (Nat.le_refl _) (I1.hok.fresh (Nat.le_refl _))
end
end L2
namespace L2
open PySem PySem.Spec PyProof.Rows
def rsz (lo hi c:Int):Nat:=if lo < hi then ((hi - lo - 1) / c+1).toNat else 0
end L2
namespace L2
open PySem PySem.Spec PyProof.Rows
section
variable {prog:Program} {w:World} {A:Around} {E:PQ} {s:Shared}
theorem qaa:typeLookup (.type "list") "keys" = pure none:=am_miss_of_fast (by kernel_rfl)
theorem qj7 {a:Addr} {o:Obj} {xs:Array Value} {k:Nat} {Q:Option Value->Shared->Prop} (hx:s.heap.get? a=some o) (hc:o.cls=.type "list") (hdat:o.data=.seq xs k) (hd:o.dict=none) (hA:A.handled=none)
  (h:∀ h' tk,(∀ b ob,s.heap.get? b=some ob->h'.get? b=some ob)->Q none { s with heap:=h',toks:=tk }):wpAny (model prog w) A (getAttr? (.ref a) "keys") Q E s:=by
 obtain ⟨c,dct,dat,sl⟩:=o;simp only at hc hdat hd;subst hc hdat hd;obtain ⟨hp,g,d,tk,os⟩:=s;have hT:∀ tk',(⟨hp,g,d,tk',os⟩:Shared).TypeIs (.ref a) "list":=fun _=>⟨_,hx,rfl⟩;have f1:=sub_AttributeError;have f3:=PySem.F.slot_list_getattribute.lookup;have f4:=PySem.F.slot_list_getattribute.bind (.ref a);have f5:=am_list_getattr_none;unfold getAttr? getAttrBy? getAttrBy
 repeat (any_goals (first | assumption | exact hT _ | ((with_reducible show wpAny _ _ (call (Value.builtin "list.__getattribute__") _ _) _ _ _);refine call_meets PySem.F.slot_list_getattribute (hT _) am_entry_list_getattribute (PySem.F.args_list_getattribute_2 _ _) (meets_getattribute_miss_list a xs k sl _ _ qaa (by decide+kernel)) ⟨hx,hA,fun h' tk' e hx'=>?_⟩) | wp_step))
 obtain ⟨t',u',he⟩:=hx'.there;show wpAny _ _ (getattributeRaised _ _ _ _ _ _ _) _ _ _;unfold getattributeRaised
 repeat (any_goals (first | assumption | wp_step))
 exact h _ _ hx'.keeps
theorem qbE:entryFor table "dict.update.loop" = some Builtin.«dict.update.loop»:=entryFor_of_tree (by kernel_rfl)
theorem Yq:plainId "dict.update.loop" = true:=by decide+kernel
noncomputable def qhQ (prog:Program) (w:World) (h:Heap) (items:Array Value) (ps:List (Key×Value)):Prop:=items.size=ps.length/\∀ (i:Nat) (kv:Key×Value),ps[i]?=some kv->∃ (b:Addr) (ku:Value),items[i]?=some (.ref b)/\h.IsTuple b #[ku,kv.2]/\(qA prog w).is kv.1 ku=true
theorem qj8 {h0:Heap} {D I l:Addr} {items:Array Value} {ps:List (Key×Value)} {R:Result->Shared->Prop} (hD:h0.get? D=none) (hI:h0.get? I=none) (hne:D≠I) (hl:h0.IsList l items) (hps:qhQ prog w h0 items ps) (hz:ps.length<=sizeLine) (hh:A.handled=none) :
  ∀ (k i:Nat) (t:Tok) (s:Shared),ps.length - i=k->i<=ps.length->(∀ b o,h0.get? b=some o->s.heap.get? b=some o)->s.heap.IsListIter I l i->s.heap.DictOf (qA prog w) D (merged [] (ps.take i))->
   (∀ h' tk,(∀ b o,h0.get? b=some o->h'.get? b=some o)->h'.DictOf (qA prog w) D (merged [] ps)->R (.ok (.ret .none)) { s with heap:=h',toks:=tk })->
   codeAny (model prog w) A (.builtin "dict.update.loop" ⟨[.ref D,.ref I,.int i t,.none],[]⟩) R s:=by
 have old:∀ {b:Addr} {o:Obj},h0.get? b=some o->b≠D/\b≠I:=fun {b o} e=>⟨fun z=>(by rw [z,hD] at e;cases e),fun z=>(by rw [z,hI] at e;cases e)⟩;intro k
 induction k with
 | zero=>
  intro i t s hk hi ho it dd hR;have hin:i=ps.length:=by omega
  subst hin;refine codeAny_builtin qbE ?_;rw [Around.under_plainId Yq _];show wpAny _ A.in1 (pyNext (.ref I) >>= _) _ _ s;have hl':s.heap.IsList l items:=hl.at fun o e=>ho _ _ e;refine wpAny_bind (wpAny_pyNext_list_end (by simpa using hh) it hl' (by simp [hps.1]) fun h' eb=>?_);rw [List.take_length] at dd;show wpAny _ A.in1 (Builtin.Dict.addKeywords D [] >>= _) _ _ _;refine wpAny_bind (wpAny_pure (wpAny_pure (hR h' s.toks (fun b o e=>eb b o (old e).2 (ho b o e)) ?_)));obtain ⟨o,es,ep,h1,r⟩:=dd;exact ⟨o,es,ep,eb D o hne h1,r⟩
 | succ k ih=>
  intro i t s hk hi ho it dd hR;have hlt:i < ps.length:=by omega
  obtain ⟨kv,hkv⟩:∃ kv,ps[i]?=some kv:=⟨ps[i],List.getElem?_eq_getElem _⟩;obtain ⟨b,ku,h1,h2,h3⟩:=hps.2 i kv hkv;have hl':s.heap.IsList l items:=hl.at fun o e=>ho _ _ e;refine codeAny_builtin qbE ?_;rw [Around.under_plainId Yq _];show wpAny _ A.in1 (pyNext (.ref I) >>= _) _ _ s;refine wpAny_bind (wpAny_pyNext_list_item it hl' h1 fun h' it' sb=>?_);have ho':∀ b o,h0.get? b=some o->h'.get? b=some o:=fun b o e=>(sb.2 b (old e).2).trans (ho b o e)
  have dd':h'.DictOf (qA prog w) D (merged [] (ps.take i)):=by obtain ⟨o,es,ep,q,r⟩:=dd;exact ⟨o,es,ep,(sb.2 D hne).trans q,r⟩
  obtain ⟨ot,q1,q2,n,q3⟩:=h2;have hT:Shared.TypeIs { s with heap:=h' } (.ref b) "tuple":=⟨ot,ho' _ _ q1,q2⟩;show wpAny _ A.in1 (holding [Value.ref b] _ >>= _) _ _ _;refine wpAny_bind (wpAny_holding (wpAny_bind (wpAny_tryCatch ?_)));unfold Builtin.Dict.pairItems;refine wpAny_bind (wpAny_typeOf hT ?_);rw [if_pos (2:)];refine wpAny_bind (wpAny_seqItems (ho' _ _ q1) q3 (wpAny_pure ?_));show wpAny _ A.in1 (holding [ku,kv.2] (dictSet D ku kv.2)) _ _ _;unfold dictSet;refine wpAny_holding (wpAny_holding (wpAny_bind ((qA prog w).pyHash (k:=kv.1) h3 ?_)))
  have hmx:(merged [] (ps.take i)).length<=sizeLine:=by
   have e1:=merged_length_le ([]:List (Key×Value)) (ps.take i);have e2:(ps.take i).length<=ps.length:=by rw [List.length_take];omega
   simp only [List.length_nil] at e1;omega
  refine wpAny_dictSetHashed_pairs (s:={ s with heap:=h',toks:=s.toks+1 }) (hsz:=hmx) h3 dd' fun h'' dd'' sb'=>?_;refine wpAny_pure ⟨plainId_quiet Yq _,ih (i+1) _ _ (1:) hlt (fun b o e=>(sb'.2 b (old e).1).trans (ho' b o e)) ?_ ?_ hR⟩
  ·obtain ⟨o,z,r⟩:=it';exact ⟨o,(sb'.2 I (Ne.symm hne)).trans z,r⟩
  ·rw [merged_take_succ [] ps i kv hkv];exact dd''
theorem qcz {l:Addr} {ol:Obj} {items:Array Value} {n:Nat} {ps:List (Key×Value)} {Q:PQ} (hh:A.handled=none) (hx:s.heap.get? l=some ol) (hc:ol.cls=.type "list") (hdat:ol.data=.seq items n) (hd:ol.dict=none) (hps:qhQ prog w s.heap items ps) (hz:ps.length<=sizeLine)
  (h:∀ h' tk,(∀ b o,s.heap.get? b=some o->h'.get? b=some o)->h'.DictOf (qA prog w) s.heap.objs.size (merged [] ps)->Q (.ref s.heap.objs.size) { s with heap:=h',toks:=tk }) :
  wpAny (model prog w) A (call (.type "dict") [.ref l]) Q E s:=by
 refine callType_codes (Q₁:=fun obj s₁=>obj=.ref s.heap.objs.size/\s₁={ s with heap:=s.heap.push { cls:=.type "dict",data:=.dict #[] } }) PySem.F.kt_called_dict (PySem.F.kt_typeCall_dict_1 _) PySem.F.entry_dict_init (kt_code_dict_new _ ⟨rfl,rfl⟩) ?_;rintro obj s₁ ⟨rfl,rfl⟩;have hnew:(s.heap.push { cls:=.type "dict",data:=.dict #[] }).DictOf (qA prog w) s.heap.objs.size []:=Heap.DictOf.new s.heap;have hx':(s.heap.push { cls:=.type "dict",data:=.dict #[] }).get? l=some ol:=Heap.get?_push_of_some _ hx;have hT:Shared.TypeIs { s with heap:=s.heap.push { cls:=.type "dict",data:=.dict #[] } } (.ref l) "list":=⟨ol,hx',hc⟩;refine ⟨hnew.typeIs,PySem.F.args_dict_init_2 _ _,?_⟩;unfold Builtin.«dict.__init__»;refine wpAny_bind ?_;unfold Builtin.Dict.selfAndRest;refine wpAny_bind (wpAny_notOrdered_dict hnew.typeIs ?_);show wpAny _ _ (pure (s.heap.objs.size,[Value.ref l])) _ _ _;refine wpAny_pure ?_;show wpAny _ _ (Builtin.Dict.updateFrom "dict.__init__" s.heap.objs.size (.ref l) [] .none) _ _ _;unfold Builtin.Dict.updateFrom;refine wpAny_bind (wpAny_typeOf hT ?_);rw [if_pos (2:)];refine wpAny_bind (qj7 hx' hc hdat hd (by simpa using hh) fun h1 tk1 k1=>?_);rw [if_pos (by rfl)];refine wpAny_bind (wpAny_rule ?_);have hl1:h1.IsList l items:=⟨ol,k1 _ _ hx',hc,n,hdat⟩;refine wpAny_bind (wpAny_pyIter_list hl1 ?_);have k0:∀ b o,s.heap.get? b=some o->(h1.push { cls:=.type "list_iterator",data:=.fields #[.ref l,.int 0 0] }).get? b=some o:=fun b o e=>Heap.get?_push_of_some _ (k1 b o (Heap.get?_push_of_some _ e));obtain ⟨od,es,ep,hod,rd⟩:=hnew;have hlt:s.heap.objs.size < h1.objs.size:=Heap.lt_size (k1 _ _ hod);have hDI:s.heap.objs.size≠h1.objs.size:=Nat.ne_of_lt hlt;refine wpAny_pure ⟨plainId_quiet Yq _,?_⟩;refine qj8 (h0:=s.heap) (l:=l) (items:=items) (ps:=ps) (Heap.get?_none_of_le (Nat.le_refl _)) (Heap.get?_none_of_le (Nat.le_of_lt hlt)) hDI ⟨ol,hx,hc,n,hdat⟩ hps hz (by simpa using hh) _ 0 _ _ rfl (Nat.zero_le _) k0 ?_ ?_ fun h' tk ko dd=>?_
 ·exact ⟨_,Heap.get?_push_size _ rfl,rfl,rfl⟩
 ·exact ⟨od,es,ep,Heap.get?_push_of_some _ (k1 _ _ hod),rd⟩
 ·exact ⟨rfl,h h' tk ko dd⟩
end
section
variable {X:Cx}
def kvV (kv:Str×Int):Key×V:=(.inr kv.1,.int kv.2)
theorem qgF {P:Program} {w:World} {H:Hp} {h:Heap} (ok:HOk P w H h):∀ {xs:List V} {kvs:List (Str×Int)} {its:List Value},Paired (fun x (kv:Str×Int)=>∃ b,x=V.ref b/\H b=some (.tup [.str kv.1,.int kv.2])) xs kvs->qK xs its->
  ∃ ps:List (Key×Value),KV (kvs.map kvV) ps/\Paired (fun u (kv:Key×Value)=>∃ b ku,u=Value.ref b/\h.IsTuple b #[ku,kv.2]/\(qA P w).is kv.1 ku=true) its ps
 | _,_,_,.nil,.nil=>⟨[],.nil,.nil⟩
 | _,_,_,.cons (b:=kv) hx hr,.cons rx rr=>by obtain ⟨ps,h1,h2⟩:=qgF ok hr rr;obtain ⟨b,rfl,hb⟩:=hx;obtain ⟨_,its,rv,tp⟩:=(show qW P w H h b (.tup [.str kv.1,.int kv.2]) from ok b _ hb);obtain ⟨u,v,rfl,ru,rv⟩:=qa1 rv;exact ⟨(.inr kv.1,v)::ps,.cons ⟨rfl,rv⟩ h1,.cons ⟨b,u,rx,tp,qhO (k:=.inr kv.1) ru⟩ h2⟩
theorem Paired.ix {α β:Type} {R:α->β->Prop}:∀ {l:List α} {m:List β} {i:Nat} {b:β},Paired R l m->m[i]?=some b->∃ a,l[i]?=some a/\R a b
 | _,_,_,_,.nil,e=>by simp at e
 | _,_,0,_,.cons h t,e=>by simp at e;subst e;exact ⟨_,rfl,h⟩
 | _,_,i+1,_,.cons h t,e=>by obtain ⟨a,e1,e2⟩:=Paired.ix (i:=i) t (by simpa using e);exact ⟨a,by simpa using e1,e2⟩
theorem qcA (hc:X.calm=true):zw X (.type "dict") (fun vs H Q=>∃ (p:Addr) (xs:List V) (kvs:List (Str×Int)),vs=[.ref p]/\SqL X.K H p xs/\Paired (fun x (kv:Str×Int)=>∃ b,x=V.ref b/\H b=some (.tup [.str kv.1,.int kv.2])) xs kvs/\(kvs.map (·.1)).Nodup/\∀ q,H q=none->Q (.ref q) (upd H q (.dK (kvs.map kvV)))):=by
 intro pins s σ H xs us Q I r h;obtain ⟨p,xs,kvs,rfl,hq,hp,nd,q⟩:=h;obtain ⟨u,rfl,rx⟩:=JF r;cases rx;obtain ⟨its,rv,⟨ol,n,g1,g2,g3,g4⟩,hz⟩:=I.list hq;obtain ⟨ps,h1,h2⟩:=qgF I.hok hp rv;have e1:=h1.length;have e2:=h2.length;have e3:=rv.length;rw [List.length_map] at e1
 have hps:qhQ X.prog X.w s.heap its.toArray ps:=⟨by simpa using e2,fun i kv e=>by obtain ⟨u,z1,b,ku,z2,z3,z4⟩:=Paired.ix h2 e;exact ⟨b,ku,by rw [<-z2];simpa using z1,z3,z4⟩⟩
 refine qcz (I.ok.hd hc) g1 g2 g4 g3 hps (1:) fun h' tk ko dd=>?_
 have nk:(ps.map (·.1)).Nodup:=by
  rw [<-h1.keys,List.map_map]
  have:((fun x:Key×V=>x.1) ∘ kvV)=(Sum.inr:Str->Key) ∘ (fun kv:Str×Int=>kv.1):=rfl
  rw [this,<-List.map_map];exact nd.map (f:=(Sum.inr:Str->Key)) (fun a b=>by simp)
 rw [merged_nil_of_nodup ps nk] at dd;refine ⟨.ref _,_,I.laid (a:=s.heap.objs.size) (o:=.dK (kvs.map kvV)) (t':=tk) ko (Nat.le_refl _) (qj0 (by rw [List.length_map];omega) (beq_eq_false_iff_ne.mpr (Ne.symm (Nat.ne_of_lt I.big))) h1 dd),rfl,q _ (I.hok.fresh (Nat.le_refl _))⟩
end
end L2
namespace L2
open PySem PySem.Spec PyProof.Rows
section
variable {X:Cx}
theorem qdG:zw X (.type "range") (fun vs H Q=>∃ j:Int,vs=[.int j]/\∀ q,H q=none->Q (.ref q) (upd H q (.rng 0 j))):=by intro pins s σ H xs us Q I r h;obtain ⟨j,rfl,q⟩:=h;obtain ⟨u,rfl,t,rfl⟩:=JF r;exact call_range_1 ⟨.ref _,_,I.laid (a:=s.heap.objs.size) (o:=.rng 0 j) (t':=_) (fun _ _ e=>Heap.get?_push_of_some _ e) (Nat.le_refl _) ⟨_,_,_,Heap.get?_push_size _ rfl⟩,rfl,q _ (I.hok.fresh (Nat.le_refl _))⟩
theorem qmI {prog:Program} {w:World} {A:Around} {E:PQ} {s:Shared} {p:Addr} {lo hi i:Int} {t u v x:Tok} {Q:PQ} (ho:s.heap.get? p=some { cls:=.type "range",data:=.fields #[.int lo t,.int hi u,.int 1 v] }) (h:Q (.bool (decide (lo<=i/\i < hi))) s) :
  wpAny (model prog w) A (call (.builtin "range.__contains__") [.ref p,.int i x]) Q E s:=by
 have hT:s.TypeIs (.ref p) "range":=⟨_,ho,rfl⟩;refine wpAny_call_entry PySem.F.slot_range_contains hT PySem.F.entry_range_contains ?_ (PySem.F.args_range_contains_2 _ _);unfold Builtin.«range.__contains__»
 have e:(Builtin.Range.rangePlace? lo hi 1 i).isSome=decide (lo<=i/\i < hi):=by
  unfold Builtin.Range.rangePlace?;simp
  split<;>simp_all
 obtain ⟨hp,g,d,tk,os⟩:=s;unfold Builtin.Range.rangeFields
 repeat (any_goals (first | assumption | wp_step))
 exact ⟨_,rfl,by rw [e];exact h⟩
theorem qdH:OpR X (compareOp .NotIn) (fun x y H Q=>∃ (i lo hi:Int) (p:Addr),x=.int i/\y=.ref p/\H p=some (.rng lo hi)/\Q (.bl (!decide (lo<=i/\i < hi))) H):=by intro pins s σ H x y v u Q I rx ry h;obtain ⟨i,lo,hi,p,rfl,rfl,hp,q⟩:=h;obtain ⟨t,rfl⟩:=rx;cases ry;obtain ⟨t1,t2,t3,ho⟩:=(show qW X.prog X.w H s.heap p (.rng lo hi) from I.hok p _ hp);exact NotIn_slot ⟨_,ho,rfl⟩ PySem.F.slot_range_contains (qmI ho (wpAny_truthy_bool ⟨.bl _,H,I,rfl,q⟩))
end
end L2
namespace TS
open PySem PyProof.Rows
section
variable {M:Model} {A:Around} {E:PQ} {s:Shared} {O:KeyOrd} {kf:Keyed->O.α} {κ:SortKind} {G:Keyed->Prop} {a0:Array Keyed}
noncomputable def Few (O:KeyOrd) (kf:Keyed->O.α) (a0:Array Keyed) (st:SortSt):Prop:=(arrOf st).Perm a0/\failedOf st=none/\pendingOf st=#[(0,a0.size,0)]/\Srt O kf (arrOf st) 0 a0.size
theorem qdI (L:qfm M A E s O kf κ G) (h2:2<=a0.size) (h64:a0.size < 64) (h0:∀ x∈a0.toList,G x) {st:SortSt} {Q:Unit->SortSt->Prop} (hk:kindOf st=κ) (hf:failedOf st=none) (ha:arrOf st=a0) (hp:pendingOf st=#[])
  (h:∀ st',(arrOf st').Perm a0->failedOf st'=none->Srt O kf (arrOf st') 0 a0.size->Q () st'):wpS M A E s sortRuns' Q st:=by
 rw [sortRuns'_eq];refine wpS_bind (wpS_get ?_);dsimp only
 have hmr:minRun' a0.size a0.size 0=a0.size:=by
  obtain ⟨f,hf⟩:∃ f,a0.size=f+1:=⟨a0.size - 1,by omega⟩
  have:minRun' (f+1) a0.size 0=a0.size:=by rw [minRun'_succ,if_pos h64];rfl
  rwa [<-hf] at this
 simp only [ha,hmr];have done:∀ st',kindOf st'=κ->failedOf st'=none->pendingOf st'=#[]->(arrOf st').Perm a0->Srt O kf (arrOf st') 0 a0.size->Few O kf a0 (setPending st' ((pendingOf st').push (0,a0.size,0))):=fun st' _ b c d e=>⟨d,b,by show (pendingOf st').push _=_;rw [c];rfl,e⟩
 refine wpS_bind (wpS_mono (wpS_forRange
  (I:=fun x c st'=>(x=0/\c=(none,0)/\st'=st)\/(1<=x/\c=(none,a0.size)/\Few O kf a0 st'))
  (Q:=fun c st'=>c=(none,a0.size)/\Few O kf a0 st') ?step ?fin (.inl ⟨rfl,rfl,rfl⟩)) ?post)
 case fin=>
  rintro c st' (⟨hx,_,_⟩ | ⟨_,hc,hD⟩)
  ·omega
  ·exact ⟨hc,hD⟩
 case step=>
  rintro x c st' _ hx (⟨rfl,rfl,rfl⟩ | ⟨hx1,rfl,hD⟩)
  ·dsimp only;rw [if_neg (1:)];simp only [Nat.sub_zero,Nat.min_self,Nat.zero_add];refine wpS_bind (qmG L hk (by rw [ha];exact h0) (by rw [ha];omega) (1:) fun m xs r m1 m2 im=>?_);dsimp only;rw [ha] at r;rw [Nat.zero_add] at im
   by_cases hlt:m < a0.size
   ·rw [if_pos hlt];refine wpS_bind (wpS_lift (wpAny_rule ⟨rfl,?_⟩));refine wpS_bind (qjR L (st:=setArr st' xs) hk (r.mem h0) (by show 0+a0.size<=xs.size;rw [r.size];omega) (1:) (by rw [Nat.zero_add];exact im) fun ys r2 im2=>?_);simp only [Bool.not_true,Bool.false_eq_true,if_false];refine wpS_bind (wpS_get ?_);have hb:(pendingOf (setArr (setArr st' xs) ys)).back?=none:=by rw [show pendingOf (setArr (setArr st' xs) ys)=pendingOf st' from rfl,hp];rfl
    rw [hb];dsimp only;rw [Nat.zero_add] at im2;exact wpS_bind (wpS_modify (wpS_pure (.inr ⟨by omega,rfl,done _ hk hf hp (r2.perm.trans r.perm) im2.srt⟩)))
   ·rw [if_neg hlt];have hm:m=a0.size:=by omega
    subst hm;refine wpS_bind (wpS_get ?_);have hb:(pendingOf (setArr st' xs)).back?=none:=by rw [show pendingOf (setArr st' xs)=pendingOf st' from rfl,hp];rfl
    rw [hb];dsimp only;exact wpS_bind (wpS_modify (wpS_pure (.inr ⟨by omega,rfl,done _ hk hf hp r.perm im.srt⟩)))
  ·dsimp only;rw [if_pos (Nat.le_refl _)];exact wpS_pure ⟨rfl,hD⟩
 case post=>
  rintro c st' ⟨rfl,hD⟩;dsimp only;refine wpS_bind (wpS_mono (wpS_forRange (I:=fun _ c st''=>st''=st'/\c=(none,())) (Q:=fun c st''=>st''=st'/\c=(none,())) ?_ (fun _ _ hh=>hh) ⟨rfl,rfl⟩) ?_)
  ·rintro x c st'' _ _ ⟨rfl,rfl⟩;refine wpS_bind (wpS_get ?_);rw [if_pos (by rw [hD.2.2.1];exact Nat.le_refl 1)];exact wpS_pure ⟨rfl,rfl⟩
  ·rintro c st'' ⟨rfl,rfl⟩;exact wpS_pure (h _ hD.1 hD.2.1 hD.2.2.2)
end
section
variable {prog:Program} {w:World} {A:Around} {E:PQ} {s:Shared} {O:KeyOrd} {kf:Keyed->O.α} {κ:SortKind}
theorem qdJ {s0:Shared} {a:Addr} {vs:List Value} {n:Nat} {P:PySem.Fin->Shared->Prop} (S:Sorts prog w s0 vs O kf κ) (ho:s.heap.get? a=some (seqObj "list" vs.toArray n)) (hsz:vs.length<=sizeLine) (h64:vs.length < 64)
  (hg:∀ b o,s0.heap.get? b=some o->s.heap.get? b=some o/\b≠a)
  (h:∀ st':SortSt,(arrOf st').Perm (pairsOf vs)->Srt O kf (arrOf st') 0 (pairsOf vs).size->P (.done (.ret .none)) { s with heap:=sortedHeap s.heap a vs ((arrOf st').map (·.2)) }) :
  wpAny (model prog w) A (Builtin.«list.sort» ⟨[.ref a],[]⟩) P E s:=by
 rw [list_sort_plain];have ha:a < s.heap.objs.size:=Heap.lt_size ho;have hv:vs.toArray.size=vs.length:=by simp
 refine wpAny_bind (listItems_at ho rfl (wpAny_bind (listUpdate_at ho rfl ?_ (by rw [hv];exact hsz) (Nat.zero_le _))));obtain ⟨n1,ho1⟩:∃ n1,(s.heap.update a (Obj.mapSeq fun _=>#[])).get? a=some (seqObj "list" #[] n1):=⟨_,get?_update_seq ho (fun _=>#[])⟩;refine wpAny_bind (seqEpoch_at ho1 rfl (wpAny_bind (wpAny_newTuple ?_ (by simpa using hsz))));refine wpAny_bind (wpAny_newList (wpAny_holding ?_) (Nat.zero_le _));generalize hh:(((s.heap.update a (Obj.mapSeq fun _=>#[])).push (seqObj "tuple" vs.toArray 0)).push (seqObj "list" #[] 0))=h6
 have ho6:h6.get? a=some (seqObj "list" #[] n1):=by rw [<-hh];exact Heap.get?_push_of_some _ (Heap.get?_push_of_some _ ho1)
 have grown:qdw s0 { s with heap:=h6 }:=fun b o e=>by obtain ⟨e1,ne⟩:=hg b o e;show h6.get? b=some o;rw [<-hh];exact Heap.get?_push_of_some _ (Heap.get?_push_of_some _ (by rw [Heap.get?_update_ne _ _ _ _ ne];exact e1))
 have fin:∀ st':SortSt,(arrOf st').Perm (pairsOf vs)->Srt O kf (arrOf st') 0 (pairsOf vs).size->P (.done (.ret .none)) { s with heap:=h6.update a (Obj.mapSeq fun _=>(arrOf st').map (·.2)) }:=fun st' a1 a2=>by
  have:=h st' a1 a2
  unfold sortedHeap at this;rw [hh] at this;exact this
 have small:∀ st':SortSt,(arrOf st').Perm (pairsOf vs)->((arrOf st').map (·.2)).size<=sizeLine+1:=fun st' hp=>by rw [Array.size_map,hp.size_eq,pairsOf_size];omega
 show wpAny (model prog w) A _ P E { s with heap:=h6 };dsimp only
 by_cases h2:vs.toArray.size < 2
 ·rw [if_pos h2,if_pos h2];refine wpAny_bind (wpAny_pure ?_);rw [StateT.run_pure];refine wpAny_bind (wpAny_pure ?_);dsimp only;refine wpAny_bind (seqEpoch_at ho6 rfl ?_);refine wpAny_bind (listUpdate_at ho6 rfl ?_ (Nat.zero_le _) (small (SortSt.mk' general' (vs.toArray.zip vs.toArray) #[] 7 none) (Array.Perm.refl _)));simp only [bne_self_eq_false,Bool.false_eq_true,if_false];refine wpAny_pure (fin (SortSt.mk' general' (vs.toArray.zip vs.toArray) #[] 7 none) (Array.Perm.refl _) ?_);intro i j x y _ b c d e
  have:i=j:=by rw [pairsOf_size] at c;omega
  subst this;rw [d] at e;cases e;exact KeyOrd.kle_refl _
 ·rw [if_neg h2,if_neg h2];refine wpAny_bind (S.kind (1:) A E _ _ grown ?_)
  refine wpAny_bind (wpAny_mono (qdI (S.lt A E _ grown) (a0:=pairsOf vs) (by rw [pairsOf_size];omega) (by rw [pairsOf_size];exact h64) (st:=SortSt.mk' κ (vs.toArray.zip vs.toArray) #[] 7 none) (fun x hx=>hx) rfl rfl rfl rfl
   (Q:=fun _ st'=>(arrOf st').Perm (pairsOf vs)/\failedOf st'=none/\Srt O kf (arrOf st') 0 (pairsOf vs).size) fun st' a1 a2 a3=>⟨a1,a2,a3⟩) ?_ fun _ _ e=>e)
  rintro ⟨⟨⟩,st'⟩ s' ⟨rfl,hp,hf,hs⟩;dsimp only;refine wpAny_bind (seqEpoch_at ho6 rfl (wpAny_bind (listUpdate_at ho6 rfl ?_ (Nat.zero_le _) (small st' hp))));rw [hf];simp only [bne_self_eq_false,Bool.false_eq_true,if_false];exact wpAny_pure (fin st' hp hs)
theorem qab {l:Addr} {vs:List Value} {Q:PQ} (S:Sorts prog w s vs O kf κ) (hl:s.heap.IsList l vs.toArray) (hsz:vs.length<=sizeLine) (h64:vs.length < 64)
  (h:∀ st':SortSt,(arrOf st').Perm (pairsOf vs)->Srt O kf (arrOf st') 0 (pairsOf vs).size->Q (.ref (s.heap.objs.size+1)) { s with heap:=sortedAll s.heap vs ((arrOf st').map (·.2)) }) :
  wpAny (model prog w) A (call (.builtin "sorted") [.ref l]) Q E s:=by
 refine Calls.call_function_entry kind_sorted plain_sorted entry_sorted (args_sorted1 _) ?_;unfold Builtin.«sorted»;refine wpAny_bind (m:=checkCount "sorted" 1 1 _) (wpAny_pure (wpAny_bind (collect_list hl ?_ hsz)));refine wpAny_bind (wpAny_newList ?_ hsz);have hz:((s.heap.push (seqObj "list" #[] 0)).update s.heap.objs.size (Obj.mapSeq (· ++ vs.toArray))).objs.size=s.heap.objs.size+1:=by rw [Heap.size_update,size_push']
 show wpAny _ _ _ _ _ { s with heap:=((s.heap.push (seqObj "list" #[] 0)).update s.heap.objs.size (Obj.mapSeq (· ++ vs.toArray))).push (seqObj "list" vs.toArray 0) };rw [hz];generalize hh:((s.heap.push (seqObj "list" #[] 0)).update s.heap.objs.size (Obj.mapSeq (· ++ vs.toArray))).push (seqObj "list" vs.toArray 0)=h6
 have hoL:h6.get? (s.heap.objs.size+1)=some (seqObj "list" vs.toArray 0):=by rw [<-hh,<-hz];exact Heap.get?_push_size _ rfl
 have old:∀ b o,s.heap.get? b=some o->h6.get? b=some o/\b≠s.heap.objs.size+1:=fun b o e=>by have hlt:b < s.heap.objs.size:=Heap.lt_size e;refine ⟨?_,Nat.ne_of_lt (Nat.lt_succ_of_lt hlt)⟩;rw [<-hh];refine Heap.get?_push_of_some _ ?_;rw [Heap.get?_update_ne _ _ _ _ (Nat.ne_of_lt hlt)];exact Heap.get?_push_of_some _ e
 have hr:∀ st':SortSt,(arrOf st').Perm (pairsOf vs)->Srt O kf (arrOf st') 0 (pairsOf vs).size->Q (.ref (s.heap.objs.size+1)) { s with heap:=sortedHeap h6 (s.heap.objs.size+1) vs ((arrOf st').map (·.2)) }:=fun st' a1 a2=>by
  have:=h st' a1 a2
  unfold sortedAll at this;rw [hh] at this;exact this
 refine wpAny_bind (wpAny_holding (wpAny_call_entry slot_list_sort ⟨_,hoL,rfl⟩ entry_list_sort (qdJ S hoL hsz h64 old fun st' a1 a2=>⟨_,rfl,?_⟩) (args_list_sort _)));exact wpAny_pure ⟨_,rfl,hr st' a1 a2⟩
end
end TS
namespace L2
open PySem PySem.Spec PyProof.Rows
section
variable {X:Cx}
theorem Q5:zw X (.builtin "sorted") (fun vs H Q=>∃ p xs ps,vs=[.ref p]/\SqL X.K H p xs/\xs.length < 64/\Paired (P2 X.K H) xs ps/\
  ∀ l ys qs,H l=none->Paired (P2 X.K H) ys qs->ys.Perm xs->qs.Perm ps->qs.Pairwise qcx->Q (.ref l) (upd H l (.lst ys))):=by
 intro pins s σ H xs us Q I r h;obtain ⟨p,xs,ps,rfl,hq,h64,hp,q⟩:=h;obtain ⟨u,rfl,rx⟩:=JF r;cases rx;obtain ⟨its,rv,pl,hz⟩:=I.list hq;have hlen:=rv.length
 have three:∀ {xs:List V} {its:List Value} {ps:List (Int×Int)},qK xs its->Paired (P2 X.K H) xs ps->Paired (fun (z:V×(Int×Int)) u=>qN z.1 u/\P2 X.K H z.1 z.2/\TS.qbD s.heap u z.2) (xs.zip ps) its/\Paired (TS.qbD s.heap) its ps/\xs.length=ps.length:=by
  intro xs its ps a b
  induction a generalizing ps with
  | nil=>cases b;exact ⟨.nil,.nil,rfl⟩
  | cons r rs ih=>
   cases b with
   | cons b bs=>obtain ⟨i1,i2,i3⟩:=ih bs;have t:=P2.raw I b r;exact ⟨.cons ⟨r,b,t⟩ i1,.cons t i2,by simp [i3]⟩
 obtain ⟨t1,t2,t3⟩:=three rv hp;refine TS.qab (TS.qdy t2) pl.isList (1:) (1:) fun st' pm sr=>?_
 have hl:(arrOf st').toList.Perm (its.zip its):=by
  have:=Array.perm_iff_toList_perm.mp pm
  rwa [pairsOf_toList] at this
 have hout:((arrOf st').map (·.2)).toList.Perm its:=by
  rw [Array.toList_map]
  have:=hl.map (·.2)
  rwa [List.map_snd_zip (Nat.le_refl _)] at this
 obtain ⟨zs,z1,z2⟩:=TS.Paired.perm hout t1
 have hys:(zs.map (·.1)).Perm xs:=by
  have:=z1.map (·.1)
  rwa [List.map_fst_zip (1:)] at this
 have hqs:(zs.map (·.2)).Perm ps:=by
  have:=z1.map (·.2)
  rwa [List.map_snd_zip (1:)] at this
 have hv:qK (zs.map (·.1)) ((arrOf st').map (·.2)).toList:=by
  clear z1 hys hqs;generalize ((arrOf st').map (·.2)).toList=ol at z2
  induction z2 with
  | nil=>exact .nil
  | cons r _ ih=>exact .cons r.1 ih
 have hP:Paired (P2 X.K H) (zs.map (·.1)) (zs.map (·.2)):=by
  clear z1 hys hqs hv;generalize ((arrOf st').map (·.2)).toList=ol at z2
  induction z2 with
  | nil=>exact .nil
  | cons r _ ih=>exact .cons r.2.1 ih
 have hkeys:((arrOf st').map (·.2)).toList.map (TS.yE s.heap)=zs.map (·.2):=by
  clear z1 hys hqs hv hP;generalize ((arrOf st').map (·.2)).toList=ol at z2
  induction z2 with
  | nil=>rfl
  | cons r _ ih=>rw [List.map_cons,List.map_cons,ih,r.2.2.pair]
 have hsrt:(zs.map (·.2)).Pairwise qcx:=by
  rw [<-hkeys,Array.toList_map,List.map_map];have h0:(arrOf st').size=(pairsOf its).size:=pm.size_eq;rw [<-h0] at sr
  have:=sr.pw
  refine List.pairwise_map.mpr ?_;refine List.Pairwise.imp_of_mem (fun {a b} ha hb hab=>?_) this;have ea:=(mem_zip_self (hl.mem_iff.mp ha)).1;have eb:=(mem_zip_self (hl.mem_iff.mp hb)).1;have hab:TS.pO.blt (TS.yE s.heap b.1) (TS.yE s.heap a.1)=false:=hab;rw [ea,eb] at hab;unfold TS.pO at hab;simp at hab;show qcx (TS.yE s.heap a.2) (TS.yE s.heap b.2);unfold qcx;omega
 obtain ⟨e,he⟩:=sortedAll_at s.heap its ((arrOf st').map (·.2));have hz2:(zs.map (·.1)).length<=sizeLine:=by rw [hys.length_eq];exact hz
 refine ⟨.ref (s.heap.objs.size+1),_,I.laid (t':=s.toks) (fun b o eb=>sortedAll_old eb) (Nat.le_succ _) (show qW X.prog X.w _ _ _ (.lst (zs.map (·.1))) from ⟨hz2,_,e,hv,?_⟩),rfl,q _ _ _ (I.hok.fresh (Nat.le_succ _)) hP hys hqs hsrt⟩;rw [Array.toArray_toList];exact he
end
end L2
namespace DE
open PySem L2
inductive D where
 | non | bl (b:Bool) | int (n:Int) | str (s:Str) | lst (l:List D) | tup (l:List D) | ins (c:Str) (ns:List Str) (l:List D)
 deriving Inhabited
abbrev KC:=Str->Option Addr
mutual
noncomputable def Rep (κ:KC) (G:Hp):D->V->Prop
 | .non,v=>v=.non
 | .bl b,v=>v=.bl b
 | .int n,v=>v=.int n
 | .str s,v=>v=.str s
 | .lst ds,v=>∃ a xs,v=.ref a/\G a=some (.lst xs)/\qr κ G ds xs
 | .tup ds,v=>∃ a xs,v=.ref a/\G a=some (.tup xs)/\qr κ G ds xs
 | .ins c ns ds,v=>∃ p dx C xs,κ c=some C/\v=.ref p/\G p=some (.ins C dx (ns.zip xs))/\xs.length=ns.length/\qr κ G ds xs
noncomputable def qr (κ:KC) (G:Hp):List D->List V->Prop
 | [],xs=>xs=[]
 | d::ds,xs=>∃ x r,xs=x::r/\Rep κ G d x/\qr κ G ds r
end
mutual
theorem Rep.same {κ:KC} {G G':Hp} (e:qv G G'):∀ {d:D} {v:V},Rep κ G d v->Rep κ G' d v
 | .non,v,h=>by simp only [Rep] at h ⊢;exact h
 | .bl b,v,h=>by simp only [Rep] at h ⊢;exact h
 | .int i,v,h=>by simp only [Rep] at h ⊢;exact h
 | .str x,v,h=>by simp only [Rep] at h ⊢;exact h
 | .lst ds,v,h=>by simp only [Rep] at h ⊢;obtain ⟨a,xs,rfl,h1,h2⟩:=h;exact ⟨a,xs,rfl,e _ _ h1,qr.same e h2⟩
 | .tup ds,v,h=>by simp only [Rep] at h ⊢;obtain ⟨a,xs,rfl,h1,h2⟩:=h;exact ⟨a,xs,rfl,e _ _ h1,qr.same e h2⟩
 | .ins c ns ds,v,h=>by simp only [Rep] at h ⊢;obtain ⟨p,dx,C,xs,hc,rfl,h1,hl,h2⟩:=h;exact ⟨p,dx,C,xs,hc,rfl,e _ _ h1,hl,qr.same e h2⟩
theorem qr.same {κ:KC} {G G':Hp} (e:qv G G'):∀ {ds:List D} {vs:List V},qr κ G ds vs->qr κ G' ds vs
 | [],vs,h=>by simp only [qr] at h ⊢;exact h
 | d::ds,vs,h=>by simp only [qr] at h ⊢;obtain ⟨x,r,rfl,h1,h2⟩:=h;exact ⟨x,r,rfl,Rep.same e h1,qr.same e h2⟩
end
section
variable {κ:KC} {G G':Hp}
theorem qr.nil:qr κ G [] []:=by simp only [qr]
theorem qr.cons {d:D} {ds:List D} {v:V} {vs:List V} (h:Rep κ G d v) (t:qr κ G ds vs):qr κ G (d::ds) (v::vs):=by simp only [qr];exact ⟨v,vs,rfl,h,t⟩
theorem qr.len:∀ {ds:List D} {vs:List V},qr κ G ds vs->ds.length=vs.length
 | [],vs,h=>by simp only [qr] at h;subst h;rfl
 | d::ds,vs,h=>by simp only [qr] at h;obtain ⟨x,r,rfl,h1,h2⟩:=h;simp [qr.len h2]
theorem qr.app:∀ {ds es:List D} {vs us:List V},qr κ G ds vs->qr κ G es us->qr κ G (ds++es) (vs++us)
 | [],es,vs,us,h,h'=>by simp only [qr] at h;subst h;exact h'
 | d::ds,es,vs,us,h,h'=>by simp only [qr] at h;obtain ⟨x,r,rfl,h1,h2⟩:=h;exact qr.cons h1 (qr.app h2 h')
theorem qr.snoc {ds:List D} {vs:List V} {d:D} {v:V} (h:qr κ G ds vs) (h':Rep κ G d v):qr κ G (ds++[d]) (vs++[v]):=h.app %[h'|0]
theorem qr.drop:∀ (n:Nat) {ds:List D} {vs:List V},qr κ G ds vs->qr κ G (ds.drop n) (vs.drop n)
 | 0,_,_,h=>h
 | n+1,[],vs,h=>by simp only [qr] at h;subst h;exact .nil
 | n+1,d::ds,vs,h=>by simp only [qr] at h;obtain ⟨x,r,rfl,h1,h2⟩:=h;exact qr.drop n h2
theorem qr.take:∀ (n:Nat) {ds:List D} {vs:List V},qr κ G ds vs->qr κ G (ds.take n) (vs.take n)
 | 0,_,_,h=>by simpa using qr.nil
 | n+1,[],vs,h=>by simp only [qr] at h;subst h;exact .nil
 | n+1,d::ds,vs,h=>by simp only [qr] at h;obtain ⟨x,r,rfl,h1,h2⟩:=h;exact qr.cons h1 (qr.take n h2)
theorem qr.atD:∀ {ds:List D} {vs:List V} {i:Nat} {d:D},qr κ G ds vs->ds[i]?=some d->∃ v,vs[i]?=some v/\Rep κ G d v
 | [],vs,i,d,h,e=>by simp at e
 | d::ds,vs,0,d',h,e=>by simp only [qr] at h;obtain ⟨x,r,rfl,h1,h2⟩:=h;simp at e;subst e;exact ⟨x,rfl,h1⟩
 | d::ds,vs,i+1,d',h,e=>by simp only [qr] at h;obtain ⟨x,r,rfl,h1,h2⟩:=h;obtain ⟨v',e1,e2⟩:=qr.atD (i:=i) h2 (by simpa using e);exact ⟨v',by simpa using e1,e2⟩
theorem qr.set:∀ {ds:List D} {vs:List V} (i:Nat) {d:D} {v:V},qr κ G ds vs->Rep κ G d v->qr κ G (ds.set i d) (vs.set i v)
 | [],vs,i,d,v,h,h'=>by simp only [qr] at h;subst h;exact .nil
 | d::ds,vs,0,d',v,h,h'=>by simp only [qr] at h;obtain ⟨x,r,rfl,h1,h2⟩:=h;exact qr.cons h' h2
 | d::ds,vs,i+1,d',v,h,h'=>by simp only [qr] at h;obtain ⟨x,r,rfl,h1,h2⟩:=h;exact qr.cons h1 (qr.set i h2 h')
end
inductive Sl where
 | no | val (d:D) | own (l:List D) | bor (l:List D) | scr (l:List D)
abbrev Env:=List Sl
noncomputable def SlR (κ:KC) (K:Frag) (G H H₀:Hp):Sl->Option (Option V)->Prop
 | .no,_=>True
 | .val d,o=>∃ v,o=some (some v)/\Rep κ G d v
 | .own ds,o=>∃ a xs,o=some (some (.ref a))/\H a=some (.lst xs)/\H₀ a=none/\G a=none/\qr κ G ds xs
 | .bor ds,o=>∃ a xs,o=some (some (.ref a))/\H₀ a=some (.lst xs)/\qr κ G ds xs
 | .scr ds,o=>∃ a xs,o=some (some (.ref a))/\SqL K H₀ a xs/\qr κ G ds xs
noncomputable def qcB (ρ:Env) (σ:St) (a:Addr):Prop:=∃ (i:Nat) (l:List D),ρ[i]?=some (.own l)/\σ[i]?=some (some (.ref a))
structure ER (κ:KC) (K:Frag) (G₀ H₀ G H:Hp) (ρ:Env) (σ:St):Prop where
 len:ρ.length=σ.length
 sub:qv G H
 base:qv H₀ H
 g0:qv G₀ G
 fresh:∀ a o,G a=some o->(∃ o',G₀ a=some o')\/H₀ a=none
 sl:∀ (i:Nat) (s:Sl),ρ[i]?=some s->SlR κ K G H H₀ s σ[i]?
 ap:∀ (i j:Nat) (a:Addr) (l m:List D),ρ[i]?=some (.own l)->ρ[j]?=some (.own m)->σ[i]?=some (some (.ref a))->σ[j]?=some (some (.ref a))->i=j
structure Po (κ:KC) (K:Frag) (G₀ H₀:Hp) (σ:St) (G H:Hp) (ρ:Env) (G' H':Hp) (ρ':Env):Prop where
 er:ER κ K G₀ H₀ G' H' ρ' σ
 hs:qv H H'
 gs:qv G G'
 new:∀ a o,G' a=some o->(∃ o',G a=some o')\/H a=none\/qcB ρ σ a
 fz:∀ (i:Nat) (l:List D),ρ'[i]?=some (.own l)->ρ[i]?=some (.own l)
theorem qv.none {H H':Hp} (e:qv H H') {a:Addr} (h:H' a=none):H a=none:=by
 cases q:H a with
 | none=>rfl
 | some o=>rw [e a o q] at h;cases h
section
variable {κ:KC} {K:Frag} {G₀ H₀ G H G' H' G'' H'':Hp} {ρ ρ' ρ'':Env} {σ:St}
theorem Po.refl (h:ER κ K G₀ H₀ G H ρ σ):Po κ K G₀ H₀ σ G H ρ G H ρ:=⟨h,fun _ _ e=>e,fun _ _ e=>e,fun _ o e=>.inl ⟨o,e⟩,fun _ _ e=>e⟩
theorem Po.trans (a:Po κ K G₀ H₀ σ G H ρ G' H' ρ') (b:Po κ K G₀ H₀ σ G' H' ρ' G'' H'' ρ''):Po κ K G₀ H₀ σ G H ρ G'' H'' ρ'':=
 ⟨b.er,fun c o e=>b.hs c o (a.hs c o e),fun c o e=>b.gs c o (a.gs c o e),fun c o e=>by
  rcases b.new c o e with ⟨o',z⟩ | z | ⟨i,l,z1,z2⟩
  ·exact a.new c o' z
  ·exact .inr (.inl (qv.none a.hs z))
  ·exact .inr (.inr ⟨i,l,a.fz i l z1,z2⟩),fun i l e=>a.fz i l (b.fz i l e)⟩
theorem SlR.grow (hs:qv H H') (gs:qv G G') (nw:∀ a xs,H a=some (.lst xs)->H₀ a=none->G a=none->G' a=none) {s:Sl} {o:Option (Option V)} (h:SlR κ K G H H₀ s o):SlR κ K G' H' H₀ s o:=by
 cases s with
 | no=>trivial
 | val d=>obtain ⟨v,e,r⟩:=h;exact ⟨v,e,r.same gs⟩
 | own ds=>obtain ⟨a,xs,e,h1,h2,h3,h4⟩:=h;exact ⟨a,xs,e,hs _ _ h1,h2,nw a xs h1 h2 h3,h4.same gs⟩
 | bor ds=>obtain ⟨a,xs,e,h1,h4⟩:=h;exact ⟨a,xs,e,h1,h4.same gs⟩
 | scr ds=>obtain ⟨a,xs,e,h1,h4⟩:=h;exact ⟨a,xs,e,h1,h4.same gs⟩
theorem Po.more (h:ER κ K G₀ H₀ G H ρ σ) (hs:qv H H') (gs:qv G G') (sub:qv G' H') (new:∀ a o,G' a=some o->(∃ o',G a=some o')\/H a=none):Po κ K G₀ H₀ σ G H ρ G' H' ρ:=by
 refine ⟨⟨h.len,sub,fun b o e=>hs b o (h.base b o e),fun b o e=>gs b o (h.g0 b o e),fun a o e=>?_,fun i s e=>(h.sl i s e).grow hs gs fun a xs h1 h2 h3=>?_,h.ap⟩,hs,gs,fun a o e=>?_,fun _ _ e=>e⟩
 ·rcases new a o e with ⟨o',z⟩ | z
  ·exact h.fresh a o' z
  ·exact .inr (qv.none h.base z)
 ·cases q:G' a with
  | none=>rfl
  | some o=>
   rcases new a o q with ⟨o',z⟩ | z
   ·rw [h3] at z;cases z
   ·rw [h1] at z;cases z
 ·rcases new a o e with z | z
  ·exact .inl z
  ·exact .inr (.inl z)
theorem Po.room (h:ER κ K G₀ H₀ G H ρ σ) (hs:qv H H'):Po κ K G₀ H₀ σ G H ρ G H' ρ:=
 Po.more h hs (fun _ _ e=>e) (fun b o e=>hs b o (h.sub b o e)) fun _ o e=>.inl ⟨o,e⟩
theorem Po.lay (h:ER κ K G₀ H₀ G H ρ σ) {a:Addr} {o:HO} (ha:H a=none):Po κ K G₀ H₀ σ G H ρ (upd G a o) (upd H a o) ρ:=by
 have ga:G a=none:=qv.none h.sub ha;refine Po.more h (qv.upd ha) (qv.upd ga) (fun b u e=>?_) fun b u e=>?_
 ·by_cases hb:b=a
  ·subst hb;rw [qh] at e ⊢;exact e
  ·rw [qe hb] at e ⊢;exact h.sub b u e
 ·by_cases hb:b=a
  ·subst hb;exact .inr ha
  ·rw [qe hb] at e;exact .inl ⟨u,e⟩
end
inductive Rv where
 | val (d:D) | tmp (l:List D) | cell (l:List D) | scr (l:List D)
noncomputable def RvR (κ:KC) (K:Frag) (H₀ Hb G H:Hp) (ρ:Env) (σ:St):Rv->V->Prop
 | .val d,v=>Rep κ G d v
 | .tmp ds,v=>∃ a xs,v=.ref a/\H a=some (.lst xs)/\Hb a=none/\H₀ a=none/\G a=none/\¬ qcB ρ σ a/\qr κ G ds xs
 | .cell ds,v=>∃ a xs,v=.ref a/\H a=some (.lst xs)/\qr κ G ds xs
 | .scr ds,v=>∃ a xs,v=.ref a/\SqL K H a xs/\qr κ G ds xs
section
variable {κ:KC} {K:Frag} {G₀ H₀ Hb G H G' H':Hp} {ρ ρ':Env} {σ:St}
theorem RvR.keep {r:Rv} {v:V} (h:RvR κ K H₀ Hb G H ρ σ r v) (p:Po κ K G₀ H₀ σ G H ρ G' H' ρ'):RvR κ K H₀ Hb G' H' ρ' σ r v:=by
 cases r with
 | val d=>exact Rep.same p.gs h
 | tmp ds=>
  obtain ⟨a,xs,rfl,h1,h2,h3,h4,h5,h6⟩:=h;refine ⟨a,xs,rfl,p.hs _ _ h1,h2,h3,?_,fun ⟨i,l,z1,z2⟩=>h5 ⟨i,l,p.fz i l z1,z2⟩,h6.same p.gs⟩
  cases q:G' a with
  | none=>rfl
  | some o=>
   rcases p.new a o q with ⟨o',z⟩ | z | z
   ·rw [h4] at z;cases z
   ·rw [h1] at z;cases z
   ·exact absurd z h5
 | cell ds=>obtain ⟨a,xs,rfl,h1,h6⟩:=h;exact ⟨a,xs,rfl,p.hs _ _ h1,h6.same p.gs⟩
 | scr ds=>obtain ⟨a,xs,rfl,h1,h6⟩:=h;exact ⟨a,xs,rfl,p.hs.seq h1,h6.same p.gs⟩
theorem RvR.back {Hc:Hp} {r:Rv} {v:V} (h:RvR κ K H₀ Hc G H ρ σ r v) (e:qv Hb Hc):RvR κ K H₀ Hb G H ρ σ r v:=by
 cases r with
 | val d=>exact h
 | tmp ds=>obtain ⟨a,xs,rfl,h1,h2,h3,h4,h5,h6⟩:=h;exact ⟨a,xs,rfl,h1,qv.none e h2,h3,h4,h5,h6⟩
 | cell ds=>exact h
 | scr ds=>exact h
noncomputable def Rv.list?:Rv->Option (List D)
 | .val (.lst l)=>some l
 | .tmp l=>some l
 | .cell l=>some l
 | .scr l=>some l
 | _=>none
noncomputable def Rv.plain?:Rv->Option (List D)
 | .val (.lst l)=>some l
 | .tmp l=>some l
 | .cell l=>some l
 | _=>none
theorem RvR.plain (er:ER κ K G₀ H₀ G H ρ σ) {r:Rv} {v:V} {l:List D} (h:RvR κ K H₀ Hb G H ρ σ r v) (e:r.plain?=some l):∃ a xs,v=.ref a/\H a=some (.lst xs)/\qr κ G l xs:=by
 cases r with
 | val d=>
  cases d<;>simp only [Rv.plain?] at e<;>try (cases e)
  simp only [RvR,Rep] at h;obtain ⟨a,xs,rfl,h1,h2⟩:=h;exact ⟨a,xs,rfl,er.sub _ _ h1,h2⟩
 | tmp ds=>simp only [Rv.plain?] at e;cases e;obtain ⟨a,xs,rfl,h1,_,_,_,_,h6⟩:=h;exact ⟨a,xs,rfl,h1,h6⟩
 | cell ds=>simp only [Rv.plain?] at e;cases e;exact h
 | scr ds=>simp only [Rv.plain?] at e;cases e
theorem RvR.list (er:ER κ K G₀ H₀ G H ρ σ) {r:Rv} {v:V} {l:List D} (h:RvR κ K H₀ Hb G H ρ σ r v) (e:r.list?=some l):∃ a xs,v=.ref a/\SqL K H a xs/\qr κ G l xs:=by
 cases r with
 | scr ds=>simp only [Rv.list?] at e;cases e;exact h
 | val d=>
  have e':(Rv.val d).plain?=some l:=by cases d<;>simp only [Rv.list?] at e<;>first | (cases e;rfl) | cases e
  obtain ⟨a,xs,h1,h2,h3⟩:=h.plain er e';exact ⟨a,xs,h1,SqL.of h2,h3⟩
 | tmp ds=>obtain ⟨a,xs,h1,h2,h3⟩:=h.plain er (l:=l) e;exact ⟨a,xs,h1,SqL.of h2,h3⟩
 | cell ds=>obtain ⟨a,xs,h1,h2,h3⟩:=h.plain er (l:=l) e;exact ⟨a,xs,h1,SqL.of h2,h3⟩
theorem Po.freeze {a:Addr} {xs:List V} {G1 H1:Hp} {ρ1:Env} (p:Po κ K G₀ H₀ σ G H ρ G1 H1 ρ1) (h1:H1 a=some (.lst xs)) (h2:H a=none) (h3:H₀ a=none) (h4:G1 a=none) (h5:¬ qcB ρ1 σ a):Po κ K G₀ H₀ σ G H ρ (upd G1 a (.lst xs)) H1 ρ1:=by
 have gs:qv G1 (upd G1 a (.lst xs)):=qv.upd h4;have er:=p.er;refine ⟨⟨er.len,fun b u e=>?_,er.base,fun b o e=>gs b o (er.g0 b o e),fun b o e=>?_,fun i s e=>?_,er.ap⟩,p.hs,fun b o e=>gs b o (p.gs b o e),fun b o e=>?_,p.fz⟩
 ·by_cases hb:b=a
  ·subst hb;rw [qh] at e;cases e;exact h1
  ·rw [qe hb] at e;exact er.sub b u e
 ·by_cases hb:b=a
  ·subst hb;exact .inr h3
  ·rw [qe hb] at e;exact er.fresh b o e
 ·have q:=er.sl i s e
  cases s with
  | no=>trivial
  | val d=>obtain ⟨v,z,r⟩:=q;exact ⟨v,z,r.same gs⟩
  | own ds=>obtain ⟨b,ys,z,q1,q2,q3,q4⟩:=q;have hb:b≠a:=fun w=>h5 ⟨i,ds,e,by rw [<-w];exact z⟩;exact ⟨b,ys,z,q1,q2,by rw [qe hb];exact q3,q4.same gs⟩
  | bor ds=>obtain ⟨b,ys,z,q1,q4⟩:=q;exact ⟨b,ys,z,q1,q4.same gs⟩
  | scr ds=>obtain ⟨b,ys,z,q1,q4⟩:=q;exact ⟨b,ys,z,q1,q4.same gs⟩
 ·by_cases hb:b=a
  ·subst hb;exact .inr (.inl h2)
  ·rw [qe hb] at e;exact p.new b o e
theorem ER.froze {i:Nat} {l:List D} (h:ER κ K G₀ H₀ G H ρ σ) (e:ρ[i]?=some (.own l)):∃ a xs,σ[i]?=some (some (.ref a))/\Po κ K G₀ H₀ σ G H ρ (upd G a (.lst xs)) H (ρ.set i (.val (.lst l)))/\Rep κ (upd G a (.lst xs)) (.lst l) (.ref a):=by
 obtain ⟨a,xs,z,h1,h2,h3,h4⟩:=h.sl i _ e;have gs:qv G (upd G a (.lst xs)):=qv.upd h3;have hi:i < ρ.length:=(List.getElem?_eq_some_iff.mp e).1;have rp:Rep κ (upd G a (.lst xs)) (.lst l) (.ref a):=by simp only [Rep];exact ⟨a,xs,rfl,qh,h4.same gs⟩
 refine ⟨a,xs,z,⟨⟨by rw [List.length_set];exact h.len,fun b u q=>?_,h.base,fun b o q=>gs b o (h.g0 b o q),fun b o q=>?_,fun j s q=>?_,fun j k b m n q1 q2=>?_⟩,fun _ _ q=>q,gs,fun b o q=>?_,fun j m q=>?_⟩,rp⟩
 ·by_cases hb:b=a
  ·subst hb;rw [qh] at q;cases q;exact h1
  ·rw [qe hb] at q;exact h.sub b u q
 ·by_cases hb:b=a
  ·subst hb;exact .inr h2
  ·rw [qe hb] at q;exact h.fresh b o q
 ·by_cases hj:i=j
  ·subst hj;rw [List.getElem?_set_self hi] at q;cases q;exact ⟨_,z,rp⟩
  ·rw [List.getElem?_set_ne hj] at q;have w:=h.sl j s q
   cases s with
   | no=>trivial
   | val d=>obtain ⟨v,z,r⟩:=w;exact ⟨v,z,r.same gs⟩
   | own ds=>obtain ⟨b,ys,z',q1,q2,q3,q4⟩:=w;have hb:b≠a:=fun u=>hj (h.ap i j a l ds e q z (by rw [<-u];exact z'));exact ⟨b,ys,z',q1,q2,by rw [qe hb];exact q3,q4.same gs⟩
   | bor ds=>obtain ⟨b,ys,z,q1,q4⟩:=w;exact ⟨b,ys,z,q1,q4.same gs⟩
   | scr ds=>obtain ⟨b,ys,z,q1,q4⟩:=w;exact ⟨b,ys,z,q1,q4.same gs⟩
 ·have f:∀ {j:Nat} {m:List D},(ρ.set i (.val (.lst l)))[j]?=some (.own m)->ρ[j]?=some (.own m):=fun {j m} q=>by
   by_cases hj:i=j
   ·subst hj;rw [List.getElem?_set_self hi] at q;cases q
   ·rw [List.getElem?_set_ne hj] at q;exact q
  exact h.ap j k b m n (f q1) (f q2)
 ·by_cases hb:b=a
  ·subst hb;exact .inr (.inr ⟨i,l,e,z⟩)
  ·rw [qe hb] at q;exact .inl ⟨o,q⟩
 ·by_cases hj:i=j
  ·subst hj;rw [List.getElem?_set_self hi] at q;cases q
  ·rw [List.getElem?_set_ne hj] at q;exact q
theorem ER.setVal {i:Nat} {d:D} {v:V} (h:ER κ K G₀ H₀ G H ρ σ) (r:Rep κ G d v):ER κ K G₀ H₀ G H (ρ.set i (.val d)) (σ.set i (some v)):=by
 refine ⟨by rw [List.length_set,List.length_set];exact h.len,h.sub,h.base,h.g0,h.fresh,fun j s q=>?_,fun j k b m n q1 q2 q3 q4=>?_⟩
 ·by_cases hj:i=j
  ·subst hj;have hi:i < ρ.length:=by simpa using (List.getElem?_eq_some_iff.mp q).1
   rw [List.getElem?_set_self hi] at q;cases q;exact ⟨v,by rw [List.getElem?_set_self (by rw [<-h.len];exact hi)],r⟩
  ·rw [List.getElem?_set_ne hj] at q ⊢;exact h.sl j s q
 ·have f:∀ {j:Nat} {m:List D},(ρ.set i (.val d))[j]?=some (.own m)->i≠j/\ρ[j]?=some (.own m):=fun {j m} q=>by
   by_cases hj:i=j
   ·subst hj;have hi:i < ρ.length:=by simpa using (List.getElem?_eq_some_iff.mp q).1
    rw [List.getElem?_set_self hi] at q;cases q
   ·rw [List.getElem?_set_ne hj] at q;exact ⟨hj,q⟩
  obtain ⟨n1,e1⟩:=f q1;obtain ⟨n2,e2⟩:=f q2;rw [List.getElem?_set_ne n1] at q3;rw [List.getElem?_set_ne n2] at q4;exact h.ap j k b m n e1 e2 q3 q4
theorem ER.setOwn {i:Nat} {l:List D} {a:Addr} {xs:List V} (h:ER κ K G₀ H₀ G H ρ σ) (h1:H a=some (.lst xs)) (h2:H₀ a=none) (h3:G a=none) (h4:¬ qcB ρ σ a) (r:qr κ G l xs):ER κ K G₀ H₀ G H (ρ.set i (.own l)) (σ.set i (some (.ref a))):=by
 have f:∀ {j:Nat} {m:List D},(ρ.set i (.own l))[j]?=some (.own m)->i≠j->ρ[j]?=some (.own m):=fun {j m} q hj=>by rw [List.getElem?_set_ne hj] at q;exact q
 refine ⟨by rw [List.length_set,List.length_set];exact h.len,h.sub,h.base,h.g0,h.fresh,fun j s q=>?_,fun j k b m n q1 q2 q3 q4=>?_⟩
 ·by_cases hj:i=j
  ·subst hj;have hi:i < ρ.length:=by simpa using (List.getElem?_eq_some_iff.mp q).1
   rw [List.getElem?_set_self hi] at q;cases q;exact ⟨a,xs,by rw [List.getElem?_set_self (by rw [<-h.len];exact hi)],h1,h2,h3,r⟩
  ·rw [List.getElem?_set_ne hj] at q ⊢;exact h.sl j s q
 ·by_cases hj:i=j
  ·by_cases hk:i=k
   ·omega
   ·subst hj;have hi:i < σ.length:=by simpa using (List.getElem?_eq_some_iff.mp q3).1
    rw [List.getElem?_set_self hi] at q3;rw [List.getElem?_set_ne hk] at q4;cases q3;exact absurd ⟨k,n,f q2 hk,q4⟩ h4
  ·by_cases hk:i=k
   ·subst hk;have hi:i < σ.length:=by simpa using (List.getElem?_eq_some_iff.mp q4).1
    rw [List.getElem?_set_self hi] at q4;rw [List.getElem?_set_ne hj] at q3;cases q4;exact absurd ⟨j,m,f q1 hj,q3⟩ h4
   ·rw [List.getElem?_set_ne hj] at q3;rw [List.getElem?_set_ne hk] at q4;exact h.ap j k b m n (f q1 hj) (f q2 hk) q3 q4
theorem ER.write {i:Nat} {l m:List D} {a:Addr} {ys:List V} (h:ER κ K G₀ H₀ G H ρ σ) (e:ρ[i]?=some (.own l)) (z:σ[i]?=some (some (.ref a))) (r:qr κ G m ys):ER κ K G₀ H₀ G (upd H a (.lst ys)) (ρ.set i (.own m)) σ:=by
 obtain ⟨a',xs,z',h1,h2,h3,h4⟩:=h.sl i _ e;have ea:a'=a:=by rw [z'] at z;injection z with z;injection z with z;injection z
 subst ea;have hi:i < ρ.length:=(List.getElem?_eq_some_iff.mp e).1;refine ⟨by rw [List.length_set];exact h.len,fun b u q=>?_,fun b u q=>?_,h.g0,h.fresh,fun j s q=>?_,fun j k b m' n q1 q2=>?_⟩
 ·have hb:b≠a':=fun w=>by rw [w,h3] at q;cases q
  rw [qe hb];exact h.sub b u q
 ·have hb:b≠a':=fun w=>by rw [w,h2] at q;cases q
  rw [qe hb];exact h.base b u q
 ·by_cases hj:i=j
  ·subst hj;rw [List.getElem?_set_self hi] at q;cases q;exact ⟨a',ys,z',qh,h2,h3,r⟩
  ·rw [List.getElem?_set_ne hj] at q;have w:=h.sl j s q
   cases s with
   | no=>trivial
   | val d=>exact w
   | own ds=>obtain ⟨b,zs,z2,q1,q2,q3,q4⟩:=w;have hb:b≠a':=fun u=>hj (h.ap i j a' l ds e q z' (by rw [<-u];exact z2));exact ⟨b,zs,z2,by rw [qe hb];exact q1,q2,q3,q4⟩
   | bor ds=>exact w
   | scr ds=>exact w
 ·have f:∀ {j:Nat} {n:List D},(ρ.set i (.own m))[j]?=some (.own n)->∃ n',ρ[j]?=some (.own n'):=fun {j n} q=>by
   by_cases hj:i=j
   ·subst hj;exact ⟨l,e⟩
   ·rw [List.getElem?_set_ne hj] at q;exact ⟨n,q⟩
  obtain ⟨_,e1⟩:=f q1;obtain ⟨_,e2⟩:=f q2;exact h.ap j k b _ _ e1 e2
end
end DE
namespace DE
open PySem L2
inductive Sk where
 | lst | tup | str
def qaV (s:Str):List D:=s.cps.toList.map fun c=>D.str ⟨#[c]⟩
inductive R (α:Type) where
 | ok (a:α) | exc (c:Str) (l:List (Str×D)) | no
def R.th {α β:Type}:R α->(α->R β)->R β
 | .ok a,f=>f a
 | .exc c l,_=>.exc c l
 | .no,_=>.no
def R.of {α:Type}:Option α->R α
 | some a=>.ok a
 | none=>.no
mutual
noncomputable def toP:D->Option PyData
 | .non=>some .none
 | .bl b=>some (.bool b)
 | .int n=>some (.int n)
 | .str s=>some (.str s)
 | .lst l=>(qc1 l).map .list
 | .tup l=>(qc1 l).map .tuple
 | .ins ..=>none
noncomputable def qc1:List D->Option (List PyData)
 | []=>some []
 | d::l=>(toP d).bind fun p=>(qc1 l).map (p :: ·)
end
def Rv.data:Rv->D
 | .val d=>d
 | .tmp l=>.lst l
 | .cell l=>.lst l
 | .scr l=>.lst l
inductive Ar where
 | val (d:D) | bor (l:List D) | scr (l:List D)
structure Cs where
 tab:List Str
 fld:Str->Str->Bool
 mt:Str->Str->Option Str
 sub:Str->Str->Option Bool
def Cs.non:Cs:=⟨[],fun _ _=>false,fun _ _=>none,fun _ _=>none⟩
structure Ct where
 N:List Str
 sc:Scope
 tab:List Str
 gl:Str->Option D
 cl:Str->List Ar->R Rv
 cs:Cs
 nw:Str->List Ar->R Rv
noncomputable def qY:List Str->Str->Option Nat
 | [],_=>none
 | y::r,x=>if y=x then some 0 else (qY r x).map (· + 1)
noncomputable def Q6 (sc:Scope) (x:Str):Bool:=match sc.names.lookup x with
 | some .local=>true
 | some .cell=>true
 | some .free=>true
 | _=>false
noncomputable def qc2 (sc:Scope) (x:Str):Bool:=match sc.names.lookup x with
 | some .local=>true
 | some .cell=>true
 | _=>false
def glB (sc:Scope) (x:Str):Bool:=sc.names.lookup x == some .globalImplicit
noncomputable def qm (x:Str):Bool:=!(x == ("__debug__" : Str))&&!(x == ("__classdict__" : Str))&&!(x == ("__name__" : Str))
noncomputable def yT (Γ:Ct) (x:Str) (ρ:Env):R Rv:=if qm x then (match qY Γ.N x with
 | some i=>if Q6 Γ.sc x then (match ρ[i]? with
  | some (.val d)=>.ok (.val d)
  | some (.own l)=>.ok (.cell l)
  | some (.bor l)=>.ok (.cell l)
  | some (.scr l)=>.ok (.scr l)
  | _=>.no) else .no
 | none=>if glB Γ.sc x then (match Γ.gl x with | some d=>.ok (.val d) | none=>.no) else .no) else .no
noncomputable def j6 (Γ:Ct) (x:Str) (ρ:Env):R (D×Env):=if qm x then (match qY Γ.N x with
 | some i=>if Q6 Γ.sc x then (match ρ[i]? with
  | some (.val d)=>.ok (d,ρ)
  | some (.own l)=>.ok (.lst l,ρ.set i (.val (.lst l)))
  | _=>.no) else .no
 | none=>if glB Γ.sc x then (match Γ.gl x with | some d=>.ok (d,ρ) | none=>.no) else .no) else .no
noncomputable def YF (Γ:Ct) (x:Str) (ρ:Env):R ((Sk×List D)×Env):=if qm x then (match qY Γ.N x with
 | some i=>if Q6 Γ.sc x then (match ρ[i]? with
  | some (.val (.lst l))=>.ok ((.lst,l),ρ)
  | some (.val (.tup l))=>.ok ((.tup,l),ρ)
  | some (.val (.str z))=>.ok ((.str,qaV z),ρ)
  | some (.own l)=>.ok ((.lst,l),ρ.set i (.val (.lst l)))
  | some (.bor l)=>.ok ((.lst,l),ρ)
  | some (.scr l)=>.ok ((.lst,l),ρ)
  | _=>.no) else .no
 | none=>.no) else .no
noncomputable def qj9:Const->R Rv
 | .none=>.ok (.val .non)
 | .bool b=>.ok (.val (.bl b))
 | .int i=>.ok (.val (.int i))
 | .str s=>.ok (.val (.str s))
 | _=>.no
def Rv.int?:Rv->Option Int
 | .val (.int i)=>some i
 | _=>none
def Rv.str?:Rv->Option Str
 | .val (.str i)=>some i
 | _=>none
def Rv.bl?:Rv->Option Bool
 | .val (.bl i)=>some i
 | _=>none
def Rv.tup?:Rv->Option (List D)
 | .val (.tup i)=>some i
 | _=>none
noncomputable def Q7 (i j:Int):Bool:=(decide (-(2 ^ 64) < i)&&decide (i < 2 ^ 64))||(decide (-(2 ^ 64) < j)&&decide (j < 2 ^ 64))
noncomputable def int2 (x y:Rv) (f:Int->Int->R Rv):R Rv:=match x.int?,y.int? with
 | some i,some j=>f i j
 | _,_=>.no
noncomputable def qmJ (x y:Rv):R Rv:=match x.int?,y.int? with
 | some i,some j=>.ok (.val (.int (i+j)))
 | _,_=>match x.str?,y.str? with
  | some a,some b=>if a.length+b.length<=sizeLine then .ok (.val (.str (a++b))) else .no
  | _,_=>match x.plain?,y.plain? with
   | some l,some m=>if l.length+m.length<=sizeLine then .ok (.tmp (l++m)) else .no
   | _,_=>.no
noncomputable def qaW (op:Operator) (x y:Rv):R Rv:=match op with
 | .Add=>qmJ x y
 | .Sub=>int2 x y fun i j=>.ok (.val (.int (i - j)))
 | .Mult=>int2 x y fun i j=>if Q7 i j=true then .ok (.val (.int (i * j))) else .no
 | .FloorDiv=>int2 x y fun i j=>if 0 < j/\j < 1073741824 then .ok (.val (.int (i / j))) else .no
 | .Mod=>int2 x y fun i j=>if 0 < j then .ok (.val (.int (i % j))) else .no
 | .Pow=>int2 x y fun i j=>if 0<=j/\j<=1000000/\i.natAbs < 2 ^ 64 then .ok (.val (.int (i ^ j.toNat))) else .no
 | _=>.no
noncomputable def eqD (x y:D):Option Bool:=match toP x,toP y with
 | some p,some q=>if SeqAt.shaped p&&SeqAt.shaped q then some (PyData.eqv p q) else none
 | _,_=>none
def Qh:D->Bool
 | .non=>true
 | .bl _=>true
 | .int _=>true
 | .str _=>true
 | _=>false
def seqD (r:Rv):Option (List D):=match r.tup? with
 | some l=>some l
 | none=>r.list?
def flV:D->V
 | .bl b=>.bl b
 | .int n=>.int n
 | .str s=>.str s
 | _=>.non
noncomputable def inD (x:D) (l:List D):Option Bool:=if (Qh x&&l.all Qh)=true then some (inV (flV x) (l.map flV)) else none
noncomputable def qjc (x y:Rv) (f:Int->Int->Bool):Option Bool:=match x.int?,y.int? with
 | some i,some j=>some (f i j)
 | _,_=>none
def Rv.non?:Rv->Bool
 | .val .non=>true
 | _=>false
def qjd (a b:Str):Bool:=!(Builtin.Str.occurrences b a 0 b.length 1).isEmpty
noncomputable def qeX (x y:Rv):Option Bool:=match x.str?,y.str? with
 | some a,some b=>some (qjd a b)
 | _,_=>(seqD y).bind (inD x.data)
noncomputable def JX (op:CmpOp) (x y:Rv):Option Bool:=match op with
 | .Eq=>eqD x.data y.data
 | .NotEq=>(eqD x.data y.data).map (!·)
 | .Lt=>qjc x y fun i j=>decide (i < j)
 | .LtE=>qjc x y fun i j=>decide (i<=j)
 | .Gt=>qjc x y fun i j=>decide (j < i)
 | .GtE=>qjc x y fun i j=>decide (j<=i)
 | .Is=>if y.non? then some x.non? else none
 | .IsNot=>if y.non? then some (!x.non?) else none
 | .In=>qeX x y
 | .NotIn=>(qeX x y).map (!·)
noncomputable def idxD (x y:Rv):R Rv:=match y.int? with
 | some i=>(match x.str? with
  | some z=>if z.length<=sizeLine then (match atI z.cps.toList i with | some c=>.ok (.val (.str ⟨#[c]⟩)) | none=>.no) else .no
  | none=>match seqD x with
   | some l=>(match atI l i with | some d=>.ok (.val d) | none=>.no)
   | none=>.no)
 | none=>.no
noncomputable def qa6 (l:List D) (lo hi:Option Int):List D:=(l.drop (HT.sIx l.length 0 lo)).take (HT.sIx l.length l.length hi - HT.sIx l.length 0 lo)
noncomputable def sliceD (r:Rv) (lo hi:Option Int):R Rv:=match r.str? with
 | some z=>if z.length<=sizeLine then .ok (.val (.str (Txt.slice z lo hi))) else .no
 | none=>(R.of r.list?).th fun l=>.ok (.tmp (qa6 l lo hi))
noncomputable def truthD (r:Rv):Option Bool:=match r with
 | .val .non=>some false
 | .val (.bl b)=>some b
 | .val (.int i)=>some (i != 0)
 | .val (.str s)=>if s.length<=sizeLine then some ((s.length:Int) != 0) else none
 | r=>(seqD r).map fun l=>!l.isEmpty
noncomputable def qka (d:D) (t:Str):Option Bool:=match d with
 | .ins ..=>none
 | _=>if t = "int" then some (match d with | .int _=>true | .bl _=>true | _=>false)
  else if t = "bool" then some (match d with | .bl _=>true | _=>false)
  else if t = "str" then some (match d with | .str _=>true | _=>false)
  else if t = "list" then some (match d with | .lst _=>true | _=>false)
  else if t = "tuple" then some (match d with | .tup _=>true | _=>false)
  else none
def qc3:Rv->Str->Option Bool
 | .scr _,_=>none
 | r,t=>qka r.data t
def bty:List Str:=["int","bool","str","list","tuple"]
noncomputable def qdK (cs:Cs) (r:Rv) (t:Str):Option Bool:=match r with
 | .val (.ins c _ _)=>if bty.contains t then none else cs.sub c t
 | r=>qc3 r t
noncomputable def qc4 (cs:Cs) (r:Rv) (x:Str):Option D:=match r with
 | .val (.ins c ns ds)=>if cs.fld c x then (ns.zip ds).lookup x else none
 | _=>none
noncomputable def mtD (cs:Cs) (r:Rv) (x:Str):Option Str:=match r with
 | .val (.ins c ns _)=>if ns.contains x then none else cs.mt c x
 | _=>none
def ixM (r:Rv) (as:List Ar):R Rv:=.no
def qZ:Expr->Bool
 | .Name ..=>true
 | .Subscript ..=>true
 | _=>false
def Rv.ar:Rv->Ar
 | .val d=>.val d
 | .tmp l=>.val (.lst l)
 | .cell l=>.bor l
 | .scr l=>.scr l
noncomputable def lenD (r:Rv):R Rv:=match r.str? with
 | some s=>if s.length<=sizeLine then .ok (.val (.int s.length)) else .no
 | none=>match seqD r with
  | some l=>.ok (.val (.int l.length))
  | none=>.no
def listD (r:Rv):R Rv:=match seqD r with
 | some l=>.ok (.tmp l)
 | none=>.no
noncomputable def intD (r:Rv):R Rv:=match r.int? with
 | some i=>.ok (.val (.int i))
 | none=>match r.bl? with
  | some b=>.ok (.val (.int (if b then 1 else 0)))
  | none=>.no
def prD:D->Option (Int×Int)
 | .tup [.int a,.int b]=>some (a,b)
 | _=>none
noncomputable def qgG:List D->Option (List (Int×Int))
 | []=>some []
 | d::l=>match prD d,qgG l with
  | some p,some ps=>some (p::ps)
  | _,_=>none
def pD (p:Int×Int):D:=.tup [.int p.1,.int p.2]
def ZF (p q:Int×Int):Bool:=decide (p.1 < q.1)||(decide (p.1=q.1)&&decide (p.2<=q.2))
def yU (ps:List (Int×Int)):List (Int×Int):=ps.mergeSort ZF
noncomputable def JG (r:Rv):R Rv:=match r.list? with
 | some l=>(match qgG l with | some ps=>if ps.length < 64 then .ok (.tmp ((yU ps).map pD)) else .no | none=>.no)
 | none=>.no
def qa7:List D->Option (List Int)
 | []=>some []
 | .int i::l=>(qa7 l).map (i :: ·)
 | _=>none
noncomputable def qkb (r:Rv):R Rv:=match r.list? with
 | some l=>(match qa7 l with | some ns=>.ok (.val (.int ns.sum)) | none=>.no)
 | none=>.no
def qj:Expr->Bool
 | .Starred ..=>true
 | _=>false
def qkc:List D->Option (List Bool)
 | []=>some []
 | .bl i::l=>(qkc l).map (i :: ·)
 | _=>none
noncomputable def qkd (r:Rv):R Rv:=match r.list? with
 | some l=>(match qkc l with | some bs=>.ok (.val (.bl (bs.all id))) | none=>.no)
 | none=>.no
def kvD:D->Option (Str×Int)
 | .tup [.str s,.int n]=>some (s,n)
 | _=>none
noncomputable def qeY:List D->Option (List (Str×Int))
 | []=>some []
 | d::l=>match kvD d,qeY l with
  | some p,some ps=>some (p::ps)
  | _,_=>none
def qhR (kvs:List (Str×Int)) (k:Str):Option Int:=(kvs.find? fun kv=>decide (kv.1=k)).map (·.2)
noncomputable def qac (n:Int) (x y:Rv):R Rv:=match x.list?,y.str? with
 | some l,some k=>(match qeY l with | some kvs=>if (kvs.map (·.1)).Nodup then .ok (.val (.int ((qhR kvs k).getD n))) else .no | none=>.no)
 | _,_=>.no
noncomputable def dgE (Γ:Ct) (o:Expr) (x:Str) (es:List Expr) (b:Bool):Option (Expr×Expr×Int):=match o,es with
 | .Call (.Name f _) [a] [] _,[e,.Constant (.int n) _ _]=>if f = "dict"/\x = "get"/\b=true/\glB Γ.sc "dict" = true/\qj a=false/\qj e=false then some (a,e,n) else none
 | _,_=>none
def maxD (x y:Rv):R Rv:=int2 x y fun i j=>.ok (.val (.int (if j > i then j else i)))
def minD (x y:Rv):R Rv:=int2 x y fun i j=>.ok (.val (.int (if j < i then j else i)))
noncomputable def Q8 (f:Str) (x:Rv):R Rv:=
 if f = "len" then lenD x else if f = "list" then listD x else if f = "int" then intD x else if f = "sorted" then JG x else if f = "sum" then qkb x else if f = "all" then qkd x else .no
def qa8 (f:Str) (x y:Rv):R Rv:=
 if f = "max" then maxD x y else if f = "min" then minD x y else .no
def jm:Expr->Bool
 | .Set ..=>false
 | _=>true
noncomputable def qB:Expr->Option (List Str)
 | .Name x _=>some [x]
 | .Tuple es _ _=>es.foldr (fun e r=>match e,r with | .Name x _,some l=>some (x::l) | _,_=>none) (some [])
 | _=>none
noncomputable def qc5 (Γ:Ct) (x:Str) (d:D) (ρ:Env):R Env:=(R.of (qY Γ.N x)).th fun i=>if qc2 Γ.sc x&&qm x then .ok (ρ.set i (.val d)) else .no
noncomputable def qa9 (Γ:Ct):List Str->List D->Env->R Env
 | [],[],ρ=>.ok ρ
 | x::xs,d::ds,ρ=>(qc5 Γ x d ρ).th fun ρ1=>qa9 Γ xs ds ρ1
 | _,_,_=>.no
noncomputable def qhS (Γ:Ct) (tg:Expr) (d:D) (ρ:Env):R Env:=match tg with
 | .Name x _=>qc5 Γ x d ρ
 | .Tuple es _ _=>(R.of (qB tg)).th fun xs=>match d with
  | .tup ds=>if es.any qj then .no else qa9 Γ xs ds ρ
  | _=>.no
 | _=>.no
def qad:Expr->Bool
 | .Tuple ..=>true
 | _=>false
def qeZ:Sl->Sl
 | .own l=>.bor l
 | s=>s
noncomputable def JB (N:List Str) (sc:Scope):List Nat:=(List.range N.length).filter fun i=>sc.names.lookup (N.getD i "") == some .free
noncomputable def JY (own:List Str) (fr:List Nat) (ρ:Env):Env:=(own.map fun _=>Sl.no)++fr.map fun i=>qeZ (ρ.getD i .no)
def Yg (l:List D):List D:=(List.range l.length).zipWith (fun (i:Nat) d=>D.tup [.int i,d]) l
def qbF (l m:List D):List D:=List.zipWith (fun a b=>D.tup [a,b]) l m
def zI (lo hi:Int):List D:=(List.range (hi - lo).toNat).map fun i:Nat=>D.int (lo+i)
def qhT (lo hi c:Int):List D:=(List.range (rsz lo hi c)).map fun i:Nat=>D.int (lo+i * c)
noncomputable def rgB (i j c:Int):Bool:=decide (-(2 ^ 60)<=i)&&decide (i < 2 ^ 60)&&decide (-(2 ^ 60)<=j)&&decide (j < 2 ^ 60)&&decide (0 < c)&&decide (c < 2 ^ 30)
noncomputable def rg3 (x y z:Rv):R (List D):=match x.int?,y.int?,z.int? with
 | some i,some j,some c=>if rgB i j c=true then .ok (qhT i j c) else .no
 | _,_,_=>.no
def qgH (i:Int):Bool:=decide (-(2 ^ 62)<=i)&&decide (i < 2 ^ 62)
def lrE (Γ:Ct) (f:Str) (a:Expr):Option (Expr×Expr):=none
noncomputable def lrD (x y:Rv):R Rv:=match x.int?,y.int? with
 | some i,some j=>if qgH i=true/\qgH j=true/\(j - i).toNat<=10000 then .ok (.tmp (zI i j)) else .no
 | _,_=>.no
noncomputable def irE (Γ:Ct) (op:CmpOp) (b:Expr):Option Expr:=match op,b with
 | .NotIn,.Call (.Name g _) [x] [] _=>if g = "range"/\glB Γ.sc "range" = true/\qj x=false then some x else none
 | _,_=>none
noncomputable def qfu (x y:Rv):R Rv:=match x.int?,y.int? with
 | some i,some j=>.ok (.val (.bl (!decide (0<=i/\i < j))))
 | _,_=>.no
def qO (i:Int):Bool:=decide (-(2 ^ 62)<=i)&&decide (i < 2 ^ 62)
noncomputable def qae (asg:D->Env->R Env) (test:Env->R (Bool×Env)) (elt:Env->R (D×Env)):List D->Env->List D->R (List D)
 | [],_,acc=>.ok acc
 | d::ds,ρ,acc=>(asg d ρ).th fun ρ1=>(test ρ1).th fun bt=>if bt.1 then (elt bt.2).th fun x=>if acc.length < sizeLine then qae asg test elt ds x.2 (acc++[x.1]) else .no else qae asg test elt ds bt.2 acc
mutual
noncomputable def evR:Nat->Ct->Expr->Env->R (Rv×Env)
 | 0,_,_,_=>.no
 | m+1,Γ,e,ρ=>match e with
  | .Name x _=>(yT Γ x ρ).th fun r=>.ok (r,ρ)
  | .Constant c _ _=>(qj9 c).th fun r=>.ok (r,ρ)
  | .BinOp a op b _=>(evR m Γ a ρ).th fun x=>(evR m Γ b x.2).th fun y=>(qaW op x.1 y.1).th fun r=>.ok (r,y.2)
  | .UnaryOp .USub a _=>(evR m Γ a ρ).th fun x=>match x.1 with
   | .val (.int i)=>.ok (.val (.int (-i)),x.2)
   | _=>.no
  | .UnaryOp .Not a _=>(evR m Γ a ρ).th fun x=>match x.1 with
   | .val (.bl b)=>.ok (.val (.bl (!b)),x.2)
   | _=>.no
  | .BoolOp _ [a] _=>evR m Γ a ρ
  | .BoolOp .And (a::b::l) p=>(evR m Γ a ρ).th fun x=>match x.1 with
   | .val (.bl true)=>evR m Γ (.BoolOp .And (b::l) p) x.2
   | .val (.bl false)=>.ok (.val (.bl false),x.2)
   | _=>.no
  | .BoolOp .Or (a::b::l) p=>.no
  | .Compare a [op] [b] _=>(evR m Γ a ρ).th fun x=>(evR m Γ b x.2).th fun y=>if behindInMarks op b then .no else (R.of (JX op x.1 y.1)).th fun r=>.ok (.val (.bl r),y.2)
  | .IfExp c a b _=>(evT m Γ c ρ).th fun t=>if t.1 then evR m Γ a t.2 else evR m Γ b t.2
  | .Subscript a (.Slice lo hi none _) _=>(evR m Γ a ρ).th fun x=>(evO m Γ lo x.2).th fun l=>(evO m Γ hi l.2).th fun h=>(sliceD x.1 l.1 h.1).th fun r=>.ok (r,h.2)
  | .Subscript a (.Slice _ _ (some _) _) _=>.no
  | .Subscript a i _=>(evR m Γ a ρ).th fun x=>(evR m Γ i x.2).th fun y=>(idxD x.1 y.1).th fun r=>.ok (r,y.2)
  | .List es _=>(qgI m Γ es ρ).th fun x=>if x.1.length<=sizeLine then .ok (.tmp x.1,x.2) else .no
  | .Tuple es _ _=>(qgI m Γ es ρ).th fun x=>if x.1.length<=sizeLine then .ok (.val (.tup x.1),x.2) else .no
  | .Call (.Name f p) es [] _=>if qm f&&glB Γ.sc f&&(qY Γ.N f).isNone then (
    if f = "isinstance" then (match es with
     | [a,b]=>(match b with
      | .Name t _=>if (qm t&&glB Γ.sc t&&(qY Γ.N t).isNone&&!qj a)=true then (evR m Γ a ρ).th fun x=>(R.of (qdK Γ.cs x.1 t)).th fun b=>.ok (.val (.bl b),x.2) else .no
      | _=>.no)
     | _=>.no)
    else if Γ.tab.contains f then (JZ m Γ es ρ).th fun x=>(Γ.cl f x.1).th fun r=>.ok (r,x.2)
    else if Γ.cs.tab.contains f then (JZ m Γ es ρ).th fun x=>(Γ.nw f x.1).th fun r=>.ok (r,x.2)
    else match es with
     | [a]=>(match lrE Γ f a with
      | some t=>(evR m Γ t.1 ρ).th fun x=>(evR m Γ t.2 x.2).th fun y=>(lrD x.1 y.1).th fun r=>.ok (r,y.2)
      | none=>if qj a then .no else (evR m Γ a ρ).th fun x=>(Q8 f x.1).th fun r=>.ok (r,x.2))
     | [a,b]=>if qj a||qj b then .no else (evR m Γ a ρ).th fun x=>(evR m Γ b x.2).th fun y=>(qa8 f x.1 y.1).th fun r=>.ok (r,y.2)
     | _=>.no) else .no
  | .Attribute o x _=>if qZ o then (evR m Γ o ρ).th fun y=>(R.of (qc4 Γ.cs y.1 x)).th fun d=>.ok (.val d,y.2) else .no
  | .Call (.Attribute o x ap) es [] q=>if (qZ o&&(ap.endLine == q.line)&&decide (es.length < 30))=true then (evR m Γ o ρ).th fun y=>match mtD Γ.cs y.1 x with
   | some f=>(JZ m Γ es y.2).th fun z=>(Γ.cl f (y.1.ar::z.1)).th fun r=>.ok (r,z.2)
   | none=>if x = "index" then (JZ m Γ es y.2).th fun z=>(ixM y.1 z.1).th fun r=>.ok (r,z.2) else .no
   else (R.of (dgE Γ o x es (ap.endLine == q.line))).th fun t=>(evR m Γ t.1 ρ).th fun y=>(evR m Γ t.2.1 y.2).th fun z=>(qac t.2.2 y.1 z.1).th fun r=>.ok (r,z.2)
  | .ListComp elt [g] sc _=>if g.is_async=0 then (evI m Γ (qad g.target) g.iter ρ).th fun x=>(R.of (qB g.target)).th fun own=>
    let fr:=JB Γ.N sc
    let Δ:Ct:={ Γ with N:=own++fr.map fun i=>Γ.N.getD i "",sc:=sc }
    if (jE Γ.sc Γ.N fr sc&&decide Δ.N.Nodup&&decide (x.1.length<=sizeLine)&&jm g.iter)=true then
     (qae (qhS Δ g.target) (fun ρ1=>qke m Δ g.ifs ρ1) (fun ρ1=>evE m Δ elt ρ1) x.1 (JY own fr x.2) []).th fun l=>.ok (.tmp l,x.2)
    else .no else .no
  | _=>.no
noncomputable def evE:Nat->Ct->Expr->Env->R (D×Env)
 | 0,_,_,_=>.no
 | m+1,Γ,e,ρ=>match e with
  | .Name x _=>j6 Γ x ρ
  | e=>(evR m Γ e ρ).th fun x=>match x.1 with
   | .val d=>.ok (d,x.2)
   | .tmp l=>.ok (.lst l,x.2)
   | _=>.no
noncomputable def evT:Nat->Ct->Expr->Env->R (Bool×Env)
 | 0,_,_,_=>.no
 | m+1,Γ,e,ρ=>match e with
  | .UnaryOp .Not a _=>(evT m Γ a ρ).th fun t=>.ok (!t.1,t.2)
  | .BoolOp _ [a] _=>evT m Γ a ρ
  | .BoolOp .And (a::b::l) p=>(evT m Γ a ρ).th fun t=>if t.1 then evT m Γ (.BoolOp .And (b::l) p) t.2 else .ok (false,t.2)
  | .BoolOp .Or (a::b::l) p=>(evT m Γ a ρ).th fun t=>if t.1 then .ok (true,t.2) else evT m Γ (.BoolOp .Or (b::l) p) t.2
  | .BoolOp _ [] _=>.no
  | .IfExp ..=>.no
  | .Compare a [op] [b] _=>(match irE Γ op b with
   | some t=>(evR m Γ a ρ).th fun x=>(evR m Γ t x.2).th fun y=>(qfu x.1 y.1).th fun r=>(R.of (truthD r)).th fun b=>.ok (b,y.2)
   | none=>(evR m Γ a ρ).th fun x=>(evR m Γ b x.2).th fun y=>if behindInMarks op b then .no else (R.of (JX op x.1 y.1)).th fun r=>.ok (r,y.2))
  | .Compare ..=>.no
  | e=>(evR m Γ e ρ).th fun x=>(R.of (truthD x.1)).th fun b=>.ok (b,x.2)
noncomputable def qgI:Nat->Ct->List Expr->Env->R (List D×Env)
 | 0,_,_,_=>.no
 | m+1,Γ,es,ρ=>match es with
  | []=>.ok ([],ρ)
  | e::l=>if qj e then .no else (evE m Γ e ρ).th fun x=>(qgI m Γ l x.2).th fun y=>.ok (x.1::y.1,y.2)
noncomputable def JZ:Nat->Ct->List Expr->Env->R (List Ar×Env)
 | 0,_,_,_=>.no
 | m+1,Γ,es,ρ=>match es with
  | []=>.ok ([],ρ)
  | e::l=>if qj e then .no else (evR m Γ e ρ).th fun x=>(JZ m Γ l x.2).th fun y=>.ok (x.1.ar::y.1,y.2)
noncomputable def evO:Nat->Ct->Option Expr->Env->R (Option Int×Env)
 | 0,_,_,_=>.no
 | m+1,Γ,o,ρ=>match o with
  | none=>.ok (none,ρ)
  | some e=>(evR m Γ e ρ).th fun x=>match x.1 with
   | .val (.int i)=>.ok (some i,x.2)
   | _=>.no
noncomputable def qke:Nat->Ct->List Expr->Env->R (Bool×Env)
 | 0,_,_,_=>.no
 | m+1,Γ,es,ρ=>match es with
  | []=>.ok (true,ρ)
  | [c]=>evT m Γ c ρ
  | _=>.no
noncomputable def evL:Nat->Ct->Expr->Env->R ((Sk×List D)×Env)
 | 0,_,_,_=>.no
 | m+1,Γ,e,ρ=>match e with
  | .Name x _=>YF Γ x ρ
  | e=>(evR m Γ e ρ).th fun x=>match x.1 with
   | .val (.lst l)=>.ok ((.lst,l),x.2)
   | .val (.tup l)=>.ok ((.tup,l),x.2)
   | .val (.str z)=>.ok ((.str,qaV z),x.2)
   | .tmp l=>.ok ((.lst,l),x.2)
   | _=>.no
noncomputable def evI:Nat->Ct->Bool->Expr->Env->R (List D×Env)
 | 0,_,_,_,_=>.no
 | m+1,Γ,tb,e,ρ=>match e with
  | .Call (.Name f p) es [] q=>if f = "range" || f = "enumerate" || f = "zip" || f = "reversed" then (if qm f&&glB Γ.sc f&&(qY Γ.N f).isNone then (match es with
    | [a]=>if qj a then .no else
      if f = "range" then (evR m Γ a ρ).th fun x=>(match x.1.int? with
       | some n=>if qO n=true then .ok (zI 0 n,x.2) else .no
       | none=>.no)
      else if f = "enumerate" then (if tb then (evL m Γ a ρ).th fun x=>match x.1.1 with | .lst=>.ok (Yg x.1.2,x.2) | _=>.no else .no)
      else if f = "reversed" then (evL m Γ a ρ).th fun x=>match x.1.1 with | .lst=>.ok (x.1.2.reverse,x.2) | _=>.no
      else .no
    | [a,b]=>if qj a||qj b then .no else
      if f = "range" then (evR m Γ a ρ).th fun x=>(evR m Γ b x.2).th fun y=>(match x.1.int?,y.1.int? with
       | some i,some j=>if qO i=true/\qO j=true then .ok (zI i j,y.2) else .no
       | _,_=>.no)
      else if f = "zip" then (if tb then (evL m Γ a ρ).th fun x=>(evL m Γ b x.2).th fun y=>match x.1.1,y.1.1 with | .lst,.lst=>.ok (qbF x.1.2 y.1.2,y.2) | _,_=>.no else .no)
      else .no
    | _=>.no) else .no)
   else (evL m Γ (.Call (.Name f p) es [] q) ρ).th fun x=>.ok (x.1.2,x.2)
  | e=>(evL m Γ e ρ).th fun x=>.ok (x.1.2,x.2)
end
end DE
namespace DE
open PySem L2
def Wk {α:Type} (x:R α) (f:α->Prop):Prop:=match x with
 | .ok a=>f a
 | .exc _ _=>False
 | .no=>False
theorem Wk.th {α β:Type} {x:R α} {g:α->R β} {f:β->Prop} (h:Wk (x.th g) f):Wk x fun a=>Wk (g a) f:=by cases x<;>exact h
theorem Wk.mono {α:Type} {x:R α} {f g:α->Prop} (h:Wk x f) (i:∀ a,f a->g a):Wk x g:=by
 cases x with
 | ok a=>exact i a h
 | exc c l=>exact h
 | no=>exact h
theorem Wk.of {α:Type} {x:Option α} {f:α->Prop} (h:Wk (R.of x) f):∃ a,x=some a/\f a:=by
 cases x with
 | none=>exact h.elim
 | some a=>exact ⟨a,rfl,h⟩
theorem Wk.iff {α:Type} {c:Prop} [Decidable c] {x:R α} {f:α->Prop} (h:Wk (if c then x else .no) f):c/\Wk x f:=by
 by_cases hc:c
 ·rw [if_pos hc] at h;exact ⟨hc,h⟩
 ·rw [if_neg hc] at h;exact h.elim
theorem Wk.nif {α:Type} {c:Prop} [Decidable c] {x:R α} {f:α->Prop} (h:Wk (if c then .no else x) f):¬ c/\Wk x f:=by
 by_cases hc:c
 ·rw [if_pos hc] at h;exact h.elim
 ·rw [if_neg hc] at h;exact ⟨hc,h⟩
section
variable (κ:KC) (K:Frag) (G₀ H₀:Hp) (Γ:Ct) (m:Nat)
noncomputable def tR (e:Expr):TE:=fun σ H Q=>∃ ρ G,ER κ K G₀ H₀ G H ρ σ/\Wk (evR m Γ e ρ) fun x=>∀ v G' H',Po κ K G₀ H₀ σ G H ρ G' H' x.2->RvR κ K H₀ H G' H' x.2 σ x.1 v->Q v H'
noncomputable def tE (e:Expr):TE:=fun σ H Q=>∃ ρ G,ER κ K G₀ H₀ G H ρ σ/\Wk (evE m Γ e ρ) fun x=>∀ v G' H',Po κ K G₀ H₀ σ G H ρ G' H' x.2->Rep κ G' x.1 v->Q v H'
noncomputable def tT (e:Expr):TT:=fun σ H Q=>∃ ρ G,ER κ K G₀ H₀ G H ρ σ/\Wk (evT m Γ e ρ) fun x=>∀ G' H',Po κ K G₀ H₀ σ G H ρ G' H' x.2->Q x.1 H'
noncomputable def tEs (es:List Expr):TA:=fun σ H Q=>∃ ρ G,ER κ K G₀ H₀ G H ρ σ/\Wk (qgI m Γ es ρ) fun x=>∀ vs G' H',Po κ K G₀ H₀ σ G H ρ G' H' x.2->qr κ G' x.1 vs->Q vs H'
noncomputable def ArR (G H:Hp):Ar->V->Prop
 | .val d,v=>Rep κ G d v
 | .bor ds,v=>∃ a xs,v=.ref a/\H a=some (.lst xs)/\qr κ G ds xs
 | .scr ds,v=>∃ a xs,v=.ref a/\SqL K H a xs/\qr κ G ds xs
noncomputable def JC (G H:Hp):List Ar->List V->Prop
 | [],vs=>vs=[]
 | a::l,vs=>∃ v r,vs=v::r/\ArR κ K G H a v/\JC G H l r
noncomputable def tAs (es:List Expr):TA:=fun σ H Q=>∃ ρ G,ER κ K G₀ H₀ G H ρ σ/\Wk (JZ m Γ es ρ) fun x=>∀ vs G' H',Po κ K G₀ H₀ σ G H ρ G' H' x.2->JC κ K G' H' x.1 vs->Q vs H'
noncomputable def tO (o:Option Expr):TO:=fun σ H Q=>∃ ρ G,ER κ K G₀ H₀ G H ρ σ/\Wk (evO m Γ o ρ) fun x=>∀ G' H',Po κ K G₀ H₀ σ G H ρ G' H' x.2->Q x.1 H'
noncomputable def tF (es:List Expr):TT:=fun σ H Q=>∃ ρ G,ER κ K G₀ H₀ G H ρ σ/\Wk (qke m Γ es ρ) fun x=>∀ G' H',Po κ K G₀ H₀ σ G H ρ G' H' x.2->Q x.1 H'
noncomputable def SrR (G:Hp) (s:Sk×List D) (v:V):Prop:=match s.1 with
 | .str=>∃ x,v=.str x/\s.2=qaV x
 | .tup=>∃ a xs,v=.ref a/\qr κ G s.2 xs/\G a=some (.tup xs)
 | .lst=>∃ a xs,v=.ref a/\qr κ G s.2 xs/\(G a=some (.lst xs)\/SqL K H₀ a xs)
noncomputable def tL (e:Expr):TE:=fun σ H Q=>∃ ρ G,ER κ K G₀ H₀ G H ρ σ/\Wk (evL m Γ e ρ) fun x=>∀ v G' H',Po κ K G₀ H₀ σ G H ρ G' H' x.2->SrR κ K H₀ G' x.1 v->Q v H'
noncomputable def ItR (G₁:Hp) (J:It) (l:List D):Prop:=∀ (i:Nat) (G H:Hp),qv G₁ G->qv H₀ H->qv G H->
 (∀ d,l[i]?=some d->J.go i H/\∀ x H',J.yld i H x H'->∃ G',qv H H'/\qv G G'/\qv G' H'/\(∀ a o,G' a=some o->(∃ o',G a=some o')\/H a=none)/\Rep κ G' d x)/\(l.length=i->J.stop i H)
noncomputable def tI (tb:Bool) (e:Expr):TI:=fun σ H Q=>∃ ρ G,ER κ K G₀ H₀ G H ρ σ/\Wk (evI m Γ tb e ρ) fun x=>∀ J G' H',Po κ K G₀ H₀ σ G H ρ G' H' x.2->ItR κ H₀ G' J x.1->Q J H'
noncomputable def ReR (G' H' H:Hp):Rv->V->Prop
 | .val d,v=>Rep κ G' d v
 | .tmp ds,v=>∃ a xs,v=.ref a/\H' a=some (.lst xs)/\H a=none/\G' a=none/\qr κ G' ds xs
 | _,_=>False
noncomputable def spF (cl:Str->List Ar->R Rv) (f:Str):Sp:=fun vs H Q _=>∃ G args,qv G H/\JC κ K G H args vs/\
 Wk (cl f args) fun r=>∀ v G' H',qv H H'->qv G G'->qv G' H'->(∀ a o,G' a=some o->(∃ o',G a=some o')\/H a=none)->ReR κ G' H' H r v->Q v H'
end
noncomputable def qdL:List Str:=["len","list","tuple","int","bool","str","max","min","isinstance","range","enumerate","zip","sorted","sum","reversed","all","dict"]
structure Gd (κ:KC) (K:Frag) (k:Nat) (X:Cx) (Γ:Ct):Prop where
 hN:X.N=Γ.N
 vis:∀ x,Q6 Γ.sc x=true->Vis X.env.scope x
 loc:∀ x,qc2 Γ.sc x=true->L2.Loc X.env.scope x/\(X.fn x=true\/X.env.scope.names.lookup x=some .local)
 glo:∀ x,glB Γ.sc x=true->Gl X x
 cf:∀ x,(Γ.sc.names.lookup x=some .cell\/Γ.sc.names.lookup x=some .free)->X.env.kindOf x=some .cell\/X.env.kindOf x=some .free
 nd:Γ.N.Nodup
 calm:X.calm=true
 hK:X.K=K
 room:Room k X.A
 fns:∀ f,Γ.tab.contains f=true->∃ fa fd ps,FnOk X.prog X.w X.K X.mg X.base CX0 k fa fd ps (spF κ K Γ.cl f)/\X.mg f=some (.ref fa)/\PySem.W.keepIn X.K (.ref fa)=true/\zx X.K fd ps []
 blt:∀ f∈qdL,X.mg f=none
 gl:∀ x d,Γ.gl x=some d->∃ v u,X.mg x=some u/\qN v u/\∀ G,Rep κ G d v
 cls:∀ c C,κ c=some C->Cls X.K C
 flds:∀ c x C,Γ.cs.fld c x=true->κ c=some C->zG X.K C x
 mts:∀ c x f,Γ.cs.mt c x=some f->∃ C fa fd ps,κ c=some C/\Meth X.K C x fa/\FnOk X.prog X.w X.K X.mg X.base CX0 k fa fd ps (spF κ K Γ.cl f)/\zx X.K fd ps []
 mks:∀ f,Γ.cs.tab.contains f=true->(∀ args,Γ.nw f args=.no)\/∃ C fa fd ps sp,Mk X.K C fa/\FnOk X.prog X.w X.K X.mg X.base CX0 (k - 1) fa fd ps sp/\X.mg f=some (.ref C)/\zx X.K fd ps []/\0 < k/\
  ∀ vs H Q,spF κ K Γ.nw f vs H Q E0->∀ x dx,H x=none->H dx=none->dx≠x->sp (.ref x::vs) (upd (upd H dx (.own x)) x (.ins C dx [])) (fun v H2=>v=.non/\Q (.ref x) H2) E0
 subs:∀ c t b,Γ.cs.sub c t=some b->∃ C T,κ c=some C/\(∀ H p dx fs,H p=some (HO.ins C dx fs)->TyOf X.K H (.ref p) (.ref C))/\X.mg t=some (.ref T)/\PySem.W.kitOne X.K (.ref C) (.ref T)=some b
theorem PE.imp {X:Cx} {e:Expr} {t t':TE} (h:PE X e t') (i:∀ σ H Q,t σ H Q->t' σ H Q):PE X e t:=fun pins s σ H Q I hw=>h pins s σ H Q I (i σ H Q hw)
theorem PT.imp {X:Cx} {e:Expr} {t t':TT} (h:PT X e t') (i:∀ σ H Q,t σ H Q->t' σ H Q):PT X e t:=fun pins s σ H Q I hw=>h pins s σ H Q I (i σ H Q hw)
theorem PA.imp {X:Cx} {es:List Expr} {t t':TA} (h:PA X es t') (i:∀ σ H Q,t σ H Q->t' σ H Q):PA X es t:=fun pos pins s σ H Q I hw=>h pos pins s σ H Q I (i σ H Q hw)
theorem PO.imp {X:Cx} {o:Option Expr} {t t':TO} (h:PO X o t') (i:∀ σ H Q,t σ H Q->t' σ H Q):PO X o t:=fun pins s σ H Q I hw=>h pins s σ H Q I (i σ H Q hw)
theorem PIf.imp {X:Cx} {es:List Expr} {t t':TT} (h:PIf X es t') (i:∀ σ H Q,t σ H Q->t' σ H Q):PIf X es t:=fun pins s σ H Q I hw=>h pins s σ H Q I (i σ H Q hw)
theorem PI.imp {X:Cx} {tg e:Expr} {t t':TI} (h:PI X tg e t') (i:∀ σ H Q,t σ H Q->t' σ H Q):PI X tg e t:=fun pins s σ H Q I hw=>h pins s σ H Q I (i σ H Q hw)
theorem qi {X:Cx} {e:Expr} {t:TE} (h:∀ σ H Q,¬ t σ H Q):PE X e t:=fun pins s σ H Q I hw=>absurd hw (h σ H Q)
theorem j8 {X:Cx} {e:Expr} {t:TT} (h:∀ σ H Q,¬ t σ H Q):PT X e t:=fun pins s σ H Q I hw=>absurd hw (h σ H Q)
theorem Q9 {X:Cx} {e:List Expr} {t:TA} (h:∀ σ H Q,¬ t σ H Q):PA X e t:=fun pos pins s σ H Q I hw=>absurd hw (h σ H Q)
theorem qmK {X:Cx} {e:Option Expr} {t:TO} (h:∀ σ H Q,¬ t σ H Q):PO X e t:=fun pins s σ H Q I hw=>absurd hw (h σ H Q)
theorem qbG {X:Cx} {e:List Expr} {t:TT} (h:∀ σ H Q,¬ t σ H Q):PIf X e t:=fun pins s σ H Q I hw=>absurd hw (h σ H Q)
theorem zc {X:Cx} {tg e:Expr} {t:TI} (h:∀ σ H Q,¬ t σ H Q):PI X tg e t:=fun pins s σ H Q I hw=>absurd hw (h σ H Q)
theorem j9:∀ {N:List Str} {x:Str} {i:Nat},qY N x=some i->N[i]?=some x
 | [],x,i,h=>by cases h
 | y::r,x,i,h=>by
  unfold qY at h
  by_cases e:y=x
  ·rw [if_pos e] at h;cases h;rw [e];rfl
  ·rw [if_neg e] at h
   cases q:qY r x with
   | none=>rw [q] at h;cases h
   | some j=>rw [q] at h;cases h;show (y::r)[j+1]?=some x;rw [List.getElem?_cons_succ];exact j9 q
theorem zi {x:Str} (h:qm x=true):(x == ("__debug__" : Str))=false/\(x == ("__classdict__" : Str))=false/\x≠"__name__":=by unfold qm at h;simp only [Bool.and_eq_true,Bool.not_eq_true'] at h;refine ⟨h.1.1,h.1.2,fun z=>?_⟩;rw [z] at h;exact absurd h.2 (2:)
theorem qgJ {sc:Scope} {x:Str} (h:Q6 sc x=true):Vis sc x:=by
 unfold Q6 at h;unfold Vis
 split at h
 ·rename_i e;exact .inl e
 ·rename_i e;exact .inr (.inl e)
 ·rename_i e;exact .inr (.inr e)
 ·cases h
theorem qdM {sc:Scope} {x:Str} (h:qc2 sc x=true):L2.Loc sc x:=by
 unfold qc2 at h;unfold L2.Loc
 split at h
 ·rename_i e;exact .inl e
 ·rename_i e;exact .inr e
 ·cases h
theorem qf {e:Expr} {es:List Expr} {env:PySem.Env} (h:qj e=false):starEach (e::es) env=(false,eval e env)::starEach es env:=by cases e<;>first | rfl | (simp [qj] at h)
section
variable {κ:KC} {K:Frag} {G₀ H₀:Hp} {k:Nat} {X:Cx} {Γ:Ct}
theorem ER.notOwn {G H:Hp} {ρ:Env} {σ:St} (er:ER κ K G₀ H₀ G H ρ σ) {a:Addr} (h:H a=none):¬ qcB ρ σ a:=fun ⟨i,l,e,z⟩=>by obtain ⟨b,xs,z',h1,_⟩:=er.sl i _ e;rw [z] at z';injection z' with z';injection z' with z';injection z' with z';rw [<-z',h] at h1;cases h1
theorem ER.newList {G H:Hp} {ρ:Env} {σ:St} (er:ER κ K G₀ H₀ G H ρ σ) {a:Addr} {xs:List V} {l:List D} (h:H a=none) (r:qr κ G l xs) :
  Po κ K G₀ H₀ σ G H ρ G (upd H a (.lst xs)) ρ/\RvR κ K H₀ H G (upd H a (.lst xs)) ρ σ (.tmp l) (.ref a):=
 ⟨Po.room er (qv.upd h),a,xs,rfl,qh,h,qv.none er.base h,qv.none er.sub h,er.notOwn h,r⟩
theorem qfv (gd:Gd κ K k X Γ) (m:Nat) (x:Str) (pos:Pos):PE X (.Name x pos) (tR κ K G₀ H₀ Γ (m+1) (.Name x pos)):=by
 by_cases hok:qm x=true
 case neg=>show 5;have h:=Wk.th (x:=yT Γ x ρ) h;unfold yT at h;exact hok (Wk.iff h).1
 obtain ⟨n1,n2,n3⟩:=zi hok
 cases hi:qY Γ.N x with
 | some i=>
  by_cases hv:Q6 Γ.sc x=true
  case neg=>show 5;have h:=Wk.th (x:=yT Γ x ρ) h;unfold yT at h;rw [if_pos hok,hi] at h;exact hv (Wk.iff h).1
  have hx:=gd.vis x hv;refine PE.imp (Qo (i:=i) (by rw [gd.hN];exact j9 hi) hx n1 n2) fun σ H Q hq1=>?_;show 0;have h:=Wk.th (x:=yT Γ x ρ) h;unfold yT at h;rw [if_pos hok,hi] at h;have h:=(Wk.iff h).2
  cases q:ρ[i]? with
  | none=>rw [q] at h;exact h.elim
  | some s=>
   rw [q] at h;have w:=er.sl i s q
   cases s with
   | no=>exact h.elim
   | val d=>obtain ⟨v,z,r⟩:=w;exact ⟨v,z,h v G H (Po.refl er) r⟩
   | own l=>obtain ⟨a,xs,z,r1,r2,r3,r4⟩:=w;exact ⟨_,z,h _ G H (Po.refl er) ⟨a,xs,rfl,r1,r4⟩⟩
   | bor l=>obtain ⟨a,xs,z,r1,r4⟩:=w;exact ⟨_,z,h _ G H (Po.refl er) ⟨a,xs,rfl,er.base _ _ r1,r4⟩⟩
   | scr l=>obtain ⟨a,xs,z,r1,r4⟩:=w;exact ⟨_,z,h _ G H (Po.refl er) ⟨a,xs,rfl,er.base.seq r1,r4⟩⟩
 | none=>
  by_cases hg:glB Γ.sc x=true
  case neg=>show 5;have h:=Wk.th (x:=yT Γ x ρ) h;unfold yT at h;rw [if_pos hok,hi] at h;exact hg (Wk.iff h).1
  cases hd:Γ.gl x with
  | none=>show 5;have h:=Wk.th (x:=yT Γ x ρ) h;unfold yT at h;rw [if_pos hok,hi] at h;have h:=(Wk.iff h).2;rw [hd] at h;exact h
  | some d=>obtain ⟨v,u,e1,e2,e3⟩:=gd.gl x d hd;refine PE.imp (yP (gd.glo x hg) e1 e2 n1) fun σ H Q hq1=>?_;show 0;have h:=Wk.th (x:=yT Γ x ρ) h;unfold yT at h;rw [if_pos hok,hi] at h;have h:=(Wk.iff h).2;rw [hd] at h;exact h v G H (Po.refl er) (e3 G)
theorem qfw (gd:Gd κ K k X Γ) (m:Nat) (x:Str) (pos:Pos):PE X (.Name x pos) (tE κ K G₀ H₀ Γ (m+1) (.Name x pos)):=by
 by_cases hok:qm x=true
 case neg=>show 5;have h:Wk (j6 Γ x ρ) _:=h;unfold j6 at h;exact hok (Wk.iff h).1
 obtain ⟨n1,n2,n3⟩:=zi hok
 cases hi:qY Γ.N x with
 | some i=>
  by_cases hv:Q6 Γ.sc x=true
  case neg=>show 5;have h:Wk (j6 Γ x ρ) _:=h;unfold j6 at h;rw [if_pos hok,hi] at h;exact hv (Wk.iff h).1
  have hx:=gd.vis x hv;refine PE.imp (Qo (i:=i) (by rw [gd.hN];exact j9 hi) hx n1 n2) fun σ H Q hq1=>?_;show 0;have h:Wk (j6 Γ x ρ) _:=h;unfold j6 at h;rw [if_pos hok,hi] at h;have h:=(Wk.iff h).2
  cases q:ρ[i]? with
  | none=>rw [q] at h;exact h.elim
  | some s=>
   rw [q] at h;have w:=er.sl i s q
   cases s with
   | no=>exact h.elim
   | val d=>obtain ⟨v,z,r⟩:=w;exact ⟨v,z,h v G H (Po.refl er) r⟩
   | own l=>obtain ⟨a,xs,z,p,r⟩:=er.froze q;exact ⟨_,z,h _ _ H p r⟩
   | bor l=>exact h.elim
   | scr l=>exact h.elim
 | none=>
  by_cases hg:glB Γ.sc x=true
  case neg=>show 5;have h:Wk (j6 Γ x ρ) _:=h;unfold j6 at h;rw [if_pos hok,hi] at h;exact hg (Wk.iff h).1
  cases hd:Γ.gl x with
  | none=>show 5;have h:Wk (j6 Γ x ρ) _:=h;unfold j6 at h;rw [if_pos hok,hi] at h;have h:=(Wk.iff h).2;rw [hd] at h;exact h
  | some d=>obtain ⟨v,u,e1,e2,e3⟩:=gd.gl x d hd;refine PE.imp (yP (gd.glo x hg) e1 e2 n1) fun σ H Q hq1=>?_;show 0;have h:Wk (j6 Γ x ρ) _:=h;unfold j6 at h;rw [if_pos hok,hi] at h;have h:=(Wk.iff h).2;rw [hd] at h;exact h v G H (Po.refl er) (e3 G)
end
end DE
namespace DE
open PySem L2
section
variable {κ:KC} {K:Frag} {G₀ H₀ Hb Hc G H:Hp} {ρ:Env} {σ:St} {r s:Rv} {x y:V}
theorem RvR.int {i:Int} (h:RvR κ K H₀ Hb G H ρ σ r x) (e:r.int?=some i):x=.int i:=by
 cases r with
 | val d=>cases d<;>simp only [Rv.int?] at e<;>first | (cases e;simpa only [RvR,Rep] using h) | cases e
 | _=>cases e
theorem RvR.str {i:Str} (h:RvR κ K H₀ Hb G H ρ σ r x) (e:r.str?=some i):x=.str i:=by
 cases r with
 | val d=>cases d<;>simp only [Rv.str?] at e<;>first | (cases e;simpa only [RvR,Rep] using h) | cases e
 | _=>cases e
theorem RvR.bl {i:Bool} (h:RvR κ K H₀ Hb G H ρ σ r x) (e:r.bl?=some i):x=.bl i:=by
 cases r with
 | val d=>cases d<;>simp only [Rv.bl?] at e<;>first | (cases e;simpa only [RvR,Rep] using h) | cases e
 | _=>cases e
theorem RvR.tup {l:List D} (h:RvR κ K H₀ Hb G H ρ σ r x) (e:r.tup?=some l):∃ a xs,x=.ref a/\G a=some (.tup xs)/\qr κ G l xs:=by
 cases r with
 | val d=>cases d<;>simp only [Rv.tup?] at e<;>first | (cases e;simpa only [RvR,Rep] using h) | cases e
 | _=>cases e
theorem RvR.seq (er:ER κ K G₀ H₀ G H ρ σ) {l:List D} (h:RvR κ K H₀ Hb G H ρ σ r x) (e:seqD r=some l):∃ a xs,x=.ref a/\(SqL K H a xs\/SqT K H a xs)/\qr κ G l xs:=by
 unfold seqD at e
 cases q:r.tup? with
 | some l'=>rw [q] at e;cases e;obtain ⟨a,xs,e1,e2,e3⟩:=h.tup q;exact ⟨a,xs,e1,.inr (SqT.of (er.sub _ _ e2)),e3⟩
 | none=>rw [q] at e;obtain ⟨a,xs,e1,e2,e3⟩:=h.list er e;exact ⟨a,xs,e1,.inl e2,e3⟩
theorem RvR.non (h:RvR κ K H₀ Hb G H ρ σ r x):decide (x=.non)=r.non?:=by
 cases r with
 | val d=>
  cases d<;>simp only [RvR,Rep] at h<;>simp only [Rv.non?]
  ·subst h;rfl
  ·subst h;rfl
  ·subst h;rfl
  ·subst h;rfl
  ·obtain ⟨a,xs,rfl,_⟩:=h;rfl
  ·obtain ⟨a,xs,rfl,_⟩:=h;rfl
  ·obtain ⟨p,dx,C,xs,_,rfl,_⟩:=h;rfl
 | tmp l=>obtain ⟨a,xs,rfl,_⟩:=h;rfl
 | cell l=>obtain ⟨a,xs,rfl,_⟩:=h;rfl
 | scr l=>obtain ⟨a,xs,rfl,_⟩:=h;rfl
mutual
theorem Rep.dv (sub:qv G H):∀ {d:D} {v:V} {p:PyData},Rep κ G d v->toP d=some p->DV K H p v
 | .non,v,p,h,e=>by simp only [toP] at e;cases e;simp only [Rep] at h;simp only [DV];exact h
 | .bl b,v,p,h,e=>by simp only [toP] at e;cases e;simp only [Rep] at h;simp only [DV];exact h
 | .int b,v,p,h,e=>by simp only [toP] at e;cases e;simp only [Rep] at h;simp only [DV];exact h
 | .str b,v,p,h,e=>by simp only [toP] at e;cases e;simp only [Rep] at h;simp only [DV];exact h
 | .lst l,v,p,h,e=>by simp only [toP] at e;obtain ⟨ps,e1,rfl⟩:=Option.map_eq_some_iff.mp e;simp only [Rep] at h;obtain ⟨a,xs,rfl,h1,h2⟩:=h;simp only [DV];exact ⟨a,xs,rfl,SqL.of (sub _ _ h1),qr.dvs sub h2 e1⟩
 | .tup l,v,p,h,e=>by simp only [toP] at e;obtain ⟨ps,e1,rfl⟩:=Option.map_eq_some_iff.mp e;simp only [Rep] at h;obtain ⟨a,xs,rfl,h1,h2⟩:=h;simp only [DV];exact ⟨a,xs,rfl,SqT.of (sub _ _ h1),qr.dvs sub h2 e1⟩
 | .ins c ns l,v,p,h,e=>by simp only [toP] at e;cases e
theorem qr.dvs (sub:qv G H):∀ {ds:List D} {vs:List V} {ps:List PyData},qr κ G ds vs->qc1 ds=some ps->DVs K H ps vs
 | [],vs,ps,h,e=>by simp only [qc1] at e;cases e;simp only [qr] at h;simp only [DVs];exact h
 | d::ds,vs,ps,h,e=>by simp only [qc1] at e;obtain ⟨p,e1,e2⟩:=Option.bind_eq_some_iff.mp e;obtain ⟨qs,e3,rfl⟩:=Option.map_eq_some_iff.mp e2;simp only [qr] at h;obtain ⟨x,r,rfl,h1,h2⟩:=h;simp only [DVs];exact ⟨x,r,rfl,Rep.dv sub h1 e1,qr.dvs sub h2 e3⟩
end
theorem RvR.dv (er:ER κ K G₀ H₀ G H ρ σ) {p:PyData} (h:RvR κ K H₀ Hb G H ρ σ r x) (e:toP r.data=some p):DV K H p x:=by
 have lst:∀ {l:List D} {a:Addr} {xs:List V},SqL K H a xs->qr κ G l xs->toP (.lst l)=some p->DV K H p (.ref a):=fun {l a xs} hq hr e=>by simp only [toP] at e;obtain ⟨ps,e1,rfl⟩:=Option.map_eq_some_iff.mp e;simp only [DV];exact ⟨a,xs,rfl,hq,qr.dvs er.sub hr e1⟩
 cases r with
 | val d=>exact Rep.dv er.sub h e
 | tmp l=>obtain ⟨a,xs,rfl,h1,_,_,_,_,h6⟩:=h;exact lst (SqL.of h1) h6 e
 | cell l=>obtain ⟨a,xs,rfl,h1,h6⟩:=h;exact lst (SqL.of h1) h6 e
 | scr l=>obtain ⟨a,xs,rfl,h1,h6⟩:=h;exact lst h1 h6 e
theorem qbH {d:D} {v:V} (h:Rep κ G d v) (f:Qh d=true):v=flV d/\YA v=true:=by
 cases d<;>simp only [Qh] at f<;>try (exact absurd f (2:))
 all_goals (simp only [Rep] at h;subst h;exact ⟨rfl,rfl⟩)
theorem qaf:∀ {l:List D} {vs:List V},qr κ G l vs->l.all Qh=true->vs=l.map flV/\vs.all YA=true
 | [],vs,h,f=>by simp only [qr] at h;subst h;exact ⟨rfl,rfl⟩
 | d::l,vs,h,f=>by simp only [qr] at h;obtain ⟨x,r,rfl,h1,h2⟩:=h;simp only [List.all_cons,Bool.and_eq_true] at f;obtain ⟨e1,e2⟩:=qbH h1 f.1;obtain ⟨e3,e4⟩:=qaf h2 f.2;subst e1 e3;exact ⟨rfl,by simp only [List.all_cons,e2,e4,Bool.and_self]⟩
theorem qhU (h:RvR κ K H₀ Hb G H ρ σ r x) (f:Qh r.data=true):x=flV r.data/\YA x=true:=by
 cases r with
 | val d=>exact qbH h f
 | _=>simp only [Rv.data,Qh] at f;exact absurd f (2:)
theorem qba {f:Int->Int->R Rv} {F:Rv->Prop} (h:Wk (int2 r s f) F):∃ i j,r.int?=some i/\s.int?=some j/\Wk (f i j) F:=by
 unfold int2 at h
 cases e1:r.int? with
 | none=>rw [e1] at h;exact h.elim
 | some i=>
  cases e2:s.int? with
  | none=>rw [e1,e2] at h;exact h.elim
  | some j=>rw [e1,e2] at h;exact ⟨i,j,rfl,rfl,h⟩
theorem qfx {l:List D} {xs:List V} {i:Int} {d:D} (h:qr κ G l xs) (e:atI l i=some d):∃ v,atI xs i=some v/\Rep κ G d v:=by unfold atI at e ⊢;rw [<-h.len];obtain ⟨j,e1,e2⟩:=Option.bind_eq_some_iff.mp e;obtain ⟨v,e3,e4⟩:=h.atD e2;exact ⟨v,by rw [e1];exact e3,e4⟩
theorem qfy {l:List D} {xs:List V} {lo hi:Option Int} (h:qr κ G l xs):qr κ G (qa6 l lo hi) (qjb xs lo hi):=by unfold qa6 qjb;rw [h.len];exact (h.drop _).take _
end
section
variable (κ:KC) (K:Frag) (G₀ H₀:Hp)
noncomputable def qmL (op:Operator):R2:=fun x y H Q=>∃ (ρ:Env) (σ:St) (G Hb Hc:Hp) (r s:Rv),ER κ K G₀ H₀ G H ρ σ/\RvR κ K H₀ Hb G H ρ σ r x/\RvR κ K H₀ Hc G H ρ σ s y/\
 Wk (qaW op r s) fun z=>∀ v G' H',Po κ K G₀ H₀ σ G H ρ G' H' ρ->RvR κ K H₀ H G' H' ρ σ z v->Q v H'
noncomputable def qmM (op:CmpOp):R2:=fun x y H Q=>∃ (ρ:Env) (σ:St) (G Hb Hc:Hp) (r s:Rv) (b:Bool),ER κ K G₀ H₀ G H ρ σ/\RvR κ K H₀ Hb G H ρ σ r x/\RvR κ K H₀ Hc G H ρ σ s y/\JX op r s=some b/\Q (.bl b) H
noncomputable def qod:R2:=fun x y H Q=>∃ (ρ:Env) (σ:St) (G Hb Hc:Hp) (r s:Rv),ER κ K G₀ H₀ G H ρ σ/\RvR κ K H₀ Hb G H ρ σ r x/\RvR κ K H₀ Hc G H ρ σ s y/\
 Wk (idxD r s) fun z=>∀ v G' H',Po κ K G₀ H₀ σ G H ρ G' H' ρ->RvR κ K H₀ H G' H' ρ σ z v->Q v H'
noncomputable def qoe:V->Option Int->Option Int->Hp->VK->Prop:=fun x lo hi H Q=>∃ (ρ:Env) (σ:St) (G Hb:Hp) (r:Rv),ER κ K G₀ H₀ G H ρ σ/\RvR κ K H₀ Hb G H ρ σ r x/\
 Wk (sliceD r lo hi) fun z=>∀ v G' H',Po κ K G₀ H₀ σ G H ρ G' H' ρ->RvR κ K H₀ H G' H' ρ σ z v->Q v H'
noncomputable def rC1 (f:Rv->R Rv):List V->Hp->VK->Prop:=fun xs H Q=>∃ (ρ:Env) (σ:St) (G Hb:Hp) (r:Rv) (x:V),xs=[x]/\ER κ K G₀ H₀ G H ρ σ/\RvR κ K H₀ Hb G H ρ σ r x/\
 Wk (f r) fun z=>∀ v G' H',Po κ K G₀ H₀ σ G H ρ G' H' ρ->RvR κ K H₀ H G' H' ρ σ z v->Q v H'
noncomputable def rC2 (f:Rv->Rv->R Rv):List V->Hp->VK->Prop:=fun xs H Q=>∃ (ρ:Env) (σ:St) (G Hb Hc:Hp) (r s:Rv) (x y:V),xs=[x,y]/\ER κ K G₀ H₀ G H ρ σ/\RvR κ K H₀ Hb G H ρ σ r x/\RvR κ K H₀ Hc G H ρ σ s y/\
 Wk (f r s) fun z=>∀ v G' H',Po κ K G₀ H₀ σ G H ρ G' H' ρ->RvR κ K H₀ H G' H' ρ σ z v->Q v H'
end
section
variable {κ:KC} {K:Frag} {G₀ H₀:Hp} {k:Nat} {X:Cx} {Γ:Ct}
theorem YG (op:Operator) {f:Int->Int->R Rv} {C:Int->Int->Prop} {g:Int->Int->Int} (hop:OpR X (binaryOp op) (rI C fun i j=>.int (g i j))) (hf:∀ r s,qaW op r s=int2 r s f) (hw:∀ i j F,Wk (f i j) F->C i j/\F (.val (.int (g i j)))) :
  OpR X (binaryOp op) (qmL κ K G₀ H₀ op):=by
 rintro pins st σ' H x y v u Q I rx ry ⟨ρ,σ,G,Hb,Hc,r,s,er,h1,h2,h⟩;rw [hf] at h;obtain ⟨i,j,e1,e2,h⟩:=qba h;obtain ⟨hc,h⟩:=hw i j _ h;exact hop pins st σ' H x y v u Q I rx ry ⟨i,j,h1.int e1,h2.int e2,hc,h _ G H (Po.refl er) (by simp only [RvR,Rep])⟩
theorem qmN {f:Value->Value->Sem Value} {g:Int->Int->V} (h:OpR X f (rI0 g)):OpR X f (rI (fun _ _=>True) g):=fun pins st σ' H x y v u Q I rx ry ⟨i,j,e1,e2,_,q⟩=>h pins st σ' H x y v u Q I rx ry ⟨i,j,e1,e2,q⟩
theorem qkf:OpR X (binaryOp .Add) (qmL κ K G₀ H₀ .Add):=by
 rintro pins st σ' H x y v u Q I rx ry ⟨ρ,σ,G,Hb,Hc,r,s,er,h1,h2,h⟩;have h:Wk (qmJ r s) _:=h;unfold qmJ at h
 have cat:Wk (match r.plain?,s.plain? with
   | some l,some m=>if l.length+m.length<=sizeLine then R.ok (Rv.tmp (l++m)) else .no
   | _,_=>.no) (fun z=>∀ v G' H',Po κ K G₀ H₀ σ G H ρ G' H' ρ->RvR κ K H₀ H G' H' ρ σ z v->Q v H')->wpAny (model X.prog X.w) X.A (binaryOp .Add v u) (EP X pins σ' Q) X.xe st:=fun h=>by
  cases e1:r.plain? with
  | none=>rw [e1] at h;exact h.elim
  | some l=>
   cases e2:s.plain? with
   | none=>rw [e1,e2] at h;exact h.elim
   | some m=>rw [e1,e2] at h;obtain ⟨hz,h⟩:=Wk.iff h;obtain ⟨a,xs,q1,q2,q3⟩:=h1.plain er e1;obtain ⟨b,ys,p1,p2,p3⟩:=h2.plain er e2;refine qjP pins st σ' H x y v u Q I rx ry ⟨a,b,xs,ys,q1,p1,q2,p2,by rw [<-q3.len,<-p3.len];exact hz,fun p hp=>?_⟩;obtain ⟨z1,z2⟩:=er.newList hp (q3.app p3);exact h _ _ _ z1 z2
 have txt:Wk (match r.str?,s.str? with
   | some a,some b=>if a.length+b.length<=sizeLine then R.ok (Rv.val (.str (a++b))) else .no
   | _,_=>match r.plain?,s.plain? with
    | some l,some m=>if l.length+m.length<=sizeLine then R.ok (Rv.tmp (l++m)) else .no
    | _,_=>.no) (fun z=>∀ v G' H',Po κ K G₀ H₀ σ G H ρ G' H' ρ->RvR κ K H₀ H G' H' ρ σ z v->Q v H')->wpAny (model X.prog X.w) X.A (binaryOp .Add v u) (EP X pins σ' Q) X.xe st:=fun h=>by
  cases e1:r.str? with
  | none=>rw [e1] at h;exact cat h
  | some l=>
   cases e2:s.str? with
   | none=>rw [e1,e2] at h;exact cat h
   | some m=>rw [e1,e2] at h;obtain ⟨hz,h⟩:=Wk.iff h;exact qcp pins st σ' H x y v u Q I rx ry ⟨l,m,h1.str e1,h2.str e2,hz,h _ G H (Po.refl er) (by simp only [RvR,Rep])⟩
 cases e1:r.int? with
 | none=>rw [e1] at h;exact txt h
 | some i=>
  cases e2:s.int? with
  | none=>rw [e1,e2] at h;exact txt h
  | some j=>rw [e1,e2] at h;exact qjz pins st σ' H x y v u Q I rx ry ⟨i,j,h1.int e1,h2.int e2,h _ G H (Po.refl er) (by simp only [RvR,Rep])⟩
theorem qhV {i j:Int} (h:Q7 i j=true):qma i j:=by unfold Q7 at h;simp only [Bool.or_eq_true,Bool.and_eq_true,decide_eq_true_eq] at h;exact h
theorem qkg (op:Operator):OpR X (binaryOp op) (qmL κ K G₀ H₀ op):=by
 cases op with
 | Add=>exact qkf
 | Sub=>exact YG .Sub (qmN qjA) (fun _ _=>rfl) fun i j F h=>⟨trivial,h⟩
 | Mult=>exact YG .Mult qjB (fun _ _=>rfl) fun i j F h=>⟨qhV (Wk.iff h).1,(Wk.iff h).2⟩
 | FloorDiv=>exact YG .FloorDiv qhr (fun _ _=>rfl) fun i j F h=>⟨(Wk.iff h).1,(Wk.iff h).2⟩
 | Mod=>exact YG .Mod qjC (fun _ _=>rfl) fun i j F h=>⟨(Wk.iff h).1,(Wk.iff h).2⟩
 | Pow=>exact YG .Pow qjD (fun _ _=>rfl) fun i j F h=>⟨(Wk.iff h).1,(Wk.iff h).2⟩
 | _=>exact fun _ _ _ _ _ _ _ _ _ _ _ _ h=>Exists.elim h fun _ h=>Exists.elim h fun _ h=>Exists.elim h fun _ h=>Exists.elim h fun _ h=>Exists.elim h fun _ h=>Exists.elim h fun _ h=>Exists.elim h fun _ h=>h.2.2.2.elim
theorem Za (op:CmpOp) {g:Int->Int->Bool} (hop:OpR X (compareOp op) (rI0 fun i j=>.bl (g i j))) (hf:∀ r s,JX op r s=qjc r s g):OpR X (compareOp op) (qmM κ K G₀ H₀ op):=by
 rintro pins st σ' H x y v u Q I rx ry ⟨ρ,σ,G,Hb,Hc,r,s,b,er,h1,h2,h,q⟩;rw [hf] at h;unfold qjc at h
 cases e1:r.int? with
 | none=>rw [e1] at h;cases h
 | some i=>
  cases e2:s.int? with
  | none=>rw [e1,e2] at h;cases h
  | some j=>rw [e1,e2] at h;cases h;exact hop pins st σ' H x y v u Q I rx ry ⟨i,j,h1.int e1,h2.int e2,q⟩
theorem qgK {x y:D} {b:Bool} (h:eqD x y=some b):∃ p q,toP x=some p/\toP y=some q/\SeqAt.shaped p=true/\SeqAt.shaped q=true/\b=PyData.eqv p q:=by
 unfold eqD at h
 cases e1:toP x with
 | none=>rw [e1] at h;cases h
 | some p=>
  cases e2:toP y with
  | none=>rw [e1,e2] at h;cases h
  | some q=>
   rw [e1,e2] at h;dsimp only at h
   by_cases hs:(SeqAt.shaped p&&SeqAt.shaped q)=true
   ·rw [if_pos hs] at h;cases h;rw [Bool.and_eq_true] at hs;exact ⟨p,q,rfl,rfl,hs.1,hs.2,rfl⟩
   ·rw [if_neg hs] at h;cases h
theorem qgL (gd:Gd κ K k X Γ) (neg:Bool) (op:CmpOp) (hs:OpR X (compareOp op) (fun x y H Q=>∃ i j,x=.str i/\y=.str j/\Q (.bl (if neg then !qjd i j else qjd i j)) H)) (hl:OpR X (compareOp op) (rIn X.K neg))
  (hf:∀ r s,JX op r s=(qeX r s).map fun b=>if neg then !b else b):OpR X (compareOp op) (qmM κ K G₀ H₀ op):=by
 rintro pins st σ' H x y v u Q I rx ry ⟨ρ,σ,G,Hb,Hc,r,s,b,er,h1,h2,h,q⟩;rw [hf] at h;obtain ⟨b',hb',rfl⟩:=Option.map_eq_some_iff.mp h
 replace h:=hb'
 unfold qeX at h
 have sq:(seqD s).bind (inD r.data)=some b'->wpAny (model X.prog X.w) X.A (compareOp op v u) (EP X pins σ' Q) X.xe st:=fun h=>by
  obtain ⟨l,e1,e2⟩:=Option.bind_eq_some_iff.mp h;unfold inD at e2
  by_cases hc:(Qh r.data&&l.all Qh)=true
  ·rw [if_pos hc] at e2;cases e2;rw [Bool.and_eq_true] at hc;obtain ⟨a,xs,p1,p2,p3⟩:=h2.seq er e1;obtain ⟨f1,f2⟩:=qhU h1 hc.1;obtain ⟨f3,f4⟩:=qaf p3 hc.2;refine hl pins st σ' H x y v u Q I rx ry ⟨a,xs,p1,by rw [gd.hK];exact p2,f2,f4,?_⟩;rw [f1,f3];exact q
  ·rw [if_neg hc] at e2;cases e2
 cases e1:r.str? with
 | none=>rw [e1] at h;exact sq h
 | some i=>
  cases e2:s.str? with
  | none=>rw [e1,e2] at h;exact sq h
  | some j=>rw [e1,e2] at h;cases h;exact hs pins st σ' H x y v u Q I rx ry ⟨i,j,h1.str e1,h2.str e2,q⟩
theorem qgM (gd:Gd κ K k X Γ) (op:CmpOp):OpR X (compareOp op) (qmM κ K G₀ H₀ op):=by
 have hu:X.A.units+64 < cLine:=by have:=gd.room.un;omega
 cases op with
 | Eq=>rintro pins st σ' H x y v u Q I rx ry ⟨ρ,σ,G,Hb,Hc,r,s,b,er,h1,h2,h,q⟩;obtain ⟨p,p',e1,e2,e3,e4,rfl⟩:=qgK h;exact qjU hu pins st σ' H x y v u Q I rx ry ⟨p,p',by rw [gd.hK];exact h1.dv er e1,by rw [gd.hK];exact h2.dv er e2,e3,e4,q⟩
 | NotEq=>rintro pins st σ' H x y v u Q I rx ry ⟨ρ,σ,G,Hb,Hc,r,s,b,er,h1,h2,h,q⟩;obtain ⟨b',h',rfl⟩:=Option.map_eq_some_iff.mp h;obtain ⟨p,p',e1,e2,e3,e4,rfl⟩:=qgK h';exact qjV hu pins st σ' H x y v u Q I rx ry ⟨p,p',by rw [gd.hK];exact h1.dv er e1,by rw [gd.hK];exact h2.dv er e2,e3,e4,q⟩
 | Lt=>exact Za .Lt qmv fun _ _=>rfl
 | LtE=>exact Za .LtE qmw fun _ _=>rfl
 | Gt=>exact Za .Gt qmx fun _ _=>rfl
 | GtE=>exact Za .GtE qmy fun _ _=>rfl
 | Is=>
  rintro pins st σ' H x y v u Q I rx ry ⟨ρ,σ,G,Hb,Hc,r,s,b,er,h1,h2,h,q⟩;have h:(if s.non?=true then some r.non? else none)=some b:=h
  by_cases hn:s.non?=true
  ·rw [if_pos hn] at h;cases h;refine qjF pins st σ' H x y v u Q I rx ry ⟨of_decide_eq_true (h2.non.trans hn),?_⟩;rw [h1.non];exact q
  ·rw [if_neg hn] at h;cases h
 | IsNot=>
  rintro pins st σ' H x y v u Q I rx ry ⟨ρ,σ,G,Hb,Hc,r,s,b,er,h1,h2,h,q⟩;have h:(if s.non?=true then some (!r.non?) else none)=some b:=h
  by_cases hn:s.non?=true
  ·rw [if_pos hn] at h;cases h;refine qhs pins st σ' H x y v u Q I rx ry ⟨of_decide_eq_true (h2.non.trans hn),?_⟩;rw [h1.non];exact q
  ·rw [if_neg hn] at h;cases h
 | In=>exact qgL gd false .In qdg qdp fun r s=>by show qeX r s=_;cases qeX r s<;>rfl
 | NotIn=>exact qgL gd true .NotIn ZK Z0 fun r s=>rfl
theorem qkh (gd:Gd κ K k X Γ):IxR X (qod κ K G₀ H₀):=by
 rintro value slice pins st σ' H x y v u Q I rx ry ⟨ρ,σ,G,Hb,Hc,r,s,er,h1,h2,h⟩ hs;unfold idxD at h
 cases e1:s.int? with
 | none=>rw [e1] at h;exact h.elim
 | some i=>
  rw [e1] at h;dsimp only at h
  cases e2:r.str? with
  | some z=>
   rw [e2] at h;dsimp only at h;obtain ⟨hz,h⟩:=Wk.iff h
   cases e3:atI z.cps.toList i with
   | none=>rw [e3] at h;exact h.elim
   | some c=>rw [e3] at h;exact qjL value slice pins st σ' H x y v u Q I rx ry ⟨z,i,c,h1.str e2,h2.int e1,hz,e3,h _ G H (Po.refl er) (by simp only [RvR,Rep])⟩ hs
  | none=>
   rw [e2] at h;dsimp only at h
   cases e3:seqD r with
   | none=>rw [e3] at h;exact h.elim
   | some l=>
    rw [e3] at h;dsimp only at h
    cases e4:atI l i with
    | none=>rw [e4] at h;exact h.elim
    | some d=>
     rw [e4] at h;obtain ⟨a,xs,p1,p2,p3⟩:=h1.seq er e3;obtain ⟨w,p4,p5⟩:=qfx p3 e4;rcases p2 with p2 | p2
     ·exact qhD value slice pins st σ' H x y v u Q I rx ry ⟨a,xs,i,w,p1,h2.int e1,by rw [gd.hK];exact p2,p4,h w G H (Po.refl er) p5⟩ hs
     ·exact qjK value slice pins st σ' H x y v u Q I rx ry ⟨a,xs,i,w,p1,h2.int e1,by rw [gd.hK];exact p2,p4,h w G H (Po.refl er) p5⟩ hs
theorem qki (gd:Gd κ K k X Γ):L2.SlR X (qoe κ K G₀ H₀):=by
 rintro pins st σ' H x v vl vu lo hi sl Q I rx hs pl pu ⟨ρ,σ,G,Hb,r,er,h1,h⟩;unfold sliceD at h
 cases e2:r.str? with
 | some z=>rw [e2] at h;dsimp only at h;obtain ⟨hz,h⟩:=Wk.iff h;exact qj5 pins st σ' H x v vl vu lo hi sl Q I rx hs pl pu ⟨z,h1.str e2,hz,h _ G H (Po.refl er) (by simp only [RvR,Rep])⟩
 | none=>rw [e2] at h;dsimp only at h;obtain ⟨l,e1,h⟩:=Wk.of (Wk.th h);obtain ⟨a,xs,p1,p2,p3⟩:=h1.list er e1;refine qhE pins st σ' H x v vl vu lo hi sl Q I rx hs pl pu ⟨a,xs,p1,by rw [gd.hK];exact p2,fun p hp=>?_⟩;obtain ⟨z1,z2⟩:=er.newList hp (qfy (lo:=lo) (hi:=hi) p3);exact h _ _ _ z1 z2
theorem qkj (gd:Gd κ K k X Γ):zw X (.builtin "len") (rC1 κ K G₀ H₀ lenD):=by
 rintro pins st σ' H xs us Q I rs ⟨ρ,σ,G,Hb,r,x,hx,er,h1,h⟩;unfold lenD at h
 cases e2:r.str? with
 | some z=>rw [e2] at h;dsimp only at h;obtain ⟨hz,h⟩:=Wk.iff h;exact Z1 pins st σ' H xs us Q I rs ⟨z,by rw [hx,h1.str e2],hz,h _ G H (Po.refl er) (by simp only [RvR,Rep])⟩
 | none=>
  rw [e2] at h;dsimp only at h
  cases e3:seqD r with
  | none=>rw [e3] at h;exact h.elim
  | some l=>rw [e3] at h;obtain ⟨a,ys,p1,p2,p3⟩:=h1.seq er e3;refine JV pins st σ' H xs us Q I rs ⟨a,ys,by rw [hx,p1],by rw [gd.hK];exact p2,?_⟩;rw [<-p3.len];exact h _ G H (Po.refl er) (by simp only [RvR,Rep])
theorem qhW (gd:Gd κ K k X Γ):zw X (.type "list") (rC1 κ K G₀ H₀ listD):=by
 rintro pins st σ' H xs us Q I rs ⟨ρ,σ,G,Hb,r,x,hx,er,h1,h⟩;unfold listD at h
 cases e3:seqD r with
 | none=>rw [e3] at h;exact h.elim
 | some l=>rw [e3] at h;obtain ⟨a,ys,p1,p2,p3⟩:=h1.seq er e3;refine j7 pins st σ' H xs us Q I rs ⟨a,ys,by rw [hx,p1],by rw [gd.hK];exact p2,fun p hp=>?_⟩;obtain ⟨z1,z2⟩:=er.newList hp p3;exact h _ _ _ z1 z2
theorem qcC (a b c:Int×Int) (h1:ZF a b=true) (h2:ZF b c=true):ZF a c=true:=by simp only [ZF,Bool.or_eq_true,Bool.and_eq_true,decide_eq_true_eq] at *;omega
theorem qcD (a b:Int×Int):(ZF a b||ZF b a)=true:=by simp only [ZF,Bool.or_eq_true,Bool.and_eq_true,decide_eq_true_eq] at *;omega
theorem qbI {ps qs:List (Int×Int)} (p:qs.Perm ps) (s:qs.Pairwise qcx):yU ps=qs:=by
 have s1:(yU ps).Pairwise fun a b=>ZF a b=true:=List.pairwise_mergeSort qcC qcD ps
 have s2:qs.Pairwise fun a b=>ZF a b=true:=s.imp fun {a b} h=>by simp only [ZF,Bool.or_eq_true,Bool.and_eq_true,decide_eq_true_eq];exact h
 refine List.Perm.eq_of_pairwise (fun a b _ _ h1 h2=>?_) s1 s2 ((List.mergeSort_perm ps ZF).trans p.symm);simp only [ZF,Bool.or_eq_true,Bool.and_eq_true,decide_eq_true_eq] at h1 h2;exact Prod.ext (1:) (1:)
theorem qbJ {G:Hp}:∀ {l:List D} {xs:List V} {ps:List (Int×Int)},qr κ G l xs->qgG l=some ps->Paired (fun x (p:Int×Int)=>∃ a,x=V.ref a/\G a=some (.tup [.int p.1,.int p.2])) xs ps
 | [],xs,ps,r,h=>by simp only [qr] at r;subst r;cases h;exact .nil
 | d::l,xs,ps,r,h=>by
  simp only [qr] at r;obtain ⟨x,us,rfl,r1,r2⟩:=r;unfold qgG at h
  cases e1:prD d with
  | none=>rw [e1] at h;cases h
  | some p=>
   cases e2:qgG l with
   | none=>rw [e1,e2] at h;cases h
   | some qs=>
    rw [e1,e2] at h;cases h;refine .cons ?_ (qbJ r2 e2);unfold prD at e1
    split at e1
    ·cases e1;simp only [Rep,qr] at r1;obtain ⟨a,ys,rfl,h1,x1,z1,rfl,rfl,x2,z2,rfl,rfl,rfl⟩:=r1;exact ⟨a,rfl,h1⟩
    ·cases e1
theorem Paired.memL {α β:Type} {R:α->β->Prop}:∀ {l:List α} {m:List β},Paired R l m->∀ a∈l,∃ b,R a b
 | _,_,.nil,a,h=>by cases h
 | _,_,.cons r rs,a,h=>by
  cases h with
  | head=>exact ⟨_,r⟩
  | tail _ h=>exact Paired.memL rs a h
theorem qcE {G H:Hp} (sub:qv G H) {xs:List V} (f:∀ x∈xs,∃ p:Int×Int,∃ a,x=V.ref a/\G a=some (.tup [.int p.1,.int p.2])) {ys:List V} {qs:List (Int×Int)} (hm:∀ y∈ys,y∈xs) (h:Paired (P2 K H) ys qs):qr κ G (qs.map pD) ys:=by
 induction h with
 | nil=>exact .nil
 | cons r rs ih=>refine .cons ?_ (ih fun z hz=>hm z (List.mem_cons_of_mem _ hz));obtain ⟨p,a,rfl,ga⟩:=f _ (hm _ (List.mem_cons_self ..));obtain ⟨b,eb,hb⟩:=r;cases eb;rw [sub _ _ ga] at hb;rw [hb] at ga;simp only [pD,Rep,qr];exact ⟨a,_,rfl,ga,_,_,rfl,rfl,_,_,rfl,rfl,rfl⟩
theorem qdN (gd:Gd κ K k X Γ):zw X (.builtin "sorted") (rC1 κ K G₀ H₀ JG):=by
 rintro pins st σ' H xs us Q I rs ⟨ρ,σ,G,Hb,r,x,hx,er,h1,h⟩;unfold JG at h
 cases e3:r.list? with
 | none=>rw [e3] at h;exact h.elim
 | some l=>
  rw [e3] at h;dsimp only at h
  cases e4:qgG l with
  | none=>rw [e4] at h;exact h.elim
  | some ps=>
   rw [e4] at h;dsimp only at h;obtain ⟨h64,h⟩:=Wk.iff h;obtain ⟨a,ys,p1,p2,p3⟩:=h1.list er e3;have pr:=qbJ p3 e4
   have hlen:ys.length < 64:=by
    have:∀ {xs:List V} {ps:List (Int×Int)} {R:V->Int×Int->Prop},Paired R xs ps->xs.length=ps.length:=by
     intro xs ps R q
     induction q with
     | nil=>rfl
     | cons _ _ ih=>simp [ih]
    rw [this pr];exact h64
   have pr2:Paired (P2 X.K H) ys ps:=by
    have:∀ {ys:List V} {ps:List (Int×Int)},Paired (fun x (p:Int×Int)=>∃ a,x=V.ref a/\G a=some (.tup [.int p.1,.int p.2])) ys ps->Paired (P2 X.K H) ys ps:=by
     intro ys ps q
     induction q with
     | nil=>exact .nil
     | cons r rs ih=>obtain ⟨a,e,ga⟩:=r;exact .cons ⟨a,e,er.sub _ _ ga⟩ ih
    exact this pr
   refine Q5 pins st σ' H xs us Q I rs ⟨a,ys,ps,by rw [hx,p1],by rw [gd.hK];exact p2,hlen,pr2,fun p zs qs hp z1 z2 z3 z4=>?_⟩;have e5:yU ps=qs:=qbI z3 z4
   have rr:qr κ G ((yU ps).map pD) zs:=by rw [e5];refine qcE (K:=X.K) er.sub (fun x hx=>?_) (fun y hy=>z2.mem_iff.mp hy) z1;obtain ⟨p,hp⟩:=Paired.memL pr x hx;exact ⟨p,hp⟩
   obtain ⟨w1,w2⟩:=er.newList hp rr;exact h _ _ _ w1 w2
theorem qdO {G:Hp}:∀ {l:List D} {xs:List V} {ns:List Int},qr κ G l xs->qa7 l=some ns->xs=ns.map V.int
 | [],xs,ns,r,h=>by simp only [qr] at r;subst r;cases h;rfl
 | d::l,xs,ns,r,h=>by
  simp only [qr] at r;obtain ⟨x,us,rfl,r1,r2⟩:=r
  cases d with
  | int i=>unfold qa7 at h;obtain ⟨ms,e1,rfl⟩:=Option.map_eq_some_iff.mp h;simp only [Rep] at r1;rw [r1,qdO r2 e1];rfl
  | _=>cases h
theorem qkk (gd:Gd κ K k X Γ):zw X (.builtin "sum") (rC1 κ K G₀ H₀ qkb):=by
 rintro pins st σ' H xs us Q I rs ⟨ρ,σ,G,Hb,r,x,hx,er,h1,h⟩;unfold qkb at h
 cases e3:r.list? with
 | none=>rw [e3] at h;exact h.elim
 | some l=>
  rw [e3] at h;dsimp only at h
  cases e4:qa7 l with
  | none=>rw [e4] at h;exact h.elim
  | some ns=>rw [e4] at h;obtain ⟨a,ys,p1,p2,p3⟩:=h1.list er e3;rw [qdO p3 e4] at p2;exact qdD gd.calm pins st σ' H xs us Q I rs ⟨a,ns,by rw [hx,p1],by rw [gd.hK];exact p2,h _ G H (Po.refl er) (by simp only [RvR,Rep])⟩
theorem qgN {G:Hp}:∀ {l:List D} {xs:List V} {ns:List Bool},qr κ G l xs->qkc l=some ns->xs=ns.map V.bl
 | [],xs,ns,r,h=>by simp only [qr] at r;subst r;cases h;rfl
 | d::l,xs,ns,r,h=>by
  simp only [qr] at r;obtain ⟨x,us,rfl,r1,r2⟩:=r
  cases d with
  | bl i=>unfold qkc at h;obtain ⟨ms,e1,rfl⟩:=Option.map_eq_some_iff.mp h;simp only [Rep] at r1;rw [r1,qgN r2 e1];rfl
  | _=>cases h
theorem qkl (gd:Gd κ K k X Γ):zw X (.builtin "all") (rC1 κ K G₀ H₀ qkd):=by
 rintro pins st σ' H xs us Q I rs ⟨ρ,σ,G,Hb,r,x,hx,er,h1,h⟩;unfold qkd at h
 cases e3:r.list? with
 | none=>rw [e3] at h;exact h.elim
 | some l=>
  rw [e3] at h;dsimp only at h
  cases e4:qkc l with
  | none=>rw [e4] at h;exact h.elim
  | some ns=>rw [e4] at h;obtain ⟨a,ys,p1,p2,p3⟩:=h1.list er e3;rw [qgN p3 e4] at p2;exact qdC gd.calm pins st σ' H xs us Q I rs ⟨a,ns,by rw [hx,p1],by rw [gd.hK];exact p2,h _ G H (Po.refl er) (by simp only [RvR,Rep])⟩
theorem qbK {G:Hp}:∀ {l:List D} {xs:List V} {ps:List (Str×Int)},qr κ G l xs->qeY l=some ps->Paired (fun x (p:Str×Int)=>∃ a,x=V.ref a/\G a=some (.tup [.str p.1,.int p.2])) xs ps
 | [],xs,ps,r,h=>by simp only [qr] at r;subst r;cases h;exact .nil
 | d::l,xs,ps,r,h=>by
  simp only [qr] at r;obtain ⟨x,us,rfl,r1,r2⟩:=r;unfold qeY at h
  cases e1:kvD d with
  | none=>rw [e1] at h;cases h
  | some p=>
   cases e2:qeY l with
   | none=>rw [e1,e2] at h;cases h
   | some qs=>
    rw [e1,e2] at h;cases h;refine .cons ?_ (qbK r2 e2);unfold kvD at e1
    split at e1
    ·cases e1;simp only [Rep,qr] at r1;obtain ⟨a,ys,rfl,h1,x1,z1,rfl,rfl,x2,z2,rfl,rfl,rfl⟩:=r1;exact ⟨a,rfl,h1⟩
    ·cases e1
theorem qfz {n:Int} {x y r:Rv} (h:qac n x y=.ok r):∃ l k kvs,x.list?=some l/\y.str?=some k/\qeY l=some kvs/\(kvs.map (·.1)).Nodup/\r=.val (.int ((qhR kvs k).getD n)):=by
 unfold qac at h
 cases e1:x.list? with
 | none=>rw [e1] at h;cases h
 | some l=>
  cases e2:y.str? with
  | none=>rw [e1,e2] at h;cases h
  | some k=>
   rw [e1,e2] at h;dsimp only at h
   cases e3:qeY l with
   | none=>rw [e3] at h;cases h
   | some kvs=>
    rw [e3] at h;dsimp only at h
    split at h
    ·rename_i nd;cases h;exact ⟨l,k,kvs,rfl,rfl,e3,nd,rfl⟩
    ·cases h
theorem qdP (k:Str):∀ kvs:List (Str×Int),qdE (kvs.map kvV) (.inr k)=(qhR kvs k).map V.int
 | []=>rfl
 | kv::l=>by
  have ih:=qdP k l;unfold qhR at ih ⊢
  by_cases e:kv.1=k
  ·rw [List.map_cons,Q2 (show (kvV kv).1=.inr k by rw [<-e];rfl),List.find?_cons,show decide (kv.1=k)=true from decide_eq_true e];rfl
  ·rw [List.map_cons,Q3 (show ¬ (kvV kv).1=.inr k from fun z=>e (by cases z;rfl)),List.find?_cons,show decide (kv.1=k)=false from decide_eq_false e];exact ih
theorem qkm:zw X (.type "int") (rC1 κ K G₀ H₀ intD):=by
 rintro pins st σ' H xs us Q I rs ⟨ρ,σ,G,Hb,r,x,hx,er,h1,h⟩;unfold intD at h
 cases e3:r.int? with
 | some i=>rw [e3] at h;exact ZL pins st σ' H xs us Q I rs (.inl ⟨i,by rw [hx,h1.int e3],h _ G H (Po.refl er) (by simp only [RvR,Rep])⟩)
 | none=>
  rw [e3] at h;dsimp only at h
  cases e4:r.bl? with
  | none=>rw [e4] at h;exact h.elim
  | some b=>rw [e4] at h;exact ZL pins st σ' H xs us Q I rs (.inr ⟨b,by rw [hx,h1.bl e4],h _ G H (Po.refl er) (by simp only [RvR,Rep])⟩)
theorem qkn (gd:Gd κ K k X Γ):zw X (.builtin "max") (rC2 κ K G₀ H₀ maxD):=by rintro pins st σ' H xs us Q I rs ⟨ρ,σ,G,Hb,Hc,r,s,x,y,hx,er,h1,h2,h⟩;obtain ⟨i,j,e1,e2,h⟩:=qba h;exact qdi gd.calm pins st σ' H xs us Q I rs ⟨i,j,by rw [hx,h1.int e1,h2.int e2],h _ G H (Po.refl er) (by simp only [RvR,Rep])⟩
theorem qko (gd:Gd κ K k X Γ):zw X (.builtin "min") (rC2 κ K G₀ H₀ minD):=by rintro pins st σ' H xs us Q I rs ⟨ρ,σ,G,Hb,Hc,r,s,x,y,hx,er,h1,h2,h⟩;obtain ⟨i,j,e1,e2,h⟩:=qba h;exact qdj gd.calm pins st σ' H xs us Q I rs ⟨i,j,by rw [hx,h1.int e1,h2.int e2],h _ G H (Po.refl er) (by simp only [RvR,Rep])⟩
theorem qfA (gd:Gd κ K k X Γ) {G H Hb:Hp} {ρ:Env} {σ:St} {r:Rv} {x:V} {b:Bool} (er:ER κ K G₀ H₀ G H ρ σ) (h:RvR κ K H₀ Hb G H ρ σ r x) (e:truthD r=some b):qmb X.K x H b:=by
 have sq:∀ {r:Rv},RvR κ K H₀ Hb G H ρ σ r x->(seqD r).map (fun l=>!l.isEmpty)=some b->qmb X.K x H b:=fun {r} h e=>by
  obtain ⟨l,e1,rfl⟩:=Option.map_eq_some_iff.mp e;obtain ⟨a,xs,rfl,p2,p3⟩:=h.seq er e1
  have hl:(!l.isEmpty) = !xs.isEmpty:=by
   have:=p3.len
   cases l<;>cases xs<;>simp_all
  rw [hl,gd.hK];rcases p2 with p2 | p2
  ·exact .inl ⟨xs,p2,rfl⟩
  ·exact .inr (.inl ⟨xs,p2,rfl⟩)
 cases r with
 | val d=>
  cases d with
  | non=>simp only [RvR,Rep] at h;subst h;simp only [truthD] at e;cases e;exact rfl
  | bl c=>simp only [RvR,Rep] at h;subst h;simp only [truthD] at e;cases e;exact rfl
  | int c=>simp only [RvR,Rep] at h;subst h;simp only [truthD] at e;cases e;exact rfl
  | str c=>
   simp only [RvR,Rep] at h;subst h;simp only [truthD] at e
   by_cases hz:c.length<=sizeLine
   ·rw [if_pos hz] at e;cases e;exact ⟨hz,rfl⟩
   ·rw [if_neg hz] at e;cases e
  | lst l=>exact sq h e
  | tup l=>exact sq h e
  | ins c ns l=>exact sq h e
 | tmp l=>exact sq h e
 | cell l=>exact sq h e
 | scr l=>exact sq h e
end
end DE
namespace DE
open PySem PySem.Spec PyProof.Rows L2
structure All (κ:KC) (K:Frag) (k:Nat) (X:Cx) (Γ:Ct) (m:Nat):Prop where
 r:∀ G₀ H₀ e,PE X e (tR κ K G₀ H₀ Γ m e)
 e:∀ G₀ H₀ e,PE X e (tE κ K G₀ H₀ Γ m e)
 t:∀ G₀ H₀ e,PT X e (tT κ K G₀ H₀ Γ m e)
 es:∀ G₀ H₀ es,PA X es (tEs κ K G₀ H₀ Γ m es)
 as:∀ G₀ H₀ es,PA X es (tAs κ K G₀ H₀ Γ m es)
 o:∀ G₀ H₀ o,PO X o (tO κ K G₀ H₀ Γ m o)
 f:∀ G₀ H₀ es,PIf X es (tF κ K G₀ H₀ Γ m es)
 l:∀ G₀ H₀ e,PE X e (tL κ K G₀ H₀ Γ m e)
 i:∀ G₀ H₀ tg e,PI X tg e (tI κ K G₀ H₀ Γ m (qad tg) e)
section
variable {κ:KC} {K:Frag} {G₀ H₀:Hp} {k m:Nat} {X:Cx} {Γ:Ct}
theorem qmO:All κ K k X Γ 0:=
 ⟨fun _ _ e=>qi fun _ _ _ ⟨_,_,_,h⟩=>h,fun _ _ e=>qi fun _ _ _ ⟨_,_,_,h⟩=>h,fun _ _ e=>j8 fun _ _ _ ⟨_,_,_,h⟩=>h,fun _ _ e=>Q9 fun _ _ _ ⟨_,_,_,h⟩=>h,fun _ _ e=>Q9 fun _ _ _ ⟨_,_,_,h⟩=>h,
  fun _ _ e=>qmK fun _ _ _ ⟨_,_,_,h⟩=>h,fun _ _ e=>qbG fun _ _ _ ⟨_,_,_,h⟩=>h,fun _ _ e=>qi fun _ _ _ ⟨_,_,_,h⟩=>h,fun _ _ _ e=>zc fun _ _ _ ⟨_,_,_,h⟩=>h⟩
theorem qbL (c:Const) (j:Nat) (pos:Pos):PE X (.Constant c j pos) (tR κ K G₀ H₀ Γ (m+1) (.Constant c j pos)):=by
 cases c with
 | none=>exact PE.imp qjn fun σ H Q ⟨ρ,G,er,h⟩=>h _ G H (Po.refl er) (by simp only [RvR,Rep])
 | bool b=>exact PE.imp qmi fun σ H Q ⟨ρ,G,er,h⟩=>h _ G H (Po.refl er) (by simp only [RvR,Rep])
 | int b=>exact PE.imp ZH fun σ H Q ⟨ρ,G,er,h⟩=>h _ G H (Po.refl er) (by simp only [RvR,Rep])
 | str b=>exact PE.imp qjo fun σ H Q ⟨ρ,G,er,h⟩=>h _ G H (Po.refl er) (by simp only [RvR,Rep])
 | _=>show 2
theorem qfB (A:All κ K k X Γ m) (a b:Expr) (op:Operator) (pos:Pos):PE X (.BinOp a op b pos) (tR κ K G₀ H₀ Γ (m+1) (.BinOp a op b pos)):=by refine PE.imp (qmt (qkg (κ:=κ) (K:=K) (G₀:=G₀) (H₀:=H₀) op) (A.r G₀ H₀ a) (A.r G₀ H₀ b)) fun σ H Q hq1=>?_;obtain ⟨ρ,G,er,h⟩:=hq1;refine ⟨ρ,G,er,Wk.mono (Wk.th (x:=evR m Γ a ρ) h) fun x h v G1 H1 p1 r1=>⟨x.2,G1,p1.er,Wk.mono (Wk.th h) fun y h w G2 H2 p2 r2=>?_⟩⟩;exact ⟨y.2,σ,G2,H,H1,x.1,y.1,p2.er,r1.keep p2,r2,Wk.mono (Wk.th h) fun z h u G3 H3 p3 r3=>h u G3 H3 (p1.trans (p2.trans p3)) (r3.back (p1.trans p2).hs)⟩
theorem qkp (A:All κ K k X Γ m) (a:Expr) (pos:Pos):PE X (.UnaryOp .USub a pos) (tR κ K G₀ H₀ Γ (m+1) (.UnaryOp .USub a pos)):=by
 refine PE.imp (qmu qjE (A.r G₀ H₀ a)) fun σ H Q hq1=>?_;show 0;refine ⟨ρ,G,er,Wk.mono (Wk.th (x:=evR m Γ a ρ) h) fun x h v G1 H1 p1 r1=>?_⟩;obtain ⟨rv,ρ1⟩:=x
 cases rv with
 | val d=>
  cases d with
  | int i=>exact ⟨i,by simpa only [RvR,Rep] using r1,h _ G1 H1 p1 (by simp only [RvR,Rep])⟩
  | _=>show 4
 | _=>show 4
theorem qhX (A:All κ K k X Γ m) (a:Expr) (pos:Pos):PE X (.UnaryOp .Not a pos) (tR κ K G₀ H₀ Γ (m+1) (.UnaryOp .Not a pos)):=by
 refine PE.imp (qjs (A.r G₀ H₀ a)) fun σ H Q hq1=>?_;show 0;refine ⟨ρ,G,er,Wk.mono (Wk.th (x:=evR m Γ a ρ) h) fun x h v G1 H1 p1 r1=>?_⟩;obtain ⟨rv,ρ1⟩:=x
 cases rv with
 | val d=>
  cases d with
  | bl i=>exact ⟨i,by simpa only [RvR,Rep] using r1,h _ G1 H1 p1 (by simp only [RvR,Rep])⟩
  | _=>show 4
 | _=>show 4
theorem qhY (gd:Gd κ K k X Γ) (A:All κ K k X Γ m) (a b:Expr) (op:CmpOp) (pos:Pos):PE X (.Compare a [op] [b] pos) (tR κ K G₀ H₀ Γ (m+1) (.Compare a [op] [b] pos)):=by
 by_cases hm:behindInMarks op b=true
 ·show 5;have h:=Wk.th (x:=evR m Γ a ρ) h
  cases e1:evR m Γ a ρ with
  | ok x=>
   rw [e1] at h;have h:=Wk.th (x:=evR m Γ b x.2) h
   cases e2:evR m Γ b x.2 with
   | ok y=>rw [e2] at h;exact (Wk.nif h).1 hm
   | exc c l=>rw [e2] at h;exact h
   | no=>rw [e2] at h;exact h
  | exc c l=>rw [e1] at h;exact h
  | no=>rw [e1] at h;exact h
 refine PE.imp (qht (qgM (G₀:=G₀) (H₀:=H₀) gd op) (A.r G₀ H₀ a) (A.r G₀ H₀ b) (Bool.eq_false_iff.mpr hm)) fun σ H Q hq1=>?_;show 0;refine ⟨ρ,G,er,Wk.mono (Wk.th (x:=evR m Γ a ρ) h) fun x h v G1 H1 p1 r1=>⟨x.2,G1,p1.er,Wk.mono (Wk.th (x:=evR m Γ b x.2) h) fun y h w G2 H2 p2 r2=>?_⟩⟩;obtain ⟨c,e,h⟩:=Wk.of (Wk.th (Wk.nif h).2);exact ⟨y.2,σ,G2,H,H1,x.1,y.1,c,p2.er,r1.keep p2,r2,e,h _ G2 H2 (p1.trans p2) (by simp only [RvR,Rep])⟩
theorem qfC (gd:Gd κ K k X Γ) (A:All κ K k X Γ m) (a b:Expr) (op:CmpOp) (pos:Pos) (he:∀ ρ,evT (m+1) Γ (.Compare a [op] [b] pos) ρ=(evR m Γ a ρ).th fun x=>(evR m Γ b x.2).th fun y=>if behindInMarks op b then .no else (R.of (JX op x.1 y.1)).th fun r=>.ok (r,y.2)):PT X (.Compare a [op] [b] pos) (tT κ K G₀ H₀ Γ (m+1) (.Compare a [op] [b] pos)):=by
 by_cases hm:behindInMarks op b=true
 ·refine j8 fun σ H Q hq1=>?_;show 0;rw [he] at h;have h:=Wk.th (x:=evR m Γ a ρ) h
  cases e1:evR m Γ a ρ with
  | ok x=>
   rw [e1] at h;have h:=Wk.th (x:=evR m Γ b x.2) h
   cases e2:evR m Γ b x.2 with
   | ok y=>rw [e2] at h;exact (Wk.nif h).1 hm
   | exc c l=>rw [e2] at h;exact h
   | no=>rw [e2] at h;exact h
  | exc c l=>rw [e1] at h;exact h
  | no=>rw [e1] at h;exact h
 refine PT.imp (qdh (qgM (G₀:=G₀) (H₀:=H₀) gd op) (A.r G₀ H₀ a) (A.r G₀ H₀ b) (Bool.eq_false_iff.mpr hm)) fun σ H Q hq1=>?_;show 0;rw [he] at h;refine ⟨ρ,G,er,Wk.mono (Wk.th (x:=evR m Γ a ρ) h) fun x h v G1 H1 p1 r1=>⟨x.2,G1,p1.er,Wk.mono (Wk.th (x:=evR m Γ b x.2) h) fun y h w G2 H2 p2 r2=>?_⟩⟩;obtain ⟨c,e,h⟩:=Wk.of (Wk.th (Wk.nif h).2);exact ⟨y.2,σ,G2,H,H1,x.1,y.1,c,p2.er,r1.keep p2,r2,e,c,rfl,h G2 H2 (p1.trans p2)⟩
theorem qkq {op:CmpOp} {b t:Expr} (h:irE Γ op b=some t):op=.NotIn/\∃ p q,b=.Call (.Name "range" p) [t] [] q/\glB Γ.sc "range" = true/\qj t=false:=by
 unfold irE at h
 split at h
 ·split at h
  ·rename_i hc;cases h;obtain ⟨rfl,h1,h2⟩:=hc;exact ⟨rfl,_,_,rfl,h1,h2⟩
  ·cases h
 ·cases h
theorem qhZ {x y r:Rv} (h:qfu x y=.ok r):∃ i j,x.int?=some i/\y.int?=some j/\r=.val (.bl (!decide (0<=i/\i < j))):=by
 unfold qfu at h
 split at h
 ·rename_i i j e1 e2;cases h;exact ⟨i,j,e1,e2,rfl⟩
 ·cases h
theorem qh0 (gd:Gd κ K k X Γ) (A:All κ K k X Γ m) (a b:Expr) (op:CmpOp) (pos:Pos):PT X (.Compare a [op] [b] pos) (tT κ K G₀ H₀ Γ (m+1) (.Compare a [op] [b] pos)):=by
 cases hi:irE Γ op b with
 | none=>refine qfC gd A a b op pos fun ρ=>?_;show (match irE Γ op b with | some t=>_ | none=>_)=_;rw [hi]
 | some t=>
  have he:∀ ρ,evT (m+1) Γ (.Compare a [op] [b] pos) ρ=(evR m Γ a ρ).th fun x=>(evR m Γ t x.2).th fun y=>(qfu x.1 y.1).th fun r=>(R.of (truthD r)).th fun b=>.ok (b,y.2):=fun ρ=>by show (match irE Γ op b with | some t=>_ | none=>_)=_;rw [hi]
  obtain ⟨rfl,p,q,rfl,hg,s1⟩:=qkq hi;refine PT.imp (qdh qdH (A.r G₀ H₀ a) (zH qdG (gd.glo _ hg) (gd.blt _ (2:)) PyProof.Rows.boot_range (qg (A.r G₀ H₀ t) qw (qf s1)) (2:) (2:) (qf s1) rfl) rfl) fun σ H Q hq1=>?_;show 0;rw [he] at h;refine ⟨ρ,G,er,Wk.mono (Wk.th (x:=evR m Γ a ρ) h) fun x h v G1 H1 p1 r1=>⟨x.2,G1,p1.er,Wk.mono (Wk.th (x:=evR m Γ t x.2) h) fun y h w G2 H2 p2 r2=>?_⟩⟩;have h:=Wk.th (x:=qfu x.1 y.1) h
  cases e3:qfu x.1 y.1 with
  | exc c l=>rw [e3] at h;exact h.elim
  | no=>rw [e3] at h;exact h.elim
  | ok r=>
  rw [e3] at h;obtain ⟨i,j,z1,z2,rfl⟩:=qhZ e3;refine ⟨j,by rw [r2.int z2],fun d hd=>⟨i,0,j,d,(r1.keep p2).int z1,rfl,qh,_,rfl,?_⟩⟩;exact h G2 _ (p1.trans (p2.trans (Po.room p2.er (qv.upd hd))))
theorem qkr (A:All κ K k X Γ m) (a b:Expr) (l:List Expr) (pos:Pos):PE X (.BoolOp .And (a::b::l) pos) (tR κ K G₀ H₀ Γ (m+1) (.BoolOp .And (a::b::l) pos)):=by
 refine PE.imp (qjr (A.r G₀ H₀ a) (A.r G₀ H₀ (.BoolOp .And (b::l) pos))) fun σ H Q hq1=>?_;show 0;refine ⟨ρ,G,er,Wk.mono (Wk.th (x:=evR m Γ a ρ) h) fun x h v G1 H1 p1 r1=>?_⟩;obtain ⟨rv,ρ1⟩:=x
 cases rv with
 | val d=>
  cases d with
  | bl c=>
   refine ⟨c,by simpa only [RvR,Rep] using r1,?_⟩
   cases c with
   | true=>rw [if_pos rfl];exact ⟨ρ1,G1,p1.er,Wk.mono h fun y h w G2 H2 p2 r2=>h w G2 H2 (p1.trans p2) (r2.back p1.hs)⟩
   | false=>rw [if_neg (fun z=>by cases z)];exact h _ G1 H1 p1 (by simp only [RvR,Rep])
  | _=>show 4
 | _=>show 4
theorem qks (A:All κ K k X Γ m) (c a b:Expr) (pos:Pos):PE X (.IfExp c a b pos) (tR κ K G₀ H₀ Γ (m+1) (.IfExp c a b pos)):=by
 refine PE.imp (qe3 (A.t G₀ H₀ c) (A.r G₀ H₀ a) (A.r G₀ H₀ b)) fun σ H Q hq1=>?_;show 0;refine ⟨ρ,G,er,Wk.mono (Wk.th (x:=evT m Γ c ρ) h) fun x h G1 H1 p1=>?_⟩;obtain ⟨d,ρ1⟩:=x
 cases d with
 | true=>rw [if_pos rfl];exact ⟨ρ1,G1,p1.er,Wk.mono h fun y h w G2 H2 p2 r2=>h w G2 H2 (p1.trans p2) (r2.back p1.hs)⟩
 | false=>rw [if_neg (fun z=>by cases z)];exact ⟨ρ1,G1,p1.er,Wk.mono h fun y h w G2 H2 p2 r2=>h w G2 H2 (p1.trans p2) (r2.back p1.hs)⟩
theorem qcF {b:Expr} (h:∀ lo hi st p,b≠.Slice lo hi st p):qdo b:=fun o i=>by cases b<;>first | rfl | exact absurd rfl (h _ _ _ _)
theorem qkt (gd:Gd κ K k X Γ) (A:All κ K k X Γ m) (a b:Expr) (pos:Pos):PE X (.Subscript a b pos) (tR κ K G₀ H₀ Γ (m+1) (.Subscript a b pos)):=by
 have gen:(∀ lo hi st p,b≠.Slice lo hi st p)->(∀ ρ,evR (m+1) Γ (.Subscript a b pos) ρ=(evR m Γ a ρ).th fun x=>(evR m Γ b x.2).th fun y=>(idxD x.1 y.1).th fun r=>.ok (r,y.2))->PE X (.Subscript a b pos) (tR κ K G₀ H₀ Γ (m+1) (.Subscript a b pos)):=fun hb he=>by refine PE.imp (qmC (qkh (G₀:=G₀) (H₀:=H₀) gd) (A.r G₀ H₀ a) (A.r G₀ H₀ b) (qcF hb)) fun σ H Q hq1=>?_;show 0;rw [he] at h;refine ⟨ρ,G,er,Wk.mono (Wk.th h) fun x h v G1 H1 p1 r1=>⟨x.2,G1,p1.er,Wk.mono (Wk.th h) fun y h w G2 H2 p2 r2=>?_⟩⟩;exact ⟨y.2,σ,G2,H,H1,x.1,y.1,p2.er,r1.keep p2,r2,Wk.mono (Wk.th h) fun z h u G3 H3 p3 r3=>h u G3 H3 (p1.trans (p2.trans p3)) (r3.back (p1.trans p2).hs)⟩
 cases b with
 | Slice lo hi st p=>
  cases st with
  | some st=>show 2
  | none=>refine PE.imp (qfh (qki (G₀:=G₀) (H₀:=H₀) gd) (A.r G₀ H₀ a) (A.o G₀ H₀ lo) (A.o G₀ H₀ hi)) fun σ H Q hq1=>?_;show 0;refine ⟨ρ,G,er,Wk.mono (Wk.th (x:=evR m Γ a ρ) h) fun x h v G1 H1 p1 r1=>⟨x.2,G1,p1.er,Wk.mono (Wk.th (x:=evO m Γ lo x.2) h) fun y h G2 H2 p2=>⟨y.2,G2,p2.er,Wk.mono (Wk.th (x:=evO m Γ hi y.2) h) fun z h G3 H3 p3=>?_⟩⟩⟩;exact ⟨z.2,σ,G3,H,x.1,p3.er,(r1.keep p2).keep p3,Wk.mono (Wk.th h) fun u h w G4 H4 p4 r4=>h w G4 H4 (p1.trans (p2.trans (p3.trans p4))) (r4.back (p1.trans (p2.trans p3)).hs)⟩
 | _=>exact gen (fun _ _ _ _ z=>by cases z) fun _=>rfl
theorem qku (A:All κ K k X Γ m) (es:List Expr) (pos:Pos):PE X (.List es pos) (tR κ K G₀ H₀ Γ (m+1) (.List es pos)):=by refine PE.imp (qjJ (A.es G₀ H₀ es)) fun σ H Q hq1=>?_;obtain ⟨ρ,G,er,h⟩:=hq1;refine ⟨ρ,G,er,Wk.mono (Wk.th (x:=qgI m Γ es ρ) h) fun x h vs G1 H1 p1 r1=>?_⟩;obtain ⟨hz,h⟩:=Wk.iff h;refine ⟨by rw [<-r1.len];exact hz,fun p hp=>?_⟩;obtain ⟨z1,z2⟩:=p1.er.newList hp r1;exact h _ _ _ (p1.trans z1) (z2.back p1.hs)
theorem qkv (A:All κ K k X Γ m) (es:List Expr) (j:Nat) (pos:Pos):PE X (.Tuple es j pos) (tR κ K G₀ H₀ Γ (m+1) (.Tuple es j pos)):=by refine PE.imp (qjI (A.es G₀ H₀ es)) fun σ H Q hq1=>?_;obtain ⟨ρ,G,er,h⟩:=hq1;refine ⟨ρ,G,er,Wk.mono (Wk.th (x:=qgI m Γ es ρ) h) fun x h vs G1 H1 p1 r1=>?_⟩;obtain ⟨hz,h⟩:=Wk.iff h;refine ⟨by rw [<-r1.len];exact hz,fun p hp=>?_⟩;have z1:=Po.lay (o:=.tup vs) p1.er hp;refine h _ _ _ (p1.trans z1) ?_;simp only [RvR,Rep];exact ⟨p,vs,rfl,qh,r1.same z1.gs⟩
theorem qof (gd:Gd κ K k X Γ) (A:All κ K k X Γ m) (e:Expr):PE X e (tE κ K G₀ H₀ Γ (m+1) e):=by
 have gen:(∀ ρ,evE (m+1) Γ e ρ=(evR m Γ e ρ).th fun x=>match x.1 with
   | .val d=>.ok (d,x.2)
   | .tmp l=>.ok (.lst l,x.2)
   | _=>.no)->PE X e (tE κ K G₀ H₀ Γ (m+1) e):=fun he=>by
  refine PE.imp (A.r G₀ H₀ e) fun σ H Q hq1=>?_;show 0;rw [he] at h;refine ⟨ρ,G,er,Wk.mono (Wk.th h) fun x h v G1 H1 p1 r1=>?_⟩;obtain ⟨rv,ρ1⟩:=x
  cases rv with
  | val d=>exact h v G1 H1 p1 r1
  | tmp l=>obtain ⟨a,xs,rfl,h1,h2,h3,h4,h5,h6⟩:=r1;have p2:=p1.freeze h1 h2 h3 h4 h5;refine h _ _ H1 p2 ?_;simp only [Rep];exact ⟨a,xs,rfl,qh,h6.same (qv.upd h4)⟩
  | cell l=>show 4
  | scr l=>show 4
 cases e with
 | Name x pos=>exact qfw gd m x pos
 | _=>exact gen fun _=>rfl
theorem qmP (A:All κ K k X Γ m):∀ es,PA X es (tEs κ K G₀ H₀ Γ (m+1) es)
 | []=>PA.imp qw fun σ H Q ⟨ρ,G,er,h⟩=>h [] G H (Po.refl er) .nil
 | e::l=>by
  by_cases hs:qj e=true
  ·exact Q9 fun σ H Q ⟨ρ,G,er,h⟩=>(Wk.nif (c:=qj e=true) h).1 hs
  refine PA.imp (qg (A.e G₀ H₀ e) (A.es G₀ H₀ l) (qf (Bool.eq_false_iff.mpr hs))) fun σ H Q hq1=>?_;show 0;have h:=(Wk.nif (c:=qj e=true) h).2;refine ⟨ρ,G,er,Wk.mono (Wk.th h) fun x h v G1 H1 p1 r1=>⟨x.2,G1,p1.er,Wk.mono (Wk.th h) fun y h vs G2 H2 p2 r2=>?_⟩⟩;exact h _ G2 H2 (p1.trans p2) (.cons (r1.same p2.gs) r2)
theorem qmQ (A:All κ K k X Γ m):∀ es,PA X es (tAs κ K G₀ H₀ Γ (m+1) es)
 | []=>PA.imp qw fun σ H Q ⟨ρ,G,er,h⟩=>h [] G H (Po.refl er) rfl
 | e::l=>by
  by_cases hs:qj e=true
  ·exact Q9 fun σ H Q ⟨ρ,G,er,h⟩=>(Wk.nif (c:=qj e=true) h).1 hs
  refine PA.imp (qg (A.r G₀ H₀ e) (A.as G₀ H₀ l) (qf (Bool.eq_false_iff.mpr hs))) fun σ H Q hq1=>?_;show 0;have h:=(Wk.nif (c:=qj e=true) h).2;refine ⟨ρ,G,er,Wk.mono (Wk.th h) fun x h v G1 H1 p1 r1=>?_⟩;obtain ⟨rv,ρ1⟩:=x
  cases rv with
  | val d=>exact ⟨ρ1,G1,p1.er,Wk.mono (Wk.th h) fun y h vs G2 H2 p2 r2=>h _ G2 H2 (p1.trans p2) ⟨v,vs,rfl,Rep.same p2.gs r1,r2⟩⟩
  | tmp ds=>obtain ⟨a,xs,rfl,h1,h2,h3,h4,h5,h6⟩:=r1;have p1':=p1.freeze h1 h2 h3 h4 h5;refine ⟨ρ1,_,p1'.er,Wk.mono (Wk.th h) fun y h vs G2 H2 p2 r2=>h _ G2 H2 (p1'.trans p2) ⟨_,vs,rfl,?_,r2⟩⟩;show Rep κ G2 (.lst ds) (.ref a);simp only [Rep];exact ⟨a,xs,rfl,p2.gs _ _ qh,(h6.same (qv.upd h4)).same p2.gs⟩
  | cell ds=>obtain ⟨a,xs,rfl,h1,h6⟩:=r1;exact ⟨ρ1,G1,p1.er,Wk.mono (Wk.th h) fun y h vs G2 H2 p2 r2=>h _ G2 H2 (p1.trans p2) ⟨_,vs,rfl,⟨a,xs,rfl,p2.hs _ _ h1,h6.same p2.gs⟩,r2⟩⟩
  | scr ds=>obtain ⟨a,xs,rfl,h1,h6⟩:=r1;exact ⟨ρ1,G1,p1.er,Wk.mono (Wk.th h) fun y h vs G2 H2 p2 r2=>h _ G2 H2 (p1.trans p2) ⟨_,vs,rfl,⟨a,xs,rfl,p2.hs.seq h1,h6.same p2.gs⟩,r2⟩⟩
theorem qog (A:All κ K k X Γ m):∀ o,PO X o (tO κ K G₀ H₀ Γ (m+1) o)
 | none=>PO.imp qhB fun σ H Q ⟨ρ,G,er,h⟩=>h G H (Po.refl er)
 | some e=>by
  refine PO.imp (qhC (A.r G₀ H₀ e)) fun σ H Q hq1=>?_;show 0;refine ⟨ρ,G,er,Wk.mono (Wk.th (x:=evR m Γ e ρ) h) fun x h v G1 H1 p1 r1=>?_⟩;obtain ⟨rv,ρ1⟩:=x
  cases rv with
  | val d=>
   cases d with
   | int i=>exact ⟨i,by simpa only [RvR,Rep] using r1,h G1 H1 p1⟩
   | _=>show 4
  | _=>show 4
theorem qoh (A:All κ K k X Γ m):∀ es,PIf X es (tF κ K G₀ H₀ Γ (m+1) es)
 | []=>PIf.imp qhI fun σ H Q ⟨ρ,G,er,h⟩=>h G H (Po.refl er)
 | [c]=>PIf.imp (qhJ (A.t G₀ H₀ c)) fun σ H Q h=>h
 | _::_::_=>qbG fun σ H Q h=>Exists.elim h fun _ h=>Exists.elim h fun _ h=>h.2
noncomputable def qgO:Expr->Bool
 | .UnaryOp .Not _ _=>false
 | .BoolOp ..=>false
 | .IfExp ..=>false
 | .Compare ..=>false
 | _=>true
theorem qdQ {e:Expr} (h:qgO e=true) (env:PySem.Env):∀ whole,isTrue e env whole=(do let v<-whole;standAt e.pos;holding [v] (truthy v)):=by
 intro whole
 cases e with
 | UnaryOp op a pos=>cases op<;>first | rfl | cases h
 | BoolOp=>cases h
 | IfExp=>cases h
 | Compare=>cases h
 | _=>rfl
theorem qoi (gd:Gd κ K k X Γ) (A:All κ K k X Γ m) (e:Expr):PT X e (tT κ K G₀ H₀ Γ (m+1) e):=by
 have gen:qgO e=true->(∀ ρ,evT (m+1) Γ e ρ=(evR m Γ e ρ).th fun x=>(R.of (truthD x.1)).th fun b=>.ok (b,x.2))->PT X e (tT κ K G₀ H₀ Γ (m+1) e):=fun hp he=>by refine PT.imp (qe7 (A.r G₀ H₀ e) (qdQ hp X.env)) fun σ H Q hq1=>?_;show 0;rw [he] at h;refine ⟨ρ,G,er,Wk.mono (Wk.th h) fun x h v G1 H1 p1 r1=>?_⟩;obtain ⟨b,e1,h⟩:=Wk.of (Wk.th h);exact ⟨b,qfA gd p1.er r1 e1,h G1 H1 p1⟩
 cases e with
 | UnaryOp op a pos=>
  cases op with
  | Not=>refine PT.imp (Qp (A.t G₀ H₀ a)) fun σ H Q hq1=>?_;show 0;exact ⟨ρ,G,er,Wk.mono (Wk.th (x:=evT m Γ a ρ) h) fun x h G1 H1 p1=>h G1 H1 p1⟩
  | _=>exact gen rfl fun _=>rfl
 | BoolOp op vs pos=>
  cases vs with
  | nil=>exact j8 fun σ H Q ⟨ρ,G,er,h⟩=>by cases op<;>exact h
  | cons a vs=>
   cases vs with
   | nil=>
    cases op with
    | And=>exact PT.imp (PW.pt (qhm (A.t G₀ H₀ a))) fun σ H Q h=>h
    | Or=>exact PT.imp (PW.pt (qjp (A.t G₀ H₀ a))) fun σ H Q h=>h
   | cons b l=>
    cases op with
    | And=>
     intro pins s σ H Q I hw;obtain ⟨ρ,G,er,h⟩:=hw;refine isTrue_and (thn (A.t G₀ H₀ a pins s σ H (fun c H1=>if c=true then tT κ K G₀ H₀ Γ m (.BoolOp .And (b::l) pos) σ H1 Q else Q false H1) I ?_) fun c s1 ⟨H1,I1,q1⟩=>?_)
     ·refine ⟨ρ,G,er,Wk.mono (Wk.th (x:=evT m Γ a ρ) h) fun x h G1 H1 p1=>?_⟩;obtain ⟨d,ρ1⟩:=x
      cases d with
      | true=>rw [if_pos rfl];exact ⟨ρ1,G1,p1.er,Wk.mono h fun y h G2 H2 p2=>h G2 H2 (p1.trans p2)⟩
      | false=>rw [if_neg (fun z=>by cases z)];exact h G1 H1 p1
     ·cases c with
      | true=>exact A.t G₀ H₀ (.BoolOp .And (b::l) pos) pins s1 σ H1 Q I1 q1
      | false=>exact ⟨H1,I1,q1⟩
    | Or=>
     intro pins s σ H Q I hw;obtain ⟨ρ,G,er,h⟩:=hw;refine isTrue_or (thn (A.t G₀ H₀ a pins s σ H (fun c H1=>if c=true then Q true H1 else tT κ K G₀ H₀ Γ m (.BoolOp .Or (b::l) pos) σ H1 Q) I ?_) fun c s1 ⟨H1,I1,q1⟩=>?_)
     ·refine ⟨ρ,G,er,Wk.mono (Wk.th (x:=evT m Γ a ρ) h) fun x h G1 H1 p1=>?_⟩;obtain ⟨d,ρ1⟩:=x
      cases d with
      | false=>rw [if_neg (fun z=>by cases z)];exact ⟨ρ1,G1,p1.er,Wk.mono h fun y h G2 H2 p2=>h G2 H2 (p1.trans p2)⟩
      | true=>rw [if_pos rfl];exact h G1 H1 p1
     ·cases c with
      | true=>exact ⟨H1,I1,q1⟩
      | false=>exact A.t G₀ H₀ (.BoolOp .Or (b::l) pos) pins s1 σ H1 Q I1 q1
 | IfExp c a b pos=>exact j8 fun σ H Q h=>Exists.elim h fun _ h=>Exists.elim h fun _ h=>h.2
 | Compare a ops bs pos=>
  cases ops with
  | nil=>exact j8 fun σ H Q h=>Exists.elim h fun _ h=>Exists.elim h fun _ h=>h.2
  | cons op ops=>
   cases ops with
   | nil=>
    cases bs with
    | nil=>exact j8 fun σ H Q h=>Exists.elim h fun _ h=>Exists.elim h fun _ h=>h.2
    | cons b bs=>
     cases bs with
     | nil=>exact qh0 gd A a b op pos
     | cons c bs=>exact j8 fun σ H Q h=>Exists.elim h fun _ h=>Exists.elim h fun _ h=>h.2
   | cons op' ops=>exact j8 fun σ H Q h=>Exists.elim h fun _ h=>Exists.elim h fun _ h=>h.2
 | _=>exact gen rfl fun _=>rfl
end
end DE
namespace DE
open PySem PySem.Spec PyProof.Rows L2
section
variable {κ:KC} {K:Frag} {G₀ H₀:Hp} {k m:Nat} {X:Cx} {Γ:Ct}
theorem qkw {tg l:Expr} {tl:TE} (hl:PE X l tl):PI X tg l (fun σ H R=>tl σ H fun x H1=>(∃ a,x=.ref a/\(((∃ xs,SqL X.K H1 a xs)/\R (Itl X.K a) H1)\/((∃ xs,SqT X.K H1 a xs)/\R (Itt X.K a) H1)))\/∃ z,x=.str z/\R (Its z) H1):=by
 intro pins s σ H R I h;refine thn (hl pins s σ H _ I h) fun v s1 hq1=>?_;obtain ⟨x,H1,I1,r1,q1⟩:=hq1;rcases q1 with ⟨a,e,q⟩ | ⟨x,rfl,q⟩
 ·subst e;cases r1;rcases q with ⟨⟨xs,hq⟩,q⟩ | ⟨⟨xs,hq⟩,q⟩
  ·obtain ⟨its,rv,p,hz⟩:=I1.list hq;refine wpAny_pyIter_list p.isList ?_;refine ⟨s1.heap.objs.size,[s1.heap.objs.size],_,_,H1,rfl,I1.kept (t':=s1.toks) fun b o e=>Heap.get?_push_of_some _ e,qdc a _,⟨_,Heap.get?_push_size _ rfl,rfl,rfl⟩,fun b hb=>?_,q⟩;have e:b=s1.heap.objs.size:=by simpa using hb
   subst e;exact I1.fpOk (Nat.le_refl _) (I1.hok.fresh (Nat.le_refl _))
  ·obtain ⟨its,rv,p,hz⟩:=I1.tuple hq;refine wpAny_pyIter_tuple (show s1.heap.IsTuple a its.toArray from p) ?_;refine ⟨s1.heap.objs.size,[s1.heap.objs.size],_,_,H1,rfl,I1.kept (t':=s1.toks) fun b o e=>Heap.get?_push_of_some _ e,qcm a _,⟨_,Heap.get?_push_size _ rfl,rfl,rfl⟩,fun b hb=>?_,q⟩;have e:b=s1.heap.objs.size:=by simpa using hb
   subst e;exact I1.fpOk (Nat.le_refl _) (I1.hok.fresh (Nat.le_refl _))
 ·obtain ⟨t,rfl⟩:=r1
  have fin:∀ (T:String) (o:Obj),(T = "str_ascii_iterator"\/T = "str_iterator")->(∀ A':Around,A'.handled=none->Walks X.prog X.w A' s1.heap.objs.size [s1.heap.objs.size] [s1.heap.objs.size] x.cps.size (SignAt x) (fun i h=>h.IsStrIter s1.heap.objs.size T x t i))->
    (s1.heap.push o).IsStrIter s1.heap.objs.size T x t 0->PIE X pins σ tg R (.ref s1.heap.objs.size) { s1 with heap:=s1.heap.push o }:=fun T o hT W st=>by
   refine ⟨s1.heap.objs.size,[s1.heap.objs.size],_,_,H1,rfl,I1.kept (t':=s1.toks) fun b o e=>Heap.get?_push_of_some _ e,qfr hT W,st,fun b hb=>?_,q⟩;have e:b=s1.heap.objs.size:=by simpa using hb
   subst e;exact I1.fpOk (Nat.le_refl _) (I1.hok.fresh (Nat.le_refl _))
  cases ha:x.cps.all (· < 128)
  ·exact wpAny_pyIter_wide ha (fin _ _ (.inr rfl) (fun A' hA=>Walks.strWide hA _ x t) ⟨_,Heap.get?_push_size _ rfl,rfl,rfl⟩)
  ·exact wpAny_pyIter_ascii ha (fin _ _ (.inl rfl) (fun A' hA=>Walks.strAscii hA _ x t) ⟨_,Heap.get?_push_size _ rfl,rfl,rfl⟩)
theorem qfD (gd:Gd κ K k X Γ) (m:Nat) (x:Str) (pos:Pos):PE X (.Name x pos) (tL κ K G₀ H₀ Γ (m+1) (.Name x pos)):=by
 by_cases hok:qm x=true
 case neg=>show 5;have h:Wk (YF Γ x ρ) _:=h;unfold YF at h;exact hok (Wk.iff h).1
 obtain ⟨n1,n2,n3⟩:=zi hok
 cases hi:qY Γ.N x with
 | none=>show 5;have h:Wk (YF Γ x ρ) _:=h;unfold YF at h;rw [if_pos hok,hi] at h;exact h
 | some i=>
  by_cases hv:Q6 Γ.sc x=true
  case neg=>show 5;have h:Wk (YF Γ x ρ) _:=h;unfold YF at h;rw [if_pos hok,hi] at h;exact hv (Wk.iff h).1
  have hx:=gd.vis x hv;refine PE.imp (Qo (i:=i) (by rw [gd.hN];exact j9 hi) hx n1 n2) fun σ H Q hq1=>?_;show 0;have h:Wk (YF Γ x ρ) _:=h;unfold YF at h;rw [if_pos hok,hi] at h;have h:=(Wk.iff h).2
  cases q:ρ[i]? with
  | none=>rw [q] at h;show 4
  | some s=>
   rw [q] at h;have w:=er.sl i s q
   cases s with
   | no=>show 4
   | val d=>
    obtain ⟨v,z,r⟩:=w
    cases d with
    | lst l=>simp only [Rep] at r;obtain ⟨a,xs,rfl,r1,r2⟩:=r;exact ⟨_,z,h _ G H (Po.refl er) ⟨a,xs,rfl,r2,.inl r1⟩⟩
    | str y=>simp only [Rep] at r;subst r;exact ⟨_,z,h _ G H (Po.refl er) ⟨y,rfl,rfl⟩⟩
    | tup l=>simp only [Rep] at r;obtain ⟨a,xs,rfl,r1,r2⟩:=r;exact ⟨_,z,h _ G H (Po.refl er) ⟨a,xs,rfl,r2,r1⟩⟩
    | _=>show 4
   | own l=>obtain ⟨a,xs,z,p,r⟩:=er.froze q;simp only [Rep] at r;obtain ⟨a',xs',e,r1,r2⟩:=r;cases e;exact ⟨_,z,h _ _ H p ⟨a,xs',rfl,r2,.inl r1⟩⟩
   | bor l=>obtain ⟨a,xs,z,r1,r4⟩:=w;exact ⟨_,z,h _ G H (Po.refl er) ⟨a,xs,rfl,r4,.inr (SqL.of r1)⟩⟩
   | scr l=>obtain ⟨a,xs,z,r1,r4⟩:=w;exact ⟨_,z,h _ G H (Po.refl er) ⟨a,xs,rfl,r4,.inr r1⟩⟩
theorem qoj (gd:Gd κ K k X Γ) (A:All κ K k X Γ m) (e:Expr):PE X e (tL κ K G₀ H₀ Γ (m+1) e):=by
 have gen:(∀ ρ,evL (m+1) Γ e ρ=(evR m Γ e ρ).th fun x=>match x.1 with
   | .val (.lst l)=>.ok ((.lst,l),x.2)
   | .val (.tup l)=>.ok ((.tup,l),x.2)
   | .val (.str z)=>.ok ((.str,qaV z),x.2)
   | .tmp l=>.ok ((.lst,l),x.2)
   | _=>.no)->PE X e (tL κ K G₀ H₀ Γ (m+1) e):=fun he=>by
  refine PE.imp (A.r G₀ H₀ e) fun σ H Q hq1=>?_;show 0;rw [he] at h;refine ⟨ρ,G,er,Wk.mono (Wk.th h) fun x h v G1 H1 p1 r1=>?_⟩;obtain ⟨rv,ρ1⟩:=x
  cases rv with
  | val d=>
   cases d with
   | lst l=>simp only [RvR,Rep] at r1;obtain ⟨a,xs,rfl,q1,q2⟩:=r1;exact h _ G1 H1 p1 ⟨a,xs,rfl,q2,.inl q1⟩
   | str y=>simp only [RvR,Rep] at r1;subst r1;exact h _ G1 H1 p1 ⟨y,rfl,rfl⟩
   | tup l=>simp only [RvR,Rep] at r1;obtain ⟨a,xs,rfl,q1,q2⟩:=r1;exact h _ G1 H1 p1 ⟨a,xs,rfl,q2,q1⟩
   | _=>show 4
  | tmp l=>obtain ⟨a,xs,rfl,h1,h2,h3,h4,h5,h6⟩:=r1;exact h _ _ H1 (p1.freeze h1 h2 h3 h4 h5) ⟨a,xs,rfl,h6.same (qv.upd h4),.inl qh⟩
  | cell l=>show 4
  | scr l=>show 4
 cases e with
 | Name x pos=>exact qfD gd m x pos
 | _=>exact gen fun _=>rfl
theorem qkx {G:Hp} {a:Addr} {xs:List V} {l:List D} (h:G a=some (.lst xs)\/SqL K H₀ a xs) (r:qr κ G l xs):ItR κ H₀ G (Itl K a) l:=by
 intro i G1 H1 s1 s2 s3;have hq:SqL K H1 a xs:=h.elim (fun z=>SqL.of (s3 _ _ (s1 _ _ z))) fun z=>s2.seq z;refine ⟨fun d e=>?_,fun e=>⟨xs,hq,by rw [<-r.len];omega⟩⟩;obtain ⟨v,e1,e2⟩:=r.atD e;refine ⟨⟨xs,v,hq,e1⟩,fun x H' ⟨z1,z2⟩=>⟨G1,by rw [z1];exact fun _ _ q=>q,fun _ _ q=>q,by rw [z1];exact s3,fun _ o q=>.inl ⟨o,q⟩,?_⟩⟩
 have:=z2 xs hq
 rw [e1] at this;cases this;exact e2.same s1
theorem qky {G:Hp} {a:Addr} {xs:List V} {l:List D} (h:G a=some (.lst xs)\/SqL K H₀ a xs) (r:qr κ G l xs):ItR κ H₀ G (Itv K a xs) l.reverse:=by
 intro i G1 H1 s1 s2 s3;have hq:SqL K H1 a xs:=h.elim (fun z=>SqL.of (s3 _ _ (s1 _ _ z))) fun z=>s2.seq z;have hl:=r.len;refine ⟨fun d e=>?_,fun e=>⟨hq,by simp at e;omega⟩⟩;have hi:i < l.length:=by simpa using (List.getElem?_eq_some_iff.mp e).1
 rw [List.getElem?_reverse hi] at e;obtain ⟨v,e1,e2⟩:=r.atD e;refine ⟨⟨hq,by omega⟩,fun x H' ⟨z1,z2⟩=>⟨G1,by rw [z1];exact fun _ _ q=>q,fun _ _ q=>q,by rw [z1];exact s3,fun _ o q=>.inl ⟨o,q⟩,?_⟩⟩;rw [<-hl,e1] at z2;cases z2;exact e2.same s1
theorem qkz {G:Hp} {a:Addr} {xs:List V} {l:List D} (h:G a=some (.tup xs)) (r:qr κ G l xs):ItR κ H₀ G (Itt K a) l:=by
 intro i G1 H1 s1 s2 s3;have hq:SqT K H1 a xs:=SqT.of (s3 _ _ (s1 _ _ h));refine ⟨fun d e=>?_,fun e=>⟨xs,hq,by rw [<-r.len];omega⟩⟩;obtain ⟨v,e1,e2⟩:=r.atD e;refine ⟨⟨xs,v,hq,e1⟩,fun x H' ⟨z1,z2⟩=>⟨G1,by rw [z1];exact fun _ _ q=>q,fun _ _ q=>q,by rw [z1];exact s3,fun _ o q=>.inl ⟨o,q⟩,?_⟩⟩
 have:=z2 xs hq
 rw [e1] at this;cases this;exact e2.same s1
theorem qkA {G:Hp} {x:Str}:ItR κ H₀ G (Its x) (qaV x):=by
 intro i G1 H1 s1 s2 s3;have hl:(qaV x).length=x.cps.size:=by simp [qaV]
 refine ⟨fun d e=>?_,fun e=>by rw [<-e,hl];rfl⟩;unfold qaV at e;rw [List.getElem?_map] at e;obtain ⟨c,e1,rfl⟩:=Option.map_eq_some_iff.mp e;rw [Array.getElem?_toList] at e1;refine ⟨(Array.getElem?_eq_some_iff.mp e1).1,fun v H' ⟨z1,c',z2,z3⟩=>⟨G1,by rw [z1];exact fun _ _ q=>q,fun _ _ q=>q,by rw [z1];exact s3,fun _ o q=>.inl ⟨o,q⟩,?_⟩⟩;rw [e1] at z2;cases z2;rw [z3];simp only [Rep]
theorem qgP {G:Hp} {lo hi:Int}:ItR κ H₀ G (Itr lo (hi - lo).toNat) (zI lo hi):=by
 intro i G1 H1 s1 s2 s3;refine ⟨fun d e=>?_,fun e=>?_⟩
 ·unfold zI at e;rw [List.getElem?_map] at e;obtain ⟨j,e1,rfl⟩:=Option.map_eq_some_iff.mp e;obtain ⟨h1,h2⟩:=List.getElem?_eq_some_iff.mp e1;have hi':i < (hi - lo).toNat:=by simpa using h1
  have hj:j=i:=by rw [<-h2];simp
  subst hj;refine ⟨hi',fun x H' ⟨z1,z2⟩=>⟨G1,by rw [z1];exact fun _ _ q=>q,fun _ _ q=>q,by rw [z1];exact s3,fun _ o q=>.inl ⟨o,q⟩,?_⟩⟩;rw [z2];simp only [Rep]
 ·have hl:(zI lo hi).length=(hi - lo).toNat:=by simp only [zI,List.length_map,List.length_range]
  show (hi - lo).toNat<=i;omega
theorem qdR {G H:Hp} {T:Addr} {x y:V} {d e:D} (sub:qv G H) (hT:H T=none) (hx:Rep κ G d x) (hy:Rep κ G e y) :
  ∃ G',qv H (upd H T (.tup [x,y]))/\qv G G'/\qv G' (upd H T (.tup [x,y]))/\(∀ a o,G' a=some o->(∃ o',G a=some o')\/H a=none)/\Rep κ G' (.tup [d,e]) (.ref T):=by
 have gT:G T=none:=qv.none sub hT;have gs:qv G (upd G T (.tup [x,y])):=qv.upd gT;refine ⟨upd G T (.tup [x,y]),qv.upd hT,gs,fun b u q=>?_,fun b u q=>?_,?_⟩
 ·by_cases hb:b=T
  ·subst hb;rw [qh] at q ⊢;exact q
  ·rw [qe hb] at q ⊢;exact sub b u q
 ·by_cases hb:b=T
  ·subst hb;exact .inr hT
  ·rw [qe hb] at q;exact .inl ⟨u,q⟩
 ·simp only [Rep];exact ⟨T,_,rfl,qh,.cons (hx.same gs) %[hy.same gs|0]⟩
theorem qkB {G:Hp} {a:Addr} {xs:List V} {l:List D} (h:G a=some (.lst xs)\/SqL K H₀ a xs) (r:qr κ G l xs):ItR κ H₀ G (Ite K a) (Yg l):=by
 intro i G1 H1 s1 s2 s3;have hq:SqL K H1 a xs:=h.elim (fun z=>SqL.of (s3 _ _ (s1 _ _ z))) fun z=>s2.seq z;have hlen:(Yg l).length=l.length:=by simp [Yg]
 refine ⟨fun d e=>?_,fun e=>⟨xs,hq,by rw [<-r.len];omega⟩⟩;have hi:i < l.length:=by rw [<-hlen];exact (List.getElem?_eq_some_iff.mp e).1
 have e0:(Yg l)[i]?=some (.tup [.int i,l[i]]):=by unfold Yg;rw [List.getElem?_zipWith];simp [hi]
 rw [e0] at e;cases e;obtain ⟨v,e1,e2⟩:=r.atD (List.getElem?_eq_getElem hi);refine ⟨⟨xs,v,hq,e1⟩,fun x H' z=>?_⟩;obtain ⟨T,x',rfl,hT,rfl,z2⟩:=z
 have:=z2 xs hq
 rw [e1] at this;cases this;exact qdR s3 hT (by simp only [Rep]) (e2.same s1)
theorem qkC {G:Hp} {a b:Addr} {xs ys:List V} {l n:List D} (h:G a=some (.lst xs)\/SqL K H₀ a xs) (r:qr κ G l xs) (h':G b=some (.lst ys)\/SqL K H₀ b ys) (r':qr κ G n ys):ItR κ H₀ G (Itz K a b) (qbF l n):=by
 intro i G1 H1 s1 s2 s3;have hq:SqL K H1 a xs:=h.elim (fun z=>SqL.of (s3 _ _ (s1 _ _ z))) fun z=>s2.seq z;have hq':SqL K H1 b ys:=h'.elim (fun z=>SqL.of (s3 _ _ (s1 _ _ z))) fun z=>s2.seq z;have hlen:(qbF l n).length=min l.length n.length:=by simp [qbF]
 have l1:=r.len;have l2:=r'.len;refine ⟨fun d e=>?_,fun e=>⟨xs,ys,hq,hq',by omega⟩⟩;have hi:i < min l.length n.length:=by rw [<-hlen];exact (List.getElem?_eq_some_iff.mp e).1
 have i1:i < l.length:=by omega
 have i2:i < n.length:=by omega
 have e0:(qbF l n)[i]?=some (.tup [l[i],n[i]]):=by unfold qbF;rw [List.getElem?_zipWith];simp [i1,i2]
 rw [e0] at e;cases e;obtain ⟨v,e1,e2⟩:=r.atD (List.getElem?_eq_getElem i1);obtain ⟨w,e3,e4⟩:=r'.atD (List.getElem?_eq_getElem i2);refine ⟨⟨xs,ys,v,w,hq,hq',e1,e3⟩,fun x H' z=>?_⟩;obtain ⟨T,x',y',rfl,hT,rfl,z2⟩:=z;obtain ⟨z3,z4⟩:=z2 xs ys hq hq';rw [e1] at z3;rw [e3] at z4;cases z3;cases z4;exact qdR s3 hT (e2.same s1) (e4.same s1)
theorem YH {i:Int} (h:qO i=true):-(2 ^ 62)<=i/\i < 2 ^ 62:=by
 unfold qO at h
 simpa [Bool.and_eq_true] using h
theorem qfE (gd:Gd κ K k X Γ) (A:All κ K k X Γ m) (tg e:Expr) (he:∀ ρ,evI (m+1) Γ (qad tg) e ρ=(evL m Γ e ρ).th fun x=>.ok (x.1.2,x.2)):PI X tg e (tI κ K G₀ H₀ Γ (m+1) (qad tg) e):=by
 refine PI.imp (qkw (A.l G₀ H₀ e)) fun σ H Q hq1=>?_;show 0;rw [he] at h;refine ⟨ρ,G,er,Wk.mono (Wk.th h) fun x h v G1 H1 p1 r1=>?_⟩;obtain ⟨⟨b,l⟩,ρ1⟩:=x
 cases b with
 | str=>obtain ⟨y,rfl,rfl⟩:=r1;exact .inr ⟨y,rfl,h _ G1 H1 p1 qkA⟩
 | tup=>obtain ⟨a,xs,rfl,r2,r3⟩:=r1;exact .inl ⟨a,rfl,.inr ⟨⟨xs,SqT.of (p1.er.sub _ _ r3)⟩,h _ G1 H1 p1 (by rw [gd.hK];exact qkz r3 r2)⟩⟩
 | lst=>obtain ⟨a,xs,rfl,r2,r3⟩:=r1;refine .inl ⟨a,rfl,.inl ⟨⟨xs,?_⟩,h _ G1 H1 p1 (by rw [gd.hK];exact qkx r3 r2)⟩⟩;rw [gd.hK];exact r3.elim (fun z=>SqL.of (p1.er.sub _ _ z)) fun z=>p1.er.base.seq z
theorem qbM {a b:Expr} {env:PySem.Env} (h1:qj a=false) (h2:qj b=false):starEach [a,b] env=[(false,eval a env),(false,eval b env)]:=by rw [qf h1,qf h2];rfl
theorem qh1 (gd:Gd κ K k X Γ) (A:All κ K k X Γ m) (tg a:Expr) (f:Str) (p q:Pos) (hf:f = "range"\/f = "enumerate"\/f = "zip"\/f = "reversed") :
  PI X tg (.Call (.Name f p) [a] [] q) (tI κ K G₀ H₀ Γ (m+1) (qad tg) (.Call (.Name f p) [a] [] q)):=by
 by_cases hn:(qm f&&glB Γ.sc f&&(qY Γ.N f).isNone)=true
 case neg=>refine zc fun σ H Q hq1=>?_;show 0;rcases hf with rfl | rfl | rfl | rfl<;>exact hn (Wk.iff (show Wk (if (_&&_&&_)=true then _ else R.no) _ from h)).1
 have hn':=hn;simp only [Bool.and_eq_true] at hn';have hg:=gd.glo _ hn'.1.2
 by_cases hs:qj a=true
 ·refine zc fun σ H Q hq1=>?_;show 0;rcases hf with rfl | rfl | rfl | rfl
  all_goals
   show 3;exact (Wk.nif (c:=qj a=true) h).1 hs
 have hs:=Bool.eq_false_iff.mpr hs;rcases hf with rfl | rfl | rfl | rfl
 ·refine PI.imp (qdd hg (gd.blt _ (2:)) (qg (A.r G₀ H₀ a) qw (qf hs)) (qf hs)) fun σ H Q hq1=>?_;show 0;show 3;have h:=(Wk.nif (c:=qj a=true) h).2;refine ⟨ρ,G,er,Wk.mono (Wk.th (x:=evR m Γ a ρ) h) fun x h v G1 H1 p1 r1=>?_⟩
  cases e1:x.1.int? with
  | none=>rw [e1] at h;show 4
  | some n=>
   rw [e1] at h;obtain ⟨hz,h⟩:=Wk.iff h;obtain ⟨z1,z2⟩:=YH hz;refine ⟨n,by rw [r1.int e1],z1,z2,h _ G1 H1 p1 ?_⟩
   have:=qgP (κ:=κ) (H₀:=H₀) (G:=G1) (lo:=0) (hi:=n)
   rw [Int.sub_zero] at this;exact this
 ·cases tg with
  | Tuple es j tp=>
   refine PI.imp (qhP hg (gd.blt _ (2:)) (qg (A.l G₀ H₀ a) qw (qf hs)) (qf hs)) fun σ H Q hq1=>?_;show 0;show 3;have h:=(Wk.nif (c:=qj a=true) h).2;refine ⟨ρ,G,er,Wk.mono (Wk.th (x:=evL m Γ a ρ) h) fun x h v G1 H1 p1 r1=>?_⟩;obtain ⟨⟨b,l⟩,ρ1⟩:=x
   cases b with
   | str=>show 4
   | tup=>show 4
   | lst=>obtain ⟨c,xs,rfl,r2,r3⟩:=r1;refine ⟨c,rfl,⟨xs,?_⟩,h _ G1 H1 p1 (by rw [gd.hK];exact qkB r3 r2)⟩;rw [gd.hK];exact r3.elim (fun z=>SqL.of (p1.er.sub _ _ z)) fun z=>p1.er.base.seq z
  | _=>refine zc fun σ H Q hq1=>?_;show 0;show 3;exact (Wk.nif (c:=qj a=true) h).2
 ·refine zc fun σ H Q hq1=>?_;show 0;show 3;exact (Wk.nif (c:=qj a=true) h).2
 ·refine PI.imp (qj6 hg (gd.blt _ (2:)) (qg (A.l G₀ H₀ a) qw (qf hs)) (qf hs)) fun σ H Q hq1=>?_;show 0;show 3;have h:=(Wk.nif (c:=qj a=true) h).2;refine ⟨ρ,G,er,Wk.mono (Wk.th (x:=evL m Γ a ρ) h) fun x h v G1 H1 p1 r1=>?_⟩;obtain ⟨⟨b,l⟩,ρ1⟩:=x
  cases b with
  | str=>show 4
  | tup=>show 4
  | lst=>obtain ⟨c,xs,rfl,r2,r3⟩:=r1;refine ⟨c,xs,rfl,?_,h _ G1 H1 p1 (by rw [gd.hK];exact qky r3 r2)⟩;rw [gd.hK];exact r3.elim (fun z=>SqL.of (p1.er.sub _ _ z)) fun z=>p1.er.base.seq z
theorem qh2 (gd:Gd κ K k X Γ) (A:All κ K k X Γ m) (tg a b:Expr) (f:Str) (p q:Pos) (hf:f = "range"\/f = "enumerate"\/f = "zip"\/f = "reversed") :
  PI X tg (.Call (.Name f p) [a,b] [] q) (tI κ K G₀ H₀ Γ (m+1) (qad tg) (.Call (.Name f p) [a,b] [] q)):=by
 by_cases hn:(qm f&&glB Γ.sc f&&(qY Γ.N f).isNone)=true
 case neg=>refine zc fun σ H Q hq1=>?_;show 0;rcases hf with rfl | rfl | rfl | rfl<;>exact hn (Wk.iff (show Wk (if (_&&_&&_)=true then _ else R.no) _ from h)).1
 have hn':=hn;simp only [Bool.and_eq_true] at hn';have hg:=gd.glo _ hn'.1.2
 by_cases hs:(qj a||qj b)=true
 ·refine zc fun σ H Q hq1=>?_;show 0;rcases hf with rfl | rfl | rfl | rfl
  all_goals
   show 3;exact (Wk.nif (c:=(qj a||qj b)=true) h).1 hs
 have hsf:=Bool.eq_false_iff.mpr hs;rw [Bool.or_eq_false_iff] at hsf;obtain ⟨s1,s2⟩:=hsf;rcases hf with rfl | rfl | rfl | rfl
 ·refine PI.imp (qde hg (gd.blt _ (2:)) (qg (A.r G₀ H₀ a) (qg (A.r G₀ H₀ b) qw (qf s2)) (qf s1)) (qbM s1 s2) (qf s2)) fun σ H Q hq1=>?_;show 0;show 3;have h:=(Wk.nif (c:=(qj a||qj b)=true) h).2;refine ⟨ρ,G,er,Wk.mono (Wk.th (x:=evR m Γ a ρ) h) fun x h v G1 H1 p1 r1=>⟨x.2,G1,p1.er,Wk.mono (Wk.th (x:=evR m Γ b x.2) h) fun y h w G2 H2 p2 r2=>?_⟩⟩
  cases e1:x.1.int? with
  | none=>rw [e1] at h;show 4
  | some i=>
   cases e2:y.1.int? with
   | none=>rw [e1,e2] at h;show 4
   | some j=>rw [e1,e2] at h;obtain ⟨hz,h⟩:=Wk.iff h;obtain ⟨z1,z2⟩:=YH hz.1;obtain ⟨z3,z4⟩:=YH hz.2;exact ⟨i,j,by rw [r1.int e1,r2.int e2],⟨z1,z2,z3,z4⟩,h _ G2 H2 (p1.trans p2) qgP⟩
 ·refine zc fun σ H Q hq1=>?_;show 0;show 3;exact (Wk.nif (c:=(qj a||qj b)=true) h).2
 ·cases tg with
  | Tuple es j tp=>
   refine PI.imp (qj4 hg (gd.blt _ (2:)) (qg (A.l G₀ H₀ a) (qg (A.l G₀ H₀ b) qw (qf s2)) (qf s1)) (qbM s1 s2) (qf s2)) fun σ H Q hq1=>?_;show 0;show 3;have h:=(Wk.nif (c:=(qj a||qj b)=true) h).2;refine ⟨ρ,G,er,Wk.mono (Wk.th (x:=evL m Γ a ρ) h) fun x h v G1 H1 p1 r1=>⟨x.2,G1,p1.er,Wk.mono (Wk.th (x:=evL m Γ b x.2) h) fun y h w G2 H2 p2 r2=>?_⟩⟩;obtain ⟨⟨bx,l⟩,ρ1⟩:=x;obtain ⟨⟨by',n⟩,ρ2⟩:=y
   cases bx with
   | str=>show 4
   | tup=>show 4
   | lst=>
    cases by' with
    | str=>show 4
    | tup=>show 4
    | lst=>
     obtain ⟨c,xs,rfl,r3,r4⟩:=r1;obtain ⟨d,ys,rfl,r5,r6⟩:=r2;have r4':G2 c=some (.lst xs)\/SqL K H₀ c xs:=r4.imp (fun z=>p2.gs _ _ z) id;have r6:G2 d=some (.lst ys)\/SqL K H₀ d ys:=r6;refine ⟨c,d,rfl,⟨xs,?_⟩,⟨ys,?_⟩,h _ G2 H2 (p1.trans p2) (by rw [gd.hK];exact qkC r4' (r3.same p2.gs) r6 r5)⟩
     ·rw [gd.hK];exact r4'.elim (fun z=>SqL.of (p2.er.sub _ _ z)) fun z=>p2.er.base.seq z
     ·rw [gd.hK];exact r6.elim (fun z=>SqL.of (p2.er.sub _ _ z)) fun z=>p2.er.base.seq z
  | _=>refine zc fun σ H Q hq1=>?_;show 0;show 3;exact (Wk.nif (c:=(qj a||qj b)=true) h).2
 ·refine zc fun σ H Q hq1=>?_;show 0;show 3;exact (Wk.nif (c:=(qj a||qj b)=true) h).2
theorem qok (gd:Gd κ K k X Γ) (A:All κ K k X Γ m) (tg e:Expr):PI X tg e (tI κ K G₀ H₀ Γ (m+1) (qad tg) e):=by
 cases e with
 | Call fn es kws q=>
  cases fn with
  | Name f p=>
   cases kws with
   | nil=>
    by_cases hf:f = "range"\/f = "enumerate"\/f = "zip"\/f = "reversed"
    ·match es with
     | []=>exact zc fun σ H Q ⟨ρ,G,er,h⟩=>by rcases hf with rfl | rfl | rfl | rfl<;>exact (Wk.iff (show Wk (if (_&&_&&_)=true then _ else R.no) _ from h)).2
     | [a]=>exact qh1 gd A tg a f p q hf
     | [a,b]=>exact qh2 gd A tg a b f p q hf
     | [_,_,_]=>exact zc fun σ H Q ⟨ρ,G,er,h⟩=>by rcases hf with rfl | rfl | rfl | rfl<;>exact (Wk.iff (show Wk (if (_&&_&&_)=true then _ else R.no) _ from h)).2
     | _::_::_::_::_=>exact zc fun σ H Q ⟨ρ,G,er,h⟩=>by rcases hf with rfl | rfl | rfl | rfl<;>exact (Wk.iff (show Wk (if (_&&_&&_)=true then _ else R.no) _ from h)).2
    ·refine qfE gd A tg _ fun ρ=>?_
     have hc:¬ ((decide (f = "range")||decide (f = "enumerate")||decide (f = "zip")||decide (f = "reversed"))=true):=by simp only [Bool.or_eq_true,decide_eq_true_eq];intro z;exact hf (by rcases z with ((z | z) | z) | z<;>simp [z])
     show (if (decide (f = "range")||decide (f = "enumerate")||decide (f = "zip")||decide (f = "reversed"))=true then _ else _)=_;rw [if_neg hc]
   | cons kw kws=>exact qfE gd A tg _ fun _=>rfl
  | _=>exact qfE gd A tg _ fun _=>rfl
 | _=>exact qfE gd A tg _ fun _=>rfl
end
end DE
namespace DE
open PySem PySem.Spec PyProof.Rows L2
section
variable {κ:KC} {K:Frag} {G₀ H₀:Hp} {k m:Nat} {X:Cx} {Γ:Ct}
theorem qbN:∀ {es:List Expr} {m:Nat} {ρ:Env} {F:List Ar×Env->Prop},Wk (JZ m Γ es ρ) F->es.any qj=false
 | [],_,_,_,_=>rfl
 | e::l,0,ρ,F,h=>False.elim h
 | e::l,m+1,ρ,F,h=>by
  obtain ⟨h1,h⟩:=Wk.nif (c:=qj e=true) h;have h:=Wk.th (x:=evR m Γ e ρ) h
  cases e1:evR m Γ e ρ with
  | ok x=>rw [e1] at h;have h2:=qbN (es:=l) (m:=m) (ρ:=x.2) (Wk.th (x:=JZ m Γ l x.2) h);simp only [List.any_cons,Bool.eq_false_iff.mpr h1,h2,Bool.or_self]
  | exc c l=>rw [e1] at h;show 4
  | no=>rw [e1] at h;show 4
theorem yz {env:PySem.Env} {pos:Pos}:∀ {es:List Expr},es.any qj=false->(backTo pos (starEach es env)).any (·.1)=false
 | [],_=>rfl
 | e::l,h=>by simp only [List.any_cons,Bool.or_eq_false_iff] at h;rw [qf h.1];show (false||(backTo pos (starEach l env)).any (·.1))=false;rw [yz h.2];rfl
theorem ReR.rv {G H G1 H1 G2 H2:Hp} {ρ ρ1:Env} {σ:L2.St} {r:Rv} {v:V} (p:Po κ K G₀ H₀ σ G H ρ G1 H1 ρ1) (hs:qv H1 H2) (gs:qv G1 G2) (sub:qv G2 H2) (new:∀ a o,G2 a=some o->(∃ o',G1 a=some o')\/H1 a=none) (h:ReR κ G2 H2 H1 r v) :
  Po κ K G₀ H₀ σ G H ρ G2 H2 ρ1/\RvR κ K H₀ H G2 H2 ρ1 σ r v:=by
 refine ⟨p.trans (Po.more p.er hs gs sub new),?_⟩
 cases r with
 | val d=>exact h
 | tmp ds=>obtain ⟨a,xs,rfl,h1,h2,h3,h4⟩:=h;exact ⟨a,xs,rfl,h1,qv.none p.hs h2,qv.none p.er.base h2,h3,p.er.notOwn h2,h4⟩
 | cell ds=>show 4
 | scr ds=>show 4
theorem qfF (gd:Gd κ K k X Γ) (A:All κ K k X Γ m) (f:Str) (es:List Expr) (p q:Pos) (hok:qm f=true) (hgl:glB Γ.sc f=true) (ht:Γ.tab.contains f=true)
  (he:∀ ρ,evR (m+1) Γ (.Call (.Name f p) es [] q) ρ=(JZ m Γ es ρ).th fun x=>(Γ.cl f x.1).th fun r=>.ok (r,x.2)):PE X (.Call (.Name f p) es [] q) (tR κ K G₀ H₀ Γ (m+1) (.Call (.Name f p) es [] q)):=by
 by_cases hs:es.any qj=false
 case neg=>show 5;rw [he] at h;exact hs (qbN (Wk.th h))
 obtain ⟨fa,fd,ps,F,hm,hk,hb⟩:=gd.fns f ht;obtain ⟨n1,n2,n3⟩:=zi hok
 have key:∀ σ H Q,tR κ K G₀ H₀ Γ (m+1) (.Call (.Name f p) es [] q) σ H Q->qfb (spF κ K Γ.cl f) [] E0 (tAs κ K G₀ H₀ Γ m es) σ H Q:=fun σ H Q ⟨ρ,G,er,h⟩=>by rw [he] at h;refine ⟨ρ,G,er,Wk.mono (Wk.th h) fun x h vs G1 H1 p1 r1=>?_⟩;show spF κ K Γ.cl f (vs++[]) H1 Q E0;rw [List.append_nil];refine ⟨G1,x.1,p1.er.sub,r1,Wk.mono (Wk.th h) fun r h v G2 H2 hs gs sub new rr=>?_⟩;obtain ⟨z1,z2⟩:=ReR.rv p1 hs gs sub new rr;exact h v G2 H2 z1 z2
 cases es with
 | nil=>
  refine PE.imp (qfe F gd.room (gd.glo f hgl) hm hk hb .nil yS n1) fun σ H Q h=>?_;obtain ⟨ρ,G,er,h⟩:=key σ H Q h
  have hz:∀ {m:Nat},Wk (JZ m Γ [] ρ) (fun x=>∀ vs G' H',Po κ K G₀ H₀ σ G H ρ G' H' x.2->JC κ K G' H' x.1 vs->spF κ K Γ.cl f (vs++[]) H' Q E0)->spF κ K Γ.cl f ([]++[]) H Q E0:=fun {m} h=>by
   cases m with
   | zero=>show 4
   | succ m=>exact h [] G H (Po.refl er) rfl
  exact hz h
 | cons e l=>simp only [List.any_cons,Bool.or_eq_false_iff] at hs;exact PE.imp (yR F gd.room (gd.glo f hgl) hm hk hb .nil yS (A.as G₀ H₀ (e::l)) n1 (qf hs.1) (yz hs.2)) key
theorem qfG (gd:Gd κ K k X Γ) (A:All κ K k X Γ m) (f:Str) (a:Expr) (p q:Pos) (hgl:glB Γ.sc f=true)
  (he:∀ ρ,evR (m+1) Γ (.Call (.Name f p) [a] [] q) ρ=if qj a=true then .no else (evR m Γ a ρ).th fun x=>(Q8 f x.1).th fun r=>.ok (r,x.2)):PE X (.Call (.Name f p) [a] [] q) (tR κ K G₀ H₀ Γ (m+1) (.Call (.Name f p) [a] [] q)):=by
 by_cases hs:qj a=true
 ·show 5;rw [he,if_pos hs] at h;exact h
 have s1:=Bool.eq_false_iff.mpr hs
 have key:∀ (g:Rv->R Rv),(∀ r,Q8 f r=g r)->∀ σ H Q,tR κ K G₀ H₀ Γ (m+1) (.Call (.Name f p) [a] [] q) σ H Q->tCB (rC1 κ K G₀ H₀ g) (qcu (tR κ K G₀ H₀ Γ m a) qfa) σ H Q:=fun g hg σ H Q ⟨ρ,G,er,h⟩=>by rw [he,if_neg hs] at h;refine ⟨ρ,G,er,Wk.mono (Wk.th h) fun x h v G1 H1 p1 r1=>?_⟩;rw [hg] at h;exact ⟨x.2,σ,G1,H,x.1,v,rfl,p1.er,r1,Wk.mono (Wk.th h) fun z h u G2 H2 p2 r2=>h u G2 H2 (p1.trans p2) (r2.back p1.hs)⟩
 by_cases h1:f = "len"
 ·subst h1;exact PE.imp (zz (qkj (G₀:=G₀) (H₀:=H₀) gd) (gd.glo _ hgl) (gd.blt _ (2:)) PySem.boot_len (qg (A.r G₀ H₀ a) qw (qf s1)) (2:) (2:) (qf s1) rfl) (key _ fun r=>rfl)
 by_cases h2:f = "list"
 ·subst h2;exact PE.imp (zH (qhW (G₀:=G₀) (H₀:=H₀) gd) (gd.glo _ hgl) (gd.blt _ (2:)) PyProof.Rows.boot_list (qg (A.r G₀ H₀ a) qw (qf s1)) (2:) (2:) (qf s1) rfl) (key _ fun r=>rfl)
 by_cases h3:f = "int"
 ·subst h3;exact PE.imp (zH (qkm (κ:=κ) (K:=K) (G₀:=G₀) (H₀:=H₀)) (gd.glo _ hgl) (gd.blt _ (2:)) PyProof.Rows.boot_int (qg (A.r G₀ H₀ a) qw (qf s1)) (2:) (2:) (qf s1) rfl) (key _ fun r=>rfl)
 by_cases h4:f = "sorted"
 ·subst h4;exact PE.imp (zz (qdN (G₀:=G₀) (H₀:=H₀) gd) (gd.glo _ hgl) (gd.blt _ (2:)) PyProof.Rows.boot_sorted (qg (A.r G₀ H₀ a) qw (qf s1)) (2:) (2:) (qf s1) rfl) (key _ fun r=>rfl)
 by_cases h5:f = "sum"
 ·subst h5;exact PE.imp (zz (qkk (G₀:=G₀) (H₀:=H₀) gd) (gd.glo _ hgl) (gd.blt _ (2:)) PyProof.Rows.boot_sum (qg (A.r G₀ H₀ a) qw (qf s1)) (2:) (2:) (qf s1) rfl) (key _ fun r=>rfl)
 by_cases h6:f = "all"
 ·subst h6;exact PE.imp (zz (qkl (G₀:=G₀) (H₀:=H₀) gd) (gd.glo _ hgl) (gd.blt _ (2:)) PyProof.Rows.boot_all (qg (A.r G₀ H₀ a) qw (qf s1)) (2:) (2:) (qf s1) rfl) (key _ fun r=>rfl)
 show 5;rw [he,if_neg hs] at h;have h:=Wk.th h
 cases e1:evR m Γ a ρ with
 | ok x=>
  rw [e1] at h;have e2:Q8 f x.1=.no:=by unfold Q8;rw [if_neg h1,if_neg h2,if_neg h3,if_neg h4,if_neg h5,if_neg h6]
  have h:=Wk.th (x:=Q8 f x.1) h;rw [e2] at h;exact h
 | exc c l=>rw [e1] at h;exact h
 | no=>rw [e1] at h;exact h
theorem qfH (gd:Gd κ K k X Γ) (A:All κ K k X Γ m) (f:Str) (a b:Expr) (p q:Pos) (hgl:glB Γ.sc f=true)
  (he:∀ ρ,evR (m+1) Γ (.Call (.Name f p) [a,b] [] q) ρ=if (qj a||qj b)=true then .no else (evR m Γ a ρ).th fun x=>(evR m Γ b x.2).th fun y=>(qa8 f x.1 y.1).th fun r=>.ok (r,y.2)):PE X (.Call (.Name f p) [a,b] [] q) (tR κ K G₀ H₀ Γ (m+1) (.Call (.Name f p) [a,b] [] q)):=by
 by_cases hs:(qj a||qj b)=true
 ·show 5;rw [he,if_pos hs] at h;exact h
 have hsf:=Bool.eq_false_iff.mpr hs;rw [Bool.or_eq_false_iff] at hsf;obtain ⟨s1,s2⟩:=hsf
 have key:∀ (g:Rv->Rv->R Rv),(∀ r s,qa8 f r s=g r s)->∀ σ H Q,tR κ K G₀ H₀ Γ (m+1) (.Call (.Name f p) [a,b] [] q) σ H Q->tCB (rC2 κ K G₀ H₀ g) (qcu (tR κ K G₀ H₀ Γ m a) (qcu (tR κ K G₀ H₀ Γ m b) qfa)) σ H Q:=fun g hg σ H Q ⟨ρ,G,er,h⟩=>by rw [he,if_neg hs] at h;refine ⟨ρ,G,er,Wk.mono (Wk.th h) fun x h v G1 H1 p1 r1=>⟨x.2,G1,p1.er,Wk.mono (Wk.th h) fun y h w G2 H2 p2 r2=>?_⟩⟩;rw [hg] at h;exact ⟨y.2,σ,G2,H,H1,x.1,y.1,v,w,rfl,p2.er,r1.keep p2,r2,Wk.mono (Wk.th h) fun z h u G3 H3 p3 r3=>h u G3 H3 (p1.trans (p2.trans p3)) (r3.back (p1.trans p2).hs)⟩
 have sa:(backTo q (starEach [b] X.env)).any (·.1)=false:=yz (by simp [s2])
 by_cases h1:f = "max"
 ·subst h1;exact PE.imp (zz (qkn (G₀:=G₀) (H₀:=H₀) gd) (gd.glo _ hgl) (gd.blt _ (2:)) PyProof.Rows.boot_max (qg (A.r G₀ H₀ a) (qg (A.r G₀ H₀ b) qw (qf s2)) (qf s1)) (2:) (2:) (qf s1) sa) (key _ fun r s=>rfl)
 by_cases h2:f = "min"
 ·subst h2;exact PE.imp (zz (qko (G₀:=G₀) (H₀:=H₀) gd) (gd.glo _ hgl) (gd.blt _ (2:)) PyProof.Rows.boot_min (qg (A.r G₀ H₀ a) (qg (A.r G₀ H₀ b) qw (qf s2)) (qf s1)) (2:) (2:) (qf s1) sa) (key _ fun r s=>rfl)
 show 5;rw [he,if_neg hs] at h;have h:=Wk.th h
 cases e1:evR m Γ a ρ with
 | ok x=>
  rw [e1] at h;have h:=Wk.th (x:=evR m Γ b x.2) h
  cases e2:evR m Γ b x.2 with
  | ok y=>
   rw [e2] at h;have e3:qa8 f x.1 y.1=.no:=by unfold qa8;rw [if_neg h1,if_neg h2]
   have h:=Wk.th (x:=qa8 f x.1 y.1) h;rw [e3] at h;exact h
  | exc c l=>rw [e2] at h;exact h
  | no=>rw [e2] at h;exact h
 | exc c l=>rw [e1] at h;exact h
 | no=>rw [e1] at h;exact h
noncomputable def tyN:D->String
 | .non=>"NoneType" | .bl _=>"bool" | .int _=>"int" | .str _=>"str" | .lst _=>"list" | .tup _=>"tuple" | .ins ..=>"object"
theorem qmR {G H Hb:Hp} {ρ:Env} {σ:L2.St} {r:Rv} {x:V} {t:Str} {b:Bool} (er:ER κ K G₀ H₀ G H ρ σ) (h:RvR κ K H₀ Hb G H ρ σ r x) (e:qc3 r t=some b):TyOf K H x (.type (tyN r.data)):=by
 cases r with
 | val d=>
  cases d<;>simp only [RvR,Rep] at h
  ·subst h;exact .non
  ·subst h;exact .bl _
  ·subst h;exact .int _
  ·subst h;exact .str _
  ·obtain ⟨a,xs,rfl,h1,_⟩:=h;exact .lst (er.sub _ _ h1)
  ·obtain ⟨a,xs,rfl,h1,_⟩:=h;exact .tup (er.sub _ _ h1)
  ·simp only [qc3,Rv.data,qka] at e;cases e
 | tmp l=>obtain ⟨a,xs,rfl,h1,_⟩:=h;exact .lst h1
 | cell l=>obtain ⟨a,xs,rfl,h1,_⟩:=h;exact .lst h1
 | scr l=>simp only [qc3] at e;cases e
theorem qgQ {r:Rv} {t:Str} {b:Bool} (e:qc3 r t=some b):∃ n:String,t=(n:Str)/\n∈["int","bool","str","list","tuple"]/\PySem.W.kitOne K (.type (tyN r.data)) (.type n)=some b:=by
 have main:∀ d:D,qka d t=some b->∃ n:String,t=(n:Str)/\n∈["int","bool","str","list","tuple"]/\PySem.W.kitOne K (.type (tyN d)) (.type n)=some b:=fun d e=>by
  have e':=e;unfold qka at e
  cases d<;>dsimp only at e
  case ins=>cases e
  all_goals
   split at e
   ·rename_i ht;cases e;exact ⟨"int",ht,by decide,rfl⟩
   split at e
   ·rename_i ht;cases e;exact ⟨"bool",ht,by decide,rfl⟩
   split at e
   ·rename_i ht;cases e;exact ⟨"str",ht,by decide,rfl⟩
   split at e
   ·rename_i ht;cases e;exact ⟨"list",ht,by decide,rfl⟩
   split at e
   ·rename_i ht;cases e;exact ⟨"tuple",ht,by decide,rfl⟩
   cases e
 cases r with
 | val d=>exact main d e
 | tmp l=>exact main (.lst l) e
 | cell l=>exact main (.lst l) e
 | scr l=>simp only [qc3] at e;cases e
theorem qfI:∀ n∈["int","bool","str","list","tuple"],∀ n'∈["int","bool","str","list","tuple"],(Str.ofString n)=(Str.ofString n')->n=n':=by decide+kernel
theorem qdS {X:Cx}:zw X (.builtin "isinstance") (fun vs H Q=>∃ x c t cv b,vs=[x,c]/\TyOf X.K H x t/\qN c cv/\(∀ u,qN c u->u=cv)/\PySem.W.kitOne X.K t cv=some b/\Q (.bl b) H):=by intro pins s σ H xs us Q I r h;obtain ⟨x,c,t,cv,b,rfl,ty,rc,uq,e,q⟩:=h;obtain ⟨u,v,rfl,ru,rv⟩:=qa1 r;obtain rfl:v=cv:=uq v rv;exact ZM I ru ty e fun tk=>⟨.bl b,H,I.tok tk,rfl,q⟩
noncomputable def qmS (κ:KC) (K:Frag) (G₀ H₀:Hp) (Γ:Ct) (m:Nat) (a:Expr) (t:Str):TE:=fun σ H Q=>∃ ρ G,ER κ K G₀ H₀ G H ρ σ/\Wk (if (qm t&&glB Γ.sc t&&(qY Γ.N t).isNone&&!qj a)=true then (evR m Γ a ρ).th fun x=>(R.of (qc3 x.1 t)).th fun b=>.ok (Rv.val (.bl b),x.2) else .no) fun x=>∀ v G' H',Po κ K G₀ H₀ σ G H ρ G' H' x.2->RvR κ K H₀ H G' H' x.2 σ x.1 v->Q v H'
theorem qh3 (gd:Gd κ K k X Γ) (A:All κ K k X Γ m) (a:Expr) (t:Str) (p tp q:Pos) (hgl:glB Γ.sc "isinstance" = true) :
  PE X (.Call (.Name "isinstance" p) [a,.Name t tp] [] q) (qmS κ K G₀ H₀ Γ m a t):=by
 by_cases hc:(qm t&&glB Γ.sc t&&(qY Γ.N t).isNone&&!qj a)=true
 case neg=>show 5;rw [if_neg hc] at h;exact h
 have hc':=hc;simp only [Bool.and_eq_true,Bool.not_eq_true'] at hc';obtain ⟨⟨⟨c1,c2⟩,c3⟩,s1⟩:=hc'
 have key:∀ n:String,n∈["int","bool","str","list","tuple"]->t=(n:Str)->∀ σ H Q,qmS κ K G₀ H₀ Γ m a t σ H Q->
   tCB (fun vs H Q=>∃ x n t b,vs=[x,.ty n]/\TyOf X.K H x t/\PySem.W.kitOne X.K t (.type n)=some b/\Q (.bl b) H) (qcu (tR κ K G₀ H₀ Γ m a) (qcu (tC (.ty n)) qfa)) σ H Q:=fun n hm hn σ H Q ⟨ρ,G,er,h⟩=>by
  rw [if_pos hc] at h;refine ⟨ρ,G,er,Wk.mono (Wk.th h) fun x h v G1 H1 p1 r1=>?_⟩;obtain ⟨b,e1,h⟩:=Wk.of (Wk.th h);obtain ⟨n',hn',hm',kt⟩:=qgQ (K:=K) e1
  have:n=n':=qfI n hm n' hm' (hn.symm.trans hn')
  subst this;exact ⟨v,n,_,b,rfl,by rw [gd.hK];exact qmR p1.er r1 e1,by rw [gd.hK];exact kt,h _ G1 H1 p1 (by simp only [RvR,Rep])⟩
 have go:∀ n:String,n∈["int","bool","str","list","tuple"]->t=(n:Str)->(hb:PE X (.Name t tp) (tC (.ty n)))->PE X (.Call (.Name "isinstance" p) [a,.Name t tp] [] q) (qmS κ K G₀ H₀ Γ m a t):=fun n hm hn hb=>PE.imp (zz qfo (gd.glo _ hgl) (gd.blt _ (2:)) PyProof.Rows.boot_isinstance (qg (A.r G₀ H₀ a) (qg hb qw rfl) (qf s1)) (2:) (2:) (qf s1) rfl) (key n hm hn)
 by_cases h1:t = "int"
 ·subst h1;exact go "int" (2:) rfl (Yt (gd.glo _ c2) (gd.blt _ (2:)) PyProof.Rows.boot_int rfl)
 by_cases h2:t = "bool"
 ·subst h2;exact go "bool" (2:) rfl (Yt (gd.glo _ c2) (gd.blt _ (2:)) PyProof.Rows.boot_bool rfl)
 by_cases h3:t = "str"
 ·subst h3;exact go "str" (2:) rfl (Yt (gd.glo _ c2) (gd.blt _ (2:)) PyProof.Rows.boot_str rfl)
 by_cases h4:t = "list"
 ·subst h4;exact go "list" (2:) rfl (Yt (gd.glo _ c2) (gd.blt _ (2:)) PyProof.Rows.boot_list rfl)
 by_cases h5:t = "tuple"
 ·subst h5;exact go "tuple" (2:) rfl (Yt (gd.glo _ c2) (gd.blt _ (2:)) PyProof.Rows.boot_tuple rfl)
 show 5;rw [if_pos hc] at h;have h:=Wk.th h
 cases e1:evR m Γ a ρ with
 | ok x=>
  rw [e1] at h;obtain ⟨b,e2,h⟩:=Wk.of (Wk.th (x:=R.of (qc3 x.1 t)) h);obtain ⟨n,hn,hm,_⟩:=qgQ (K:=K) e2;simp only [List.mem_cons,List.not_mem_nil,or_false] at hm;rcases hm with rfl | rfl | rfl | rfl | rfl
  ·exact h1 hn
  ·exact h2 hn
  ·exact h3 hn
  ·exact h4 hn
  ·exact h5 hn
 | exc c l=>rw [e1] at h;exact h
 | no=>rw [e1] at h;exact h
theorem qkD (gd:Gd κ K k X Γ) (A:All κ K k X Γ m) (a:Expr) (t:Str) (p tp q:Pos) (hgl:glB Γ.sc "isinstance" = true)
  (he:∀ ρ,evR (m+1) Γ (.Call (.Name "isinstance" p) [a,.Name t tp] [] q) ρ=if (qm t&&glB Γ.sc t&&(qY Γ.N t).isNone&&!qj a)=true then (evR m Γ a ρ).th fun x=>(R.of (qdK Γ.cs x.1 t)).th fun b=>.ok (.val (.bl b),x.2) else .no) :
  PE X (.Call (.Name "isinstance" p) [a,.Name t tp] [] q) (tR κ K G₀ H₀ Γ (m+1) (.Call (.Name "isinstance" p) [a,.Name t tp] [] q)):=by
 rintro pins s σ H Q I ⟨ρ,G,er,h⟩;rw [he] at h;obtain ⟨hc,h'⟩:=Wk.iff (c:=(qm t&&glB Γ.sc t&&(qY Γ.N t).isNone&&!qj a)=true) h;have hc':=hc;simp only [Bool.and_eq_true,Bool.not_eq_true'] at hc';obtain ⟨⟨⟨c1,c2⟩,c3⟩,s1⟩:=hc';have h2:=Wk.th h'
 cases e1:evR m Γ a ρ with
 | exc c l=>rw [e1] at h2;exact h2.elim
 | no=>rw [e1] at h2;exact h2.elim
 | ok x=>
  rw [e1] at h2;obtain ⟨b,e2,h3⟩:=Wk.of (Wk.th (x:=R.of (qdK Γ.cs x.1 t)) h2)
  by_cases hi:∃ c ns ds,x.1=.val (.ins c ns ds)
  ·obtain ⟨c,ns,ds,ex⟩:=hi;rw [ex] at e2;have e2:(if bty.contains t=true then none else Γ.cs.sub c t)=some b:=e2
   have e2:Γ.cs.sub c t=some b:=by
    by_cases hb:bty.contains t=true
    ·rw [if_pos hb] at e2;cases e2
    ·rw [if_neg hb] at e2;exact e2
   obtain ⟨C,T,hC,hty,hT,kt⟩:=gd.subs c t b e2;refine (zz qdS (gd.glo _ hgl) (gd.blt _ (2:)) PyProof.Rows.boot_isinstance (qg (A.r G₀ H₀ a) (qg (yP (v:=.ref T) (gd.glo _ c2) hT rfl (zi c1).1) qw rfl) (qf s1)) (2:) (2:) (qf s1) rfl) pins s σ H Q I ⟨ρ,G,er,?_⟩;rw [e1];intro v G1 H1 p1 r1;rw [ex] at r1;simp only [RvR,Rep] at r1;obtain ⟨p',dx,C',xs,hc',rfl,h4,hl,h5⟩:=r1;rw [hC] at hc';cases hc';exact ⟨.ref p',.ref T,.ref C,.ref T,b,rfl,hty _ _ _ _ (p1.er.sub _ _ h4),rfl,fun u hu=>hu,kt,h3 _ G1 H1 p1 (by simp only [RvR,Rep])⟩
  ·have e3:qc3 x.1 t=some b:=by
    rw [<-e2];obtain ⟨r,env⟩:=x
    cases r with
    | val d=>cases d<;>first | rfl | exact absurd ⟨_,_,_,rfl⟩ hi
    | _=>rfl
   refine qh3 gd A a t p tp q hgl pins s σ H Q I ⟨ρ,G,er,?_⟩;rw [if_pos hc,e1];show Wk ((R.of (qc3 x.1 t)).th _) _;rw [e3];exact h3
theorem qdT {o:Expr} (h:qZ o=true) (x:Str) (env:PySem.Env):attributeBase o x env (eval o env)=eval o env:=by cases o<;>first | rfl | (simp [qZ] at h)
theorem qh4 {cs:Cs} {r:Rv} {x:Str} {d:D} (h:qc4 cs r x=some d):∃ c ns ds,r=.val (.ins c ns ds)/\cs.fld c x=true/\(ns.zip ds).lookup x=some d:=by
 cases r with
 | val e=>
  cases e with
  | ins c ns ds=>
   have h:(if cs.fld c x=true then (ns.zip ds).lookup x else none)=some d:=h
   by_cases hf:cs.fld c x=true
   ·rw [if_pos hf] at h;exact ⟨c,ns,ds,rfl,hf,h⟩
   ·rw [if_neg hf] at h;cases h
  | _=>cases h
 | _=>cases h
theorem qkE {cs:Cs} {r:Rv} {x f:Str} (h:mtD cs r x=some f):∃ c ns ds,r=.val (.ins c ns ds)/\ns.contains x=false/\cs.mt c x=some f:=by
 cases r with
 | val e=>
  cases e with
  | ins c ns ds=>
   have h:(if ns.contains x=true then none else cs.mt c x)=some f:=h
   by_cases hf:ns.contains x=true
   ·rw [if_pos hf] at h;cases h
   ·rw [if_neg hf] at h;exact ⟨c,ns,ds,rfl,by simpa using hf,h⟩
  | _=>cases h
 | _=>cases h
theorem qbO {G:Hp} {x:Str} {d:D}:∀ {ns:List Str} {ds:List D} {xs:List V},qr κ G ds xs->(ns.zip ds).lookup x=some d->∃ v,(ns.zip xs).lookup x=some v/\Rep κ G d v
 | [],_,_,_,h=>by simp at h
 | n::ns,[],_,_,h=>by simp at h
 | n::ns,e::ds,xs,r,h=>by
  simp only [qr] at r;obtain ⟨v,us,rfl,r1,r2⟩:=r;rw [List.zip_cons_cons,List.lookup_cons] at h
  cases hx:(x == n) with
  | true=>rw [hx] at h;cases h;exact ⟨v,by rw [List.zip_cons_cons,List.lookup_cons,hx],r1⟩
  | false=>rw [hx] at h;obtain ⟨u,z1,z2⟩:=qbO r2 h;exact ⟨u,by rw [List.zip_cons_cons,List.lookup_cons,hx];exact z1,z2⟩
theorem qbP {x:Str}:∀ {ns:List Str} {xs:List V},ns.contains x=false->(ns.zip xs).lookup x=none
 | [],_,_=>by simp
 | n::ns,[],_=>by simp
 | n::ns,v::xs,h=>by simp only [List.contains_cons,Bool.or_eq_false_iff] at h;rw [List.zip_cons_cons,List.lookup_cons,h.1];exact qbP h.2
theorem qkF (gd:Gd κ K k X Γ) (A:All κ K k X Γ m) (o:Expr) (x:Str) (pos:Pos):PE X (.Attribute o x pos) (tR κ K G₀ H₀ Γ (m+1) (.Attribute o x pos)):=by
 by_cases ho:qZ o=true
 case neg=>exact qi fun σ H Q ⟨ρ,G,er,h⟩=>ho (Wk.iff (show Wk (if qZ o=true then _ else R.no) _ from h)).1
 refine PE.imp (qjH (A.r G₀ H₀ o) (qdT ho x X.env)) fun σ H Q hq1=>?_;show 0;have h:=(Wk.iff (show Wk (if qZ o=true then _ else R.no) _ from h)).2;refine ⟨ρ,G,er,Wk.mono (Wk.th (x:=evR m Γ o ρ) h) fun y h v G1 H1 p1 r1=>?_⟩;obtain ⟨d,e1,h⟩:=Wk.of (Wk.th h);obtain ⟨c,ns,ds,e2,e3,e4⟩:=qh4 e1;rw [e2] at r1;simp only [RvR,Rep] at r1;obtain ⟨p,dx,C,xs,hc,rfl,h1,hl,h2⟩:=r1;obtain ⟨u,e5,ru⟩:=qbO h2 e4;exact ⟨p,C,dx,_,u,rfl,p1.er.sub _ _ h1,gd.cls c C hc,gd.flds c x C e3 hc,e5,h u G1 H1 p1 ru⟩
theorem qag {o:Expr} {x:Str} {ap q:Pos} {es:List Expr} {env:PySem.Env} (ho:qZ o=true) (hs:es.any qj=false) (hl:es.length < 30) (hp:(ap.endLine == q.line)=true) :
  eval (.Call (.Attribute o x ap) es [] q) env=(do
   let ov<-eval o env
   standAt ap.atName
   let (f,first)<-holding [ov] (getMethod ov x (do return (<-importBound o env).getD true))
   callWith q f first (backTo q (starEach es env)) (backToKw q (keywordEach [] env))):=by
 have hm:methodCallForm (es.length+([]:List Keyword).length) (backTo q (starEach es env)) (backToKw q (keywordEach [] env))=true:=by
  have e:=yz (pos:=q) (env:=env) hs;unfold methodCallForm;simp only [Bool.and_eq_true,decide_eq_true_eq];refine ⟨⟨?_,rfl⟩,?_⟩
  ·rw [List.all_eq_true];intro y hy
   have:=List.any_eq_false.mp e y hy
   simpa using this
  ·show es.length+0+0 < 30;omega
 show (do
  let ov<-attributeBase o x env (eval o env)
  standAt ap.atName
  methodCall o x ap q env ov (es.length+([]:List Keyword).length) (backTo q (starEach es env)) (backToKw q (keywordEach [] env)))=_
 rw [qdT ho];unfold methodCall;simp only [hm,calleeOf,methodCallPos,if_true,hp,Bool.not_true,Bool.false_or];rfl
theorem qfJ {pins:PP} {s:Shared} {σ:L2.St} {H G:Hp} {Q:VK} {ρ:Env} {y:Rv×Env} {o:Expr} {ap q:Pos} {es:List Expr} (A:All κ K k X Γ m) (ho:qZ o=true) (hp:(ap.endLine == q.line)=true) (hl:es.length < 30)
  (er:ER κ K G₀ H₀ G H ρ σ) (e1:evR m Γ o ρ=.ok y) (h:Wk (JZ m Γ es y.2) (fun z=>Wk ((ixM y.1 z.1).th fun r=>R.ok (r,z.2)) (fun x=>∀ v G' H',Po κ K G₀ H₀ σ G H ρ G' H' x.2->RvR κ K H₀ H G' H' x.2 σ x.1 v->Q v H'))) (I:Inv X pins σ H s) :
  wpAny (model X.prog X.w) X.A (eval (.Call (.Attribute o "index" ap) es [] q) X.env) (EP X pins σ Q) X.xe s:=by
 refine False.elim ?_
 cases e4:JZ m Γ es y.2 with
 | ok z=>rw [e4] at h;exact h
 | exc c l=>rw [e4] at h;exact h
 | no=>rw [e4] at h;exact h
theorem qkG {o:Expr} {x:Str} {es:List Expr} {b:Bool} {t:Expr×Expr×Int} (h:dgE Γ o x es b=some t):∃ p q i j,o=.Call (.Name "dict" p) [t.1] [] q/\x = "get"/\es=[t.2.1,.Constant (.int t.2.2) i j]/\b=true/\glB Γ.sc "dict" = true/\qj t.1=false/\qj t.2.1=false:=by
 unfold dgE at h
 split at h
 ·split at h
  ·rename_i hc;cases h;obtain ⟨rfl,h1,h2,h3,h4,h5⟩:=hc;exact ⟨_,_,_,_,rfl,h1,rfl,h2,h3,h4,h5⟩
  ·cases h
 ·cases h
theorem qh5 (gd:Gd κ K k X Γ) (A:All κ K k X Γ m) (o:Expr) (x:Str) (ap:Pos) (es:List Expr) (q:Pos)
  (he:∀ ρ,evR (m+1) Γ (.Call (.Attribute o x ap) es [] q) ρ=(R.of (dgE Γ o x es (ap.endLine == q.line))).th fun t=>(evR m Γ t.1 ρ).th fun y=>(evR m Γ t.2.1 y.2).th fun z=>(qac t.2.2 y.1 z.1).th fun r=>.ok (r,z.2)) :
  PE X (.Call (.Attribute o x ap) es [] q) (tR κ K G₀ H₀ Γ (m+1) (.Call (.Attribute o x ap) es [] q)):=by
 cases hd:dgE Γ o x es (ap.endLine == q.line) with
 | none=>show 5;rw [he,hd] at h;exact h
 | some t=>
  simp only [hd] at he;obtain ⟨a,e,n⟩:=t;obtain ⟨p',q',i,j,rfl,rfl,rfl,hl,hg,s1,s2⟩:=qkG hd;have hu:X.A.units+1 < cLine:=by have:=gd.room.un;omega
  have st:starEach [e,Expr.Constant (.int n) i j] X.env=[(false,eval e X.env),(false,eval (Expr.Constant (.int n) i j) X.env)]:=by rw [qf s2];rfl
  refine PE.imp (qfp hu (zH (qcA gd.calm) (gd.glo _ hg) (gd.blt _ (2:)) PyProof.Rows.boot_dict (qg (A.r G₀ H₀ a) qw (qf s1)) (2:) (2:) (qf s1) rfl) (A.r G₀ H₀ e) (qbL (κ:=κ) (K:=K) (G₀:=G₀) (H₀:=H₀) (Γ:=Γ) (m:=0) (.int n) i j) ⟨rfl,?_,hl,?_⟩) fun σ H Q hq1=>?_
  ·rw [st];rfl
  ·rw [st];rfl
  show 0;rw [he] at h;refine ⟨ρ,G,er,Wk.mono (Wk.th (x:=evR m Γ a ρ) h) fun y h v G1 H1 p1 r1=>?_⟩;have h:=Wk.th (x:=evR m Γ e y.2) h
  cases e2:evR m Γ e y.2 with
  | exc c l=>rw [e2] at h;exact h.elim
  | no=>rw [e2] at h;exact h.elim
  | ok z=>
  rw [e2] at h;have h:=Wk.th (x:=qac n y.1 z.1) h
  cases e3:qac n y.1 z.1 with
  | exc c l=>rw [e3] at h;exact h.elim
  | no=>rw [e3] at h;exact h.elim
  | ok r=>
  rw [e3] at h;obtain ⟨l,k',kvs,z1,z2,z3,z4,rfl⟩:=qfz e3;obtain ⟨b,xs,rfl,q1,q2⟩:=r1.list p1.er z1;refine ⟨b,xs,kvs,rfl,by rw [gd.hK];exact q1,Paired.mapP (qbK q2 z3) fun _ _ ⟨c,w1,w2⟩=>⟨c,w1,p1.er.sub _ _ w2⟩,z4,fun d hd'=>?_⟩;have p2:=Po.room p1.er (qv.upd (o:=HO.dK (kvs.map kvV)) hd');refine ⟨d,rfl,.inl ⟨_,.inl qh⟩,y.2,G1,p2.er,?_⟩;rw [e2];intro u G3 H3 p3 r3;refine ⟨z.2,G3,p3.er,fun w G4 H4 p4 r4=>?_⟩;have hw:w=.int n:=by simpa only [RvR,Rep] using r4
  have hu':u=.str k':=r3.str z2;subst hw hu';refine ⟨_,qjZ.k (k:=.inr k') (p4.hs _ _ (p3.hs _ _ qh)),?_⟩;rw [qdP];refine h _ G4 H4 (p1.trans (p2.trans (p3.trans p4))) ?_
  cases qhR kvs k'<;>simp only [RvR,Rep,Option.map,Option.getD]
theorem qh6 (gd:Gd κ K k X Γ) (A:All κ K k X Γ m) (o:Expr) (x:Str) (ap:Pos) (es:List Expr) (q:Pos):PE X (.Call (.Attribute o x ap) es [] q) (tR κ K G₀ H₀ Γ (m+1) (.Call (.Attribute o x ap) es [] q)):=by
 by_cases hc:(qZ o&&(ap.endLine == q.line)&&decide (es.length < 30))=true
 case neg=>refine qh5 gd A o x ap es q fun ρ=>?_;show (if (qZ o&&(ap.endLine == q.line)&&decide (es.length < 30))=true then _ else _)=_;rw [if_neg hc]
 rintro pins s σ H Q I ⟨ρ,G,er,h⟩;have h:Wk (if (qZ o&&(ap.endLine == q.line)&&decide (es.length < 30))=true then _ else _) _:=h;rw [if_pos hc] at h;have h:=Wk.th (x:=evR m Γ o ρ) h;simp only [Bool.and_eq_true,decide_eq_true_eq] at hc;obtain ⟨⟨ho,hp⟩,hl⟩:=hc
 cases e1:evR m Γ o ρ with
 | exc c l=>rw [e1] at h;exact h.elim
 | no=>rw [e1] at h;exact h.elim
 | ok y=>
  rw [e1] at h
  cases e2:mtD Γ.cs y.1 x with
  | none=>
   have h:Wk (if x = "index" then (JZ m Γ es y.2).th fun z=>(ixM y.1 z.1).th fun r=>R.ok (r,z.2) else R.no) (fun x=>∀ v G' H',Po κ K G₀ H₀ σ G H ρ G' H' x.2->RvR κ K H₀ H G' H' x.2 σ x.1 v->Q v H'):=by
    have h:Wk (match mtD Γ.cs y.1 x with
     | some f=>(JZ m Γ es y.2).th fun z=>(Γ.cl f (y.1.ar::z.1)).th fun r=>R.ok (r,z.2)
     | none=>if x = "index" then (JZ m Γ es y.2).th fun z=>(ixM y.1 z.1).th fun r=>R.ok (r,z.2) else R.no) _:=h
    rw [e2] at h;exact h
   obtain ⟨hx,h⟩:=Wk.iff h;subst hx;have h:=Wk.th h;exact qfJ A ho hp hl er e1 h I
  | some f=>
  have h:Wk ((JZ m Γ es y.2).th fun z=>(Γ.cl f (y.1.ar::z.1)).th fun r=>R.ok (r,z.2)) (fun x=>∀ v G' H',Po κ K G₀ H₀ σ G H ρ G' H' x.2->RvR κ K H₀ H G' H' x.2 σ x.1 v->Q v H'):=by
   have h:Wk (match mtD Γ.cs y.1 x with
    | some f=>(JZ m Γ es y.2).th fun z=>(Γ.cl f (y.1.ar::z.1)).th fun r=>R.ok (r,z.2)
    | none=>if x = "index" then (JZ m Γ es y.2).th fun z=>(ixM y.1 z.1).th fun r=>R.ok (r,z.2) else R.no) _:=h
   rw [e2] at h;exact h
  obtain ⟨c,ns,ds,e3,e4,e5⟩:=qkE e2;obtain ⟨C,fa,fd,ps,hC,M,F,B⟩:=gd.mts c x f e5;have h:=Wk.th (x:=JZ m Γ es y.2) h;have hs:=qbN h;have hs0:=hs
  have key:∀ v G1 H1,Po κ K G₀ H₀ σ G H ρ G1 H1 y.2->RvR κ K H₀ H G1 H1 y.2 σ y.1 v->∃ a dx fs,v=.ref a/\H1 a=some (.ins C dx fs)/\fs.lookup x=none/\tAs κ K G₀ H₀ Γ m es σ H1 fun vs H2=>spF κ K Γ.cl f (v::(vs++[])) H2 Q E0:=fun v G1 H1 p1 r1=>by
   have r1':=r1;rw [e3] at r1';simp only [RvR,Rep] at r1';obtain ⟨p',dx,C',xs,hc',rfl,h4,hl,h5⟩:=r1';rw [hC] at hc';cases hc';refine ⟨p',dx,_,rfl,p1.er.sub _ _ h4,qbP e4,y.2,G1,p1.er,Wk.mono h fun z h vs G2 H2 p2 r2=>?_⟩;show spF κ K Γ.cl f (V.ref p'::(vs++[])) H2 Q E0;rw [List.append_nil];refine ⟨G2,y.1.ar::z.1,p2.er.sub,⟨_,_,rfl,?_,r2⟩,Wk.mono (Wk.th h) fun r h v G3 H3 hs gs sub new rr=>?_⟩
   ·rw [e3] at r1 ⊢;exact Rep.same p2.gs r1
   ·obtain ⟨z1,z2⟩:=ReR.rv (p1.trans p2) hs gs sub new rr;exact h v G3 H3 z1 z2
  have all:qfc C x (spF κ K Γ.cl f) [] E0 (tR κ K G₀ H₀ Γ m o) (tAs κ K G₀ H₀ Γ m es) σ H Q:=⟨ρ,G,er,by rw [e1];exact key⟩
  cases es with
  | nil=>
   have qmO:qfc C x (spF κ K Γ.cl f) [] E0 (tR κ K G₀ H₀ Γ m o) qfa σ H Q:=by
    refine ⟨ρ,G,er,?_⟩;rw [e1];intro v G1 H1 p1 r1;obtain ⟨a,dx,fs,z1,z2,z3,ρ',G',er',z⟩:=key v G1 H1 p1 r1;refine ⟨a,dx,fs,z1,z2,z3,?_⟩
    have hz:∀ {m:Nat},Wk (JZ m Γ [] ρ') (fun x=>∀ vs G'' H',Po κ K G₀ H₀ σ G' H1 ρ' G'' H' x.2->JC κ K G'' H' x.1 vs->spF κ K Γ.cl f (v::(vs++[])) H' Q E0)->spF κ K Γ.cl f (v::([]++[])) H1 Q E0:=fun {m} h=>by
     cases m with
     | zero=>show 4
     | succ m=>exact h [] G' H1 (Po.refl er') rfl
    exact hz z
   exact qff (A.r G₀ H₀ _) (gd.cls c C hC) M F gd.room B .nil yS (ht:=qag ho hs0 hl hp) pins s σ H Q I qmO
  | cons e l=>simp only [List.any_cons,Bool.or_eq_false_iff] at hs;exact qhx (A.r G₀ H₀ _) (gd.cls c C hC) M F gd.room B .nil yS (A.as G₀ H₀ (e::l)) (qf hs.1) (yz hs.2) (ht:=qag ho hs0 hl hp) pins s σ H Q I all
theorem qh7 (gd:Gd κ K k X Γ) (A:All κ K k X Γ m) (f:Str) (es:List Expr) (p q:Pos) (hok:qm f=true) (hgl:glB Γ.sc f=true) (ht:Γ.cs.tab.contains f=true)
  (he:∀ ρ,evR (m+1) Γ (.Call (.Name f p) es [] q) ρ=(JZ m Γ es ρ).th fun x=>(Γ.nw f x.1).th fun r=>.ok (r,x.2)):PE X (.Call (.Name f p) es [] q) (tR κ K G₀ H₀ Γ (m+1) (.Call (.Name f p) es [] q)):=by
 by_cases hs:es.any qj=false
 case neg=>show 5;rw [he] at h;exact hs (qbN (Wk.th h))
 rcases gd.mks f ht with hno | ⟨C,fa,fd,ps,sp,M,F,hm,hb,hk,hsp⟩
 ·show 5;rw [he] at h;have h:=Wk.th (x:=JZ m Γ es ρ) h
  cases e1:JZ m Γ es ρ with
  | ok x=>rw [e1] at h;have h:Wk ((Γ.nw f x.1).th _) _:=h;rw [hno] at h;exact h
  | exc c l=>rw [e1] at h;exact h
  | no=>rw [e1] at h;exact h
 obtain ⟨n1,n2,n3⟩:=zi hok
 have rm:Room (k - 1+1) X.A:=by rw [show k - 1+1=k by omega];exact gd.room
 have key:∀ σ H Q,tR κ K G₀ H₀ Γ (m+1) (.Call (.Name f p) es [] q) σ H Q->qfd C sp [] E0 (tAs κ K G₀ H₀ Γ m es) σ H Q:=fun σ H Q ⟨ρ,G,er,h⟩=>by rw [he] at h;refine ⟨ρ,G,er,Wk.mono (Wk.th h) fun x h vs G1 H1 p1 r1=>?_⟩;show ∀ x dx,H1 x=none->H1 dx=none->dx≠x->sp (.ref x::(vs++[])) _ _ E0;rw [List.append_nil];refine hsp vs H1 Q ⟨G1,x.1,p1.er.sub,r1,Wk.mono (Wk.th h) fun r h v G2 H2 hs gs sub new rr=>?_⟩;obtain ⟨z1,z2⟩:=ReR.rv p1 hs gs sub new rr;exact h v G2 H2 z1 z2
 cases es with
 | nil=>
  refine PE.imp (qfg M F rm (gd.glo f hgl) hm hb .nil yS n1) fun σ H Q h=>?_;obtain ⟨ρ,G,er,h⟩:=key σ H Q h
  have hz:∀ {m:Nat},Wk (JZ m Γ [] ρ) (fun x=>∀ vs G' H',Po κ K G₀ H₀ σ G H ρ G' H' x.2->JC κ K G' H' x.1 vs->∀ x dx,H' x=none->H' dx=none->dx≠x->sp (.ref x::(vs++[])) (upd (upd H' dx (.own x)) x (.ins C dx [])) (fun v H2=>v=.non/\Q (.ref x) H2) E0)->qfd C sp [] E0 qfa σ H Q:=fun {m} h=>by
   cases m with
   | zero=>show 4
   | succ m=>exact h [] G H (Po.refl er) rfl
  exact hz h
 | cons e l=>simp only [List.any_cons,Bool.or_eq_false_iff] at hs;exact PE.imp (qhy M F rm (gd.glo f hgl) hm hb .nil yS (A.as G₀ H₀ (e::l)) n1 (qf hs.1) (yz hs.2)) key
end
end DE
namespace DE
open PySem PySem.Spec PyProof.Rows L2
noncomputable def gT (κ:KC) (K:Frag) (Γ:Ct) (tg:Expr):TG:=fun v σ H Q=>∃ (G₀ H₀:Hp) (ρ:Env) (G:Hp) (d:D),ER κ K G₀ H₀ G H ρ σ/\Rep κ G d v/\Wk (qhS Γ tg d ρ) fun ρ'=>∀ σ',ER κ K G₀ H₀ G H ρ' σ'->Q σ' H
noncomputable def gN (κ:KC) (K:Frag) (Γ:Ct) (x:Str):TG:=fun v σ H Q=>∃ (G₀ H₀:Hp) (ρ:Env) (G:Hp) (d:D),ER κ K G₀ H₀ G H ρ σ/\Rep κ G d v/\Wk (qc5 Γ x d ρ) fun ρ'=>∀ σ',ER κ K G₀ H₀ G H ρ' σ'->Q σ' H
noncomputable def gNs (κ:KC) (K:Frag) (Γ:Ct) (xs:List Str):TGs:=fun vs σ H Q=>∃ (G₀ H₀:Hp) (ρ:Env) (G:Hp) (ds:List D),ER κ K G₀ H₀ G H ρ σ/\qr κ G ds vs/\Wk (qa9 Γ xs ds ρ) fun ρ'=>∀ σ',ER κ K G₀ H₀ G H ρ' σ'->Q σ' H
theorem PG.imp {X:Cx} {tg:Expr} {t t':TG} (h:PG X tg t') (i:∀ v σ H Q,t v σ H Q->t' v σ H Q):PG X tg t:=fun pins s σ H v u Q I r hw=>h pins s σ H v u Q I r (i v σ H Q hw)
theorem PGs.imp {X:Cx} {tg:List Expr} {t t':TGs} (h:PGs X tg t') (i:∀ v σ H Q,t v σ H Q->t' v σ H Q):PGs X tg t:=fun pins s σ H v u Q I r hw=>h pins s σ H v u Q I r (i v σ H Q hw)
theorem YI {X:Cx} {tg:Expr} {t:TG} (h:∀ v σ H Q,¬ t v σ H Q):PG X tg t:=fun pins s σ H v u Q I r hw=>absurd hw (h v σ H Q)
section
variable {κ:KC} {K:Frag} {G₀ H₀:Hp} {k m:Nat} {X:Cx} {Γ:Ct}
theorem qkH (gd:Gd κ K k X Γ) (x:Str) (pos:Pos):PG X (.Name x pos) (gN κ K Γ x):=by
 cases hi:qY Γ.N x with
 | none=>refine YI fun v σ H Q hq1=>?_;obtain ⟨G₀,H₀,ρ,G,d,er,r,h⟩:=hq1;unfold qc5 at h;rw [hi] at h;exact h
 | some i=>
  by_cases hc:(qc2 Γ.sc x&&qm x)=true
  case neg=>refine YI fun v σ H Q hq1=>?_;obtain ⟨G₀,H₀,ρ,G,d,er,r,h⟩:=hq1;unfold qc5 at h;rw [hi] at h;exact hc (Wk.iff (Wk.th (x:=R.of (some i)) h)).1
  have hc':=hc;rw [Bool.and_eq_true] at hc';obtain ⟨l1,l2⟩:=gd.loc x hc'.1;refine PG.imp (qhp (i:=i) (by rw [gd.hN];exact gd.nd) (by rw [gd.hN];exact j9 hi) l1 l2) fun v σ H Q hq1=>?_;obtain ⟨G₀,H₀,ρ,G,d,er,r,h⟩:=hq1;unfold qc5 at h;rw [hi] at h;exact (Wk.iff (Wk.th (x:=R.of (some i)) h)).2 _ (er.setVal r)
theorem qbQ {e:Expr} {es:List Expr} {j:Nat} {p:Pos} {xs:List Str} (h:qB (.Tuple (e::es) j p)=some xs):∃ x pos r,e=.Name x pos/\xs=x::r/\qB (.Tuple es j p)=some r:=by
 have q0:qB (.Tuple es j p)=(es.foldr (fun e r=>match e,r with | .Name x _,some l=>some (x::l) | _,_=>none) (some []):Option (List Str)):=rfl
 cases e with
 | Name x pos=>
  cases q:(es.foldr (fun e r=>match e,r with | .Name x _,some l=>some (x::l) | _,_=>none) (some []):Option (List Str)) with
  | none=>have h':(match (Expr.Name x pos:Expr),(es.foldr (fun e r=>match e,r with | .Name x _,some l=>some (x::l) | _,_=>none) (some []):Option (List Str)) with | .Name x _,some l=>some (x::l) | _,_=>none)=some xs:=h;rw [q] at h';cases h'
  | some l=>have h':(match (Expr.Name x pos:Expr),(es.foldr (fun e r=>match e,r with | .Name x _,some l=>some (x::l) | _,_=>none) (some []):Option (List Str)) with | .Name x _,some l=>some (x::l) | _,_=>none)=some xs:=h;rw [q] at h';cases h';exact ⟨x,pos,l,rfl,rfl,q0.trans q⟩
 | _=>cases h
theorem qgR (gd:Gd κ K k X Γ) {j:Nat} {p:Pos}:∀ {es:List Expr} {xs:List Str},qB (.Tuple es j p)=some xs->PGs X es (gNs κ K Γ xs)
 | [],xs,h=>by
  have e:xs=[]:=by unfold qB at h;cases h;rfl
  subst e;refine PGs.imp qhq fun vs σ H Q hq1=>?_;obtain ⟨G₀,H₀,ρ,G,ds,er,r,h⟩:=hq1
  cases ds with
  | nil=>simp only [qr] at r;exact ⟨r,h σ er⟩
  | cons d ds=>show 4
 | e::es,xs,h=>by
  obtain ⟨x,pos,r,rfl,rfl,h'⟩:=qbQ h;refine PGs.imp (qe5 (qkH gd x pos) (qgR gd h')) fun vs σ H Q hq1=>?_;obtain ⟨G₀,H₀,ρ,G,ds,er,rr,h⟩:=hq1
  cases ds with
  | nil=>show 4
  | cons d ds=>simp only [qr] at rr;obtain ⟨v,vr,rfl,r1,r2⟩:=rr;exact ⟨v,vr,rfl,G₀,H₀,ρ,G,d,er,r1,Wk.mono (Wk.th (x:=qc5 Γ x d ρ) h) fun ρ1 h σ1 er1=>⟨G₀,H₀,ρ1,G,ds,er1,r2,h⟩⟩
theorem qah {env:PySem.Env} {j:Nat} {p:Pos}:∀ {es:List Expr} {xs:List Str},qB (.Tuple es j p)=some xs->(assignEach es env).length=xs.length/\(assignEach es env).findIdx? (·.1)=none
 | [],xs,h=>by unfold qB at h;cases h;exact ⟨rfl,rfl⟩
 | e::es,xs,h=>by obtain ⟨x,pos,r,rfl,rfl,h'⟩:=qbQ h;obtain ⟨h1,h2⟩:=qah (env:=env) h';have e:assignEach (.Name x pos::es) env=(false,assign (.Name x pos) env)::assignEach es env:=rfl;rw [e];refine ⟨by simp [h1],?_⟩;rw [List.findIdx?_cons];simp [h2]
theorem qdU {xs:List Str}:∀ {ds:List D} {ρ:Env} {F:Env->Prop},Wk (qa9 Γ xs ds ρ) F->ds.length=xs.length:=by
 induction xs with
 | nil=>intro ds ρ F h;cases ds with
  | nil=>rfl
  | cons d ds=>show 4
 | cons x xs ih=>intro ds ρ F h;cases ds with
  | nil=>show 4
  | cons d ds=>
   have h:=Wk.th (x:=qc5 Γ x d ρ) h
   cases e:qc5 Γ x d ρ with
   | ok ρ1=>rw [e] at h;simp [ih h]
   | exc c l=>rw [e] at h;show 4
   | no=>rw [e] at h;show 4
theorem qfK (gd:Gd κ K k X Γ) (tg:Expr):PG X tg (gT κ K Γ tg):=by
 cases tg with
 | Name x pos=>exact qkH gd x pos
 | Tuple es j p=>
  cases hx:qB (.Tuple es j p) with
  | none=>refine YI fun v σ H Q hq1=>?_;obtain ⟨G₀,H₀,ρ,G,d,er,r,h⟩:=hq1;have h:Wk ((R.of (qB (.Tuple es j p))).th _) _:=h;rw [hx] at h;exact h
  | some xs=>
   obtain ⟨t1,t2⟩:=qah (env:=X.env) hx;refine PG.imp (qjv (n:=xs.length) gd.calm (qgR gd hx) t1 t2) fun v σ H Q hq1=>?_;obtain ⟨G₀,H₀,ρ,G,d,er,r,h⟩:=hq1;have h:Wk ((R.of (qB (.Tuple es j p))).th _) _:=h;rw [hx] at h
   cases d with
   | tup ds=>have h:=(Wk.nif (c:=es.any qj=true) h).2;simp only [Rep] at r;obtain ⟨a,ys,rfl,r1,r2⟩:=r;exact ⟨a,ys,rfl,SqT.of (er.sub _ _ r1),by rw [<-r2.len];exact qdU h,G₀,H₀,ρ,G,ds,er,r2,h⟩
   | _=>show 4
 | _=>exact YI fun v σ H Q h=>Exists.elim h fun _ h=>Exists.elim h fun _ h=>Exists.elim h fun _ h=>Exists.elim h fun _ h=>Exists.elim h fun _ h=>h.2.2
theorem qgS {env:PySem.Env}:∀ {names:List (Str×NameKind)} {x:Str},names.lookup x=some .globalImplicit->
  (names.map fun (n,k)=>if (k == NameKind.free&&env.scope.kind == .function&&env.kindOf n == some .cell) then (n,NameKind.cell) else (n,k)).lookup x=some .globalImplicit
 | [],_,h=>by simp at h
 | (n,k)::r,x,h=>by
  simp only [List.map_cons]
  by_cases hx:x=n
  ·subst hx;simp [List.lookup_cons] at h;subst h;rw [if_neg (by simp)];simp [List.lookup_cons]
  ·have hb:(x == n)=false:=by simpa using hx
   rw [List.lookup_cons,hb] at h;have ih:=qgS (env:=env) h
   by_cases hc:(k == NameKind.free&&env.scope.kind == .function&&env.kindOf n == some .cell)=true
   ·rw [if_pos hc];simp only [List.lookup_cons,hb];exact ih
   ·rw [if_neg hc];simp only [List.lookup_cons,hb];exact ih
theorem qai (gd:Gd κ K k X Γ) {own:List Str} {fr:List Nat} {sc:Scope} (h:jE Γ.sc Γ.N fr sc=true):BlkScope X own fr sc:=by
 unfold jE at h;simp only [Bool.and_eq_true,List.all_eq_true] at h;obtain ⟨⟨hk,hn⟩,hf⟩:=h;refine ⟨by simpa using hk,fun x hx=>by simpa using (hn x hx).1.1,fun x hx e=>?_,fun x hx e=>?_,fun i hi=>?_⟩
 ·have:=(hn x hx).1.2
  simpa [e] using this
 ·have:=(hn x hx).2
  exact gd.cf x.1 (by simpa [e] using this)
 ·rw [gd.hN]
  simpa using hf i hi
theorem Qu (gd:Gd κ K k X Γ) {own:List Str} {fr:List Nat} {sc:Scope} (B:BlkScope X own fr sc) (hnd:(own++fr.map fun i=>Γ.N.getD i "").Nodup) (cl:List (Str×Addr)) (C:Addr) (fp:List Addr) (s2:Shared) (H2:Hp) :
  Gd κ K k (blk X (JW X own fr) sc cl C fp s2 H2) { Γ with N:=own++fr.map fun i=>Γ.N.getD i "",sc:=sc } where
 hN:=by show JW X own fr=_;unfold JW;rw [gd.hN]
 vis:=fun x h=>by
  have h:=qgJ h;rcases h with h | h | h
  ·exact .inl (lookup_relabel_local h)
  ·exact absurd rfl (B.nocell _ (PySem.mem_of_lookup h))
  ·rcases Yp (env:=X.env) h with z | z
   ·exact .inr (.inl z)
   ·exact .inr (.inr z)
 loc:=fun x h=>by
  have h:=qdM h;rcases h with h | h
  ·have z:(relabel sc X.env).names.lookup x=some .local:=lookup_relabel_local h;exact ⟨.inl z,.inr z⟩
  ·exact absurd rfl (B.nocell _ (PySem.mem_of_lookup h))
 glo:=fun x h=>by unfold glB at h;exact qgS (env:=X.env) (by simpa using h)
 cf:=fun x h=>by
  rcases h with h | h
  ·exact absurd rfl (B.nocell _ (PySem.mem_of_lookup h))
  ·exact Yp (env:=X.env) h
 nd:=hnd
 calm:=gd.calm
 hK:=gd.hK
 room:=gd.room
 fns:=gd.fns
 blt:=gd.blt
 gl:=gd.gl
 cls:=gd.cls
 flds:=gd.flds
 mts:=gd.mts
 mks:=gd.mks
 subs:=gd.subs
theorem qkI {G H:Hp} {ρ:Env} {σ:L2.St} (er:ER κ K G₀ H₀ G H ρ σ) (own:List Str) (fr:List Nat):ER κ K G H G H (JY own fr ρ) (Qg own fr σ):=by
 refine ⟨by simp [JY,Qg],er.sub,fun _ _ e=>e,fun _ _ e=>e,fun a o e=>.inl ⟨o,e⟩,fun i s e=>?_,fun i j a l n e1=>?_⟩
 ·unfold JY at e;unfold Qg
  by_cases hi:i < own.length
  ·rw [List.getElem?_append_left (by simpa using hi)] at e;rw [List.getElem?_map] at e;obtain ⟨_,_,rfl⟩:=Option.map_eq_some_iff.mp e;trivial
  ·rw [List.getElem?_append_right (by simpa using hi)] at e ⊢;simp only [List.length_map] at e ⊢;rw [List.getElem?_map] at e ⊢;obtain ⟨j,e1,rfl⟩:=Option.map_eq_some_iff.mp e;rw [e1];show SlR κ K G H H (qeZ (ρ.getD j .no)) (some (σ[j]?).join)
   cases q:ρ[j]? with
   | none=>rw [List.getD_eq_getElem?_getD,q];trivial
   | some s=>
    rw [List.getD_eq_getElem?_getD,q];have w:=er.sl j s q
    cases s with
    | no=>trivial
    | val d=>obtain ⟨v,z,r⟩:=w;exact ⟨v,by rw [z];rfl,r⟩
    | own l=>obtain ⟨a,xs,z,r1,r2,r3,r4⟩:=w;exact ⟨a,xs,by rw [z];rfl,r1,r4⟩
    | bor l=>obtain ⟨a,xs,z,r1,r4⟩:=w;exact ⟨a,xs,by rw [z];rfl,er.base _ _ r1,r4⟩
    | scr l=>obtain ⟨a,xs,z,r1,r4⟩:=w;exact ⟨a,xs,by rw [z];rfl,er.base.seq r1,r4⟩
 ·exfalso;unfold JY at e1
  by_cases hi:i < own.length
  ·rw [List.getElem?_append_left (by simpa using hi),List.getElem?_map] at e1;obtain ⟨_,_,z⟩:=Option.map_eq_some_iff.mp e1;cases z
  ·rw [List.getElem?_append_right (by simpa using hi),List.getElem?_map] at e1;obtain ⟨j,_,z⟩:=Option.map_eq_some_iff.mp e1
   cases q:ρ.getD j .no<;>rw [q] at z<;>cases z
theorem qbb {it:Expr} (h:jm it=true) (env:PySem.Env):∀ x,foldedSetIterable it env x=pure x:=by
 intro x
 cases it<;>first | rfl | (simp [jm] at h)
theorem qkJ (A:All κ K k X Γ m) (e:Expr):PE X e (fun σ H Q=>∃ G₀ H₀,tE κ K G₀ H₀ Γ m e σ H Q):=fun pins s σ H Q I ⟨G₀,H₀,h⟩=>A.e G₀ H₀ e pins s σ H Q I h
theorem qgT (A:All κ K k X Γ m) (es:List Expr):PIf X es (fun σ H Q=>∃ G₀ H₀,tF κ K G₀ H₀ Γ m es σ H Q):=fun pins s σ H Q I ⟨G₀,H₀,h⟩=>A.f G₀ H₀ es pins s σ H Q I h
structure CompS (Γ:Ct) (tg it:Expr) (sc:Scope) (own:List Str):Prop where
 nm:qB tg=some own
 chk:jE Γ.sc Γ.N (JB Γ.N sc) sc=true
 nd:(own++(JB Γ.N sc).map fun i=>Γ.N.getD i "").Nodup
 fold:jm it=true
theorem qdV (elt tg it:Expr) (ifs:List Expr) (sc:Scope) (pos:Pos):(∃ own,CompS Γ tg it sc own)\/∀ σ H Q,¬ tR κ K G₀ H₀ Γ (m+1) (.ListComp elt [⟨tg,it,ifs,0⟩] sc pos) σ H Q:=by
 cases hown:qB tg with
 | none=>
  refine .inr fun σ H Q hq1=>?_;show 0;have h:=(Wk.iff (show Wk (if (0:Int)=0 then _ else R.no) _ from h)).2;have h:=Wk.th (x:=evI m Γ (qad tg) it ρ) h
  cases e1:evI m Γ (qad tg) it ρ with
  | ok x=>rw [e1] at h;obtain ⟨own,e2,_⟩:=Wk.of (Wk.th (x:=R.of (qB tg)) h);rw [hown] at e2;cases e2
  | exc c l=>rw [e1] at h;exact h
  | no=>rw [e1] at h;exact h
 | some own=>
  by_cases hst:(jE Γ.sc Γ.N (JB Γ.N sc) sc&&decide (own++(JB Γ.N sc).map fun i=>Γ.N.getD i "").Nodup&&jm it)=true
  case neg=>
   refine .inr fun σ H Q hq1=>?_;show 0;have h:=(Wk.iff (show Wk (if (0:Int)=0 then _ else R.no) _ from h)).2;have h:=Wk.th (x:=evI m Γ (qad tg) it ρ) h
   cases e1:evI m Γ (qad tg) it ρ with
   | ok x=>rw [e1] at h;obtain ⟨own',e2,h⟩:=Wk.of (Wk.th (x:=R.of (qB tg)) h);rw [hown] at e2;cases e2;obtain ⟨hc,_⟩:=Wk.iff h;simp only [Bool.and_eq_true] at hc hst;exact hst ⟨hc.1.1,hc.2⟩
   | exc c l=>rw [e1] at h;exact h
   | no=>rw [e1] at h;exact h
  simp only [Bool.and_eq_true] at hst;exact .inl ⟨own,hown,hst.1.1,of_decide_eq_true hst.1.2,hst.2⟩
theorem qbR {own:List Str} (elt tg it:Expr) (ifs:List Expr) (sc:Scope) (pos:Pos) (S:CompS Γ tg it sc own):∀ σ H Q,tR κ K G₀ H₀ Γ (m+1) (.ListComp elt [⟨tg,it,ifs,0⟩] sc pos) σ H Q->
  qhK own (JB Γ.N sc) (tI κ K G₀ H₀ Γ m (qad tg) it) (gT κ K { Γ with N:=own++(JB Γ.N sc).map fun i=>Γ.N.getD i "",sc:=sc } tg) (fun σ H Q=>∃ G₀ H₀,tF κ K G₀ H₀ { Γ with N:=own++(JB Γ.N sc).map fun i=>Γ.N.getD i "",sc:=sc } m ifs σ H Q)
   (fun σ H Q=>∃ G₀ H₀,tE κ K G₀ H₀ { Γ with N:=own++(JB Γ.N sc).map fun i=>Γ.N.getD i "",sc:=sc } m elt σ H Q) σ H Q:=fun σ H Q ⟨ρ,G,er,h⟩=>by
 have h:=(Wk.iff (show Wk (if (0:Int)=0 then _ else R.no) _ from h)).2;refine ⟨ρ,G,er,Wk.mono (Wk.th (x:=evI m Γ (qad tg) it ρ) h) fun x h J G1 H1 p1 it1=>?_⟩;obtain ⟨own',e2,h⟩:=Wk.of (Wk.th (x:=R.of (qB tg)) h);rw [S.nm] at e2;cases e2;obtain ⟨hc,h⟩:=Wk.iff h;simp only [Bool.and_eq_true] at hc;have hz:x.1.length<=sizeLine:=by simpa using hc.1.2
 have h:=Wk.th h
 refine ⟨fun i mm ys σ' H'=>mm=x.1.length - i/\i<=x.1.length/\∃ ρb Gb ds,ER κ K G1 H1 Gb H' ρb σ'/\qr κ Gb ds ys/\ds.length<=i/\
   Wk (qae (qhS { Γ with N:=own++(JB Γ.N sc).map fun i=>Γ.N.getD i "",sc:=sc } tg) (fun ρ1=>qke m { Γ with N:=own++(JB Γ.N sc).map fun i=>Γ.N.getD i "",sc:=sc } ifs ρ1) (fun ρ1=>evE m { Γ with N:=own++(JB Γ.N sc).map fun i=>Γ.N.getD i "",sc:=sc } elt ρ1) (x.1.drop i) ρb ds)
    (fun l=>∀ v G' H',Po κ K G₀ H₀ σ G H ρ G' H' x.2->RvR κ K H₀ H G' H' x.2 σ (.tmp l) v->Q v H'),
  ⟨x.1.length,by simp,Nat.zero_le _,JY own (JB Γ.N sc) x.2,G1,[],qkI p1.er own (JB Γ.N sc),.nil,Nat.le_refl _,?_⟩,?_⟩
 ·rw [List.drop_zero];exact h
 rintro i mm ys σ' H' ⟨rfl,hi,ρb,Gb,ds,erb,rds,hdl,hw⟩;have it2:=it1 i Gb H' erb.g0 (fun b o e=>erb.base b o (p1.er.base b o e)) erb.sub
 by_cases hlt:i < x.1.length
 ·obtain ⟨go,yl⟩:=it2.1 x.1[i] (List.getElem?_eq_getElem hlt);have hyl:=rds.len;refine .inr ⟨go,by omega,_,fun ys' σ2 H2 w=>⟨x.1.length - (i+1),by omega,w⟩,fun v H2 hy=>?_⟩;obtain ⟨G',hs,gs,sub,new,rep⟩:=yl v H2 hy;have p2:=Po.more erb hs gs sub new;rw [List.drop_eq_getElem_cons hlt] at hw;refine ⟨G1,H1,ρb,G',x.1[i],p2.er,rep,Wk.mono (Wk.th hw) fun ρ1 hw σ1 er1=>⟨G1,H1,ρ1,G',er1,Wk.mono (Wk.th hw) fun bt hw G2 H3 p3=>?_⟩⟩;obtain ⟨b,ρ2⟩:=bt
  cases b with
  | true=>rw [if_pos rfl];refine ⟨G1,H1,ρ2,G2,p3.er,Wk.mono (Wk.th hw) fun y hw w G3 H4 p4 rep4=>⟨rfl,hlt,y.2,G3,ds++[y.1],p4.er,?_,by simp;omega,(Wk.iff hw).2⟩⟩;exact (((rds.same gs).same p3.gs).same p4.gs).snoc rep4
  | false=>rw [if_neg (fun z=>by cases z)];exact ⟨rfl,hlt,ρ2,G2,ds,p3.er,(rds.same gs).same p3.gs,by omega,hw⟩
 ·have e:i=x.1.length:=by omega
  subst e;refine .inl ⟨it2.2 rfl,fun p hp=>?_⟩;rw [List.drop_length] at hw;have p2:=p1.trans (Po.more p1.er erb.base erb.g0 erb.sub erb.fresh);obtain ⟨z1,z2⟩:=p2.er.newList hp rds;exact hw _ _ _ (p2.trans z1) (z2.back p2.hs)
theorem qh8 (gd:Gd κ K k X Γ) (A:All κ K k X Γ m) (ih:∀ X' Γ',Gd κ K k X' Γ'->All κ K k X' Γ' m) (elt tg it:Expr) (ifs:List Expr) (sc:Scope) (pos:Pos) :
  PE X (.ListComp elt [⟨tg,it,ifs,0⟩] sc pos) (tR κ K G₀ H₀ Γ (m+1) (.ListComp elt [⟨tg,it,ifs,0⟩] sc pos)):=by
 rcases qdV (κ:=κ) (K:=K) (G₀:=G₀) (H₀:=H₀) (m:=m) (Γ:=Γ) elt tg it ifs sc pos with ⟨own,S⟩ | no
 ·have B:BlkScope X own (JB Γ.N sc) sc:=qai gd S.chk
  exact PE.imp (qhM own (JB Γ.N sc) gd.calm B (A.i G₀ H₀ tg it) (fun cl C fp s2 H2=>qfK (Qu gd B S.nd cl C fp s2 H2) tg) (fun cl C fp s2 H2=>qgT (ih _ _ (Qu gd B S.nd cl C fp s2 H2)) ifs)
   (fun cl C fp s2 H2=>qkJ (ih _ _ (Qu gd B S.nd cl C fp s2 H2)) elt) (qbb S.fold X.env)) (qbR elt tg it ifs sc pos S)
 ·exact qi no
theorem qh9 (gd:Gd κ K k X Γ) (A:All κ K k X Γ m) (f:Str) (es:List Expr) (p q:Pos):PE X (.Call (.Name f p) es [] q) (tR κ K G₀ H₀ Γ (m+1) (.Call (.Name f p) es [] q)):=by
 by_cases hn:(qm f&&glB Γ.sc f&&(qY Γ.N f).isNone)=true
 case neg=>exact qi fun σ H Q ⟨ρ,G,er,h⟩=>hn (Wk.iff (show Wk (if (qm f&&glB Γ.sc f&&(qY Γ.N f).isNone)=true then _ else R.no) _ from h)).1
 have hn':=hn;simp only [Bool.and_eq_true] at hn';obtain ⟨⟨h1,h2⟩,h3⟩:=hn'
 by_cases hi:f = "isinstance"
 ·subst hi
  match es with
  | [a,b]=>
   have non:(∀ ρ,evR (m+1) Γ (.Call (.Name "isinstance" p) [a,b] [] q) ρ=.no)->PE X (.Call (.Name "isinstance" p) [a,b] [] q) (tR κ K G₀ H₀ Γ (m+1) (.Call (.Name "isinstance" p) [a,b] [] q)):=fun he=>qi fun σ H Q ⟨ρ,G,er,h⟩=>by rw [he] at h;exact h
   cases b with
   | Name t tp=>refine qkD gd A a t p tp q h2 fun ρ=>?_;show (if (qm "isinstance" && glB Γ.sc "isinstance" && (qY Γ.N "isinstance").isNone)=true then _ else R.no)=_;rw [if_pos hn];rfl
   | _=>refine non fun ρ=>?_;show (if (qm "isinstance" && glB Γ.sc "isinstance" && (qY Γ.N "isinstance").isNone)=true then _ else R.no)=_;rw [if_pos hn];rfl
  | []=>exact qi fun σ H Q ⟨ρ,G,er,h⟩=>(Wk.iff (show Wk (if (qm "isinstance" && glB Γ.sc "isinstance" && (qY Γ.N "isinstance").isNone)=true then _ else R.no) _ from h)).2
  | [_]=>exact qi fun σ H Q ⟨ρ,G,er,h⟩=>(Wk.iff (show Wk (if (qm "isinstance" && glB Γ.sc "isinstance" && (qY Γ.N "isinstance").isNone)=true then _ else R.no) _ from h)).2
  | a::b::c::l=>exact qi fun σ H Q ⟨ρ,G,er,h⟩=>(Wk.iff (show Wk (if (qm "isinstance" && glB Γ.sc "isinstance" && (qY Γ.N "isinstance").isNone)=true then _ else R.no) _ from h)).2
 by_cases ht:Γ.tab.contains f=true
 ·refine qfF gd A f es p q h1 h2 ht fun ρ=>?_;show (if (qm f&&glB Γ.sc f&&(qY Γ.N f).isNone)=true then _ else R.no)=_;rw [if_pos hn,if_neg hi,if_pos ht]
 by_cases hk:Γ.cs.tab.contains f=true
 ·refine qh7 gd A f es p q h1 h2 hk fun ρ=>?_;show (if (qm f&&glB Γ.sc f&&(qY Γ.N f).isNone)=true then _ else R.no)=_;rw [if_pos hn,if_neg hi,if_neg ht,if_pos hk]
 match es with
 | [a]=>
  have e1:∀ ρ,evR (m+1) Γ (.Call (.Name f p) [a] [] q) ρ=(match lrE Γ f a with
    | some t=>(evR m Γ t.1 ρ).th fun x=>(evR m Γ t.2 x.2).th fun y=>(lrD x.1 y.1).th fun r=>.ok (r,y.2)
    | none=>if qj a=true then .no else (evR m Γ a ρ).th fun x=>(Q8 f x.1).th fun r=>.ok (r,x.2)):=fun ρ=>by
   show (if (qm f&&glB Γ.sc f&&(qY Γ.N f).isNone)=true then _ else R.no)=_;rw [if_pos hn,if_neg hi,if_neg ht,if_neg hk]
   all_goals (dsimp only;cases lrE Γ f a<;>rfl)
  cases hl:lrE Γ f a with
  | some t=>unfold lrE at hl;cases hl
  | none=>refine qfG gd A f a p q h2 fun ρ=>?_;rw [e1,hl]
 | [a,b]=>refine qfH gd A f a b p q h2 fun ρ=>?_;show (if (qm f&&glB Γ.sc f&&(qY Γ.N f).isNone)=true then _ else R.no)=_;rw [if_pos hn,if_neg hi,if_neg ht,if_neg hk]
 | []=>show 5;have h:=(Wk.iff (show Wk (if (qm f&&glB Γ.sc f&&(qY Γ.N f).isNone)=true then _ else R.no) _ from h)).2;rw [if_neg hi,if_neg ht,if_neg hk] at h;exact h
 | a::b::c::l=>show 5;have h:=(Wk.iff (show Wk (if (qm f&&glB Γ.sc f&&(qY Γ.N f).isNone)=true then _ else R.no) _ from h)).2;rw [if_neg hi,if_neg ht,if_neg hk] at h;exact h
theorem qol (gd:Gd κ K k X Γ) (A:All κ K k X Γ m) (ih:∀ X' Γ',Gd κ K k X' Γ'->All κ K k X' Γ' m) (e:Expr):PE X e (tR κ K G₀ H₀ Γ (m+1) e):=by
 cases e with
 | Name x pos=>exact qfv gd m x pos
 | Constant c j pos=>exact qbL c j pos
 | BinOp a op b pos=>exact qfB A a b op pos
 | UnaryOp op a pos=>
  cases op with
  | USub=>exact qkp A a pos
  | Not=>exact qhX A a pos
  | _=>show 2
 | BoolOp op vs pos=>
  cases vs with
  | nil=>exact qi fun σ H Q ⟨ρ,G,er,h⟩=>by cases op<;>exact h
  | cons a vs=>
   cases vs with
   | nil=>cases op<;>exact PE.imp (qjq (A.r G₀ H₀ a)) fun σ H Q h=>h
   | cons b l=>
    cases op with
    | And=>exact qkr A a b l pos
    | Or=>exact qi fun σ H Q ⟨ρ,G,er,h⟩=>h
 | Compare a ops bs pos=>
  cases ops with
  | nil=>show 2
  | cons op ops=>
   cases ops with
   | nil=>
    cases bs with
    | nil=>show 2
    | cons b bs=>
     cases bs with
     | nil=>exact qhY gd A a b op pos
     | cons c bs=>show 2
   | cons op' ops=>show 2
 | IfExp c a b pos=>exact qks A c a b pos
 | Subscript a b pos=>exact qkt gd A a b pos
 | List es pos=>exact qku A es pos
 | Tuple es j pos=>exact qkv A es j pos
 | Call fn es kws q=>
  cases fn with
  | Name f p=>
   cases kws with
   | nil=>exact qh9 gd A f es p q
   | cons kw kws=>show 2
  | Attribute o x ap=>
   cases kws with
   | nil=>exact qh6 gd A o x ap es q
   | cons kw kws=>show 2
  | _=>show 2
 | Attribute o x pos=>exact qkF gd A o x pos
 | ListComp elt gens sc pos=>
  cases gens with
  | nil=>show 2
  | cons g gens=>
   obtain ⟨tg,it,ifs,as⟩:=g
   cases gens with
   | nil=>
    by_cases ha:as=0
    ·subst ha;exact qh8 gd A ih elt tg it ifs sc pos
    ·exact qi fun σ H Q ⟨ρ,G,er,h⟩=>ha (Wk.iff (show Wk (if as=0 then _ else R.no) _ from h)).1
   | cons g' gens=>show 2
 | _=>show 2
theorem all:∀ (m:Nat) (X:Cx) (Γ:Ct),Gd κ K k X Γ->All κ K k X Γ m
 | 0,_,_,_=>qmO
 | m+1,X,Γ,gd=>
  have A:=all m X Γ gd
  ⟨fun G₀ H₀ e=>qol gd A (all m) e,fun G₀ H₀ e=>qof gd A e,fun G₀ H₀ e=>qoi gd A e,fun G₀ H₀ es=>qmP A es,fun G₀ H₀ es=>qmQ A es,fun G₀ H₀ o=>qog A o,fun G₀ H₀ es=>qoh A es,fun G₀ H₀ e=>qoj gd A e,fun G₀ H₀ tg e=>qok gd A tg e⟩
end
end DE
namespace DE
open PySem PySem.Spec PyProof.Rows L2
inductive Fl where
 | next (ρ:Env) | ret (r:Rv)
def qC:Expr->Bool
 | .ListComp ..=>false
 | .SetComp ..=>false
 | .DictComp ..=>false
 | _=>true
def J0:Expr->Bool
 | .Tuple ..=>false
 | _=>true
def zW:Expr->Bool
 | .Slice ..=>false
 | _=>true
noncomputable def yV (Γ:Ct) (x:Str) (ρ:Env):R Rv:=if qm x then (match qY Γ.N x with
 | some i=>if Q6 Γ.sc x then (match ρ[i]? with
  | some (.val d)=>.ok (.val d)
  | some (.own l)=>.ok (.tmp l)
  | _=>.no) else .no
 | none=>if glB Γ.sc x then (match Γ.gl x with | some d=>.ok (.val d) | none=>.no) else .no) else .no
noncomputable def evX (m:Nat) (Γ:Ct) (e:Expr) (ρ:Env):R Rv:=match e with
 | .Name x _=>yV Γ x ρ
 | e=>(evR m Γ e ρ).th fun x=>match x.1 with
  | .val d=>.ok (.val d)
  | .tmp l=>.ok (.tmp l)
  | _=>.no
noncomputable def evA (m:Nat) (Γ:Ct) (e:Expr) (ρ:Env):R (Sl×Env):=match e with
 | .Name x _=>(j6 Γ x ρ).th fun r=>.ok (.val r.1,r.2)
 | e=>(evR m Γ e ρ).th fun x=>match x.1 with
  | .val d=>.ok (.val d,x.2)
  | .tmp l=>.ok (.own l,x.2)
  | _=>.no
noncomputable def zd (Γ:Ct) (x:Str) (ρ:Env):Option (Nat×List D):=if qm x&&Q6 Γ.sc x then (match qY Γ.N x with
 | some i=>(match ρ[i]? with
  | some (.own l)=>some (i,l)
  | _=>none)
 | none=>none) else none
noncomputable def yW (m:Nat) (Γ:Ct) (x meth:Str) (a:Expr) (ρ:Env):R Env:=match zd Γ x ρ with
 | none=>.no
 | some _=>if qj a then .no else
  if meth = "append" then (evE m Γ a ρ).th fun y=>(match zd Γ x y.2 with
   | some (i,l)=>if l.length < sizeLine then .ok (y.2.set i (.own (l++[y.1]))) else .no
   | none=>.no)
  else if meth = "extend" then (evR m Γ a ρ).th fun y=>(match zd Γ x y.2,y.1.plain? with
   | some (i,l),some n=>if l.length+n.length<=sizeLine then .ok (y.2.set i (.own (l++n))) else .no
   | _,_=>.no)
  else .no
noncomputable def qje (m:Nat) (Γ:Ct) (x:Str) (i:Expr) (d:D) (ρ:Env):R Env:=match zd Γ x ρ with
 | none=>.no
 | some _=>(evR m Γ i ρ).th fun y=>(match zd Γ x y.2,y.1.int? with
  | some (j,l),some n=>(match ixN l.length n with
   | some k=>.ok (y.2.set j (.own (l.set k d)))
   | none=>.no)
  | _,_=>.no)
noncomputable def qia (step:D->Env->R Fl):List D->Env->R Fl
 | [],ρ=>.ok (.next ρ)
 | d::ds,ρ=>(step d ρ).th fun f=>match f with
  | .next ρ1=>qia step ds ρ1
  | .ret r=>.ok (.ret r)
noncomputable def whL (test:Env->R (Bool×Env)) (body:Env->R Fl):Nat->Env->R Fl
 | 0,_=>.no
 | n+1,ρ=>(test ρ).th fun b=>if b.1 then (body b.2).th fun f=>(match f with
  | .next ρ1=>whL test body n ρ1
  | .ret r=>.ok (.ret r)) else .ok (.next b.2)
mutual
noncomputable def evS:Nat->Nat->Ct->Stmt->Env->R Fl
 | 0,_,_,_,_=>.no
 | m+1,w,Γ,st,ρ=>match st with
  | .Pass _=>.ok (.next ρ)
  | .Expr e _=>(match e with
   | .Call (.Attribute (.Name x _) meth ap) [a] [] cp=>if (ap.endLine == cp.line)=true then (yW m Γ x meth a ρ).th fun ρ1=>.ok (.next ρ1) else .no
   | .Call (.Attribute (.Name x _) meth ap) [] [] cp=>.no
   | e=>if qC e=true then (evR m Γ e ρ).th fun x=>.ok (.next x.2) else .no)
  | .Return (some e) _=>(evX m Γ e ρ).th fun r=>.ok (.ret r)
  | .Return none _=>.ok (.ret (.val .non))
  | .Assign [tg] e _=>(match tg with
   | .Name x _=>(evA m Γ e ρ).th fun s=>(R.of (qY Γ.N x)).th fun i=>if (qc2 Γ.sc x&&qm x)=true then .ok (.next (s.2.set i s.1)) else .no
   | .Tuple es j p=>if qC e=true/\J0 e=true then (evE m Γ e ρ).th fun x=>(qhS Γ (.Tuple es j p) x.1 x.2).th fun ρ1=>.ok (.next ρ1) else .no
   | .Subscript (.Name x _) i _=>if qC e=true/\zW i=true then (evE m Γ e ρ).th fun y=>(qje m Γ x i y.1 y.2).th fun ρ1=>.ok (.next ρ1) else .no
   | _=>.no)
  | .If c a b _=>(evT m Γ c ρ).th fun t=>if t.1 then qdW m w Γ a t.2 else qdW m w Γ b t.2
  | .For tg it body [] _=>if jm it=true then (evI m Γ (qad tg) it ρ).th fun x=>qia (fun d ρ1=>(qhS Γ tg d ρ1).th fun ρ2=>qdW m w Γ body ρ2) x.1 x.2 else .no
  | .While c body [] _=>whL (fun ρ1=>evT m Γ c ρ1) (fun ρ1=>qdW m w Γ body ρ1) w ρ
  | _=>.no
noncomputable def qdW:Nat->Nat->Ct->List Stmt->Env->R Fl
 | 0,_,_,_,_=>.no
 | m+1,w,Γ,l,ρ=>match l with
  | []=>.ok (.next ρ)
  | st::l=>(evS m w Γ st ρ).th fun f=>match f with
   | .next ρ1=>qdW m w Γ l ρ1
   | .ret r=>.ok (.ret r)
end
section
variable (κ:KC) (K:Frag) (G₀ H₀:Hp)
noncomputable def FlP (G:Hp) (D:Ends):Fl->Prop
 | .next ρ'=>∀ σ' G' H',ER κ K G₀ H₀ G' H' ρ' σ'->qv G G'->D.nx σ' H'
 | .ret r=>∀ v G' H',qv H₀ H'->qv G₀ G'->qv G' H'->(∀ a o,G' a=some o->(∃ o',G₀ a=some o')\/H₀ a=none)->ReR κ G' H' H₀ r v->D.rt v H'
noncomputable def tS (Γ:Ct) (m w:Nat) (st:Stmt):TS:=fun D σ H=>∃ ρ G,ER κ K G₀ H₀ G H ρ σ/\Wk (evS m w Γ st ρ) (FlP κ K G₀ H₀ G D)
noncomputable def tSs (Γ:Ct) (m w:Nat) (l:List Stmt):TS:=fun D σ H=>∃ ρ G,ER κ K G₀ H₀ G H ρ σ/\Wk (qdW m w Γ l ρ) (FlP κ K G₀ H₀ G D)
end
structure Gs (κ:KC) (K:Frag) (k:Nat) (X:Cx) (Γ:Ct):Prop extends Gd κ K k X Γ where
 own:PassesOwn (model X.prog X.w) X.A X.env X.xe
 sceq:X.env.scope=Γ.sc
 fnk:Γ.sc.kind=.function
theorem PS.imp {X:Cx} {st:Stmt} {t t':TS} (h:PS X st t') (i:∀ D σ H,t D σ H->t' D σ H):PS X st t:=fun pins s σ H D I hw=>h pins s σ H D I (i D σ H hw)
theorem PSs.imp {X:Cx} {st:List Stmt} {t t':TS} (h:PSs X st t') (i:∀ D σ H,t D σ H->t' D σ H):PSs X st t:=fun pins s σ H D I hw=>h pins s σ H D I (i D σ H hw)
theorem qt {X:Cx} {st:Stmt} {t:TS} (h:∀ D σ H,¬ t D σ H):PS X st t:=fun pins s σ H D I hw=>absurd hw (h D σ H)
theorem qfL {X:Cx} {st:List Stmt} {t:TS} (h:∀ D σ H,¬ t D σ H):PSs X st t:=fun pins s σ H D I hw=>absurd hw (h D σ H)
theorem qbS {e:Expr} (h:qC e=true) (t:Option Expr) (l:Nat) (env:PySem.Env):swapsWith e t l env=pure false:=by cases e<;>first | rfl | (simp [qC] at h)
section
variable {κ:KC} {K:Frag} {G₀ H₀:Hp} {k m w:Nat} {X:Cx} {Γ:Ct}
theorem qP {x:Str} {ρ:Env} {i:Nat} {l:List D} (h:zd Γ x ρ=some (i,l)):qm x=true/\Q6 Γ.sc x=true/\qY Γ.N x=some i/\ρ[i]?=some (.own l):=by
 unfold zd at h
 by_cases hc:(qm x&&Q6 Γ.sc x)=true
 ·rw [if_pos hc] at h;rw [Bool.and_eq_true] at hc
  cases e1:qY Γ.N x with
  | none=>rw [e1] at h;cases h
  | some j=>
   rw [e1] at h;dsimp only at h
   split at h
   ·rename_i l' e2;cases h;exact ⟨hc.1,hc.2,rfl,e2⟩
   ·cases h
 ·rw [if_neg hc] at h;cases h
theorem qdX {x:Str} {ρ ρ':Env} {i j:Nat} {l n:List D} (h:zd Γ x ρ=some (i,l)) (h':zd Γ x ρ'=some (j,n)):i=j:=by
 have:=(qP h).2.2.1.symm.trans (qP h').2.2.1
 cases this;rfl
def J1 (Γ:Ct) (x:Str):Option Nat:=if qm x&&Q6 Γ.sc x then qY Γ.N x else none
theorem zC {x:Str} {ρ:Env} {i:Nat} {l:List D} (h:zd Γ x ρ=some (i,l)):J1 Γ x=some i:=by obtain ⟨h1,h2,h3,h4⟩:=qP h;unfold J1;rw [if_pos (by rw [h1,h2];rfl),h3]
theorem qbc (gd:Gd κ K k X Γ) {x:Str} {i:Nat} (h:J1 Γ x=some i) (pos:Pos):PE X (.Name x pos) (qmh i):=by
 unfold J1 at h
 by_cases hc:(qm x&&Q6 Γ.sc x)=true
 ·rw [if_pos hc] at h;rw [Bool.and_eq_true] at hc;obtain ⟨n1,n2,n3⟩:=zi hc.1;exact Qo (i:=i) (by rw [gd.hN];exact j9 h) (gd.vis x hc.2) n1 n2
 ·rw [if_neg hc] at h;cases h
theorem ER.ownSlot {G H:Hp} {ρ:Env} {σ:L2.St} {i:Nat} {l:List D} (er:ER κ K G₀ H₀ G H ρ σ) (e:ρ[i]?=some (.own l)):∃ a xs,σ[i]?=some (some (.ref a))/\H a=some (.lst xs)/\qr κ G l xs:=by obtain ⟨a,xs,z,h1,h2,h3,h4⟩:=er.sl i _ e;exact ⟨a,xs,z,h1,h4⟩
theorem qdY (gd:Gd κ K k X Γ) (A:All κ K k X Γ m) (x:Str) (a:Expr) (xp ap cp p:Pos) (hl:(ap.endLine == cp.line)=true)
  (he:∀ ρ,evS (m+1) w Γ (.Expr (.Call (.Attribute (.Name x xp) "append" ap) [a] [] cp) p) ρ=(yW m Γ x "append" a ρ).th fun ρ1=>.ok (.next ρ1)) :
  PS X (.Expr (.Call (.Attribute (.Name x xp) "append" ap) [a] [] cp) p) (tS κ K G₀ H₀ Γ (m+1) w (.Expr (.Call (.Attribute (.Name x xp) "append" ap) [a] [] cp) p)):=by
 cases hsl:J1 Γ x with
 | none=>
  refine qt fun D σ H hq1=>?_;show 0;rw [he] at h;have h:=Wk.th h;unfold yW at h
  cases e1:zd Γ x ρ with
  | none=>rw [e1] at h;exact h
  | some q=>have:=zC (i:=q.1) (l:=q.2) e1;rw [hsl] at this;cases this
 | some i=>
  by_cases hs:qj a=true
  ·refine qt fun D σ H hq1=>?_;show 0;rw [he] at h;have h:=Wk.th h;unfold yW at h
   cases e1:zd Γ x ρ with
   | none=>rw [e1] at h;exact h
   | some q=>rw [e1] at h;exact (Wk.nif (c:=qj a=true) h).1 hs
  have s1:=Bool.eq_false_iff.mpr hs
  have few:((backTo cp (starEach [a] X.env)).all (fun x=>!x.1)&&(backToKw cp (keywordEach [] X.env)).all (fun x=>x.1.isSome)&&decide (([a]:List Expr).length+([]:List Keyword).length+(if ([]:List Keyword).isEmpty then 0 else 1) < 30))=true:=by rw [qf s1];rfl
  refine PS.imp (yQ (qjO PySem.F.plainAttrs_list PySem.F.slot_list_append PySem.F.type_list_append qdq (qbc gd hsl xp) (qg (A.e G₀ H₀ a) qw (qf s1)) rfl few hl (qf s1) rfl) rfl) fun D σ H hq1=>?_;show 0;rw [he] at h;have h:=Wk.th h;unfold yW at h
  cases e1:zd Γ x ρ with
  | none=>rw [e1] at h;show 4
  | some q=>
   obtain ⟨i',l0⟩:=q;have ei:i'=i:=by have:=zC e1;rw [hsl] at this;cases this;rfl
   subst ei;rw [e1] at h;have h:=(Wk.nif (c:=qj a=true) h).2;rw [if_pos rfl] at h;obtain ⟨b,xs,z,h1,h2⟩:=er.ownSlot (qP e1).2.2.2;refine ⟨_,z,.inl ⟨rfl,xs,SqL.of h1⟩,ρ,G,er,Wk.mono (Wk.th h) fun y h v G1 H1 p1 r1=>?_⟩
   cases e2:zd Γ x y.2 with
   | none=>rw [e2] at h;show 4
   | some q=>obtain ⟨i2,l⟩:=q;rw [e2] at h;have ei:=qdX e1 e2;subst ei;obtain ⟨hz,h⟩:=Wk.iff h;obtain ⟨b',ys,z',h3,h4⟩:=p1.er.ownSlot (qP e2).2.2.2;rw [z] at z';cases z';refine ⟨b,ys,v,rfl,rfl,h3,by rw [<-h4.len];exact hz,?_⟩;exact h σ G1 _ (p1.er.write (qP e2).2.2.2 z (h4.snoc r1)) p1.gs
theorem qdZ (gd:Gd κ K k X Γ) (A:All κ K k X Γ m) (x:Str) (a:Expr) (xp ap cp p:Pos) (hl:(ap.endLine == cp.line)=true)
  (he:∀ ρ,evS (m+1) w Γ (.Expr (.Call (.Attribute (.Name x xp) "extend" ap) [a] [] cp) p) ρ=(yW m Γ x "extend" a ρ).th fun ρ1=>.ok (.next ρ1)) :
  PS X (.Expr (.Call (.Attribute (.Name x xp) "extend" ap) [a] [] cp) p) (tS κ K G₀ H₀ Γ (m+1) w (.Expr (.Call (.Attribute (.Name x xp) "extend" ap) [a] [] cp) p)):=by
 cases hsl:J1 Γ x with
 | none=>
  refine qt fun D σ H hq1=>?_;show 0;rw [he] at h;have h:=Wk.th h;unfold yW at h
  cases e1:zd Γ x ρ with
  | none=>rw [e1] at h;exact h
  | some q=>have:=zC (i:=q.1) (l:=q.2) e1;rw [hsl] at this;cases this
 | some i=>
  by_cases hs:qj a=true
  ·refine qt fun D σ H hq1=>?_;show 0;rw [he] at h;have h:=Wk.th h;unfold yW at h
   cases e1:zd Γ x ρ with
   | none=>rw [e1] at h;exact h
   | some q=>rw [e1] at h;exact (Wk.nif (c:=qj a=true) h).1 hs
  have s1:=Bool.eq_false_iff.mpr hs
  have few:((backTo cp (starEach [a] X.env)).all (fun x=>!x.1)&&(backToKw cp (keywordEach [] X.env)).all (fun x=>x.1.isSome)&&decide (([a]:List Expr).length+([]:List Keyword).length+(if ([]:List Keyword).isEmpty then 0 else 1) < 30))=true:=by rw [qf s1];rfl
  refine PS.imp (yQ (qjO PySem.F.plainAttrs_list PySem.F.slot_list_extend PySem.F.type_list_extend qdr (qbc gd hsl xp) (qg (A.r G₀ H₀ a) qw (qf s1)) rfl few hl (qf s1) rfl) rfl) fun D σ H hq1=>?_;show 0;rw [he] at h;have h:=Wk.th h;unfold yW at h
  cases e1:zd Γ x ρ with
  | none=>rw [e1] at h;show 4
  | some q=>
   obtain ⟨i',l0⟩:=q;have ei:i'=i:=by have:=zC e1;rw [hsl] at this;cases this;rfl
   subst ei;rw [e1] at h;have h:=(Wk.nif (c:=qj a=true) h).2;rw [if_neg (2:),if_pos rfl] at h;obtain ⟨b,xs,z,h1,h2⟩:=er.ownSlot (qP e1).2.2.2;refine ⟨_,z,.inl ⟨rfl,xs,SqL.of h1⟩,ρ,G,er,Wk.mono (Wk.th h) fun y h v G1 H1 p1 r1=>?_⟩
   cases e2:zd Γ x y.2 with
   | none=>rw [e2] at h;show 4
   | some q=>
    obtain ⟨i2,l⟩:=q
    cases e3:y.1.plain? with
    | none=>rw [e2,e3] at h;show 4
    | some n=>rw [e2,e3] at h;have ei:=qdX e1 e2;subst ei;obtain ⟨hz,h⟩:=Wk.iff h;obtain ⟨b',ys,z',h3,h4⟩:=p1.er.ownSlot (qP e2).2.2.2;obtain ⟨c,zs,rfl,h5,h6⟩:=r1.plain p1.er e3;rw [z] at z';cases z';refine ⟨b,c,ys,zs,rfl,rfl,h3,h5,by rw [<-h4.len,<-h6.len];exact hz,?_⟩;exact h σ G1 _ (p1.er.write (qP e2).2.2.2 z (h4.app h6)) p1.gs
theorem qkK (gd:Gd κ K k X Γ) (A:All κ K k X Γ m) (e:Expr) (p:Pos):PS X (.Return (some e) p) (tS κ K G₀ H₀ Γ (m+1) w (.Return (some e) p)):=by
 have gen:(∀ ρ,evX m Γ e ρ=(evR m Γ e ρ).th fun x=>match x.1 with
   | .val d=>.ok (.val d)
   | .tmp l=>.ok (.tmp l)
   | _=>.no)->PS X (.Return (some e) p) (tS κ K G₀ H₀ Γ (m+1) w (.Return (some e) p)):=fun he=>by
  refine PS.imp (qda (A.r G₀ H₀ e)) fun D σ H hq1=>?_;show 0;have h:=Wk.th (x:=evX m Γ e ρ) h;rw [he] at h;refine ⟨ρ,G,er,Wk.mono (Wk.th h) fun x h v G1 H1 p1 r1=>?_⟩;obtain ⟨rv,ρ1⟩:=x
  cases rv with
  | val d=>exact h v G1 H1 p1.er.base p1.er.g0 p1.er.sub p1.er.fresh r1
  | tmp l=>obtain ⟨a,xs,rfl,h1,h2,h3,h4,h5,h6⟩:=r1;exact h _ G1 H1 p1.er.base p1.er.g0 p1.er.sub p1.er.fresh ⟨a,xs,rfl,h1,h3,h4,h6⟩
  | cell l=>show 4
  | scr l=>show 4
 cases e with
 | Name x pos=>
  by_cases hok:qm x=true
  case neg=>refine qt fun D σ H hq1=>?_;show 0;have h:=Wk.th (x:=yV Γ x ρ) h;unfold yV at h;exact hok (Wk.iff h).1
  obtain ⟨n1,n2,n3⟩:=zi hok
  cases hi:qY Γ.N x with
  | some i=>
   by_cases hv:Q6 Γ.sc x=true
   case neg=>refine qt fun D σ H hq1=>?_;show 0;have h:=Wk.th (x:=yV Γ x ρ) h;unfold yV at h;rw [if_pos hok,hi] at h;exact hv (Wk.iff h).1
   refine PS.imp (qda (Qo (i:=i) (by rw [gd.hN];exact j9 hi) (gd.vis x hv) n1 n2)) fun D σ H hq1=>?_;show 0;have h:=Wk.th (x:=yV Γ x ρ) h;unfold yV at h;rw [if_pos hok,hi] at h;have h:=(Wk.iff h).2
   cases q:ρ[i]? with
   | none=>rw [q] at h;show 4
   | some s=>
    rw [q] at h;have w:=er.sl i s q
    cases s with
    | val d=>obtain ⟨v,z,r⟩:=w;exact ⟨v,z,h v G H er.base er.g0 er.sub er.fresh r⟩
    | own l=>obtain ⟨a,xs,z,r1,r2,r3,r4⟩:=w;exact ⟨_,z,h _ G H er.base er.g0 er.sub er.fresh ⟨a,xs,rfl,r1,r2,r3,r4⟩⟩
    | _=>show 4
  | none=>
   by_cases hg:glB Γ.sc x=true
   case neg=>refine qt fun D σ H hq1=>?_;show 0;have h:=Wk.th (x:=yV Γ x ρ) h;unfold yV at h;rw [if_pos hok,hi] at h;exact hg (Wk.iff h).1
   cases hd:Γ.gl x with
   | none=>refine qt fun D σ H hq1=>?_;show 0;have h:=Wk.th (x:=yV Γ x ρ) h;unfold yV at h;rw [if_pos hok,hi] at h;have h:=(Wk.iff h).2;rw [hd] at h;exact h
   | some d=>obtain ⟨v,u,e1,e2,e3⟩:=gd.gl x d hd;refine PS.imp (qda (yP (gd.glo x hg) e1 e2 n1)) fun D σ H hq1=>?_;show 0;have h:=Wk.th (x:=yV Γ x ρ) h;unfold yV at h;rw [if_pos hok,hi] at h;have h:=(Wk.iff h).2;rw [hd] at h;exact h v G H er.base er.g0 er.sub er.fresh (e3 G)
 | _=>exact gen fun _=>rfl
noncomputable def AsR (κ:KC) (K:Frag) (H₀ G H:Hp) (ρ:Env) (σ:L2.St):Sl->V->Prop
 | .val d,v=>Rep κ G d v
 | .own l,v=>∃ a xs,v=.ref a/\H a=some (.lst xs)/\H₀ a=none/\G a=none/\¬ qcB ρ σ a/\qr κ G l xs
 | _,_=>False
noncomputable def tA (κ:KC) (K:Frag) (G₀ H₀:Hp) (Γ:Ct) (m:Nat) (e:Expr):TE:=fun σ H Q=>∃ ρ G,ER κ K G₀ H₀ G H ρ σ/\Wk (evA m Γ e ρ) fun s=>∀ v G' H',Po κ K G₀ H₀ σ G H ρ G' H' s.2->AsR κ K H₀ G' H' s.2 σ s.1 v->Q v H'
theorem qib {G H:Hp} {ρ:Env} {σ:L2.St} {s:Sl} {v:V} {i:Nat} (er:ER κ K G₀ H₀ G H ρ σ) (h:AsR κ K H₀ G H ρ σ s v):ER κ K G₀ H₀ G H (ρ.set i s) (σ.set i (some v)):=by
 cases s with
 | val d=>exact er.setVal h
 | own l=>obtain ⟨a,xs,rfl,h1,h2,h3,h4,h5⟩:=h;exact er.setOwn h1 h2 h3 h4 h5
 | _=>show 4
theorem qmT {G H:Hp} {ρ:Env} {σ:L2.St} {F:Sl×Env->Prop} {Q:VK} {e:Expr} {m:Nat} (er:ER κ K G₀ H₀ G H ρ σ)
  (h:Wk ((evR m Γ e ρ).th fun x=>match x.1 with
   | .val d=>R.ok (Sl.val d,x.2)
   | .tmp l=>R.ok (Sl.own l,x.2)
   | _=>.no) fun s=>∀ v G' H',Po κ K G₀ H₀ σ G H ρ G' H' s.2->AsR κ K H₀ G' H' s.2 σ s.1 v->Q v H'):tR κ K G₀ H₀ Γ m e σ H Q:=by
 refine ⟨ρ,G,er,Wk.mono (Wk.th h) fun x h v G1 H1 p1 r1=>?_⟩;obtain ⟨rv,ρ1⟩:=x
 cases rv with
 | val d=>exact h v G1 H1 p1 r1
 | tmp l=>obtain ⟨a,xs,rfl,h1,h2,h3,h4,h5,h6⟩:=r1;exact h _ G1 H1 p1 ⟨a,xs,rfl,h1,h3,h4,h5,h6⟩
 | cell l=>show 4
 | scr l=>show 4
theorem qnp (gd:Gd κ K k X Γ) (A:All κ K k X Γ m) (A1:All κ K k X Γ (m+1)) (e:Expr):PE X e (tA κ K G₀ H₀ Γ m e):=by
 have gen:(∀ ρ,evA m Γ e ρ=(evR m Γ e ρ).th fun x=>match x.1 with
   | .val d=>.ok (.val d,x.2)
   | .tmp l=>.ok (.own l,x.2)
   | _=>.no)->PE X e (tA κ K G₀ H₀ Γ m e):=fun he=>by
  refine PE.imp (A.r G₀ H₀ e) fun σ H Q hq1=>?_;show 0;rw [he] at h;exact qmT (F:=fun _=>True) er h
 cases e with
 | Name x pos=>refine PE.imp (A1.e G₀ H₀ (.Name x pos)) fun σ H Q hq1=>?_;show 0;refine ⟨ρ,G,er,Wk.mono (Wk.th (x:=j6 Γ x ρ) h) fun y h v G1 H1 p1 r1=>h v G1 H1 p1 r1⟩
 | _=>exact gen fun _=>rfl
theorem qkL (gs:Gs κ K k X Γ) (A:All κ K k X Γ m) (A1:All κ K k X Γ (m+1)) (x:Str) (e:Expr) (xp p:Pos):PS X (.Assign [.Name x xp] e p) (tS κ K G₀ H₀ Γ (m+1) w (.Assign [.Name x xp] e p)):=by
 have gd:=gs.toGd
 have fail:∀ (D:Ends) (σ:L2.St) (H:Hp),(qY Γ.N x=none\/¬ (qc2 Γ.sc x&&qm x)=true)->¬ tS κ K G₀ H₀ Γ (m+1) w (.Assign [.Name x xp] e p) D σ H:=fun D σ H hf ⟨ρ,G,er,h⟩=>by
  have h:=Wk.th (x:=evA m Γ e ρ) h
  cases e1:evA m Γ e ρ with
  | ok s=>
   rw [e1] at h;obtain ⟨i,e2,h⟩:=Wk.of (Wk.th (x:=R.of (qY Γ.N x)) h);rcases hf with z | z
   ·rw [e2] at z;cases z
   ·exact z (Wk.iff h).1
  | exc c l=>rw [e1] at h;exact h
  | no=>rw [e1] at h;exact h
 cases hi:qY Γ.N x with
 | none=>exact qt fun D σ H=>fail D σ H (.inl hi)
 | some i=>
  by_cases hc:(qc2 Γ.sc x&&qm x)=true
  case neg=>exact qt fun D σ H=>fail D σ H (.inr hc)
  have hc':=hc;rw [Bool.and_eq_true] at hc';obtain ⟨l1,l2⟩:=gd.loc x hc'.1;have hN:X.N.Nodup:=by rw [gd.hN];exact gd.nd
  have hxi:X.N[i]?=some x:=by rw [gd.hN];exact j9 hi
  have fin:∀ (D:Ends) (σ:L2.St) (H:Hp),tS κ K G₀ H₀ Γ (m+1) w (.Assign [.Name x xp] e p) D σ H->tA κ K G₀ H₀ Γ m e σ H (fun y H1=>qe4 i y σ H1 D.nx):=fun D σ H ⟨ρ,G,er,h⟩=>by refine ⟨ρ,G,er,Wk.mono (Wk.th (x:=evA m Γ e ρ) h) fun s h v G1 H1 p1 r1=>?_⟩;obtain ⟨j,e2,h⟩:=Wk.of (Wk.th (x:=R.of (qY Γ.N x)) h);rw [hi] at e2;cases e2;exact (Wk.iff h).2 _ G1 H1 (qib p1.er r1) p1.gs
  by_cases hn:qC e=true
  ·exact PS.imp (qgw (i:=i) hN hxi l1 (qnp gd A A1 e) (qbS hn _ _ _) l2) fin
  cases e with
  | ListComp elt gens sc cp=>
   have hsw:∀ b:Bool,(X.env.blockKind == .function&&X.env.kindOf x == some .local&&xp.line == cp.line&&!(sc.names.any fun (n,k)=>n == x&&(k == .local||k == .cell)))=b->swapsWith (.ListComp elt gens sc cp) (some (.Name x xp)) p.line X.env=pure b:=fun b hb=>by rw [<-hb];rfl
   cases hb:(X.env.blockKind == .function&&X.env.kindOf x == some .local&&xp.line == cp.line&&!(sc.names.any fun (n,k)=>n == x&&(k == .local||k == .cell))) with
   | false=>exact PS.imp (qgw (i:=i) hN hxi l1 (qnp gd A A1 _) (hsw false hb) l2) fin
   | true=>
    have hloc:X.env.scope.names.lookup x=some .local:=by
     simp only [Bool.and_eq_true] at hb
     have:=hb.1.1.2
     unfold PySem.Env.kindOf at this
     simpa using this
    cases m with
    | zero=>exact qt fun D σ H h=>by obtain ⟨ρ,G,er,h⟩:=fin D σ H h;exact h
    | succ m=>
     have no:(∀ σ H Q,¬ tR κ K G₀ H₀ Γ (m+1) (.ListComp elt gens sc cp) σ H Q)->PS X (.Assign [.Name x xp] (.ListComp elt gens sc cp) p) (tS κ K G₀ H₀ Γ (m+1+1) w (.Assign [.Name x xp] (.ListComp elt gens sc cp) p)):=fun hno=>qt fun D σ H h=>by obtain ⟨ρ,G,er,h⟩:=fin D σ H h;exact hno σ H _ (qmT (F:=fun _=>True) er h)
     cases gens with
     | nil=>exact no fun σ H Q ⟨ρ,G,er,h⟩=>h
     | cons g gens=>
      obtain ⟨tg,it,ifs,as⟩:=g
      cases gens with
      | cons g' gens=>exact no fun σ H Q ⟨ρ,G,er,h⟩=>h
      | nil=>
       by_cases ha:as=0
       case neg=>exact no fun σ H Q ⟨ρ,G,er,h⟩=>ha (Wk.iff (show Wk (if as=0 then _ else R.no) _ from h)).1
       subst ha;rcases qdV (κ:=κ) (K:=K) (G₀:=G₀) (H₀:=H₀) (m:=m) (Γ:=Γ) elt tg it ifs sc cp with ⟨own,S⟩ | hno
       ·have B:BlkScope X own (JB Γ.N sc) sc:=qai gd S.chk;have A':=all m X Γ gd
        refine PS.imp (qhN (i:=i) own (JB Γ.N sc) hN hxi hloc gd.calm B (A'.i G₀ H₀ tg it) (fun cl C fp s2 H2=>qfK (Qu gd B S.nd cl C fp s2 H2) tg) (fun cl C fp s2 H2=>qgT (all m _ _ (Qu gd B S.nd cl C fp s2 H2)) ifs)
         (fun cl C fp s2 H2=>qkJ (all m _ _ (Qu gd B S.nd cl C fp s2 H2)) elt) (hsw true hb) (qbb S.fold X.env)) fun D σ H h=>?_
        obtain ⟨ρ,G,er,h⟩:=fin D σ H h;exact qbR elt tg it ifs sc cp S σ H _ (qmT (F:=fun _=>True) er h)
       ·exact no hno
  | SetComp=>exact qt fun D σ H h=>by obtain ⟨ρ,G,er,h⟩:=fin D σ H h;cases m<;>exact h
  | DictComp=>exact qt fun D σ H h=>by obtain ⟨ρ,G,er,h⟩:=fin D σ H h;cases m<;>exact h
  | _=>exact absurd rfl hn
end
end DE
namespace DE
open PySem PySem.Spec PyProof.Rows L2
structure AllS (κ:KC) (K:Frag) (X:Cx) (Γ:Ct) (m w:Nat):Prop where
 s:∀ G₀ H₀ st,PS X st (tS κ K G₀ H₀ Γ m w st)
 ss:∀ G₀ H₀ l,PSs X l (tSs κ K G₀ H₀ Γ m w l)
section
variable {κ:KC} {K:Frag} {G₀ H₀:Hp} {k m w:Nat} {X:Cx} {Γ:Ct}
theorem FlP.back {G G1:Hp} {D:Ends} {f:Fl} (h:FlP κ K G₀ H₀ G D f) (g:qv G G1):FlP κ K G₀ H₀ G1 D f:=by
 cases f with
 | next ρ=>exact fun σ' G' H' er g'=>h σ' G' H' er fun b o e=>g' b o (g b o e)
 | ret r=>exact h
theorem qfM {e:Expr} (h:J0 e=true) (es:List Expr) (j:Nat) (p:Pos) (env:PySem.Env):swappedStores [.Tuple es j p] e env=pure none:=by cases e<;>first | rfl | (simp [J0] at h)
theorem qd0 (gd:Gd κ K k X Γ) (A:All κ K k X Γ m) (es:List Expr) (j:Nat) (tp:Pos) (e:Expr) (p:Pos):PS X (.Assign [.Tuple es j tp] e p) (tS κ K G₀ H₀ Γ (m+1) w (.Assign [.Tuple es j tp] e p)):=by
 by_cases hc:qC e=true/\J0 e=true
 case neg=>exact qt fun D σ H ⟨ρ,G,er,h⟩=>hc (Wk.iff (show Wk (if qC e=true/\J0 e=true then _ else R.no) _ from h)).1
 refine PS.imp (qgv (A.e G₀ H₀ e) (qfK gd (.Tuple es j tp)) (show swapsWithSole [.Tuple es j tp] e p.line X.env=pure false from qbS hc.1 (some (.Tuple es j tp)) p.line X.env) (qfM hc.2 es j tp _) rfl) fun D σ H hq1=>?_;show 0;have h:=(Wk.iff (show Wk (if qC e=true/\J0 e=true then _ else R.no) _ from h)).2;refine ⟨ρ,G,er,Wk.mono (Wk.th (x:=evE m Γ e ρ) h) fun x h v G1 H1 p1 r1=>?_⟩;exact ⟨G₀,H₀,x.2,G1,x.1,p1.er,r1,Wk.mono (Wk.th h) fun ρ1 h σ1 er1=>h σ1 G1 H1 er1 p1.gs⟩
noncomputable def gS (κ:KC) (K:Frag) (G₀ H₀:Hp) (Γ:Ct) (m:Nat) (x:Str) (i:Expr):TG:=fun v σ H Q=>∃ (ρ:Env) (G:Hp) (d:D),ER κ K G₀ H₀ G H ρ σ/\Rep κ G d v/\Wk (qje m Γ x i d ρ) fun ρ'=>∀ G' H',ER κ K G₀ H₀ G' H' ρ' σ->qv G G'->Q σ H'
theorem qmU (gd:Gd κ K k X Γ) (A:All κ K k X Γ m) (x:Str) (i:Expr) (xp p:Pos) (hs:zW i=true):PG X (.Subscript (.Name x xp) i p) (gS κ K G₀ H₀ Γ m x i):=by
 have none1:∀ {v:V} {σ:L2.St} {H:Hp} {Q:L2.St->Hp->Prop},J1 Γ x=none->¬ gS κ K G₀ H₀ Γ m x i v σ H Q:=fun {v σ H Q} hsl ⟨ρ,G,d,er,r,h⟩=>by
  unfold qje at h
  cases e1:zd Γ x ρ with
  | none=>rw [e1] at h;exact h
  | some q=>have:=zC (i:=q.1) (l:=q.2) e1;rw [hsl] at this;cases this
 cases hsl:J1 Γ x with
 | none=>exact YI fun v σ H Q=>none1 hsl
 | some j=>
  refine PG.imp (qjw (qbc gd hsl xp) (A.r G₀ H₀ i) qfj (fun v=>by cases i<;>first | rfl | (simp [zW] at hs))) fun v σ H Q hq1=>?_;obtain ⟨ρ,G,d,er,r,h⟩:=hq1;unfold qje at h
  cases e1:zd Γ x ρ with
  | none=>rw [e1] at h;show 4
  | some q=>
   obtain ⟨j',l0⟩:=q;have ei:j'=j:=by have:=zC e1;rw [hsl] at this;cases this;rfl
   subst ei;rw [e1] at h;obtain ⟨b,xs,z,h1,h2⟩:=er.ownSlot (qP e1).2.2.2;refine ⟨_,z,ρ,G,er,Wk.mono (Wk.th (x:=evR m Γ i ρ) h) fun y h u G1 H1 p1 r1=>?_⟩
   cases e2:zd Γ x y.2 with
   | none=>rw [e2] at h;show 4
   | some q=>
    obtain ⟨j2,l⟩:=q
    cases e3:y.1.int? with
    | none=>rw [e2,e3] at h;show 4
    | some n=>
     rw [e2,e3] at h;dsimp only at h;have ei:=qdX e1 e2;subst ei
     cases e4:ixN l.length n with
     | none=>rw [e4] at h;show 4
     | some c=>rw [e4] at h;obtain ⟨b',ys,z',h3,h4⟩:=p1.er.ownSlot (qP e2).2.2.2;rw [z] at z';cases z';refine ⟨b,ys,n,c,rfl,r1.int e3,h3,by rw [<-h4.len];exact e4,?_⟩;exact h G1 _ (p1.er.write (qP e2).2.2.2 z (h4.set c (r.same p1.gs))) p1.gs
theorem qd1 (gd:Gd κ K k X Γ) (A:All κ K k X Γ m) (x:Str) (i e:Expr) (xp sp p:Pos):PS X (.Assign [.Subscript (.Name x xp) i sp] e p) (tS κ K G₀ H₀ Γ (m+1) w (.Assign [.Subscript (.Name x xp) i sp] e p)):=by
 by_cases hc:qC e=true/\zW i=true
 case neg=>exact qt fun D σ H ⟨ρ,G,er,h⟩=>hc (Wk.iff (show Wk (if qC e=true/\zW i=true then _ else R.no) _ from h)).1
 refine PS.imp (qgv (A.e G₀ H₀ e) (qmU (G₀:=G₀) (H₀:=H₀) gd A x i xp sp hc.2) (show swapsWithSole [.Subscript (.Name x xp) i sp] e p.line X.env=pure false from qbS hc.1 (some (.Subscript (.Name x xp) i sp)) p.line X.env) rfl rfl) fun D σ H hq1=>?_;show 0;have h:=(Wk.iff (show Wk (if qC e=true/\zW i=true then _ else R.no) _ from h)).2;refine ⟨ρ,G,er,Wk.mono (Wk.th (x:=evE m Γ e ρ) h) fun y h v G1 H1 p1 r1=>?_⟩;exact ⟨y.2,G1,y.1,p1.er,r1,Wk.mono (Wk.th h) fun ρ1 h G2 H2 er1 g2=>h σ G2 H2 er1 fun b o e=>g2 b o (p1.gs b o e)⟩
theorem qmV (A:All κ K k X Γ m) (S:AllS κ K X Γ m w) (c:Expr) (a b:List Stmt) (p:Pos):PS X (.If c a b p) (tS κ K G₀ H₀ Γ (m+1) w (.If c a b p)):=by
 refine PS.imp (qck (A.t G₀ H₀ c) (S.ss G₀ H₀ a) (S.ss G₀ H₀ b)) fun D σ H hq1=>?_;show 0;refine ⟨ρ,G,er,Wk.mono (Wk.th (x:=evT m Γ c ρ) h) fun t h G1 H1 p1=>?_⟩;obtain ⟨d,ρ1⟩:=t
 cases d with
 | true=>rw [if_pos rfl];exact ⟨ρ1,G1,p1.er,Wk.mono h fun f hf=>hf.back p1.gs⟩
 | false=>rw [if_neg (fun z=>by cases z)];exact ⟨ρ1,G1,p1.er,Wk.mono h fun f hf=>hf.back p1.gs⟩
theorem qkM (gs:Gs κ K k X Γ) (A:All κ K k X Γ m) (S:AllS κ K X Γ m w) (tg it:Expr) (body:List Stmt) (p:Pos):PS X (.For tg it body [] p) (tS κ K G₀ H₀ Γ (m+1) w (.For tg it body [] p)):=by
 by_cases hf:jm it=true
 case neg=>exact qt fun D σ H ⟨ρ,G,er,h⟩=>hf (Wk.iff (show Wk (if jm it=true then _ else R.no) _ from h)).1
 refine PS.imp (qjy gs.own gs.calm (A.i G₀ H₀ tg it) (qfK gs.toGd tg) (S.ss G₀ H₀ body) (qbb hf X.env)) fun D σ H hq1=>?_;show 0;have h:=(Wk.iff (show Wk (if jm it=true then _ else R.no) _ from h)).2;refine ⟨ρ,G,er,Wk.mono (Wk.th (x:=evI m Γ (qad tg) it ρ) h) fun x h J G1 H1 p1 it1=>?_⟩
 refine ⟨fun i mm σ' H'=>mm=x.1.length - i/\i<=x.1.length/\∃ ρb Gb,ER κ K G₀ H₀ Gb H' ρb σ'/\qv G1 Gb/\Wk (qia (fun d ρ1=>(qhS Γ tg d ρ1).th fun ρ2=>qdW m w Γ body ρ2) (x.1.drop i) ρb) (FlP κ K G₀ H₀ G D),
  ⟨x.1.length,by simp,Nat.zero_le _,x.2,G1,p1.er,fun _ _ e=>e,by rw [List.drop_zero];exact h⟩,?_⟩
 rintro i mm σ' H' ⟨rfl,hi,ρb,Gb,erb,g1,hw⟩;have it2:=it1 i Gb H' g1 erb.base erb.sub
 by_cases hlt:i < x.1.length
 ·obtain ⟨go,yl⟩:=it2.1 x.1[i] (List.getElem?_eq_getElem hlt);refine .inr ⟨go,_,fun σ2 H2 w=>⟨x.1.length - (i+1),by omega,w⟩,fun v H2 hy=>?_⟩;obtain ⟨G',hs,gss,sub,new,rep⟩:=yl v H2 hy;have p2:=Po.more erb hs gss sub new;rw [List.drop_eq_getElem_cons hlt] at hw;refine ⟨G₀,H₀,ρb,G',x.1[i],p2.er,rep,Wk.mono (Wk.th (Wk.th hw)) fun ρ2 hw σ2 er2=>⟨ρ2,G',er2,Wk.mono hw fun f hf=>?_⟩⟩
  cases f with
  | next ρ3=>exact fun σ3 G3 H3 er3 g3=>⟨rfl,hlt,ρ3,G3,er3,fun b o e=>g3 b o (gss b o (g1 b o e)),hf⟩
  | ret r=>exact hf
 ·have e:i=x.1.length:=by omega
  subst e;rw [List.drop_length] at hw;exact .inl ⟨it2.2 rfl,hw σ' Gb H' erb fun b o e=>g1 b o (p1.gs b o e)⟩
theorem qfN (gs:Gs κ K k X Γ) (A:All κ K k X Γ m) (S:AllS κ K X Γ m w) (c:Expr) (body:List Stmt) (p:Pos):PS X (.While c body [] p) (tS κ K G₀ H₀ Γ (m+1) w (.While c body [] p)):=by
 refine PS.imp (qe6 gs.own (A.t G₀ H₀ c) (S.ss G₀ H₀ body)) fun D σ H hq1=>?_;show 0;refine ⟨fun n σ' H'=>∃ ρb Gb,ER κ K G₀ H₀ Gb H' ρb σ'/\qv G Gb/\Wk (whL (fun ρ1=>evT m Γ c ρ1) (fun ρ1=>qdW m w Γ body ρ1) n ρb) (FlP κ K G₀ H₀ G D),⟨w,ρ,G,er,fun _ _ e=>e,h⟩,?_⟩;rintro n σ' H' ⟨ρb,Gb,erb,g1,hw⟩
 cases n with
 | zero=>exact False.elim hw
 | succ n=>
  refine ⟨ρb,Gb,erb,Wk.mono (Wk.th (x:=evT m Γ c ρb) hw) fun b hw G2 H2 p2=>?_⟩;obtain ⟨d,ρ2⟩:=b
  cases d with
  | false=>rw [if_neg (fun z=>by cases z)];exact hw σ' G2 H2 p2.er fun b o e=>p2.gs b o (g1 b o e)
  | true=>
   rw [if_pos rfl];refine ⟨_,fun σ3 H3 w=>⟨n,Nat.lt_succ_self n,w⟩,ρ2,G2,p2.er,Wk.mono (Wk.th hw) fun f hf=>?_⟩
   cases f with
   | next ρ3=>exact fun σ3 G3 H3 er3 g3=>⟨ρ3,G3,er3,fun b o e=>g3 b o (p2.gs b o (g1 b o e)),hf⟩
   | ret r=>exact hf
theorem qic (gd:Gd κ K k X Γ) (A:All κ K k X Γ m) (e:Expr) (p:Pos):PS X (.Expr e p) (tS κ K G₀ H₀ Γ (m+1) w (.Expr e p)):=by
 have gen:(∀ ρ,evS (m+1) w Γ (.Expr e p) ρ=if qC e=true then (evR m Γ e ρ).th fun x=>.ok (.next x.2) else .no)->PS X (.Expr e p) (tS κ K G₀ H₀ Γ (m+1) w (.Expr e p)):=fun he=>by
  by_cases hn:qC e=true
  case neg=>refine qt fun D σ H hq1=>?_;show 0;rw [he,if_neg hn] at h;exact h
  refine PS.imp (yQ (A.r G₀ H₀ e) (qbS hn _ _ _)) fun D σ H hq1=>?_;show 0;rw [he,if_pos hn] at h;exact ⟨ρ,G,er,Wk.mono (Wk.th h) fun x h v G1 H1 p1 r1=>h σ G1 H1 p1.er p1.gs⟩
 cases e with
 | Call fn es kws cp=>
  cases fn with
  | Attribute o meth ap=>
   cases o with
   | Name x xp=>
    cases kws with
    | cons kw kws=>exact gen fun _=>by match es with | []=>rfl | [_]=>rfl | _::_::_=>rfl
    | nil=>
     match es with
     | [a]=>
      by_cases hl:(ap.endLine == cp.line)=true
      case neg=>exact qt fun D σ H ⟨ρ,G,er,h⟩=>hl (Wk.iff (show Wk (if (ap.endLine == cp.line)=true then _ else R.no) _ from h)).1
      have he:∀ ρ,evS (m+1) w Γ (.Expr (.Call (.Attribute (.Name x xp) meth ap) [a] [] cp) p) ρ=(yW m Γ x meth a ρ).th fun ρ1=>.ok (.next ρ1):=fun ρ=>by show (if (ap.endLine == cp.line)=true then _ else R.no)=_;rw [if_pos hl]
      by_cases h1:meth = "append"
      ·subst h1;exact qdY gd A x a xp ap cp p hl he
      by_cases h2:meth = "extend"
      ·subst h2;exact qdZ gd A x a xp ap cp p hl he
      refine qt fun D σ H hq1=>?_;show 0;rw [he] at h;have h:=Wk.th h;unfold yW at h
      cases e1:zd Γ x ρ with
      | none=>rw [e1] at h;exact h
      | some q=>rw [e1] at h;have h:=(Wk.nif (c:=qj a=true) h).2;rw [if_neg h1,if_neg h2] at h;exact h
     | []=>exact qt fun D σ H ⟨ρ,G,er,h⟩=>h
     | _::_::_=>exact gen fun _=>rfl
   | _=>exact gen fun _=>rfl
  | _=>exact gen fun _=>rfl
 | _=>exact gen fun _=>rfl
theorem qom (gs:Gs κ K k X Γ) (A:All κ K k X Γ m) (A1:All κ K k X Γ (m+1)) (S:AllS κ K X Γ m w) (st:Stmt):PS X st (tS κ K G₀ H₀ Γ (m+1) w st):=by
 cases st with
 | Pass p=>exact PS.imp qhn fun D σ H ⟨ρ,G,er,h⟩=>h σ G H er fun _ _ e=>e
 | Expr e p=>exact qic gs.toGd A e p
 | Return o p=>
  cases o with
  | some e=>exact qkK gs.toGd A e p
  | none=>exact PS.imp qho fun D σ H ⟨ρ,G,er,h⟩=>h .non G H er.base er.g0 er.sub er.fresh (by simp only [ReR,Rep])
 | Assign tgs e p=>
  cases tgs with
  | nil=>exact qt fun D σ H h=>Exists.elim h fun _ h=>Exists.elim h fun _ h=>h.2
  | cons tg tgs=>
   cases tgs with
   | cons t2 tgs=>exact qt fun D σ H h=>Exists.elim h fun _ h=>Exists.elim h fun _ h=>h.2
   | nil=>
    cases tg with
    | Name x xp=>exact qkL gs A A1 x e xp p
    | Tuple es j tp=>exact qd0 gs.toGd A es j tp e p
    | Subscript o i sp=>
     cases o with
     | Name x xp=>exact qd1 gs.toGd A x i e xp sp p
     | _=>exact qt fun D σ H h=>Exists.elim h fun _ h=>Exists.elim h fun _ h=>h.2
    | _=>exact qt fun D σ H h=>Exists.elim h fun _ h=>Exists.elim h fun _ h=>h.2
 | If c a b p=>exact qmV A S c a b p
 | For tg it body orelse p=>
  cases orelse with
  | nil=>exact qkM gs A S tg it body p
  | cons s l=>exact qt fun D σ H h=>Exists.elim h fun _ h=>Exists.elim h fun _ h=>h.2
 | While c body orelse p=>
  cases orelse with
  | nil=>exact qfN gs A S c body p
  | cons s l=>exact qt fun D σ H h=>Exists.elim h fun _ h=>Exists.elim h fun _ h=>h.2
 | _=>exact qt fun D σ H h=>Exists.elim h fun _ h=>Exists.elim h fun _ h=>h.2
theorem qmW (S:AllS κ K X Γ m w):∀ l,PSs X l (tSs κ K G₀ H₀ Γ (m+1) w l)
 | []=>PSs.imp JE fun D σ H ⟨ρ,G,er,h⟩=>h σ G H er fun _ _ e=>e
 | st::l=>by
  refine PSs.imp (qX (S.s G₀ H₀ st) (S.ss G₀ H₀ l)) fun D σ H hq1=>?_;show 0;refine ⟨ρ,G,er,Wk.mono (Wk.th (x:=evS m w Γ st ρ) h) fun f hf=>?_⟩
  cases f with
  | next ρ1=>exact fun σ1 G1 H1 er1 g1=>⟨ρ1,G1,er1,Wk.mono hf fun f hf=>hf.back g1⟩
  | ret r=>exact hf
theorem qnq (gs:Gs κ K k X Γ):∀ m,AllS κ K X Γ m w
 | 0=>⟨fun _ _ st=>qt fun D σ H ⟨ρ,G,er,h⟩=>h,fun _ _ l=>qfL fun D σ H ⟨ρ,G,er,h⟩=>h⟩
 | m+1=>
  have S:=qnq gs m
  ⟨fun G₀ H₀ st=>qom gs (all m X Γ gs.toGd) (all (m+1) X Γ gs.toGd) S st,fun G₀ H₀ l=>qmW S l⟩
end
end DE
namespace DE
open PySem PySem.Spec PyProof.Rows L2
def Qv (st:Stmt):List Str:=(zj st).args.map (·.arg)
noncomputable def fnN (st:Stmt):List Str:=Qv st++(qo st).names.filterMap fun x=>if ((x.2 == .local||x.2 == .cell)&&!(Qv st).contains x.1)=true then some x.1 else none
noncomputable def ya (st:Stmt):Bool:=(qo st).kind == .function&&!(qo st).isCoroutine&&!(qo st).isGenerator&&decide (fnN st).Nodup&&(Qv st).all (qc2 (qo st))&&(qo st).names.all fun y=>y.2 != .free
def toSl:Ar->Sl
 | .val d=>.val d
 | .bor l=>.bor l
 | .scr l=>.scr l
def JH (N:List Str) (args:List Ar):Env:=args.map toSl++List.replicate (N.length - args.length) .no
structure Pg where
 defs:List (Str×Stmt)
 gl:Str->Option D
 m:Nat
 w:Nat
 meths:List (Str×Stmt):=[]
 cs:Cs:=Cs.non
 nw:Nat->Str->List Ar->R Rv:=fun _ _ _=>.no
noncomputable def Pg.ct (pg:Pg) (k:Nat) (cl:Str->List Ar->R Rv) (st:Stmt):Ct:=⟨fnN st,qo st,pg.defs.map (·.1),pg.gl,cl,pg.cs,pg.nw k⟩
def flR:Fl->R Rv
 | .next _=>.ok (.val .non)
 | .ret r=>.ok r
noncomputable def evF (pg:Pg) (k:Nat) (cl:Str->List Ar->R Rv) (st:Stmt) (args:List Ar):R Rv:=
 if (ya st&&args.length == (Qv st).length)=true then (qdW pg.m pg.w (pg.ct k cl st) (qS st) (JH (fnN st) args)).th flR else .no
noncomputable def clK (pg:Pg):Nat->Str->List Ar->R Rv
 | 0,_,_=>.no
 | k+1,f,args=>match (pg.defs++pg.meths).lookup f with
  | some st=>evF pg k (clK pg k) st args
  | none=>.no
noncomputable def FnF (K:Frag) (mg:PR) (f:Str) (st:Stmt):Prop:=∃ fa fd,Fun K f f st fa fd/\mg f=some (.ref fa)/\zx K fd (Qv st) []
inductive AllF (K:Frag) (mg:PR):List (Str×Stmt)->Prop where
 | nil:AllF K mg []
 | cons {f:Str} {st:Stmt} {l:List (Str×Stmt)} (h:FnF K mg f st) (t:AllF K mg l):AllF K mg ((f,st)::l)
theorem AllF.mem {K:Frag} {mg:PR}:∀ {l:List (Str×Stmt)} {f:Str} {st:Stmt},AllF K mg l->(f,st)∈l->FnF K mg f st
 | _,_,_,.nil,h=>by cases h
 | _,_,_,.cons h t,m=>by
  cases m with
  | head=>exact h
  | tail _ m=>exact t.mem m
noncomputable def qc6 (P:Program) (wd:World) (κ:KC) (K:Frag) (mg:PR) (base:Heap) (pg:Pg) (k:Nat):Prop:=
 (∀ (f:Str) (st:Stmt),pg.defs.lookup f=some st->∃ fa fd,FnOk P wd K mg base CX0 k fa fd (Qv st) (spF κ K (clK pg k) f)/\mg f=some (.ref fa)/\PySem.W.keepIn K (.ref fa)=true/\zx K fd (Qv st) [])/\
 ∀ (f:Str) (st:Stmt),pg.meths.lookup f=some st->pg.defs.lookup f=none->∀ nm fa fd,Fun K nm f st fa fd->FnOk P wd K mg base CX0 k fa fd (Qv st) (spF κ K (clK pg k) f)
structure PgOk (κ:KC) (K:Frag) (mg:PR) (pg:Pg):Prop where
 fn:AllF K mg pg.defs
 blt:∀ f∈qdL,mg f=none
 gl:∀ x d,pg.gl x=some d->∃ v u,mg x=some u/\qN v u/\∀ G,Rep κ G d v
 cls:∀ c C,κ c=some C->Cls K C
 flds:∀ c x C,pg.cs.fld c x=true->κ c=some C->zG K C x
 mts:∀ c x f,pg.cs.mt c x=some f->∃ C fa fd st nm,κ c=some C/\Meth K C x fa/\pg.meths.lookup f=some st/\pg.defs.lookup f=none/\Fun K nm f st fa fd/\zx K fd (Qv st) []
 mks:∀ P wd base k,(∀ j,j < k->qc6 P wd κ K mg base pg j)->∀ f,pg.cs.tab.contains f=true->(∀ args,pg.nw k f args=.no)\/∃ C fa fd ps sp,Mk K C fa/\FnOk P wd K mg base CX0 (k - 1) fa fd ps sp/\mg f=some (.ref C)/\zx K fd ps []/\0 < k/\
  ∀ vs H Q,spF κ K (pg.nw k) f vs H Q E0->∀ x dx,H x=none->H dx=none->dx≠x->sp (.ref x::vs) (upd (upd H dx (.own x)) x (.ins C dx [])) (fun v H2=>v=.non/\Q (.ref x) H2) E0
 subs:∀ c t b,pg.cs.sub c t=some b->∃ C T,κ c=some C/\(∀ H p dx fs,H p=some (HO.ins C dx fs)->TyOf K H (.ref p) (.ref C))/\mg t=some (.ref T)/\PySem.W.kitOne K (.ref C) (.ref T)=some b
section
variable {P:Program} {wd:World} {κ:KC} {K:Frag} {mg:PR} {base:Heap} {pg:Pg}
theorem JC.len {G H:Hp}:∀ {args:List Ar} {vs:List V},JC κ K G H args vs->args.length=vs.length
 | [],vs,h=>by simp only [JC] at h;subst h;rfl
 | a::l,vs,h=>by simp only [JC] at h;obtain ⟨v,r,rfl,_,h2⟩:=h;simp [JC.len h2]
theorem JC.at {G H:Hp}:∀ {args:List Ar} {vs:List V} {i:Nat} {a:Ar},JC κ K G H args vs->args[i]?=some a->∃ v,vs[i]?=some v/\ArR κ K G H a v
 | [],vs,i,a,h,e=>by simp at e
 | b::l,vs,0,a,h,e=>by simp only [JC] at h;obtain ⟨v,r,rfl,h1,h2⟩:=h;simp at e;subst e;exact ⟨v,rfl,h1⟩
 | b::l,vs,i+1,a,h,e=>by simp only [JC] at h;obtain ⟨v,r,rfl,h1,h2⟩:=h;obtain ⟨v',e1,e2⟩:=JC.at (i:=i) h2 (by simpa using e);exact ⟨v',by simpa using e1,e2⟩
theorem qfO {G H:Hp} {args:List Ar} {vs:List V} {N:List Str} (sub:qv G H) (h:JC κ K G H args vs):ER κ K G H G H (JH N args) (L2.Yy N vs):=by
 have hl:=h.len;refine ⟨by simp [JH,L2.Yy,hl],sub,fun _ _ e=>e,fun _ _ e=>e,fun a o e=>.inl ⟨o,e⟩,fun i s e=>?_,fun i j a l n e1=>?_⟩
 ·unfold JH at e;unfold L2.Yy
  by_cases hi:i < args.length
  ·rw [List.getElem?_append_left (by simpa using hi),List.getElem?_map] at e;obtain ⟨b,e1,rfl⟩:=Option.map_eq_some_iff.mp e;obtain ⟨v,e2,e3⟩:=h.at e1;rw [List.getElem?_append_left (by rw [List.length_map,<-hl];exact hi),List.getElem?_map,e2]
   cases b with
   | val d=>exact ⟨v,rfl,e3⟩
   | bor l=>obtain ⟨a,xs,rfl,h1,h2⟩:=e3;exact ⟨a,xs,rfl,h1,h2⟩
   | scr l=>obtain ⟨a,xs,rfl,h1,h2⟩:=e3;exact ⟨a,xs,rfl,h1,h2⟩
  ·rw [List.getElem?_append_right (by simpa using hi)] at e
   have:s=.no:=by
    have:=List.mem_of_getElem? e
    exact List.eq_of_mem_replicate this
   subst this;trivial
 ·exfalso;unfold JH at e1
  by_cases hi:i < args.length
  ·rw [List.getElem?_append_left (by simpa using hi),List.getElem?_map] at e1;obtain ⟨b,_,z⟩:=Option.map_eq_some_iff.mp e1
   cases b<;>cases z
  ·rw [List.getElem?_append_right (by simpa using hi)] at e1
   have:=List.eq_of_mem_replicate (List.mem_of_getElem? e1)
   cases this
theorem Qw {st:Stmt} (h:ya st=true):FnScope (fnN st) (Qv st) (qo st):=by unfold ya at h;simp only [Bool.and_eq_true,Bool.not_eq_true',List.all_eq_true] at h;obtain ⟨⟨⟨⟨⟨h1,h2⟩,h3⟩,h4⟩,h5⟩,h6⟩:=h;refine ⟨by simpa using h1,h2,h3,of_decide_eq_true h4,by simp [fnN],fun x hx=>qdM (h5 x hx),fun y hy=>by simpa using h6 y hy⟩
theorem Yr {k:Nat} {f:Str} {st:Stmt} {args:List Ar} (h:(pg.defs++pg.meths).lookup f=some st):clK pg (k+1) f args=evF pg k (clK pg k) st args:=by show (match (pg.defs++pg.meths).lookup f with | some st=>evF pg k (clK pg k) st args | none=>.no)=_;rw [h]
theorem qd2 {f:Str} {st:Stmt}:∀ {l m:List (Str×Stmt)},l.lookup f=some st->(l++m).lookup f=some st
 | [],m,h=>by cases h
 | (g,s)::l,m,h=>by
  rw [List.lookup_cons] at h;rw [List.cons_append,List.lookup_cons]
  cases e:(f == g) with
  | true=>rw [e] at h;exact h
  | false=>rw [e] at h;exact qd2 h
theorem qgU {f:Str}:∀ {l m:List (Str×Stmt)},l.lookup f=none->(l++m).lookup f=m.lookup f
 | [],m,h=>rfl
 | (g,s)::l,m,h=>by
  rw [List.lookup_cons] at h;rw [List.cons_append,List.lookup_cons]
  cases e:(f == g) with
  | true=>rw [e] at h;cases h
  | false=>rw [e] at h;exact qgU h
theorem qaj {f:Str}:∀ {l:List (Str×Stmt)},(l.map (·.1)).contains f=true->∃ st,l.lookup f=some st
 | [],h=>by simp at h
 | (g,st)::l,h=>by
  by_cases e:f=g
  ·subst e;exact ⟨st,by simp [List.lookup_cons]⟩
  ·have hb:(f == g)=false:=by simpa using e
   obtain ⟨s,hs⟩:=qaj (l:=l) (f:=f) (by simp only [List.map_cons,List.contains_cons,hb,Bool.false_or] at h;exact h)
   exact ⟨s,by rw [List.lookup_cons,hb];exact hs⟩
theorem qbd (ok:PgOk κ K mg pg) {k:Nat} (ih:∀ j,j<=k->qc6 P wd κ K mg base pg j) {nm f:Str} {st:Stmt} {fa:Addr} {fd:FuncData} (F:Fun K nm f st fa fd) (h:(pg.defs++pg.meths).lookup f=some st):FnOk P wd K mg base CX0 (k+1) fa fd (Qv st) (spF κ K (clK pg (k+1)) f):=by
  by_cases hc:ya st=true
  case neg=>
   have no:∀ {vs:List V} {H:Hp} {Q:VK} {E:XK},spF κ K (clK pg (k+1)) f vs H Q E->False:=fun {vs H Q E} ⟨G,args,_,_,z⟩=>by
    rw [Yr h] at z
    have:=(Wk.iff (show Wk (if (ya st&&args.length == (Qv st).length)=true then _ else R.no) _ from z)).1
    rw [Bool.and_eq_true] at this;exact hc this.1
   exact ⟨fun vs H Q E z=>(no z).elim,fun A outer s H args us vs Q E _ _ _ _ z=>(no z).elim⟩
  refine F.ok (Qw hc) (fun vs H Q E z=>?_) (fun cdv A outer s H vs Q E hr z=>?_)
  ·obtain ⟨G,args,_,ha,z⟩:=z;rw [Yr h] at z
   have:=(Wk.iff (show Wk (if (ya st&&args.length == (Qv st).length)=true then _ else R.no) _ from z)).1
   rw [Bool.and_eq_true] at this;rw [<-ha.len]
   simpa using this.2
  ·obtain ⟨G,args,sub,ha,z⟩:=z;rw [Yr h] at z;have z:=(Wk.iff (show Wk (if (ya st&&args.length == (Qv st).length)=true then _ else R.no) _ from z)).2;have S:=Qw hc
   have gs:Gs κ K k (qhz CX0 P wd K mg base (fnN st) f (qo st) fa cdv A outer s H E).nox (pg.ct k (clK pg k) st):=
    {hN:=rfl
     vis:=fun x h=>qgJ h
     loc:=fun x h=>⟨qdM h,.inl rfl⟩
     glo:=fun x h=>by have h:((qo st).names.lookup x == some NameKind.globalImplicit)=true:=h;exact (by simpa using h:(qo st).names.lookup x=some .globalImplicit)
     cf:=fun x h=>h
     nd:=S.nd
     calm:=rfl
     hK:=rfl
     room:=hr
     fns:=fun g hg=>by obtain ⟨st',hl⟩:=qaj (l:=pg.defs) hg;obtain ⟨ga,gd,G1,G2,G3,G4⟩:=(ih k (Nat.le_refl k)).1 g st' hl;exact ⟨ga,gd,Qv st',G1,G2,G3,G4⟩
     blt:=ok.blt
     gl:=ok.gl
     cls:=ok.cls
     flds:=ok.flds
     mts:=fun c x f h=>by obtain ⟨C,fa,fd,st',nm,m1,m2,m3,m4,m5,m6⟩:=ok.mts c x f h;exact ⟨C,fa,fd,_,m1,m2,(ih k (Nat.le_refl k)).2 f st' m3 m4 nm fa fd m5,m6⟩
     mks:=ok.mks P wd base k fun j hj=>ih j (Nat.le_of_lt hj)
     subs:=ok.subs
     own:=PassesOwn.never
     sceq:=rfl
     fnk:=S.kind }
   refine ⟨_,(qnq gs (w:=pg.w) pg.m).ss G H (qS st),JH (fnN st) args,G,qfO sub ha,Wk.mono (Wk.th z) fun fl hf=>?_⟩
   cases fl with
   | next ρ=>exact fun σ' G' H' er g'=>hf .non G' H' er.base er.g0 er.sub er.fresh (by simp only [ReR,Rep])
   | ret r=>exact hf
theorem qkN (ok:PgOk κ K mg pg):∀ k j:Nat,j<=k->qc6 P wd κ K mg base pg j:=by
 have zero:qc6 P wd κ K mg base pg 0:=by refine ⟨fun f st h=>?_,fun f st h _ nm fa fd F=>⟨fun vs H Q E ⟨G,args,_,_,z⟩=>False.elim z,fun A outer s H args us vs Q E _ _ _ _ ⟨G,args',_,_,z⟩=>False.elim z⟩⟩;obtain ⟨fa,fd,F,hm,hb⟩:=ok.fn.mem (PySem.mem_of_lookup h);exact ⟨fa,fd,⟨fun vs H Q E ⟨G,args,_,_,z⟩=>False.elim z,fun A outer s H args us vs Q E _ _ _ _ ⟨G,args',_,_,z⟩=>False.elim z⟩,hm,F.kp,hb⟩
 intro k
 induction k with
 | zero=>intro j hj;rw [Nat.le_zero.mp hj];exact zero
 | succ k ih=>
  intro j hj;rcases Nat.lt_or_ge j (k+1) with h | h
  ·exact ih j (Nat.le_of_lt_succ h)
  ·obtain rfl:j=k+1:=Nat.le_antisymm hj h;refine ⟨fun f st h=>?_,fun f st h h0 nm fa fd F=>?_⟩
   ·obtain ⟨fa,fd,F,hm,hb⟩:=ok.fn.mem (PySem.mem_of_lookup h);exact ⟨fa,fd,qbd ok ih F (qd2 h),hm,F.kp,hb⟩
   ·exact qbd ok ih F ((qgU h0).trans h)
theorem qak (G:Hp):∀ ns:List Int,qr κ G (ns.map D.int) (ns.map V.int)
 | []=>.nil
 | n::ns=>.cons (by simp only [Rep]) (qak G ns)
theorem qkO {st:Stmt} {k:Nat} {fa:Addr} {fd:FuncData} (ok:PgOk κ K mg pg) (F:Fun K "law" "law" st fa fd) (hl:pg.defs.lookup ("law" : Str)=some st) (hp:Qv st=(["_law_script"]:List Str)) :
  FnOk P wd K mg base CX0 (k+1) fa fd (["_law_script"]:List Str) (spF κ K (clK pg (k+1)) "law"):=by
 have:=qbd (P:=P) (wd:=wd) (base:=base) ok (qkN ok k) F (qd2 hl)
 rw [hp] at this;exact this
theorem qkP {k:Nat} {H:Hp} {a:Addr} {ns:List Int} (hq:SqL K H a (ns.map V.int)) (h:clK pg k "law" [.scr (ns.map D.int)]=.ok (.val (.bl true))):spF κ K (clK pg k) "law" [.ref a] H (fun v _=>v=.bl true) fun _ _ _=>False:=by
 refine ⟨fun _=>none,[.scr (ns.map D.int)],fun _ _ e=>(by cases e),⟨_,_,rfl,⟨a,_,rfl,hq,qak _ ns⟩,rfl⟩,?_⟩;rw [h];intro v G' H' _ _ _ _ r
 simpa only [ReR,Rep] using r
end
end DE
namespace DE
open PySem L2
inductive B1 where
 | len | list | int | srt | sum | all
inductive B2 where
 | max | min | get (n:Int) | rng | inr
inductive Ty where
 | int | bool | str | list | tuple
inductive Tg where
 | one (i:Nat) | many (l:List Nat)
structure Cl where
 f:Str->List Ar->R Rv
 cs:Cs
 nw:Str->List Ar->R Rv
instance:CoeFun Cl (fun _=>Str->List Ar->R Rv):=⟨Cl.f⟩
mutual
inductive E where
 | var (i:Nat) | con (d:D) | bin (op:Operator) (a b:E) | neg (a:E) | not (a:E) | one (a:E) | and (a b:E) | or (a b:E) | cmp (op:CmpOp) (a b:E) | ite (c:T) (a b:E)
 | idx (a i:E) | sli (a:E) (lo hi:O) | lst (l:Es) | tup (l:Es) | call (f:Str) (l:Es) | b1 (f:B1) (a:E) | b2 (f:B2) (a b:E) | isi (t:Ty) (a:E) | isc (t:Str) (a:E) | fld (a:E) (x:Str) | met (a:E) (x:Str) (l:Es) | new (f:Str) (l:Es) | comp (x:E) (src:I) (tg:Tg) (c:F) (n:Nat) (fr:List Nat)
inductive Es where
 | nil | cons (a:E) (l:Es)
inductive T where
 | not (a:T) | one (a:T) | and (a b:T) | or (a b:T) | cmp (op:CmpOp) (a b:E) | chn (op op':CmpOp) (a b c:E) | val (a:E)
inductive O where
 | none | some (a:E)
inductive F where
 | yes | test (c:T)
inductive I where
 | seq (a:E) | rng (a:E) | rng2 (a b:E) | rng3 (a b c:E) | enum (a:E) | zip (a b:E) | rev (a:E)
end
noncomputable def slR (ρ:Env) (i:Nat):R Rv:=match ρ[i]? with
 | some (.val d)=>.ok (.val d)
 | some (.own l)=>.ok (.cell l)
 | some (.bor l)=>.ok (.cell l)
 | some (.scr l)=>.ok (.scr l)
 | _=>.no
noncomputable def slE (ρ:Env) (i:Nat):R (D×Env):=match ρ[i]? with
 | some (.val d)=>.ok (d,ρ)
 | some (.own l)=>.ok (.lst l,ρ.set i (.val (.lst l)))
 | _=>.no
noncomputable def slL (ρ:Env) (i:Nat):R ((Sk×List D)×Env):=match ρ[i]? with
 | some (.val (.lst l))=>.ok ((.lst,l),ρ)
 | some (.val (.tup l))=>.ok ((.tup,l),ρ)
 | some (.val (.str z))=>.ok ((.str,qaV z),ρ)
 | some (.own l)=>.ok ((.lst,l),ρ.set i (.val (.lst l)))
 | some (.bor l)=>.ok ((.lst,l),ρ)
 | some (.scr l)=>.ok ((.lst,l),ρ)
 | _=>.no
noncomputable def slX (ρ:Env) (i:Nat):R Rv:=match ρ[i]? with
 | some (.val d)=>.ok (.val d)
 | some (.own l)=>.ok (.tmp l)
 | _=>.no
def B1.go:B1->Rv->R Rv
 | .len=>lenD
 | .list=>listD
 | .int=>intD
 | .srt=>JG
 | .sum=>qkb
 | .all=>qkd
def B2.go:B2->Rv->Rv->R Rv
 | .max=>maxD
 | .min=>minD
 | .get n=>qac n
 | .rng=>lrD
 | .inr=>qfu
noncomputable def Ty.of:Ty->D->Option Bool
 | _,.ins ..=>none
 | .int,.int _=>some true
 | .int,.bl _=>some true
 | .bool,.bl _=>some true
 | .str,.str _=>some true
 | .list,.lst _=>some true
 | .tuple,.tup _=>some true
 | _,_=>some false
def Ty.go (t:Ty):Rv->Option Bool
 | .scr _=>none
 | r=>t.of r.data
noncomputable def Zb:List Nat->List D->Env->R Env
 | [],[],ρ=>.ok ρ
 | i::l,d::ds,ρ=>Zb l ds (ρ.set i (.val d))
 | _,_,_=>.no
noncomputable def Tg.go:Tg->D->Env->R Env
 | .one i,d,ρ=>.ok (ρ.set i (.val d))
 | .many l,.tup ds,ρ=>Zb l ds ρ
 | _,_,_=>.no
def toAr:Rv->Ar
 | .val d=>.val d
 | .tmp l=>.val (.lst l)
 | .cell l=>.bor l
 | .scr l=>.scr l
def qal (n:Nat) (fr:List Nat) (ρ:Env):Env:=List.replicate n Sl.no++fr.map fun i=>qeZ (ρ.getD i .no)
noncomputable def qgV (x:Rv×Env):R (D×Env):=match x.1 with
 | .val d=>.ok (d,x.2)
 | .tmp l=>.ok (.lst l,x.2)
 | _=>.no
noncomputable def qfP (x:Rv×Env):R ((Sk×List D)×Env):=match x.1 with
 | .val (.lst l)=>.ok ((.lst,l),x.2)
 | .val (.tup l)=>.ok ((.tup,l),x.2)
 | .val (.str z)=>.ok ((.str,qaV z),x.2)
 | .tmp l=>.ok ((.lst,l),x.2)
 | _=>.no
noncomputable def jO (e:E) (r:Env->R (Rv×Env)) (ρ:Env):R (D×Env):=match e with
 | .var i=>slE ρ i
 | .con d=>.ok (d,ρ)
 | _=>(r ρ).th qgV
noncomputable def yC (e:E) (r:Env->R (Rv×Env)) (ρ:Env):R ((Sk×List D)×Env):=match e with
 | .var i=>slL ρ i
 | _=>(r ρ).th qfP
mutual
noncomputable def iR (cl:Cl):E->Env->R (Rv×Env)
 | .var i,ρ=>(slR ρ i).th fun r=>.ok (r,ρ)
 | .con d,ρ=>.ok (.val d,ρ)
 | .bin op a b,ρ=>(iR cl a ρ).th fun x=>(iR cl b x.2).th fun y=>(qaW op x.1 y.1).th fun r=>.ok (r,y.2)
 | .neg a,ρ=>(iR cl a ρ).th fun x=>match x.1 with
  | .val (.int i)=>.ok (.val (.int (-i)),x.2)
  | _=>.no
 | .not a,ρ=>(iR cl a ρ).th fun x=>match x.1 with
  | .val (.bl b)=>.ok (.val (.bl (!b)),x.2)
  | _=>.no
 | .one a,ρ=>iR cl a ρ
 | .and a b,ρ=>(iR cl a ρ).th fun x=>match x.1 with
  | .val (.bl true)=>iR cl b x.2
  | .val (.bl false)=>.ok (.val (.bl false),x.2)
  | _=>.no
 | .or a b,ρ=>(iR cl a ρ).th fun x=>match x.1 with
  | .val (.bl false)=>iR cl b x.2
  | .val (.bl true)=>.ok (.val (.bl true),x.2)
  | _=>.no
 | .cmp op a b,ρ=>(iR cl a ρ).th fun x=>(iR cl b x.2).th fun y=>(R.of (JX op x.1 y.1)).th fun r=>.ok (.val (.bl r),y.2)
 | .ite c a b,ρ=>(iT cl c ρ).th fun t=>if t.1 then iR cl a t.2 else iR cl b t.2
 | .idx a i,ρ=>(iR cl a ρ).th fun x=>(iR cl i x.2).th fun y=>(idxD x.1 y.1).th fun r=>.ok (r,y.2)
 | .sli a lo hi,ρ=>(iR cl a ρ).th fun x=>(iO cl lo x.2).th fun l=>(iO cl hi l.2).th fun h=>(sliceD x.1 l.1 h.1).th fun r=>.ok (r,h.2)
 | .lst l,ρ=>(iEs cl l ρ).th fun x=>if x.1.length<=sizeLine then .ok (.tmp x.1,x.2) else .no
 | .tup l,ρ=>(iEs cl l ρ).th fun x=>if x.1.length<=sizeLine then .ok (.val (.tup x.1),x.2) else .no
 | .call f l,ρ=>(iAs cl l ρ).th fun x=>(cl f x.1).th fun r=>.ok (r,x.2)
 | .b1 f a,ρ=>(iR cl a ρ).th fun x=>(f.go x.1).th fun r=>.ok (r,x.2)
 | .b2 f a b,ρ=>(iR cl a ρ).th fun x=>(iR cl b x.2).th fun y=>(f.go x.1 y.1).th fun r=>.ok (r,y.2)
 | .isi t a,ρ=>(iR cl a ρ).th fun x=>(R.of (t.go x.1)).th fun b=>.ok (.val (.bl b),x.2)
 | .isc t a,ρ=>(iR cl a ρ).th fun x=>(R.of (qdK cl.cs x.1 t)).th fun b=>.ok (.val (.bl b),x.2)
 | .fld a x,ρ=>(iR cl a ρ).th fun y=>(R.of (qc4 cl.cs y.1 x)).th fun d=>.ok (.val d,y.2)
 | .met a x l,ρ=>(iR cl a ρ).th fun y=>match mtD cl.cs y.1 x with
  | some f=>(iAs cl l y.2).th fun z=>(cl f (toAr y.1::z.1)).th fun r=>.ok (r,z.2)
  | none=>if x = "index" then (iAs cl l y.2).th fun z=>(ixM y.1 z.1).th fun r=>.ok (r,z.2) else .no
 | .new f l,ρ=>(iAs cl l ρ).th fun x=>(cl.nw f x.1).th fun r=>.ok (r,x.2)
 | .comp e src tg c n fr,ρ=>(iI cl src ρ).th fun x=>if x.1.length<=sizeLine then (qae tg.go (fun ρ1=>iF cl c ρ1) (jO e (iR cl e)) x.1 (qal n fr x.2) []).th fun l=>.ok (.tmp l,x.2) else .no
noncomputable def iT (cl:Cl):T->Env->R (Bool×Env)
 | .not a,ρ=>(iT cl a ρ).th fun t=>.ok (!t.1,t.2)
 | .one a,ρ=>iT cl a ρ
 | .and a b,ρ=>(iT cl a ρ).th fun t=>if t.1 then iT cl b t.2 else .ok (false,t.2)
 | .or a b,ρ=>(iT cl a ρ).th fun t=>if t.1 then .ok (true,t.2) else iT cl b t.2
 | .cmp op a b,ρ=>(iR cl a ρ).th fun x=>(iR cl b x.2).th fun y=>(R.of (JX op x.1 y.1)).th fun r=>.ok (r,y.2)
 | .chn op op' a b c,ρ=>(iR cl a ρ).th fun x=>(iR cl b x.2).th fun y=>(R.of (JX op x.1 y.1)).th fun r=>if r=true then (iR cl c y.2).th fun z=>(R.of (JX op' y.1 z.1)).th fun r'=>.ok (r',z.2) else .ok (false,y.2)
 | .val a,ρ=>(iR cl a ρ).th fun x=>(R.of (truthD x.1)).th fun b=>.ok (b,x.2)
noncomputable def iEs (cl:Cl):Es->Env->R (List D×Env)
 | .nil,ρ=>.ok ([],ρ)
 | .cons e l,ρ=>(jO e (iR cl e) ρ).th fun x=>(iEs cl l x.2).th fun y=>.ok (x.1::y.1,y.2)
noncomputable def iAs (cl:Cl):Es->Env->R (List Ar×Env)
 | .nil,ρ=>.ok ([],ρ)
 | .cons e l,ρ=>(iR cl e ρ).th fun x=>(iAs cl l x.2).th fun y=>.ok (toAr x.1::y.1,y.2)
noncomputable def iO (cl:Cl):O->Env->R (Option Int×Env)
 | .none,ρ=>.ok (none,ρ)
 | .some e,ρ=>(iR cl e ρ).th fun x=>match x.1 with
  | .val (.int i)=>.ok (some i,x.2)
  | _=>.no
noncomputable def iF (cl:Cl):F->Env->R (Bool×Env)
 | .yes,ρ=>.ok (true,ρ)
 | .test c,ρ=>iT cl c ρ
noncomputable def iI (cl:Cl):I->Env->R (List D×Env)
 | .seq a,ρ=>(yC a (iR cl a) ρ).th fun x=>.ok (x.1.2,x.2)
 | .rng a,ρ=>(iR cl a ρ).th fun x=>(match x.1.int? with
  | some n=>if qO n=true then .ok (zI 0 n,x.2) else .no
  | none=>.no)
 | .rng3 a b c,ρ=>(iR cl a ρ).th fun x=>(iR cl b x.2).th fun y=>(iR cl c y.2).th fun z=>(rg3 x.1 y.1 z.1).th fun l=>.ok (l,z.2)
 | .rng2 a b,ρ=>(iR cl a ρ).th fun x=>(iR cl b x.2).th fun y=>(match x.1.int?,y.1.int? with
  | some i,some j=>if qO i=true/\qO j=true then .ok (zI i j,y.2) else .no
  | _,_=>.no)
 | .enum a,ρ=>(yC a (iR cl a) ρ).th fun x=>match x.1.1 with | .lst=>.ok (Yg x.1.2,x.2) | _=>.no
 | .rev a,ρ=>(yC a (iR cl a) ρ).th fun x=>match x.1.1 with | .lst=>.ok (x.1.2.reverse,x.2) | _=>.no
 | .zip a b,ρ=>(yC a (iR cl a) ρ).th fun x=>(yC b (iR cl b) x.2).th fun y=>match x.1.1,y.1.1 with | .lst,.lst=>.ok (qbF x.1.2 y.1.2,y.2) | _,_=>.no
end
end DE
namespace DE
open PySem L2
noncomputable def o2 {α β γ:Type} (a:Option α) (b:Option β) (f:α->β->γ):Option γ:=match a,b with
 | some x,some y=>some (f x y)
 | _,_=>none
theorem qp {α β γ:Type} {a:Option α} {b:Option β} {f:α->β->γ} {z:γ} (h:o2 a b f=some z):∃ x y,a=some x/\b=some y/\f x y=z:=by
 cases a with
 | none=>cases h
 | some x=>
  cases b with
  | none=>cases h
  | some y=>exact ⟨x,y,rfl,rfl,Option.some.inj h⟩
def oif {α:Type} (c:Bool) (a:Option α):Option α:=match c with
 | true=>a
 | false=>none
theorem ql {α:Type} {c:Bool} {a:Option α} {z:α} (h:oif c a=some z):c=true/\a=some z:=by
 cases c with
 | true=>exact ⟨rfl,h⟩
 | false=>cases h
def Ct.k (Γ:Ct):Cl:=⟨Γ.cl,Γ.cs,Γ.nw⟩
noncomputable def qam (Γ:Ct) (x:Str):Option E:=oif (qm x) (match qY Γ.N x with
 | some i=>oif (Q6 Γ.sc x) (some (.var i))
 | none=>oif (glB Γ.sc x) ((Γ.gl x).map .con))
noncomputable def qkQ:Const->Option E
 | .none=>some (.con .non)
 | .bool b=>some (.con (.bl b))
 | .int i=>some (.con (.int i))
 | .str s=>some (.con (.str s))
 | _=>none
noncomputable def qjf (t:Str):Option Ty:=if t = "int" then some .int else if t = "bool" then some .bool else if t = "str" then some .str else if t = "list" then some .list else if t = "tuple" then some .tuple else none
noncomputable def qmc (f:Str):Option B1:=if f = "len" then some .len else if f = "list" then some .list else if f = "int" then some .int else if f = "sorted" then some .srt else if f = "sum" then some .sum else if f = "all" then some .all else none
def qmX (f:Str):Option B2:=if f = "max" then some .max else if f = "min" then some .min else none
def qjg (Γ:Ct) (x:Str):Option Nat:=oif (qc2 Γ.sc x&&qm x) (qY Γ.N x)
def qid (Γ:Ct):List Str->Option (List Nat)
 | []=>some []
 | x::l=>o2 (qjg Γ x) (qid Γ l) (· :: ·)
noncomputable def cTg (Γ:Ct) (tg:Expr):Option Tg:=match tg with
 | .Name x _=>(qjg Γ x).map .one
 | .Tuple es j p=>oif (!es.any qj) (match qB (.Tuple es j p) with
  | some xs=>(qid Γ xs).map .many
  | none=>none)
 | _=>none
def qbe:E->Option E
 | .var _=>none
 | e=>some e
mutual
noncomputable def cE:Nat->Ct->Expr->Option E
 | 0,_,_=>none
 | m+1,Γ,e=>match e with
  | .Name x _=>qam Γ x
  | .Constant c _ _=>qkQ c
  | .BinOp a op b _=>o2 (cE m Γ a) (cE m Γ b) (E.bin op)
  | .UnaryOp .USub a _=>(cE m Γ a).map .neg
  | .UnaryOp .Not a _=>(cE m Γ a).map .not
  | .BoolOp _ [a] _=>(cE m Γ a).map .one
  | .BoolOp .And (a::b::l) p=>o2 (cE m Γ a) (cE m Γ (.BoolOp .And (b::l) p)) .and
  | .BoolOp .Or (a::b::l) p=>none
  | .Compare a [op] [b] _=>oif (!behindInMarks op b) (o2 (cE m Γ a) (cE m Γ b) (E.cmp op))
  | .IfExp c a b _=>o2 (cT m Γ c) (o2 (cE m Γ a) (cE m Γ b) Prod.mk) fun c p=>.ite c p.1 p.2
  | .Subscript a (.Slice lo hi none _) _=>o2 (cE m Γ a) (o2 (cO m Γ lo) (cO m Γ hi) Prod.mk) fun a p=>.sli a p.1 p.2
  | .Subscript a (.Slice _ _ (some _) _) _=>none
  | .Subscript a i _=>o2 (cE m Γ a) (cE m Γ i) .idx
  | .List es _=>(cEs m Γ es).map .lst
  | .Tuple es _ _=>(cEs m Γ es).map .tup
  | .Call (.Name f p) es [] _=>oif (qm f&&glB Γ.sc f&&(qY Γ.N f).isNone) (
    if f = "isinstance" then (match es with
     | [a,b]=>(match b with
      | .Name t _=>oif (qm t&&glB Γ.sc t&&(qY Γ.N t).isNone&&!qj a) (match qjf t with | some y=>(cE m Γ a).map (.isi y) | none=>(cE m Γ a).map (.isc t))
      | _=>none)
     | _=>none)
    else if Γ.tab.contains f=true then (cAs m Γ es).map (.call f)
    else if Γ.cs.tab.contains f=true then (cAs m Γ es).map (.new f)
    else match es with
     | [a]=>(match lrE Γ f a with
      | some t=>o2 (cE m Γ t.1) (cE m Γ t.2) (.b2 .rng)
      | none=>oif (!qj a) (o2 (qmc f) (cE m Γ a) .b1))
     | [a,b]=>oif (!(qj a||qj b)) (o2 (qmX f) (o2 (cE m Γ a) (cE m Γ b) Prod.mk) fun f p=>.b2 f p.1 p.2)
     | _=>none)
  | .Attribute o x _=>oif (qZ o) ((cE m Γ o).map fun a=>.fld a x)
  | .Call (.Attribute o x ap) es [] q=>if (qZ o&&(ap.endLine == q.line)&&decide (es.length < 30))=true then (o2 (cE m Γ o) (cAs m Γ es) fun a l=>.met a x l)
   else match dgE Γ o x es (ap.endLine == q.line) with
    | some t=>o2 (cE m Γ t.1) (cE m Γ t.2.1) (.b2 (.get t.2.2))
    | none=>none
  | .ListComp elt [g] sc _=>oif (decide (g.is_async=0)) (match qB g.target with
   | some own=>oif (jE Γ.sc Γ.N (JB Γ.N sc) sc&&decide (own++(JB Γ.N sc).map fun i=>Γ.N.getD i "").Nodup&&jm g.iter)
     (o2 (o2 (cI m Γ (qad g.target) g.iter) (cTg { Γ with N:=own++(JB Γ.N sc).map fun i=>Γ.N.getD i "",sc:=sc } g.target) Prod.mk)
      (o2 (cF m { Γ with N:=own++(JB Γ.N sc).map fun i=>Γ.N.getD i "",sc:=sc } g.ifs) (cX m { Γ with N:=own++(JB Γ.N sc).map fun i=>Γ.N.getD i "",sc:=sc } elt) Prod.mk)
      fun p q=>.comp q.2 p.1 p.2 q.1 own.length (JB Γ.N sc))
   | none=>none)
  | _=>none
noncomputable def cX:Nat->Ct->Expr->Option E
 | 0,_,_=>none
 | m+1,Γ,e=>match e with
  | .Name x _=>qam Γ x
  | e=>(cE m Γ e).bind qbe
noncomputable def cT:Nat->Ct->Expr->Option T
 | 0,_,_=>none
 | m+1,Γ,e=>match e with
  | .UnaryOp .Not a _=>(cT m Γ a).map .not
  | .BoolOp _ [a] _=>(cT m Γ a).map .one
  | .BoolOp .And (a::b::l) p=>o2 (cT m Γ a) (cT m Γ (.BoolOp .And (b::l) p)) .and
  | .BoolOp .Or (a::b::l) p=>o2 (cT m Γ a) (cT m Γ (.BoolOp .Or (b::l) p)) .or
  | .BoolOp _ [] _=>none
  | .IfExp ..=>none
  | .Compare a [op] [b] _=>(match irE Γ op b with
   | some t=>o2 (cE m Γ a) (cE m Γ t) (fun x y=>.val (.b2 .inr x y))
   | none=>oif (!behindInMarks op b) (o2 (cE m Γ a) (cE m Γ b) (T.cmp op)))
  | .Compare ..=>none
  | e=>(cE m Γ e).map .val
noncomputable def cEs:Nat->Ct->List Expr->Option Es
 | 0,_,_=>none
 | m+1,Γ,es=>match es with
  | []=>some .nil
  | e::l=>oif (!qj e) (o2 (cX m Γ e) (cEs m Γ l) .cons)
noncomputable def cAs:Nat->Ct->List Expr->Option Es
 | 0,_,_=>none
 | m+1,Γ,es=>match es with
  | []=>some .nil
  | e::l=>oif (!qj e) (o2 (cE m Γ e) (cAs m Γ l) .cons)
noncomputable def cO:Nat->Ct->Option Expr->Option O
 | 0,_,_=>none
 | m+1,Γ,o=>match o with
  | none=>some .none
  | some e=>(cE m Γ e).map .some
noncomputable def cF:Nat->Ct->List Expr->Option F
 | 0,_,_=>none
 | m+1,Γ,es=>match es with
  | []=>some .yes
  | [c]=>(cT m Γ c).map .test
  | _=>none
noncomputable def cL:Nat->Ct->Expr->Option E
 | 0,_,_=>none
 | m+1,Γ,e=>match e with
  | .Name x _=>oif (qm x&&Q6 Γ.sc x) ((qY Γ.N x).map .var)
  | e=>(cE m Γ e).bind qbe
noncomputable def cI:Nat->Ct->Bool->Expr->Option I
 | 0,_,_,_=>none
 | m+1,Γ,tb,e=>match e with
  | .Call (.Name f p) es [] q=>if f = "range" || f = "enumerate" || f = "zip" || f = "reversed" then oif (qm f&&glB Γ.sc f&&(qY Γ.N f).isNone) (match es with
    | [a]=>oif (!qj a) (if f = "range" then (cE m Γ a).map .rng else if f = "enumerate" then oif tb ((cL m Γ a).map .enum) else if f = "reversed" then (cL m Γ a).map .rev else none)
    | [a,b]=>oif (!(qj a||qj b)) (if f = "range" then o2 (cE m Γ a) (cE m Γ b) .rng2 else if f = "zip" then oif tb (o2 (cL m Γ a) (cL m Γ b) .zip) else none)
    | _=>none)
   else (cL m Γ (.Call (.Name f p) es [] q)).map .seq
  | e=>(cL m Γ e).map .seq
end
structure Same2 (m:Nat):Prop where
 r:∀ Γ e x,cE m Γ e=some x->∀ ρ,evR m Γ e ρ=iR Γ.k x ρ
 e:∀ Γ e x,cX m Γ e=some x->∀ ρ,evE m Γ e ρ=jO x (iR Γ.k x) ρ
 t:∀ Γ e x,cT m Γ e=some x->∀ ρ,evT m Γ e ρ=iT Γ.k x ρ
 es:∀ Γ e x,cEs m Γ e=some x->∀ ρ,qgI m Γ e ρ=iEs Γ.k x ρ
 as:∀ Γ e x,cAs m Γ e=some x->∀ ρ,JZ m Γ e ρ=iAs Γ.k x ρ
 o:∀ Γ e x,cO m Γ e=some x->∀ ρ,evO m Γ e ρ=iO Γ.k x ρ
 f:∀ Γ e x,cF m Γ e=some x->∀ ρ,qke m Γ e ρ=iF Γ.k x ρ
 l:∀ Γ e x,cL m Γ e=some x->∀ ρ,evL m Γ e ρ=yC x (iR Γ.k x) ρ
 i:∀ Γ tb e x,cI m Γ tb e=some x->∀ ρ,evI m Γ tb e ρ=iI Γ.k x ρ
theorem map_some {α β:Type} {o:Option α} {f:α->β} {z:β} (h:o.map f=some z):∃ x,o=some x/\f x=z:=Option.map_eq_some_iff.mp h
section
variable {m:Nat} {Γ:Ct}
theorem YJ {x:Str} {z:E} (h:qam Γ x=some z) (ρ:Env):((yT Γ x ρ).th fun r=>R.ok (r,ρ))=iR Γ.k z ρ/\j6 Γ x ρ=jO z (iR Γ.k z) ρ:=by
 unfold qam at h;obtain ⟨h1,h⟩:=ql h;unfold yT j6;rw [if_pos h1,if_pos h1]
 cases hi:qY Γ.N x with
 | some i=>rw [hi] at h;obtain ⟨h2,h⟩:=ql h;cases h;dsimp only;rw [if_pos h2,if_pos h2];exact ⟨rfl,rfl⟩
 | none=>rw [hi] at h;obtain ⟨h2,h⟩:=ql h;obtain ⟨d,h3,rfl⟩:=map_some h;dsimp only;rw [if_pos h2,if_pos h2,h3];exact ⟨rfl,rfl⟩
theorem qie {t:Str} {y:Ty} (h:qjf t=some y) (r:Rv):qc3 r t=y.go r:=by
 unfold qjf at h
 have main:∀ d:D,qka d t=y.of d:=fun d=>by
  split at h
  ·rename_i e;cases h;subst e;cases d<;>rfl
  split at h
  ·rename_i e;cases h;subst e;cases d<;>rfl
  split at h
  ·rename_i e;cases h;subst e;cases d<;>rfl
  split at h
  ·rename_i e;cases h;subst e;cases d<;>rfl
  split at h
  ·rename_i e;cases h;subst e;cases d<;>rfl
  cases h
 cases r with
 | val d=>exact main d
 | tmp l=>exact main (.lst l)
 | cell l=>exact main (.lst l)
 | scr l=>rfl
theorem qif {f:Str} {b:B1} (h:qmc f=some b) (r:Rv):Q8 f r=b.go r:=by
 unfold qmc at h;unfold Q8
 by_cases h1:f = "len"
 ·rw [if_pos h1] at h ⊢;cases h;rfl
 by_cases h2:f = "list"
 ·rw [if_neg h1,if_pos h2] at h ⊢;cases h;rfl
 by_cases h3:f = "int"
 ·rw [if_neg h1,if_neg h2,if_pos h3] at h ⊢;cases h;rfl
 by_cases h4:f = "sorted"
 ·rw [if_neg h1,if_neg h2,if_neg h3,if_pos h4] at h ⊢;cases h;rfl
 by_cases h5:f = "sum"
 ·rw [if_neg h1,if_neg h2,if_neg h3,if_neg h4,if_pos h5] at h ⊢;cases h;rfl
 by_cases h6:f = "all"
 ·rw [if_neg h1,if_neg h2,if_neg h3,if_neg h4,if_neg h5,if_pos h6] at h ⊢;cases h;rfl
 rw [if_neg h1,if_neg h2,if_neg h3,if_neg h4,if_neg h5,if_neg h6] at h;cases h
theorem qig {f:Str} {b:B2} (h:qmX f=some b) (r s:Rv):qa8 f r s=b.go r s:=by
 unfold qmX at h
 split at h
 ·rename_i e;cases h;subst e;rfl
 split at h
 ·rename_i e;cases h;subst e;rfl
 cases h
theorem qbT {x:Str} {i:Nat} (h:qjg Γ x=some i) (d:D) (ρ:Env):qc5 Γ x d ρ=.ok (ρ.set i (.val d)):=by unfold qjg at h;obtain ⟨h1,h2⟩:=ql h;unfold qc5;rw [h2];show (if (qc2 Γ.sc x&&qm x)=true then R.ok (ρ.set i (.val d)) else .no)=_;rw [if_pos h1]
theorem qan:∀ {xs:List Str} {l:List Nat},qid Γ xs=some l->∀ (ds:List D) (ρ:Env),qa9 Γ xs ds ρ=Zb l ds ρ
 | [],l,h,ds,ρ=>by cases h;cases ds<;>rfl
 | x::xs,l,h,ds,ρ=>by
  obtain ⟨i,l',h1,h2,rfl⟩:=qp h
  cases ds with
  | nil=>rfl
  | cons d ds=>show (qc5 Γ x d ρ).th (fun ρ1=>qa9 Γ xs ds ρ1)=Zb l' ds (ρ.set i (.val d));rw [qbT h1];exact qan h2 ds _
theorem qbf {tg:Expr} {t:Tg} (h:cTg Γ tg=some t) (d:D) (ρ:Env):qhS Γ tg d ρ=t.go d ρ:=by
 cases tg with
 | Name x p=>obtain ⟨i,h1,rfl⟩:=map_some h;exact qbT h1 d ρ
 | Tuple es j p=>
  obtain ⟨h1,h⟩:=ql h
  cases hx:qB (.Tuple es j p) with
  | none=>rw [hx] at h;cases h
  | some xs=>
   rw [hx] at h;obtain ⟨l,h2,rfl⟩:=map_some h;show (R.of (qB (.Tuple es j p))).th _=_;rw [hx]
   cases d with
   | tup ds=>show (if es.any qj=true then R.no else qa9 Γ xs ds ρ)=Zb l ds ρ;rw [if_neg (by simpa using h1)];exact qan h2 ds ρ
   | _=>rfl
 | _=>cases h
theorem JI {e z:E} (h:qbe e=some z):e=z/\∀ i,z≠.var i:=by cases e<;>cases h<;>exact ⟨rfl,fun i z=>by cases z⟩
theorem qih {z:E} (h:∀ i,z≠.var i) (cl:Cl) (ρ:Env):jO z (iR cl z) ρ=(iR cl z ρ).th qgV:=by cases z<;>first | rfl | exact absurd rfl (h _)
theorem qii {z:E} (h:∀ i,z≠.var i) (cl:Cl) (ρ:Env):yC z (iR cl z) ρ=(iR cl z ρ).th qfP:=by cases z<;>first | rfl | exact absurd rfl (h _)
theorem qcG {a a':D->Env->R Env} {t t':Env->R (Bool×Env)} {e e':Env->R (D×Env)} (ha:∀ d ρ,a d ρ=a' d ρ) (ht:∀ ρ,t ρ=t' ρ) (he:∀ ρ,e ρ=e' ρ) (l:List D) (ρ:Env) (acc:List D):qae a t e l ρ acc=qae a' t' e' l ρ acc:=by have h1:a=a':=funext fun d=>funext fun ρ=>ha d ρ;have h2:t=t':=funext ht;have h3:e=e':=funext he;rw [h1,h2,h3]
end
end DE
namespace DE
open PySem L2
theorem qd {α β:Type} {x y:R α} {f g:α->R β} (h:x=y) (i:∀ a,f a=g a):x.th f=y.th g:=by
 subst h
 cases x with
 | ok a=>exact i a
 | _=>rfl
theorem qij (r:Rv):r.ar=toAr r:=by cases r<;>rfl
theorem qfQ {cs:Cs} {t:Str} {y:Ty} (h:qjf t=some y) (r:Rv):qdK cs r t=y.go r:=by
 have gen:qc3 r t=y.go r:=by rw [qie h]
 cases r with
 | val d=>
  cases d with
  | ins c ns ds=>
   have hb:bty.contains t=true:=by
    unfold qjf at h
    by_cases h1:t = "int"
    ·subst h1;decide
    by_cases h2:t = "bool"
    ·subst h2;decide
    by_cases h3:t = "str"
    ·subst h3;decide
    by_cases h4:t = "list"
    ·subst h4;decide
    by_cases h5:t = "tuple"
    ·subst h5;decide
    rw [if_neg h1,if_neg h2,if_neg h3,if_neg h4,if_neg h5] at h;cases h
   show (if bty.contains t=true then none else cs.sub c t)=_;rw [if_pos hb];cases y<;>rfl
  | _=>exact gen
 | _=>exact gen
section
variable {m:Nat}
theorem qkR (S:Same2 m) (Γ:Ct) (e:Expr) (x:E) (h:cE (m+1) Γ e=some x) (ρ:Env):evR (m+1) Γ e ρ=iR Γ.k x ρ:=by
 cases e with
 | Name y p=>exact (YJ h ρ).1
 | Constant c j p=>cases c<;>cases h<;>rfl
 | BinOp a op b p=>obtain ⟨a',b',h1,h2,rfl⟩:=qp h;exact qd (S.r Γ a a' h1 ρ) fun x=>qd (S.r Γ b b' h2 x.2) fun y=>rfl
 | UnaryOp op a p=>
  cases op with
  | USub=>obtain ⟨a',h1,rfl⟩:=map_some h;exact qd (S.r Γ a a' h1 ρ) fun x=>rfl
  | Not=>obtain ⟨a',h1,rfl⟩:=map_some h;exact qd (S.r Γ a a' h1 ρ) fun x=>rfl
  | _=>cases h
 | BoolOp op vs p=>
  cases vs with
  | nil=>cases op<;>cases h
  | cons a vs=>
   cases vs with
   | nil=>
    cases op with
    | And=>obtain ⟨a',h1,rfl⟩:=map_some h;exact S.r Γ a a' h1 ρ
    | Or=>obtain ⟨a',h1,rfl⟩:=map_some h;exact S.r Γ a a' h1 ρ
   | cons b l=>
    cases op with
    | And=>
     obtain ⟨a',b',h1,h2,rfl⟩:=qp h;refine qd (S.r Γ a a' h1 ρ) fun x=>?_;obtain ⟨rv,ρ1⟩:=x
     cases rv with
     | val d=>
      cases d with
      | bl c=>cases c with
       | true=>exact S.r Γ _ b' h2 ρ1
       | false=>rfl
      | _=>rfl
     | _=>rfl
    | Or=>cases h
 | Compare a ops bs p=>
  cases ops with
  | nil=>cases h
  | cons op ops=>
   cases ops with
   | cons _ _=>cases h
   | nil=>
    cases bs with
    | nil=>cases h
    | cons b bs=>
     cases bs with
     | cons _ _=>cases h
     | nil=>
      obtain ⟨hm,h⟩:=ql h;obtain ⟨a',b',h1,h2,rfl⟩:=qp h;have hm:¬ behindInMarks op b=true:=by simpa using hm
      refine qd (S.r Γ a a' h1 ρ) fun x=>qd (S.r Γ b b' h2 x.2) fun y=>?_;rw [if_neg hm]
 | IfExp c a b p=>
  obtain ⟨c',q,h1,h2,rfl⟩:=qp h;obtain ⟨a',b',h3,h4,rfl⟩:=qp h2;refine qd (S.t Γ c c' h1 ρ) fun t=>?_;obtain ⟨d,ρ1⟩:=t
  cases d with
  | true=>exact S.r Γ a a' h3 ρ1
  | false=>exact S.r Γ b b' h4 ρ1
 | Subscript a i p=>
  cases i with
  | Slice lo hi st q=>
   cases st with
   | some st=>cases h
   | none=>obtain ⟨a',q,h1,h2,rfl⟩:=qp h;obtain ⟨l',u',h3,h4,rfl⟩:=qp h2;exact qd (S.r Γ a a' h1 ρ) fun x=>qd (S.o Γ lo l' h3 x.2) fun y=>qd (S.o Γ hi u' h4 y.2) fun z=>rfl
  | _=>obtain ⟨a',b',h1,h2,rfl⟩:=qp h;exact qd (S.r Γ a a' h1 ρ) fun x=>qd (S.r Γ _ b' h2 x.2) fun y=>rfl
 | List es p=>obtain ⟨l,h1,rfl⟩:=map_some h;exact qd (S.es Γ es l h1 ρ) fun x=>rfl
 | Tuple es j p=>obtain ⟨l,h1,rfl⟩:=map_some h;exact qd (S.es Γ es l h1 ρ) fun x=>rfl
 | Call fn es kws q=>
  cases fn with
  | Name f p=>
   cases kws with
   | cons _ _=>cases h
   | nil=>
    obtain ⟨hn,h⟩:=ql h;show (if (qm f&&glB Γ.sc f&&(qY Γ.N f).isNone)=true then _ else R.no)=_;rw [if_pos hn]
    by_cases hi:f = "isinstance"
    ·rw [if_pos hi] at h ⊢
     match es,h with
     | [a,b],h=>
      cases b with
      | Name t tp=>
       obtain ⟨hc,h⟩:=ql h;show (if (qm t&&glB Γ.sc t&&(qY Γ.N t).isNone&&!qj a)=true then _ else R.no)=_;rw [if_pos hc]
       cases h1:qjf t with
       | some y=>rw [h1] at h;obtain ⟨a',h2,rfl⟩:=map_some h;refine qd (S.r Γ a a' h2 ρ) fun x=>?_;rw [qfQ h1]
       | none=>rw [h1] at h;obtain ⟨a',h2,rfl⟩:=map_some h;exact qd (S.r Γ a a' h2 ρ) fun x=>rfl
      | _=>cases h
     | [],h=>cases h
     | [_],h=>cases h
     | _::_::_::_,h=>cases h
    rw [if_neg hi] at h ⊢
    by_cases ht:Γ.tab.contains f=true
    ·rw [if_pos ht] at h ⊢;obtain ⟨l,h1,rfl⟩:=map_some h;exact qd (S.as Γ es l h1 ρ) fun x=>rfl
    rw [if_neg ht] at h ⊢
    by_cases hk:Γ.cs.tab.contains f=true
    ·rw [if_pos hk] at h ⊢;obtain ⟨l,h1,rfl⟩:=map_some h;exact qd (S.as Γ es l h1 ρ) fun x=>rfl
    rw [if_neg hk] at h ⊢
    match es,h with
    | [a],h=>have h:oif (!qj a) (o2 (qmc f) (cE m Γ a) E.b1)=some x:=h;obtain ⟨hs,h⟩:=ql h;obtain ⟨y,a',h1,h2,rfl⟩:=qp h;show (if qj a=true then R.no else _)=_;rw [if_neg (by simpa using hs)];refine qd (S.r Γ a a' h2 ρ) fun x=>?_;rw [qif h1]
    | [a,b],h=>obtain ⟨hs,h⟩:=ql h;obtain ⟨y,q,h1,h2,rfl⟩:=qp h;obtain ⟨a',b',h3,h4,rfl⟩:=qp h2;show (if (qj a||qj b)=true then R.no else _)=_;rw [if_neg (by simpa using hs)];refine qd (S.r Γ a a' h3 ρ) fun x=>qd (S.r Γ b b' h4 x.2) fun z=>?_;rw [qig h1]
    | [],h=>cases h
    | _::_::_::_,h=>cases h
  | Attribute o x ap=>
   cases kws with
   | cons _ _=>cases h
   | nil=>
    have h:(if (qZ o&&(ap.endLine == q.line)&&decide (es.length < 30))=true then _ else match dgE Γ o x es (ap.endLine == q.line) with | some t=>_ | none=>none)=_:=h;show (if (qZ o&&(ap.endLine == q.line)&&decide (es.length < 30))=true then _ else _)=_
    by_cases hc:(qZ o&&(ap.endLine == q.line)&&decide (es.length < 30))=true
    case neg=>
     rw [if_neg hc] at h ⊢
     cases hd:dgE Γ o x es (ap.endLine == q.line) with
     | none=>rw [hd] at h;cases h
     | some t=>rw [hd] at h;obtain ⟨a',b',h1,h2,rfl⟩:=qp h;exact qd (S.r Γ t.1 a' h1 ρ) fun y=>qd (S.r Γ t.2.1 b' h2 y.2) fun z=>rfl
    rw [if_pos hc] at h ⊢;obtain ⟨a',l',h1,h2,rfl⟩:=qp h;refine qd (S.r Γ o a' h1 ρ) fun y=>?_;show (match mtD Γ.cs y.1 x with | some f=>_ | none=>_)=match mtD Γ.cs y.1 x with | some f=>_ | none=>_
    cases mtD Γ.cs y.1 x with
    | some f=>refine qd (S.as Γ es l' h2 y.2) fun z=>?_;rw [qij];rfl
    | none=>
     show (if x = "index" then _ else R.no)=if x = "index" then _ else R.no;split
     ·exact qd (S.as Γ es l' h2 y.2) fun z=>rfl
     ·rfl
  | _=>cases h
 | Attribute o x p=>obtain ⟨hc,h⟩:=ql h;obtain ⟨a',h1,rfl⟩:=map_some h;show (if qZ o=true then _ else R.no)=_;rw [if_pos hc];exact qd (S.r Γ o a' h1 ρ) fun y=>rfl
 | ListComp elt gens sc p=>
  cases gens with
  | nil=>cases h
  | cons g gens=>
   cases gens with
   | cons _ _=>cases h
   | nil=>
    obtain ⟨ha,h⟩:=ql h;have ha:=of_decide_eq_true ha;show (if g.is_async=0 then _ else R.no)=_;rw [if_pos ha]
    cases hx:qB g.target with
    | none=>rw [hx] at h;cases h
    | some own=>
     rw [hx] at h;obtain ⟨hc,h⟩:=ql h;obtain ⟨p1,p2,h1,h2,rfl⟩:=qp h;obtain ⟨src,tg,h3,h4,rfl⟩:=qp h1;obtain ⟨c,el,h5,h6,rfl⟩:=qp h2;refine qd (S.i Γ _ g.iter src h3 ρ) fun y=>?_;show (if (jE Γ.sc Γ.N (JB Γ.N sc) sc&&decide (own++(JB Γ.N sc).map fun i=>Γ.N.getD i "").Nodup&&decide (y.1.length<=sizeLine)&&jm g.iter)=true then _ else R.no)=_;simp only [Bool.and_eq_true] at hc
     have ei:qal own.length (JB Γ.N sc) y.2=JY own (JB Γ.N sc) y.2:=by unfold qal JY;rw [List.map_const']
     by_cases hz:y.1.length<=sizeLine
     ·rw [if_pos (by simp only [Bool.and_eq_true];exact ⟨⟨⟨hc.1.1,hc.1.2⟩,decide_eq_true hz⟩,hc.2⟩),if_pos hz];rw [ei];exact qd (qcG (qbf h4) (S.f _ _ c h5) (S.e _ _ el h6) _ _ _) fun l=>rfl
     ·rw [if_neg (by simp only [Bool.and_eq_true];intro z;exact hz (of_decide_eq_true z.1.2)),if_neg hz]
 | _=>cases h
theorem qkS (S:Same2 m) (Γ:Ct) (e:Expr) (x:E) (h:cX (m+1) Γ e=some x) (ρ:Env):evE (m+1) Γ e ρ=jO x (iR Γ.k x) ρ:=by
 have gen:(cE m Γ e).bind qbe=some x->(evR m Γ e ρ).th (fun x=>match x.1 with
   | .val d=>.ok (d,x.2)
   | .tmp l=>.ok (.lst l,x.2)
   | _=>.no)=jO x (iR Γ.k x) ρ:=fun h=>by
  obtain ⟨y,h1,h2⟩:=Option.bind_eq_some_iff.mp h;obtain ⟨rfl,hv⟩:=JI h2;rw [qih hv];exact qd (S.r Γ e y h1 ρ) fun x=>rfl
 cases e with
 | Name y p=>exact (YJ h ρ).2
 | _=>exact gen h
theorem qik {α β γ:Type} (x:R α) (f:α->R β) (g:β->R γ):(x.th f).th g=x.th fun a=>(f a).th g:=by cases x<;>rfl
theorem qkT (S:Same2 m) (Γ:Ct) (e:Expr) (x:T) (h:cT (m+1) Γ e=some x) (ρ:Env):evT (m+1) Γ e ρ=iT Γ.k x ρ:=by
 have gen:(cE m Γ e).map .val=some x->(evR m Γ e ρ).th (fun x=>(R.of (truthD x.1)).th fun b=>.ok (b,x.2))=iT Γ.k x ρ:=fun h=>by obtain ⟨y,h1,rfl⟩:=map_some h;exact qd (S.r Γ e y h1 ρ) fun x=>rfl
 cases e with
 | UnaryOp op a p=>
  cases op with
  | Not=>obtain ⟨a',h1,rfl⟩:=map_some h;exact qd (S.t Γ a a' h1 ρ) fun x=>rfl
  | _=>exact gen h
 | BoolOp op vs p=>
  cases vs with
  | nil=>cases op<;>cases h
  | cons a vs=>
   cases vs with
   | nil=>
    cases op with
    | And=>obtain ⟨a',h1,rfl⟩:=map_some h;exact S.t Γ a a' h1 ρ
    | Or=>obtain ⟨a',h1,rfl⟩:=map_some h;exact S.t Γ a a' h1 ρ
   | cons b l=>
    cases op with
    | And=>
     obtain ⟨a',b',h1,h2,rfl⟩:=qp h;refine qd (S.t Γ a a' h1 ρ) fun t=>?_;obtain ⟨d,ρ1⟩:=t
     cases d with
     | true=>exact S.t Γ _ b' h2 ρ1
     | false=>rfl
    | Or=>
     obtain ⟨a',b',h1,h2,rfl⟩:=qp h;refine qd (S.t Γ a a' h1 ρ) fun t=>?_;obtain ⟨d,ρ1⟩:=t
     cases d with
     | true=>rfl
     | false=>exact S.t Γ _ b' h2 ρ1
 | IfExp c a b p=>cases h
 | Compare a ops bs p=>
  cases ops with
  | nil=>cases h
  | cons op ops=>
   cases ops with
   | cons op' ops=>cases h
   | nil=>
    cases bs with
    | nil=>cases h
    | cons b bs=>
     cases bs with
     | cons _ _=>cases h
     | nil=>
      have h:(match irE Γ op b with | some t=>_ | none=>_)=_:=h;show (match irE Γ op b with | some t=>_ | none=>_)=_
      cases hi:irE Γ op b with
      | some t=>rw [hi] at h;obtain ⟨a',b',h1,h2,rfl⟩:=qp h;show _=((iR Γ.k a' ρ).th fun x=>(iR Γ.k b' x.2).th fun y=>(qfu x.1 y.1).th fun r=>R.ok (r,y.2)).th fun x=>(R.of (truthD x.1)).th fun b=>R.ok (b,x.2);rw [qik];refine qd (S.r Γ a a' h1 ρ) fun x=>?_;rw [qik];refine qd (S.r Γ t b' h2 x.2) fun y=>?_;rw [qik];rfl
      | none=>
      rw [hi] at h;obtain ⟨hm,h⟩:=ql h;obtain ⟨a',b',h1,h2,rfl⟩:=qp h;have hm:¬ behindInMarks op b=true:=by simpa using hm
      refine qd (S.r Γ a a' h1 ρ) fun x=>qd (S.r Γ b b' h2 x.2) fun y=>?_;rw [if_neg hm]
 | _=>exact gen h
theorem qil (S:Same2 m) (Γ:Ct) (es:List Expr) (x:Es) (h:cEs (m+1) Γ es=some x) (ρ:Env):qgI (m+1) Γ es ρ=iEs Γ.k x ρ:=by
 cases es with
 | nil=>cases h;rfl
 | cons e l=>obtain ⟨hs,h⟩:=ql h;obtain ⟨a,b,h1,h2,rfl⟩:=qp h;show (if qj e=true then R.no else _)=_;rw [if_neg (by simpa using hs)];exact qd (S.e Γ e a h1 ρ) fun x=>qd (S.es Γ l b h2 x.2) fun y=>rfl
theorem qim (S:Same2 m) (Γ:Ct) (es:List Expr) (x:Es) (h:cAs (m+1) Γ es=some x) (ρ:Env):JZ (m+1) Γ es ρ=iAs Γ.k x ρ:=by
 cases es with
 | nil=>cases h;rfl
 | cons e l=>obtain ⟨hs,h⟩:=ql h;obtain ⟨a,b,h1,h2,rfl⟩:=qp h;show (if qj e=true then R.no else _)=_;rw [if_neg (by simpa using hs)];refine qd (S.r Γ e a h1 ρ) fun x=>qd (S.as Γ l b h2 x.2) fun y=>?_;obtain ⟨rv,ρ1⟩:=x;cases rv<;>rfl
theorem qkU (S:Same2 m) (Γ:Ct) (o:Option Expr) (x:O) (h:cO (m+1) Γ o=some x) (ρ:Env):evO (m+1) Γ o ρ=iO Γ.k x ρ:=by
 cases o with
 | none=>cases h;rfl
 | some e=>obtain ⟨a,h1,rfl⟩:=map_some h;exact qd (S.r Γ e a h1 ρ) fun x=>rfl
theorem qkV (S:Same2 m) (Γ:Ct) (es:List Expr) (x:F) (h:cF (m+1) Γ es=some x) (ρ:Env):qke (m+1) Γ es ρ=iF Γ.k x ρ:=by
 match es,h with
 | [],h=>cases h;rfl
 | [c],h=>obtain ⟨a,h1,rfl⟩:=map_some h;exact S.t Γ c a h1 ρ
 | _::_::_,h=>cases h
theorem qkW (S:Same2 m) (Γ:Ct) (e:Expr) (x:E) (h:cL (m+1) Γ e=some x) (ρ:Env):evL (m+1) Γ e ρ=yC x (iR Γ.k x) ρ:=by
 have gen:(cE m Γ e).bind qbe=some x->(evR m Γ e ρ).th (fun x=>match x.1 with
   | .val (.lst l)=>.ok ((.lst,l),x.2)
   | .val (.tup l)=>.ok ((.tup,l),x.2)
   | .val (.str z)=>.ok ((.str,qaV z),x.2)
   | .tmp l=>.ok ((.lst,l),x.2)
   | _=>.no)=yC x (iR Γ.k x) ρ:=fun h=>by
  obtain ⟨y,h1,h2⟩:=Option.bind_eq_some_iff.mp h;obtain ⟨rfl,hv⟩:=JI h2;rw [qii hv];exact qd (S.r Γ e y h1 ρ) fun x=>rfl
 cases e with
 | Name y p=>obtain ⟨hn,h⟩:=ql h;obtain ⟨i,h1,rfl⟩:=map_some h;rw [Bool.and_eq_true] at hn;show YF Γ y ρ=_;unfold YF;rw [if_pos hn.1,h1];dsimp only;rw [if_pos hn.2];rfl
 | _=>exact gen h
theorem qkX (S:Same2 m) (Γ:Ct) (tb:Bool) (e:Expr) (x:I) (h:cI (m+1) Γ tb e=some x) (ρ:Env):evI (m+1) Γ tb e ρ=iI Γ.k x ρ:=by
 have gen:(cL m Γ e).map .seq=some x->(evL m Γ e ρ).th (fun x=>.ok (x.1.2,x.2))=iI Γ.k x ρ:=fun h=>by obtain ⟨y,h1,rfl⟩:=map_some h;exact qd (S.l Γ e y h1 ρ) fun x=>rfl
 cases e with
 | Call fn es kws q=>
  cases fn with
  | Name f p=>
   cases kws with
   | cons _ _=>exact gen h
   | nil=>
    have h:(if (decide (f = "range")||decide (f = "enumerate")||decide (f = "zip")||decide (f = "reversed"))=true then _ else _)=some x:=h;show (if (decide (f = "range")||decide (f = "enumerate")||decide (f = "zip")||decide (f = "reversed"))=true then _ else _)=_
    by_cases hf:(decide (f = "range")||decide (f = "enumerate")||decide (f = "zip")||decide (f = "reversed"))=true
    ·rw [if_pos hf] at h ⊢;obtain ⟨hn,h⟩:=ql h;rw [if_pos hn]
     match es,h with
     | [a],h=>
      obtain ⟨hs,h⟩:=ql h;show (if qj a=true then R.no else _)=_;rw [if_neg (by simpa using hs)]
      by_cases h1:f = "range"
      ·rw [if_pos h1] at h ⊢;obtain ⟨y,h2,rfl⟩:=map_some h;exact qd (S.r Γ a y h2 ρ) fun x=>rfl
      rw [if_neg h1] at h ⊢
      by_cases h2:f = "enumerate"
      ·rw [if_pos h2] at h ⊢;obtain ⟨ht,h⟩:=ql h;obtain ⟨y,h3,rfl⟩:=map_some h;rw [if_pos ht];exact qd (S.l Γ a y h3 ρ) fun x=>rfl
      rw [if_neg h2] at h ⊢
      by_cases h3:f = "reversed"
      ·rw [if_pos h3] at h ⊢;obtain ⟨y,h4,rfl⟩:=map_some h;exact qd (S.l Γ a y h4 ρ) fun x=>rfl
      rw [if_neg h3] at h;cases h
     | [a,b],h=>
      obtain ⟨hs,h⟩:=ql h;show (if (qj a||qj b)=true then R.no else _)=_;rw [if_neg (by simpa using hs)]
      by_cases h1:f = "range"
      ·rw [if_pos h1] at h ⊢;obtain ⟨y,z,h2,h3,rfl⟩:=qp h;exact qd (S.r Γ a y h2 ρ) fun x=>qd (S.r Γ b z h3 x.2) fun x'=>rfl
      rw [if_neg h1] at h ⊢
      by_cases h2:f = "zip"
      ·rw [if_pos h2] at h ⊢;obtain ⟨ht,h⟩:=ql h;obtain ⟨y,z,h3,h4,rfl⟩:=qp h;rw [if_pos ht];exact qd (S.l Γ a y h3 ρ) fun x=>qd (S.l Γ b z h4 x.2) fun x'=>rfl
      rw [if_neg h2] at h;cases h
     | [_,_,_],h=>cases h
     | [],h=>cases h
     | _::_::_::_::_,h=>cases h
    ·rw [if_neg hf] at h ⊢;exact gen h
  | _=>exact gen h
 | _=>exact gen h
theorem qin:∀ m,Same2 m
 | 0=>{ r:=(fun _ _ _ h=>nomatch h),e:=(fun _ _ _ h=>nomatch h),t:=(fun _ _ _ h=>nomatch h),es:=(fun _ _ _ h=>nomatch h),as:=(fun _ _ _ h=>nomatch h),o:=(fun _ _ _ h=>nomatch h),f:=(fun _ _ _ h=>nomatch h),l:=(fun _ _ _ h=>nomatch h),i:=(fun _ _ _ _ h=>nomatch h) }
 | m+1=>have S:=qin m;⟨qkR S,qkS S,qkT S,qil S,qim S,qkU S,qkV S,qkW S,qkX S⟩
end
end DE
namespace DE
open PySem L2
mutual
inductive S where
 | pass | expr (e:E) | app (i:Nat) (e:E) | ext (i:Nat) (e:E) | clr (i:Nat) | ret (e:E) | retN | set (i:Nat) (e:E) | setT (tg:Tg) (e:E) | setI (i:Nat) (x e:E) | ite (c:T) (a b:Ss) | for_ (tg:Tg) (src:I) (b:Ss) | whl (c:T) (b:Ss) | stuck
inductive Ss where
 | nil | cons (s:S) (l:Ss)
end
def zD (ρ:Env) (i:Nat):Option (List D):=match ρ[i]? with
 | some (.own l)=>some l
 | _=>none
noncomputable def qao (e:E) (r:Env->R (Rv×Env)) (ρ:Env):R Rv:=match e with
 | .var i=>slX ρ i
 | .con d=>.ok (.val d)
 | _=>(r ρ).th fun x=>match x.1 with
  | .val d=>.ok (.val d)
  | .tmp l=>.ok (.tmp l)
  | _=>.no
noncomputable def Qx (e:E) (r:Env->R (Rv×Env)) (ρ:Env):R (Sl×Env):=match e with
 | .var i=>(slE ρ i).th fun r=>.ok (.val r.1,r.2)
 | .con d=>.ok (.val d,ρ)
 | _=>(r ρ).th fun x=>match x.1 with
  | .val d=>.ok (.val d,x.2)
  | .tmp l=>.ok (.own l,x.2)
  | _=>.no
mutual
noncomputable def iS (cl:Cl) (w:Nat):S->Env->R Fl
 | .pass,ρ=>.ok (.next ρ)
 | .expr e,ρ=>(iR cl e ρ).th fun x=>.ok (.next x.2)
 | .app i e,ρ=>(match zD ρ i with
  | none=>.no
  | some _=>(jO e (iR cl e) ρ).th fun y=>(match zD y.2 i with
   | some l=>if l.length < sizeLine then .ok (.next (y.2.set i (.own (l++[y.1])))) else .no
   | none=>.no))
 | .ext i e,ρ=>(match zD ρ i with
  | none=>.no
  | some _=>(iR cl e ρ).th fun y=>(match zD y.2 i,y.1.plain? with
   | some l,some n=>if l.length+n.length<=sizeLine then .ok (.next (y.2.set i (.own (l++n)))) else .no
   | _,_=>.no))
 | .clr i,ρ=>(match zD ρ i with
  | some _=>.ok (.next (ρ.set i (.own [])))
  | none=>.no)
 | .ret e,ρ=>(qao e (iR cl e) ρ).th fun r=>.ok (.ret r)
 | .retN,ρ=>.ok (.ret (.val .non))
 | .set i e,ρ=>(Qx e (iR cl e) ρ).th fun s=>.ok (.next (s.2.set i s.1))
 | .setT tg e,ρ=>(jO e (iR cl e) ρ).th fun x=>(tg.go x.1 x.2).th fun ρ1=>.ok (.next ρ1)
 | .setI i x e,ρ=>(jO e (iR cl e) ρ).th fun y=>(match zD y.2 i with
  | none=>.no
  | some _=>(iR cl x y.2).th fun z=>(match zD z.2 i,z.1.int? with
   | some l,some n=>(match ixN l.length n with
    | some k=>.ok (.next (z.2.set i (.own (l.set k y.1))))
    | none=>.no)
   | _,_=>.no))
 | .ite c a b,ρ=>(iT cl c ρ).th fun t=>if t.1 then iSs cl w a t.2 else iSs cl w b t.2
 | .for_ tg src b,ρ=>(iI cl src ρ).th fun x=>qia (fun d ρ1=>(tg.go d ρ1).th fun ρ2=>iSs cl w b ρ2) x.1 x.2
 | .whl c b,ρ=>whL (fun ρ1=>iT cl c ρ1) (fun ρ1=>iSs cl w b ρ1) w ρ
 | .stuck,_=>.no
noncomputable def iSs (cl:Cl) (w:Nat):Ss->Env->R Fl
 | .nil,ρ=>.ok (.next ρ)
 | .cons s l,ρ=>(iS cl w s ρ).th fun f=>match f with
  | .next ρ1=>iSs cl w l ρ1
  | .ret r=>.ok (.ret r)
end
def qkY (Γ:Ct) (x:Str):Option Nat:=oif (qm x&&Q6 Γ.sc x) (qY Γ.N x)
def cV (m:Nat) (Γ:Ct) (e:Expr):Option E:=match e with
 | .Name x _=>qam Γ x
 | e=>(cE m Γ e).bind qbe
mutual
noncomputable def cS:Nat->Ct->Stmt->Option S
 | 0,_,_=>none
 | m+1,Γ,st=>match st with
  | .Pass _=>some .pass
  | .Expr e _=>(match e with
   | .Call (.Attribute (.Name x _) meth ap) [a] [] cp=>oif (ap.endLine == cp.line&&!qj a) (
     if meth = "append" then o2 (qkY Γ x) (cX m Γ a) .app
     else if meth = "extend" then o2 (qkY Γ x) (cE m Γ a) .ext
     else none)
   | .Call (.Attribute (.Name x _) meth ap) [] [] cp=>none
   | e=>oif (qC e) ((cE m Γ e).map .expr))
  | .Return (some e) _=>(cV m Γ e).map .ret
  | .Return none _=>some .retN
  | .Assign [tg] e _=>(match tg with
   | .Name x _=>o2 (qjg Γ x) (cV m Γ e) .set
   | .Tuple es j p=>oif (qC e&&J0 e) (o2 (cTg Γ (.Tuple es j p)) (cX m Γ e) .setT)
   | .Subscript (.Name x _) i _=>oif (qC e&&zW i) (o2 (qkY Γ x) (o2 (cE m Γ i) (cX m Γ e) Prod.mk) fun x p=>.setI x p.1 p.2)
   | _=>none)
  | .If c a b _=>o2 (cT m Γ c) (o2 (cSs m Γ a) (cSs m Γ b) Prod.mk) fun c p=>.ite c p.1 p.2
  | .For tg it body [] _=>oif (jm it) (o2 (o2 (cTg Γ tg) (cI m Γ (qad tg) it) Prod.mk) (cSs m Γ body) fun p b=>.for_ p.1 p.2 b)
  | .While c body [] _=>o2 (cT m Γ c) (cSs m Γ body) .whl
  | .Raise ..=>some .stuck
  | _=>none
noncomputable def cSs:Nat->Ct->List Stmt->Option Ss
 | 0,_,_=>none
 | m+1,Γ,l=>match l with
  | []=>some .nil
  | st::l=>o2 (cS m Γ st) (cSs m Γ l) .cons
end
section
variable {m w:Nat} {Γ:Ct}
theorem yA {x:Str} {i:Nat} (h:qkY Γ x=some i) (ρ:Env):zd Γ x ρ=(zD ρ i).map fun l=>(i,l):=by
 unfold qkY at h;obtain ⟨h1,h2⟩:=ql h;unfold zd zD;rw [if_pos h1,h2];dsimp only
 cases ρ[i]? with
 | none=>rfl
 | some s=>cases s<;>rfl
theorem qgW {e:Expr} {z:E} (h:cV m Γ e=some z) (ρ:Env):evX m Γ e ρ=qao z (iR Γ.k z) ρ/\evA m Γ e ρ=Qx z (iR Γ.k z) ρ:=by
 have S:=qin m
 have gen:(cE m Γ e).bind qbe=some z->((evR m Γ e ρ).th (fun x=>match x.1 with
   | .val d=>R.ok (Rv.val d)
   | .tmp l=>R.ok (Rv.tmp l)
   | _=>.no)=qao z (iR Γ.k z) ρ)/\((evR m Γ e ρ).th (fun x=>match x.1 with
   | .val d=>R.ok (Sl.val d,x.2)
   | .tmp l=>R.ok (Sl.own l,x.2)
   | _=>.no)=Qx z (iR Γ.k z) ρ):=fun h=>by
  obtain ⟨y,h1,h2⟩:=Option.bind_eq_some_iff.mp h;obtain ⟨rfl,hv⟩:=JI h2;rw [S.r Γ e y h1 ρ]
  cases y<;>first | exact ⟨rfl,rfl⟩ | exact absurd rfl (hv _)
 cases e with
 | Name y p=>
  have h:qam Γ y=some z:=h;refine ⟨?_,?_⟩
  ·unfold qam at h;obtain ⟨h1,h⟩:=ql h;show yV Γ y ρ=_;unfold yV;rw [if_pos h1]
   cases hi:qY Γ.N y with
   | some i=>rw [hi] at h;obtain ⟨h2,h⟩:=ql h;cases h;dsimp only;rw [if_pos h2];rfl
   | none=>rw [hi] at h;obtain ⟨h2,h⟩:=ql h;obtain ⟨d,h3,rfl⟩:=map_some h;dsimp only;rw [if_pos h2,h3];rfl
  ·show (j6 Γ y ρ).th _=_;rw [(YJ h ρ).2];unfold qam at h;obtain ⟨h1,h⟩:=ql h
   cases hi:qY Γ.N y with
   | some i=>rw [hi] at h;obtain ⟨h2,h⟩:=ql h;cases h;rfl
   | none=>rw [hi] at h;obtain ⟨h2,h⟩:=ql h;obtain ⟨d,h3,rfl⟩:=map_some h;rfl
 | _=>exact gen h
structure Same3 (m w:Nat):Prop where
 s:∀ Γ st x,cS m Γ st=some x->∀ ρ,evS m w Γ st ρ=iS Γ.k w x ρ
 ss:∀ Γ l x,cSs m Γ l=some x->∀ ρ,qdW m w Γ l ρ=iSs Γ.k w x ρ
theorem qd3 {f g:D->Env->R Fl} (h:∀ d ρ,f d ρ=g d ρ) (l:List D) (ρ:Env):qia f l ρ=qia g l ρ:=by rw [show f=g from funext fun d=>funext fun ρ=>h d ρ]
theorem qfR {t t':Env->R (Bool×Env)} {f g:Env->R Fl} (ht:∀ ρ,t ρ=t' ρ) (h:∀ ρ,f ρ=g ρ) (n:Nat) (ρ:Env):whL t f n ρ=whL t' g n ρ:=by rw [show t=t' from funext ht,show f=g from funext h]
theorem qkZ (S3:Same3 m w) (Γ:Ct) (st:Stmt) (x:S) (h:cS (m+1) Γ st=some x) (ρ:Env):evS (m+1) w Γ st ρ=iS Γ.k w x ρ:=by
 have S:=qin m
 cases st with
 | Pass p=>cases h;rfl
 | Raise a b c=>cases h;rfl
 | Expr e p=>
  have gen:oif (qC e) ((cE m Γ e).map .expr)=some x->(if qC e=true then (evR m Γ e ρ).th fun x=>R.ok (Fl.next x.2) else .no)=iS Γ.k w x ρ:=fun h=>by obtain ⟨h1,h⟩:=ql h;obtain ⟨y,h2,rfl⟩:=map_some h;rw [if_pos h1];exact qd (S.r Γ e y h2 ρ) fun _=>rfl
  cases e with
  | Call fn es kws cp=>
   cases fn with
   | Attribute o meth ap=>
    cases o with
    | Name y yp=>
     cases kws with
     | cons kw kws=>exact match es,h with | [],h=>gen h | [_],h=>gen h | _::_::_,h=>gen h
     | nil=>
      match es,h with
      | [a],h=>
       obtain ⟨hc,h⟩:=ql h;rw [Bool.and_eq_true] at hc;show (if (ap.endLine == cp.line)=true then _ else R.no)=_;rw [if_pos hc.1];have hs:¬ qj a=true:=by simpa using hc.2
       by_cases h1:meth = "append"
       ·rw [if_pos h1] at h;obtain ⟨i,a',h2,h3,rfl⟩:=qp h;show (yW m Γ y meth a ρ).th _=_;unfold yW;rw [yA h2,if_neg hs,if_pos h1];show _=(match zD ρ i with | none=>R.no | some _=>_)
        cases zD ρ i with
        | none=>rfl
        | some l0=>
         dsimp only [Option.map_some];rw [S.e Γ a a' h3 ρ]
         cases jO a' (iR Γ.k a') ρ with
         | ok z=>
          show R.th (match zd Γ y z.2 with | some (i,l)=>_ | none=>_) _=(match zD z.2 i with | some l=>if l.length < sizeLine then _ else _ | none=>R.no);rw [yA h2]
          cases zD z.2 i with
          | none=>rfl
          | some l=>
           show R.th (if l.length < sizeLine then _ else _) _=(if l.length < sizeLine then _ else _)
           by_cases hz:l.length < sizeLine
           ·rw [if_pos hz,if_pos hz];rfl
           ·rw [if_neg hz,if_neg hz];rfl
         | exc c l=>rfl
         | no=>rfl
       rw [if_neg h1] at h
       by_cases h2':meth = "extend"
       ·rw [if_pos h2'] at h;obtain ⟨i,a',h2,h3,rfl⟩:=qp h;show (yW m Γ y meth a ρ).th _=_;unfold yW;rw [yA h2,if_neg hs,if_neg h1,if_pos h2'];show _=(match zD ρ i with | none=>R.no | some _=>_)
        cases zD ρ i with
        | none=>rfl
        | some l0=>
         dsimp only [Option.map_some];rw [S.r Γ a a' h3 ρ]
         cases iR Γ.k a' ρ with
         | ok z=>
          show R.th (match zd Γ y z.2,z.1.plain? with | some (i,l),some n=>_ | _,_=>_) _=_;rw [yA h2];show _=(match zD z.2 i,z.1.plain? with | some l,some n=>_ | _,_=>_)
          cases zD z.2 i with
          | none=>rfl
          | some l=>
           cases z.1.plain? with
           | none=>rfl
           | some n=>
            show R.th (if l.length+n.length<=sizeLine then _ else _) _=(if l.length+n.length<=sizeLine then _ else _)
            by_cases hz:l.length+n.length<=sizeLine
            ·rw [if_pos hz,if_pos hz];rfl
            ·rw [if_neg hz,if_neg hz];rfl
         | exc c l=>rfl
         | no=>rfl
       rw [if_neg h2'] at h;cases h
      | [],h=>cases h
      | _::_::_,h=>exact gen h
    | _=>exact gen h
   | _=>exact gen h
  | _=>exact gen h
 | Return o p=>
  cases o with
  | none=>cases h;rfl
  | some e=>obtain ⟨y,h1,rfl⟩:=map_some h;exact qd (qgW h1 ρ).1 fun _=>rfl
 | Assign tgs e p=>
  match tgs,h with
  | [],h=>cases h
  | _::_::_,h=>cases h
  | [tg],h=>
   cases tg with
   | Name y yp=>obtain ⟨i,a,h1,h2,rfl⟩:=qp h;refine qd (qgW h2 ρ).2 fun s=>?_;unfold qjg at h1;obtain ⟨h3,h4⟩:=ql h1;rw [h4];show (if (qc2 Γ.sc y&&qm y)=true then _ else R.no)=_;rw [if_pos h3]
   | Tuple es j tp=>obtain ⟨hc,h⟩:=ql h;obtain ⟨t,a,h1,h2,rfl⟩:=qp h;rw [Bool.and_eq_true] at hc;show (if qC e=true/\J0 e=true then _ else R.no)=_;rw [if_pos hc];exact qd (S.e Γ e a h2 ρ) fun s=>qd (qbf h1 _ _) fun _=>rfl
   | Subscript o i sp=>
    cases o with
    | Name y yp=>
     obtain ⟨hc,h⟩:=ql h;obtain ⟨j,q,h1,h2,rfl⟩:=qp h;obtain ⟨i',a,h3,h4,rfl⟩:=qp h2;rw [Bool.and_eq_true] at hc;show (if qC e=true/\zW i=true then _ else R.no)=_;rw [if_pos hc];refine qd (S.e Γ e a h4 ρ) fun z=>?_;show (qje m Γ y i z.1 z.2).th _=_;unfold qje;rw [yA h1];show _=(match zD z.2 j with | none=>R.no | some _=>_)
     cases zD z.2 j with
     | none=>rfl
     | some l0=>
      dsimp only [Option.map_some];rw [S.r Γ i i' h3 z.2]
      cases iR Γ.k i' z.2 with
      | ok u=>
       show R.th (match zd Γ y u.2,u.1.int? with | some (j,l),some n=>_ | _,_=>_) _=_;rw [yA h1];show _=(match zD u.2 j,u.1.int? with | some l,some n=>_ | _,_=>_)
       cases zD u.2 j with
       | none=>rfl
       | some l=>
        cases u.1.int? with
        | none=>rfl
        | some n=>
         show R.th (match ixN l.length n with | some k=>_ | none=>_) _=(match ixN l.length n with | some k=>_ | none=>_)
         cases ixN l.length n<;>rfl
      | exc c l=>rfl
      | no=>rfl
    | _=>cases h
   | _=>cases h
 | If c a b p=>
  obtain ⟨c',q,h1,h2,rfl⟩:=qp h;obtain ⟨a',b',h3,h4,rfl⟩:=qp h2;refine qd (S.t Γ c c' h1 ρ) fun t=>?_;obtain ⟨d,ρ1⟩:=t
  cases d with
  | true=>exact S3.ss Γ a a' h3 ρ1
  | false=>exact S3.ss Γ b b' h4 ρ1
 | For tg it body orelse p=>
  cases orelse with
  | cons _ _=>cases h
  | nil=>obtain ⟨hf,h⟩:=ql h;obtain ⟨q,b',h1,h2,rfl⟩:=qp h;obtain ⟨t,src,h3,h4,rfl⟩:=qp h1;show (if jm it=true then _ else R.no)=_;rw [if_pos hf];exact qd (S.i Γ _ it src h4 ρ) fun x=>qd3 (fun d ρ1=>qd (qbf h3 d ρ1) fun ρ2=>S3.ss Γ body b' h2 ρ2) _ _
 | While c body orelse p=>
  cases orelse with
  | cons _ _=>cases h
  | nil=>obtain ⟨c',b',h1,h2,rfl⟩:=qp h;exact qfR (S.t Γ c c' h1) (S3.ss Γ body b' h2) _ _
 | _=>cases h
theorem qio (S3:Same3 m w) (Γ:Ct) (l:List Stmt) (x:Ss) (h:cSs (m+1) Γ l=some x) (ρ:Env):qdW (m+1) w Γ l ρ=iSs Γ.k w x ρ:=by
 cases l with
 | nil=>cases h;rfl
 | cons st l=>
  obtain ⟨a,b,h1,h2,rfl⟩:=qp h;refine qd (S3.s Γ st a h1 ρ) fun f=>?_
  cases f with
  | next ρ1=>exact S3.ss Γ l b h2 ρ1
  | ret r=>rfl
theorem qk0:∀ m,Same3 m w
 | 0=>⟨(fun _ _ _ h=>nomatch h),(fun _ _ _ h=>nomatch h)⟩
 | m+1=>have S3:=qk0 m;⟨qkZ S3,qio S3⟩
end
noncomputable def qon (pg:Pg) (k:Nat) (cl:Str->List Ar->R Rv) (st:Stmt):Option (Nat×Nat×Ss):=oif (ya st) ((cSs pg.m (pg.ct k cl st) (qS st)).map fun b=>((Qv st).length,(fnN st).length,b))
def slN (n:Nat) (args:List Ar):Env:=args.map toSl++List.replicate (n - args.length) .no
noncomputable def runD (cl:Cl) (w:Nat) (c:Nat×Nat×Ss) (args:List Ar):R Rv:=if args.length=c.1 then (iSs cl w c.2.2 (slN c.2.1 args)).th flR else .no
def Pg.kk (pg:Pg) (k:Nat):Cl:=⟨clK pg k,pg.cs,pg.nw k⟩
theorem qq {pg:Pg} {f:Str} {st:Stmt} {c:Nat×Nat×Ss} (hl:(pg.defs++pg.meths).lookup f=some st) (hc:∀ k cl,qon pg k cl st=some c) (k:Nat) (args:List Ar):clK pg (k+1) f args=runD (pg.kk k) pg.w c args:=by
 obtain ⟨h1,h2⟩:=ql (hc k (clK pg k));obtain ⟨b,h3,rfl⟩:=map_some h2;rw [Yr hl];unfold evF runD
 by_cases hn:args.length=(Qv st).length
 ·rw [if_pos (by rw [h1,hn];simp),if_pos hn];exact qd ((qk0 pg.m).ss _ _ _ h3 _) fun _=>rfl
 ·rw [if_neg (by simp [hn]),if_neg hn]
end DE
namespace DE
open PySem L2
variable {cl:Cl} {w:Nat}
theorem th_ok {α β:Type} (a:α) (f:α->R β):(R.ok a).th f=f a:=(rfl)
theorem of_some {α:Type} (a:α):R.of (some a)=.ok a:=(rfl)
noncomputable def yb (cl:Cl) (w:Nat) (tg:Tg) (b:Ss) (l:List D) (ρ:Env):R Fl:=qia (fun d ρ1=>(tg.go d ρ1).th fun ρ2=>iSs cl w b ρ2) l ρ
noncomputable def whD (cl:Cl) (w:Nat) (c:T) (b:Ss) (n:Nat) (ρ:Env):R Fl:=whL (fun ρ1=>iT cl c ρ1) (fun ρ1=>iSs cl w b ρ1) n ρ
noncomputable def zk (cl:Cl) (e:E) (tg:Tg) (c:F) (l:List D) (ρ:Env) (acc:List D):R (List D):=qae tg.go (fun ρ1=>iF cl c ρ1) (jO e (iR cl e)) l ρ acc
def qcH (f:Fl) (g:Env->R Fl):R Fl:=match f with
 | .next ρ1=>g ρ1
 | .ret r=>.ok (.ret r)
section
variable (cl:Cl) (w:Nat) (ρ:Env)
theorem zX (tg:Tg) (b:Ss):yb cl w tg b [] ρ=.ok (.next ρ):=(rfl)
theorem qd4 (tg:Tg) (b:Ss) (d:D) (l:List D):yb cl w tg b (d::l) ρ=((tg.go d ρ).th fun ρ2=>iSs cl w b ρ2).th fun f=>qcH f fun ρ1=>yb cl w tg b l ρ1:=(rfl)
theorem qfS (c:T) (b:Ss) (n:Nat):whD cl w c b (n+1) ρ=(iT cl c ρ).th fun t=>if t.1=true then (iSs cl w b t.2).th fun f=>qcH f fun ρ1=>whD cl w c b n ρ1 else .ok (.next t.2):=(rfl)
theorem qL (e:E) (tg:Tg) (c:F) (acc:List D):zk cl e tg c [] ρ acc=.ok acc:=(rfl)
theorem qcI (e:E) (tg:Tg) (c:F) (d:D) (l acc:List D):zk cl e tg c (d::l) ρ acc=(tg.go d ρ).th fun ρ1=>(iF cl c ρ1).th fun bt=>if bt.1=true then (jO e (iR cl e) bt.2).th fun x=>if acc.length < sizeLine then zk cl e tg c l x.2 (acc++[x.1]) else .no else zk cl e tg c l bt.2 acc:=(rfl)
theorem qk1 (i:Nat) (e:E):iS cl w (.app i e) ρ=(match zD ρ i with
  | none=>.no
  | some _=>(jO e (iR cl e) ρ).th fun y=>(match zD y.2 i with
   | some l=>if l.length < sizeLine then .ok (.next (y.2.set i (.own (l++[y.1])))) else .no
   | none=>.no)):=(rfl)
theorem qk2 (i:Nat) (e:E):iS cl w (.ext i e) ρ=(match zD ρ i with
  | none=>.no
  | some _=>(iR cl e ρ).th fun y=>(match zD y.2 i,y.1.plain? with
   | some l,some n=>if l.length+n.length<=sizeLine then .ok (.next (y.2.set i (.own (l++n)))) else .no
   | _,_=>.no)):=(rfl)
theorem qk3 (e:E):iS cl w (.ret e) ρ=(qao e (iR cl e) ρ).th fun r=>.ok (.ret r):=(rfl)
theorem qk4 (i:Nat) (e:E):iS cl w (.set i e) ρ=(Qx e (iR cl e) ρ).th fun s=>.ok (.next (s.2.set i s.1)):=(rfl)
theorem qip (tg:Tg) (e:E):iS cl w (.setT tg e) ρ=(jO e (iR cl e) ρ).th fun x=>(tg.go x.1 x.2).th fun ρ1=>.ok (.next ρ1):=(rfl)
theorem qiq (i:Nat) (x e:E):iS cl w (.setI i x e) ρ=(jO e (iR cl e) ρ).th fun y=>(match zD y.2 i with
  | none=>.no
  | some _=>(iR cl x y.2).th fun z=>(match zD z.2 i,z.1.int? with
   | some l,some n=>(match ixN l.length n with
    | some k=>.ok (.next (z.2.set i (.own (l.set k y.1))))
    | none=>.no)
   | _,_=>.no)):=(rfl)
theorem qk5 (c:T) (a b:Ss):iS cl w (.ite c a b) ρ=(iT cl c ρ).th fun t=>if t.1=true then iSs cl w a t.2 else iSs cl w b t.2:=(rfl)
theorem qk6 (tg:Tg) (src:I) (b:Ss):iS cl w (.for_ tg src b) ρ=(iI cl src ρ).th fun x=>yb cl w tg b x.1 x.2:=(rfl)
theorem qfT (s:S) (l:Ss):iSs cl w (.cons s l) ρ=(iS cl w s ρ).th fun f=>qcH f fun ρ1=>iSs cl w l ρ1:=(rfl)
theorem qk7 (op:Operator) (a b:E):iR cl (.bin op a b) ρ=(iR cl a ρ).th fun x=>(iR cl b x.2).th fun y=>(qaW op x.1 y.1).th fun r=>.ok (r,y.2):=(rfl)
theorem qk8 (a:E):iR cl (.neg a) ρ=(iR cl a ρ).th fun x=>match x.1 with
  | .val (.int i)=>.ok (.val (.int (-i)),x.2)
  | _=>.no:=(rfl)
theorem qk9 (a:E):iR cl (.not a) ρ=(iR cl a ρ).th fun x=>match x.1 with
  | .val (.bl b)=>.ok (.val (.bl (!b)),x.2)
  | _=>.no:=(rfl)
theorem qla (a b:E):iR cl (.and a b) ρ=(iR cl a ρ).th fun x=>match x.1 with
  | .val (.bl true)=>iR cl b x.2
  | .val (.bl false)=>.ok (.val (.bl false),x.2)
  | _=>.no:=(rfl)
theorem qlb (op:CmpOp) (a b:E):iR cl (.cmp op a b) ρ=(iR cl a ρ).th fun x=>(iR cl b x.2).th fun y=>(R.of (JX op x.1 y.1)).th fun r=>.ok (.val (.bl r),y.2):=(rfl)
theorem qlc (c:T) (a b:E):iR cl (.ite c a b) ρ=(iT cl c ρ).th fun t=>if t.1=true then iR cl a t.2 else iR cl b t.2:=(rfl)
theorem qld (a i:E):iR cl (.idx a i) ρ=(iR cl a ρ).th fun x=>(iR cl i x.2).th fun y=>(idxD x.1 y.1).th fun r=>.ok (r,y.2):=(rfl)
theorem qle (a:E) (lo hi:O):iR cl (.sli a lo hi) ρ=(iR cl a ρ).th fun x=>(iO cl lo x.2).th fun l=>(iO cl hi l.2).th fun h=>(sliceD x.1 l.1 h.1).th fun r=>.ok (r,h.2):=(rfl)
theorem qlf (l:Es):iR cl (.lst l) ρ=(iEs cl l ρ).th fun x=>if x.1.length<=sizeLine then .ok (.tmp x.1,x.2) else .no:=(rfl)
theorem qlg (l:Es):iR cl (.tup l) ρ=(iEs cl l ρ).th fun x=>if x.1.length<=sizeLine then .ok (.val (.tup x.1),x.2) else .no:=(rfl)
theorem qir (f:Str) (l:Es):iR cl (.call f l) ρ=(iAs cl l ρ).th fun x=>(cl f x.1).th fun r=>.ok (r,x.2):=(rfl)
theorem qmY (f:B1) (a:E):iR cl (.b1 f a) ρ=(iR cl a ρ).th fun x=>(f.go x.1).th fun r=>.ok (r,x.2):=(rfl)
theorem qmZ (f:B2) (a b:E):iR cl (.b2 f a b) ρ=(iR cl a ρ).th fun x=>(iR cl b x.2).th fun y=>(f.go x.1 y.1).th fun r=>.ok (r,y.2):=(rfl)
theorem qlh (t:Ty) (a:E):iR cl (.isi t a) ρ=(iR cl a ρ).th fun x=>(R.of (t.go x.1)).th fun b=>.ok (.val (.bl b),x.2):=(rfl)
theorem qli (t:Str) (a:E):iR cl (.isc t a) ρ=(iR cl a ρ).th fun x=>(R.of (qdK cl.cs x.1 t)).th fun b=>.ok (.val (.bl b),x.2):=(rfl)
theorem qlj (a:E) (x:Str):iR cl (.fld a x) ρ=(iR cl a ρ).th fun y=>(R.of (qc4 cl.cs y.1 x)).th fun d=>.ok (.val d,y.2):=(rfl)
noncomputable def goM (cl:Cl) (x:Str) (l:Es) (v:Rv) (ρ:Env):Option Str->R (Rv×Env)
 | some f=>(iAs cl l ρ).th fun z=>(cl f (toAr v::z.1)).th fun r=>.ok (r,z.2)
 | none=>if x = "index" then (iAs cl l ρ).th fun z=>(ixM v z.1).th fun r=>.ok (r,z.2) else .no
theorem qlk (a:E) (x:Str) (l:Es):iR cl (.met a x l) ρ=(iR cl a ρ).th fun y=>goM cl x l y.1 y.2 (mtD cl.cs y.1 x):=by
 show (iR cl a ρ).th _=_
 congr 1
theorem qll (f:Str) (l:Es):iR cl (.new f l) ρ=(iAs cl l ρ).th fun x=>(cl.nw f x.1).th fun r=>.ok (r,x.2):=(rfl)
theorem qis (e:E) (src:I) (tg:Tg) (c:F) (n:Nat) (fr:List Nat):iR cl (.comp e src tg c n fr) ρ=(iI cl src ρ).th fun x=>if x.1.length<=sizeLine then (zk cl e tg c x.1 (qal n fr x.2) []).th fun l=>.ok (.tmp l,x.2) else .no:=(rfl)
theorem qlm (a:T):iT cl (.not a) ρ=(iT cl a ρ).th fun t=>.ok (!t.1,t.2):=(rfl)
theorem qln (a b:T):iT cl (.and a b) ρ=(iT cl a ρ).th fun t=>if t.1=true then iT cl b t.2 else .ok (false,t.2):=(rfl)
theorem qm0 (a b:T):iT cl (.or a b) ρ=(iT cl a ρ).th fun t=>if t.1=true then .ok (true,t.2) else iT cl b t.2:=(rfl)
theorem qlo (op:CmpOp) (a b:E):iT cl (.cmp op a b) ρ=(iR cl a ρ).th fun x=>(iR cl b x.2).th fun y=>(R.of (JX op x.1 y.1)).th fun r=>.ok (r,y.2):=(rfl)
theorem qlp (a:E):iT cl (.val a) ρ=(iR cl a ρ).th fun x=>(R.of (truthD x.1)).th fun b=>.ok (b,x.2):=(rfl)
theorem qfU (e:E) (l:Es):iEs cl (.cons e l) ρ=(jO e (iR cl e) ρ).th fun x=>(iEs cl l x.2).th fun y=>.ok (x.1::y.1,y.2):=(rfl)
theorem qfV (e:E) (l:Es):iAs cl (.cons e l) ρ=(iR cl e ρ).th fun x=>(iAs cl l x.2).th fun y=>.ok (toAr x.1::y.1,y.2):=(rfl)
theorem qit (e:E):iO cl (.some e) ρ=(iR cl e ρ).th fun x=>match x.1 with
  | .val (.int i)=>.ok (some i,x.2)
  | _=>.no:=(rfl)
theorem qlq (a:E):iI cl (.seq a) ρ=(yC a (iR cl a) ρ).th fun x=>.ok (x.1.2,x.2):=(rfl)
theorem qlr (a:E):iI cl (.rng a) ρ=(iR cl a ρ).th fun x=>(match x.1.int? with
  | some n=>if qO n=true then .ok (zI 0 n,x.2) else .no
  | none=>.no):=(rfl)
theorem qiu (a:E):iI cl (.enum a) ρ=(yC a (iR cl a) ρ).th fun x=>match x.1.1 with | .lst=>.ok (Yg x.1.2,x.2) | _=>.no:=(rfl)
theorem qls (a:E):iI cl (.rev a) ρ=(yC a (iR cl a) ρ).th fun x=>match x.1.1 with | .lst=>.ok (x.1.2.reverse,x.2) | _=>.no:=(rfl)
theorem qlt (a b:E):iI cl (.zip a b) ρ=(yC a (iR cl a) ρ).th fun x=>(yC b (iR cl b) x.2).th fun y=>match x.1.1,y.1.1 with | .lst,.lst=>.ok (qbF x.1.2 y.1.2,y.2) | _,_=>.no:=(rfl)
variable (s:Sl) (i:Nat) (d:D) (l:List D)
theorem slR_s:slR (s::ρ) (i+1)=slR ρ i:=(rfl)
theorem slR_v:slR (.val d::ρ) 0=.ok (.val d):=(rfl)
theorem slR_o:slR (.own l::ρ) 0=.ok (.cell l):=(rfl)
theorem slR_b:slR (.bor l::ρ) 0=.ok (.cell l):=(rfl)
theorem slR_c:slR (.scr l::ρ) 0=.ok (.scr l):=(rfl)
theorem slX_s:slX (s::ρ) (i+1)=slX ρ i:=(rfl)
theorem slX_v:slX (.val d::ρ) 0=.ok (.val d):=(rfl)
theorem slX_o:slX (.own l::ρ) 0=.ok (.tmp l):=(rfl)
theorem qm1:slE (s::ρ) (i+1)=(slE ρ i).th fun x=>.ok (x.1,s::x.2):=by
 show (match ρ[i]? with | some (.val d)=>_ | some (.own l)=>_ | _=>_)=R.th (match ρ[i]? with | some (.val d)=>_ | some (.own l)=>_ | _=>_) _
 cases ρ[i]? with
 | none=>rfl
 | some z=>cases z<;>rfl
theorem qm2:slL (s::ρ) (i+1)=(slL ρ i).th fun x=>.ok (x.1,s::x.2):=by
 show (match ρ[i]? with | some (.val (.lst l))=>_ | some (.val (.tup l))=>_ | some (.val (.str z))=>_ | some (.own l)=>_ | some (.bor l)=>_ | some (.scr l)=>_ | _=>_)=R.th (match ρ[i]? with | some (.val (.lst l))=>_ | some (.val (.tup l))=>_ | some (.val (.str z))=>_ | some (.own l)=>_ | some (.bor l)=>_ | some (.scr l)=>_ | _=>_) _
 cases ρ[i]? with
 | none=>rfl
 | some z=>
  cases z with
  | val d=>cases d<;>rfl
  | _=>rfl
theorem ownI_s:zD (s::ρ) (i+1)=zD ρ i:=(rfl)
theorem ownI_o:zD (.own l::ρ) 0=some l:=(rfl)
end
mutual
noncomputable def okD:D->Bool
 | .str s=>PyData.strOk s
 | .lst l=>qe0 l
 | .tup l=>qe0 l
 | .ins ..=>false
 | .non=>true
 | .bl _=>true
 | .int _=>true
noncomputable def qe0:List D->Bool
 | []=>true
 | d::l=>okD d&&qe0 l
end
mutual
noncomputable def dpD:D->Nat
 | .lst l=>qd5 l+1
 | .tup l=>qd5 l+1
 | .str _=>0
 | .ins ..=>0
 | .non=>0
 | .bl _=>0
 | .int _=>0
noncomputable def qd5:List D->Nat
 | []=>0
 | d::l=>max (dpD d) (qd5 l)
end
mutual
theorem qgX:∀ d:D,okD d=true->∃ p,toP d=some p/\p.canLay0=true/\p.depth=dpD d/\PyData.eqv p p=true
 | .non,_=>⟨_,by rw [toP],by rw [PyData.canLay0],by rw [PyData.depth,dpD],by rw [PyData.eqv]⟩
 | .bl b,_=>⟨_,by rw [toP],by rw [PyData.canLay0],by rw [PyData.depth,dpD],by rw [PyData.eqv];simp⟩
 | .int n,_=>⟨_,by rw [toP],by rw [PyData.canLay0],by rw [PyData.depth,dpD],by rw [PyData.eqv];simp⟩
 | .str s,h=>⟨_,by rw [toP],by rw [PyData.canLay0];rw [okD] at h;exact h,by rw [PyData.depth,dpD],by rw [PyData.eqv];simp⟩
 | .lst l,h=>by rw [okD] at h;obtain ⟨p,h1,h2,h3,h4⟩:=qbg l h;exact ⟨.list p,by rw [toP,h1];rfl,by rw [PyData.canLay0];exact h2,by rw [PyData.depth,dpD,h3],by rw [PyData.eqv];exact h4⟩
 | .tup l,h=>by rw [okD] at h;obtain ⟨p,h1,h2,h3,h4⟩:=qbg l h;exact ⟨.tuple p,by rw [toP,h1];rfl,by rw [PyData.canLay0];exact h2,by rw [PyData.depth,dpD,h3],by rw [PyData.eqv];exact h4⟩
 | .ins ..,h=>by rw [okD] at h;cases h
theorem qbg:∀ l:List D,qe0 l=true->∃ p,qc1 l=some p/\PyData.canLayAll0 p=true/\PyData.depthAll p=qd5 l/\PyData.eqvAll p p=true
 | [],_=>⟨[],by rw [qc1],by rw [PyData.canLayAll0],by rw [PyData.depthAll,qd5],by rw [PyData.eqvAll]⟩
 | d::l,h=>by rw [qe0,Bool.and_eq_true] at h;obtain ⟨p,h1,h2,h3,h4⟩:=qgX d h.1;obtain ⟨q,h5,h6,h7,h8⟩:=qbg l h.2;exact ⟨p::q,by rw [qc1,h1,h5];rfl,by rw [PyData.canLayAll0,h2,h6];rfl,by rw [PyData.depthAll,qd5,h3,h7],by rw [PyData.eqvAll,h4,h8];rfl⟩
end
theorem qgY {d:D} (h:okD d=true) (hd:dpD d<=64):∃ p,toP d=some p/\SeqAt.shaped p=true/\PyData.eqv p p=true:=by obtain ⟨p,h1,h2,h3,h4⟩:=qgX d h;exact ⟨p,h1,by unfold SeqAt.shaped;rw [h2,h3];simpa using hd,h4⟩
theorem Zc {d:D} (h:okD d=true) (hd:dpD d<=64):eqD d d=some true:=by obtain ⟨p,h1,h2,h3⟩:=qgY h hd;unfold eqD;rw [h1];dsimp only;rw [h2,h3];rfl
theorem qiv {a b:Str} (ha:PyData.strOk a=true) (hb:PyData.strOk b=true):eqD (.str a) (.str b)=some (a == b):=by unfold eqD;simp only [toP];rw [show SeqAt.shaped (.str a)=true by unfold SeqAt.shaped;simp [PyData.canLay0,PyData.depth,ha],show SeqAt.shaped (.str b)=true by unfold SeqAt.shaped;simp [PyData.canLay0,PyData.depth,hb]];simp [PyData.eqv]
theorem qlu:SeqAt.shaped .none=true:=by unfold SeqAt.shaped;simp [PyData.canLay0,PyData.depth]
theorem qlv (n:Int):SeqAt.shaped (.int n)=true:=by unfold SeqAt.shaped;simp [PyData.canLay0,PyData.depth]
theorem qlw {a:Str} (ha:PyData.strOk a=true):SeqAt.shaped (.str a)=true:=by unfold SeqAt.shaped;simp [PyData.canLay0,PyData.depth,ha]
theorem qx (a b:Int):eqD (.int a) (.int b)=some (a == b):=by unfold eqD;simp only [toP,qlv,Bool.and_self,if_true,PyData.eqv]
theorem qlx {a:Str} (ha:PyData.strOk a=true):eqD (.str a) .non=some false:=by unfold eqD;simp only [toP,qlu,qlw ha,Bool.and_self,if_true,PyData.eqv]
theorem qd6 {l:List D} (h:qe0 l=true) (hd:qd5 l<=63):eqD (.lst l) (.lst [])=some l.isEmpty:=by
 obtain ⟨p,h1,h2,h3⟩:=qgY (d:=.lst l) (by rw [okD];exact h) (by rw [dpD];omega);unfold eqD;have e:toP (.lst [])=some (.list []):=by simp [toP,qc1]
 rw [h1,e];dsimp only;rw [h2,show SeqAt.shaped (.list [])=true by unfold SeqAt.shaped;simp [PyData.canLay0,PyData.canLayAll0,PyData.depth,PyData.depthAll]];rw [toP] at h1;obtain ⟨q,h4,rfl⟩:=Option.map_eq_some_iff.mp h1
 cases l with
 | nil=>rw [qc1] at h4;cases h4;simp [PyData.eqv,PyData.eqvAll]
 | cons d l=>rw [qc1] at h4;obtain ⟨x,h5,h6⟩:=Option.bind_eq_some_iff.mp h4;obtain ⟨y,h7,rfl⟩:=Option.map_eq_some_iff.mp h6;simp [PyData.eqv,PyData.eqvAll]
theorem Zd {α:Type} {l:List α} {i:Int} {j:Nat} (h:i=(j:Int)) (hj:j < l.length):atI l i=some l[j]:=by subst h;unfold atI ixN;rw [if_pos (1:),if_pos (1:)];simp [hj]
theorem qfW {n:Nat}:ixN (n+1) (-1)=some n:=by unfold ixN;rw [if_neg (1:),if_pos (1:),show ((-1:Int)+((n+1:Nat):Int)).toNat=n by omega]
theorem kk_f (pg:Pg) (k:Nat) (f:Str) (args:List Ar):(pg.kk k).f f args=clK pg k f args:=(rfl)
theorem kk_cs (pg:Pg) (k:Nat):(pg.kk k).cs=pg.cs:=(rfl)
theorem kk_nw (pg:Pg) (k:Nat) (f:Str) (args:List Ar):(pg.kk k).nw f args=pg.nw k f args:=(rfl)
end DE
namespace DE
open PySem L2
theorem at_0 {α:Type} (a:α) (l:List α):atI (a::l) 0=some a:=by exact Zd (i:=0) (j:=0) rfl (by simp)
theorem at_1 {α:Type} (a b:α) (l:List α):atI (a::b::l) 1=some b:=by exact Zd (i:=1) (j:=1) rfl (by simp)
theorem at_2 {α:Type} (a b c:α) (l:List α):atI (a::b::c::l) 2=some c:=by exact Zd (i:=2) (j:=2) rfl (by simp)
theorem qfX {α:Type} {l:List α} {j:Nat} {x:α} (h:l[j]?=some x):atI l (j:Int)=some x:=by obtain ⟨h1,h2⟩:=List.getElem?_eq_some_iff.mp h;rw [Zd rfl h1,h2]
def enF (i:Nat):List D->List D
 | []=>[]
 | d::l=>.tup [.int i,d]::enF (i+1) l
theorem qgZ:∀ (l:List D) (i:Nat),(List.range' i l.length).zipWith (fun (i:Nat) d=>D.tup [.int i,d]) l=enF i l
 | [],i=>rfl
 | d::l,i=>by rw [List.length_cons,List.range'_succ,List.zipWith_cons_cons,qgZ l (i+1)];rfl
theorem Ze (l:List D):Yg l=enF 0 l:=by unfold Yg;rw [List.range_eq_range',qgZ]
def rgF (i:Int):Nat->List D
 | 0=>[]
 | n+1=>.int i::rgF (i+1) n
theorem qg0:∀ (n:Nat) (lo:Int) (s:Nat),(List.range' s n).map (fun i:Nat=>D.int (lo+i))=rgF (lo+s) n
 | 0,_,_=>rfl
 | n+1,lo,s=>by rw [List.range'_succ,List.map_cons,qg0 n lo (s+1)];show _=D.int (lo+s)::rgF (lo+s+1) n;rw [show lo+((s+1:Nat):Int)=lo+s+1 by omega]
theorem Jf (lo hi:Int):zI lo hi=rgF lo (hi - lo).toNat:=by
 unfold zI;rw [List.range_eq_range',qg0]
 congr 1
 omega
theorem ixN_app {α:Type} (l:List α) (x:α):ixN (l++[x]).length (-1)=some l.length:=by rw [List.length_append];exact qfW
theorem set_app {α:Type} (l:List α) (x y:α):(l++[x]).set l.length y=l++[y]:=by simp
theorem emp_app {α:Type} (l:List α) (x:α):(l++[x]).isEmpty=false:=by cases l<;>rfl
end DE
namespace DE
open PySem L2
theorem qc {α β γ:Type} (x:R α) (f:α->R β) (g:β->R γ):(x.th f).th g=x.th fun a=>(f a).th g:=by cases x<;>rfl
theorem qk {α:Type} (x:R α):x.th R.ok=x:=by cases x<;>rfl
section
variable {β:Type} (cl:Cl) (w:Nat)
def Zf (ρ:Env) (K:Rv×Env->R β) (r:Rv):R β:=K (r,ρ)
def kBl (ρ:Env) (K:Rv×Env->R β) (b:Bool):R β:=K (.val (.bl b),ρ)
def kBo (ρ:Env) (K:Bool×Env->R β) (b:Bool):R β:=K (b,ρ)
def qm3 (ρ:Env) (K:Rv×Env->R β) (l:List D):R β:=K (.tmp l,ρ)
def kB2 (op:Operator) (u:Rv) (K:Rv×Env->R β) (y:Rv×Env):R β:=(qaW op u y.1).th (Zf y.2 K)
def kB1 (op:Operator) (b:E) (K:Rv×Env->R β) (x:Rv×Env):R β:=(iR cl b x.2).th (kB2 op x.1 K)
noncomputable def qnr (K:Rv×Env->R β) (x:Rv×Env):R β:=R.th (match x.1 with
  | .val (.int i)=>.ok (.val (.int (-i)),x.2)
  | _=>.no) K
noncomputable def qns (K:Rv×Env->R β) (x:Rv×Env):R β:=R.th (match x.1 with
  | .val (.bl b)=>.ok (.val (.bl (!b)),x.2)
  | _=>.no) K
noncomputable def qnt (b:E) (K:Rv×Env->R β) (x:Rv×Env):R β:=R.th (match x.1 with
  | .val (.bl true)=>iR cl b x.2
  | .val (.bl false)=>.ok (.val (.bl false),x.2)
  | _=>.no) K
def kC2 (op:CmpOp) (u:Rv) (K:Rv×Env->R β) (y:Rv×Env):R β:=(R.of (JX op u y.1)).th (kBl y.2 K)
def kC1 (op:CmpOp) (b:E) (K:Rv×Env->R β) (x:Rv×Env):R β:=(iR cl b x.2).th (kC2 op x.1 K)
noncomputable def kIf (a b:E) (K:Rv×Env->R β) (t:Bool×Env):R β:=if t.1=true then (iR cl a t.2).th K else (iR cl b t.2).th K
def kI2 (u:Rv) (K:Rv×Env->R β) (y:Rv×Env):R β:=(idxD u y.1).th (Zf y.2 K)
def kI1 (b:E) (K:Rv×Env->R β) (x:Rv×Env):R β:=(iR cl b x.2).th (kI2 x.1 K)
noncomputable def kS3 (v:Rv) (l:Option Int) (K:Rv×Env->R β) (h:Option Int×Env):R β:=(sliceD v l h.1).th (Zf h.2 K)
def kS2 (v:Rv) (hi:O) (K:Rv×Env->R β) (l:Option Int×Env):R β:=(iO cl hi l.2).th (kS3 v l.1 K)
def kS1 (lo hi:O) (K:Rv×Env->R β) (x:Rv×Env):R β:=(iO cl lo x.2).th (kS2 cl x.1 hi K)
def qnu (K:Rv×Env->R β) (x:List D×Env):R β:=if x.1.length<=sizeLine then K (.tmp x.1,x.2) else .no
noncomputable def qnv (K:Rv×Env->R β) (x:List D×Env):R β:=if x.1.length<=sizeLine then K (.val (.tup x.1),x.2) else .no
def qly (f:Str) (K:Rv×Env->R β) (x:List Ar×Env):R β:=(cl f x.1).th (Zf x.2 K)
def kF1 (f:B1) (K:Rv×Env->R β) (x:Rv×Env):R β:=(f.go x.1).th (Zf x.2 K)
def kG2 (f:B2) (u:Rv) (K:Rv×Env->R β) (y:Rv×Env):R β:=(f.go u y.1).th (Zf y.2 K)
def kG1 (f:B2) (b:E) (K:Rv×Env->R β) (x:Rv×Env):R β:=(iR cl b x.2).th (kG2 f x.1 K)
def qnw (t:Str) (K:Rv×Env->R β) (x:Rv×Env):R β:=(R.of (qdK cl.cs x.1 t)).th (kBl x.2 K)
def qm4 (ρ:Env) (K:Rv×Env->R β) (d:D):R β:=K (.val d,ρ)
def qnx (x:Str) (K:Rv×Env->R β) (y:Rv×Env):R β:=(R.of (qc4 cl.cs y.1 x)).th (qm4 y.2 K)
def qm5 (f:Str) (v:Rv) (K:Rv×Env->R β) (z:List Ar×Env):R β:=(cl f (toAr v::z.1)).th (Zf z.2 K)
def qm6 (v:Rv) (l:Es) (ρ:Env) (K:Rv×Env->R β) (f:Str):R β:=(iAs cl l ρ).th (qm5 cl f v K)
def qoo (v:Rv) (K:Rv×Env->R β) (z:List Ar×Env):R β:=(ixM v z.1).th (Zf z.2 K)
noncomputable def qm7 (x:Str) (v:Rv) (l:Es) (ρ:Env) (K:Rv×Env->R β) (o:Option Str):R β:=match o with
 | some f=>qm6 cl v l ρ K f
 | none=>if x = "index" then (iAs cl l ρ).th (qoo v K) else .no
def qm8 (x:Str) (l:Es) (K:Rv×Env->R β) (y:Rv×Env):R β:=qm7 cl x y.1 l y.2 K (mtD cl.cs y.1 x)
def qny (f:Str) (K:Rv×Env->R β) (x:List Ar×Env):R β:=(cl.nw f x.1).th (Zf x.2 K)
def qnz (t:Ty) (K:Rv×Env->R β) (x:Rv×Env):R β:=(R.of (t.go x.1)).th (kBl x.2 K)
noncomputable def qlz (e:E) (tg:Tg) (c:F) (n:Nat) (fr:List Nat) (K:Rv×Env->R β) (x:List D×Env):R β:=if x.1.length<=sizeLine then (zk cl e tg c x.1 (qal n fr x.2) []).th (qm3 x.2 K) else .no
def kTn (K:Bool×Env->R β) (t:Bool×Env):R β:=K (!t.1,t.2)
noncomputable def kTa (b:T) (K:Bool×Env->R β) (t:Bool×Env):R β:=if t.1=true then (iT cl b t.2).th K else K (false,t.2)
noncomputable def kTo (b:T) (K:Bool×Env->R β) (t:Bool×Env):R β:=if t.1=true then K (true,t.2) else (iT cl b t.2).th K
def kD2 (op:CmpOp) (u:Rv) (K:Bool×Env->R β) (y:Rv×Env):R β:=(R.of (JX op u y.1)).th (kBo y.2 K)
def kD1 (op:CmpOp) (b:E) (K:Bool×Env->R β) (x:Rv×Env):R β:=(iR cl b x.2).th (kD2 op x.1 K)
def kTv (K:Bool×Env->R β) (x:Rv×Env):R β:=(R.of (truthD x.1)).th (kBo x.2 K)
def kE2 (d:D) (K:List D×Env->R β) (y:List D×Env):R β:=K (d::y.1,y.2)
def kE1 (l:Es) (K:List D×Env->R β) (x:D×Env):R β:=(iEs cl l x.2).th (kE2 x.1 K)
def kA2 (v:Rv) (K:List Ar×Env->R β) (y:List Ar×Env):R β:=K (toAr v::y.1,y.2)
def kA1 (l:Es) (K:List Ar×Env->R β) (x:Rv×Env):R β:=(iAs cl l x.2).th (kA2 x.1 K)
noncomputable def kO (K:Option Int×Env->R β) (x:Rv×Env):R β:=R.th (match x.1 with
  | .val (.int i)=>.ok (some i,x.2)
  | _=>.no) K
def qnA (K:List D×Env->R β) (x:(Sk×List D)×Env):R β:=K (x.1.2,x.2)
noncomputable def qnB (K:List D×Env->R β) (x:Rv×Env):R β:=R.th (match x.1.int? with
  | some n=>if qO n=true then .ok (zI 0 n,x.2) else .no
  | none=>.no) K
noncomputable def kR2 (u:Rv) (K:List D×Env->R β) (y:Rv×Env):R β:=R.th (match u.int?,y.1.int? with
  | some i,some j=>if qO i=true/\qO j=true then .ok (zI i j,y.2) else .no
  | _,_=>.no) K
noncomputable def qlA (K:List D×Env->R β) (x:(Sk×List D)×Env):R β:=R.th (match x.1.1 with | .lst=>.ok (Yg x.1.2,x.2) | _=>.no) K
noncomputable def qnC (K:List D×Env->R β) (x:(Sk×List D)×Env):R β:=R.th (match x.1.1 with | .lst=>.ok (x.1.2.reverse,x.2) | _=>.no) K
noncomputable def kZ2 (x:Sk×List D) (K:List D×Env->R β) (y:(Sk×List D)×Env):R β:=R.th (match x.1,y.1.1 with | .lst,.lst=>.ok (qbF x.2 y.1.2,y.2) | _,_=>.no) K
def kZ1 (b:E) (K:List D×Env->R β) (x:(Sk×List D)×Env):R β:=(yC b (iR cl b) x.2).th (kZ2 x.1 K)
def qjh (K:D×Env->R β) (x:Rv×Env):R β:=(qgV x).th K
def Qi (K:(Sk×List D)×Env->R β) (x:Rv×Env):R β:=(qfP x).th K
noncomputable def kX (K:Rv->R β) (x:Rv×Env):R β:=R.th (match x.1 with
  | .val d=>.ok (.val d)
  | .tmp l=>.ok (.tmp l)
  | _=>.no) K
def kAv (K:Sl×Env->R β) (x:D×Env):R β:=K (.val x.1,x.2)
noncomputable def kAx (K:Sl×Env->R β) (x:Rv×Env):R β:=R.th (match x.1 with
  | .val d=>.ok (.val d,x.2)
  | .tmp l=>.ok (.own l,x.2)
  | _=>.no) K
def qiw {α:Type} (s:Sl) (K:α×Env->R β) (x:α×Env):R β:=K (x.1,s::x.2)
def oGo (o:Option (List D)) (x:R β):R β:=match o with
 | none=>.no
 | some _=>x
noncomputable def qix (i:Nat) (d:D) (ρ:Env) (K:Fl->R β) (o:Option (List D)):R β:=R.th (match o with
   | some l=>if l.length < sizeLine then .ok (.next (ρ.set i (.own (l++[d])))) else .no
   | none=>.no) K
def qnD (i:Nat) (K:Fl->R β) (y:D×Env):R β:=qix i y.1 y.2 K (zD y.2 i)
noncomputable def qiy (i:Nat) (ρ:Env) (K:Fl->R β) (o p:Option (List D)):R β:=R.th (match o,p with
   | some l,some n=>if l.length+n.length<=sizeLine then .ok (.next (ρ.set i (.own (l++n)))) else .no
   | _,_=>.no) K
def qnE (i:Nat) (K:Fl->R β) (y:Rv×Env):R β:=qiy i y.2 K (zD y.2 i) y.1.plain?
def kRt (K:Fl->R β) (r:Rv):R β:=K (.ret r)
def qnF (i:Nat) (K:Fl->R β) (s:Sl×Env):R β:=K (.next (s.2.set i s.1))
def kNx (K:Fl->R β) (ρ:Env):R β:=K (.next ρ)
def kST (tg:Tg) (K:Fl->R β) (x:D×Env):R β:=(tg.go x.1 x.2).th (kNx K)
noncomputable def qm9 (i:Nat) (d:D) (ρ:Env) (K:Fl->R β) (l:List D) (o:Option Nat):R β:=R.th (match o with
    | some k=>.ok (.next (ρ.set i (.own (l.set k d))))
    | none=>.no) K
noncomputable def qmd (i:Nat) (d:D) (ρ:Env) (K:Fl->R β) (o:Option (List D)) (v:Option Int):R β:=match o,v with
 | some l,some n=>qm9 i d ρ K l (ixN l.length n)
 | _,_=>.no
def qna (i:Nat) (d:D) (K:Fl->R β) (z:Rv×Env):R β:=qmd i d z.2 K (zD z.2 i) z.1.int?
def kSI (i:Nat) (x:E) (K:Fl->R β) (y:D×Env):R β:=oGo (zD y.2 i) ((iR cl x y.2).th (qna i y.1 K))
noncomputable def qnG (a b:Ss) (K:Fl->R β) (t:Bool×Env):R β:=if t.1=true then (iSs cl w a t.2).th K else (iSs cl w b t.2).th K
def qnH (tg:Tg) (b:Ss) (K:Fl->R β) (x:List D×Env):R β:=(yb cl w tg b x.1 x.2).th K
def qiz (l:Ss) (K:Fl->R β) (f:Fl):R β:=(qcH f fun ρ1=>iSs cl w l ρ1).th K
def qme (tg:Tg) (b:Ss) (l:List D) (K:Fl->R β) (f:Fl):R β:=(qcH f fun ρ1=>yb cl w tg b l ρ1).th K
def qnI (tg:Tg) (b:Ss) (l:List D) (K:Fl->R β) (ρ:Env):R β:=(iSs cl w b ρ).th (qme cl w tg b l K)
def qnb (c:T) (b:Ss) (n:Nat) (K:Fl->R β) (f:Fl):R β:=(qcH f fun ρ1=>whD cl w c b n ρ1).th K
noncomputable def qnJ (c:T) (b:Ss) (n:Nat) (K:Fl->R β) (t:Bool×Env):R β:=if t.1=true then (iSs cl w b t.2).th (qnb cl w c b n K) else K (.next t.2)
noncomputable def kP3 (e:E) (tg:Tg) (c:F) (l acc:List D) (K:List D->R β) (x:D×Env):R β:=if acc.length < sizeLine then (zk cl e tg c l x.2 (acc++[x.1])).th K else .no
noncomputable def kP2 (e:E) (tg:Tg) (c:F) (l acc:List D) (K:List D->R β) (t:Bool×Env):R β:=if t.1=true then (jO e (iR cl e) t.2).th (kP3 cl e tg c l acc K) else (zk cl e tg c l t.2 acc).th K
noncomputable def kP1 (e:E) (tg:Tg) (c:F) (l acc:List D) (K:List D->R β) (ρ:Env):R β:=(iF cl c ρ).th (kP2 cl e tg c l acc K)
theorem zY {α:Type} {c:Prop} [Decidable c] (x y:R α) (K:α->R β):(if c then x else y).th K=if c then x.th K else y.th K:=by split<;>rfl
theorem qD {α:Type} (x:R α) {f g:α->R β} (h:∀ a,f a=g a):x.th f=x.th g:=by cases x<;>first | rfl | exact h _
section
variable (ρ:Env) (K:Rv×Env->R β)
theorem xR_var (i:Nat):(iR cl (.var i) ρ).th K=(slR ρ i).th (Zf ρ K):=(qc (slR ρ i) _ _)
theorem xR_con (d:D):(iR cl (.con d) ρ).th K=K (.val d,ρ):=(rfl)
theorem xR_bin (op:Operator) (a b:E):(iR cl (.bin op a b) ρ).th K=(iR cl a ρ).th (kB1 cl op b K):=by rw [qk7,qc];refine qD _ fun x=>?_;rw [qc];refine qD _ fun y=>?_;rw [qc];rfl
theorem xR_neg (a:E):(iR cl (.neg a) ρ).th K=(iR cl a ρ).th (qnr K):=by rw [qk8,qc];rfl
theorem xR_not (a:E):(iR cl (.not a) ρ).th K=(iR cl a ρ).th (qns K):=by rw [qk9,qc];rfl
theorem xR_one (a:E):(iR cl (.one a) ρ).th K=(iR cl a ρ).th K:=(rfl)
theorem xR_and (a b:E):(iR cl (.and a b) ρ).th K=(iR cl a ρ).th (qnt cl b K):=by rw [qla,qc];rfl
theorem xR_cmp (op:CmpOp) (a b:E):(iR cl (.cmp op a b) ρ).th K=(iR cl a ρ).th (kC1 cl op b K):=by rw [qlb,qc];refine qD _ fun x=>?_;rw [qc];refine qD _ fun y=>?_;rw [qc];rfl
theorem xR_ite (c:T) (a b:E):(iR cl (.ite c a b) ρ).th K=(iT cl c ρ).th (kIf cl a b K):=by rw [qlc,qc];refine qD _ fun t=>?_;rw [zY];rfl
theorem xR_idx (a b:E):(iR cl (.idx a b) ρ).th K=(iR cl a ρ).th (kI1 cl b K):=by rw [qld,qc];refine qD _ fun x=>?_;rw [qc];refine qD _ fun y=>?_;rw [qc];rfl
theorem xR_sli (a:E) (lo hi:O):(iR cl (.sli a lo hi) ρ).th K=(iR cl a ρ).th (kS1 cl lo hi K):=by rw [qle,qc];refine qD _ fun x=>?_;rw [qc];refine qD _ fun y=>?_;rw [qc];refine qD _ fun z=>?_;rw [qc];rfl
theorem xR_lst (l:Es):(iR cl (.lst l) ρ).th K=(iEs cl l ρ).th (qnu K):=by rw [qlf,qc];refine qD _ fun x=>?_;rw [zY];rfl
theorem xR_tup (l:Es):(iR cl (.tup l) ρ).th K=(iEs cl l ρ).th (qnv K):=by rw [qlg,qc];refine qD _ fun x=>?_;rw [zY];rfl
theorem xR_call (f:Str) (l:Es):(iR cl (.call f l) ρ).th K=(iAs cl l ρ).th (qly cl f K):=by rw [qir,qc];refine qD _ fun x=>?_;rw [qc];rfl
theorem xR_b1 (f:B1) (a:E):(iR cl (.b1 f a) ρ).th K=(iR cl a ρ).th (kF1 f K):=by rw [qmY,qc];refine qD _ fun x=>?_;rw [qc];rfl
theorem xR_b2 (f:B2) (a b:E):(iR cl (.b2 f a b) ρ).th K=(iR cl a ρ).th (kG1 cl f b K):=by rw [qmZ,qc];refine qD _ fun x=>?_;rw [qc];refine qD _ fun y=>?_;rw [qc];rfl
theorem xR_isc (t:Str) (a:E):(iR cl (.isc t a) ρ).th K=(iR cl a ρ).th (qnw cl t K):=by rw [qli,qc];refine qD _ fun x=>?_;rw [qc];rfl
theorem xR_fld (a:E) (x:Str):(iR cl (.fld a x) ρ).th K=(iR cl a ρ).th (qnx cl x K):=by rw [qlj,qc];refine qD _ fun y=>?_;rw [qc];rfl
theorem xR_met (a:E) (x:Str) (l:Es):(iR cl (.met a x l) ρ).th K=(iR cl a ρ).th (qm8 cl x l K):=by
 rw [qlk,qc];refine qD _ fun y=>?_;unfold qm8
 cases mtD cl.cs y.1 x with
 | some f=>unfold goM;rw [qc];refine qD _ fun z=>?_;rw [qc];rfl
 | none=>
  show (if x = "index" then _ else R.no).th K=if x = "index" then _ else R.no;rw [zY];split
  ·rw [qc];refine qD _ fun z=>?_;rw [qc];rfl
  ·rfl
theorem xR_new (f:Str) (l:Es):(iR cl (.new f l) ρ).th K=(iAs cl l ρ).th (qny cl f K):=by rw [qll,qc];refine qD _ fun x=>?_;rw [qc];rfl
theorem xR_isi (t:Ty) (a:E):(iR cl (.isi t a) ρ).th K=(iR cl a ρ).th (qnz t K):=by rw [qlh,qc];refine qD _ fun x=>?_;rw [qc];rfl
theorem xR_comp (e:E) (src:I) (tg:Tg) (c:F) (n:Nat) (fr:List Nat):(iR cl (.comp e src tg c n fr) ρ).th K=(iI cl src ρ).th (qlz cl e tg c n fr K):=by rw [qis,qc];refine qD _ fun x=>?_;rw [zY,qc];rfl
end
section
variable (ρ:Env) (K:Rv×Env->R β) (v u:Rv)
theorem yRet:Zf ρ K v=K (v,ρ):=(rfl)
theorem yBl (b:Bool):kBl ρ K b=K (.val (.bl b),ρ):=(rfl)
theorem yTmp (l:List D):qm3 ρ K l=K (.tmp l,ρ):=(rfl)
theorem yB1 (op:Operator) (b:E):kB1 cl op b K (v,ρ)=(iR cl b ρ).th (kB2 op v K):=(rfl)
theorem yB2 (op:Operator):kB2 op u K (v,ρ)=(qaW op u v).th (Zf ρ K):=(rfl)
theorem yNeg (i:Int):qnr K (.val (.int i),ρ)=K (.val (.int (-i)),ρ):=(rfl)
theorem yNot (b:Bool):qns K (.val (.bl b),ρ)=K (.val (.bl (!b)),ρ):=(rfl)
theorem yAnd (b:E) (t:Bool):qnt cl b K (.val (.bl t),ρ)=if t=true then (iR cl b ρ).th K else K (.val (.bl false),ρ):=by cases t<;>rfl
theorem yC1 (op:CmpOp) (b:E):kC1 cl op b K (v,ρ)=(iR cl b ρ).th (kC2 op v K):=(rfl)
theorem yC2 (op:CmpOp):kC2 op u K (v,ρ)=(R.of (JX op u v)).th (kBl ρ K):=(rfl)
theorem yIf (a b:E) (t:Bool):kIf cl a b K (t,ρ)=if t=true then (iR cl a ρ).th K else (iR cl b ρ).th K:=(rfl)
theorem yI1 (b:E):kI1 cl b K (v,ρ)=(iR cl b ρ).th (kI2 v K):=(rfl)
theorem yI2:kI2 u K (v,ρ)=(idxD u v).th (Zf ρ K):=(rfl)
theorem yS1 (lo hi:O):kS1 cl lo hi K (v,ρ)=(iO cl lo ρ).th (kS2 cl v hi K):=(rfl)
theorem yS2 (hi:O) (l:Option Int):kS2 cl v hi K (l,ρ)=(iO cl hi ρ).th (kS3 v l K):=(rfl)
theorem yS3 (l h:Option Int):kS3 v l K (h,ρ)=(sliceD v l h).th (Zf ρ K):=(rfl)
theorem yLst (l:List D):qnu K (l,ρ)=if l.length<=sizeLine then K (.tmp l,ρ) else .no:=(rfl)
theorem yTup (l:List D):qnv K (l,ρ)=if l.length<=sizeLine then K (.val (.tup l),ρ) else .no:=(rfl)
theorem yCall (f:Str) (l:List Ar):qly cl f K (l,ρ)=(cl f l).th (Zf ρ K):=(rfl)
theorem yF1 (f:B1):kF1 f K (v,ρ)=(f.go v).th (Zf ρ K):=(rfl)
theorem yG1 (f:B2) (b:E):kG1 cl f b K (v,ρ)=(iR cl b ρ).th (kG2 f v K):=(rfl)
theorem yG2 (f:B2):kG2 f u K (v,ρ)=(f.go u v).th (Zf ρ K):=(rfl)
theorem yIsc (t:Str):qnw cl t K (v,ρ)=(R.of (qdK cl.cs v t)).th (kBl ρ K):=(rfl)
theorem yDat (d:D):qm4 ρ K d=K (.val d,ρ):=(rfl)
theorem yFld (x:Str):qnx cl x K (v,ρ)=(R.of (qc4 cl.cs v x)).th (qm4 ρ K):=(rfl)
theorem yMt3 (f:Str) (l:List Ar):qm5 cl f v K (l,ρ)=(cl f (toAr v::l)).th (Zf ρ K):=(rfl)
theorem yMt2 (f:Str) (l:Es):qm6 cl v l ρ K f=(iAs cl l ρ).th (qm5 cl f v K):=(rfl)
theorem yMt1 (x:Str) (l:Es):qm8 cl x l K (v,ρ)=qm7 cl x v l ρ K (mtD cl.cs v x):=(rfl)
theorem yMtO (x:Str) (l:Es) (f:Str):qm7 cl x v l ρ K (some f)=qm6 cl v l ρ K f:=(rfl)
theorem yNew (f:Str) (l:List Ar):qny cl f K (l,ρ)=(cl.nw f l).th (Zf ρ K):=(rfl)
theorem yIsi (t:Ty):qnz t K (v,ρ)=(R.of (t.go v)).th (kBl ρ K):=(rfl)
theorem yComp (e:E) (tg:Tg) (c:F) (n:Nat) (fr:List Nat) (l:List D):qlz cl e tg c n fr K (l,ρ)=if l.length<=sizeLine then (zk cl e tg c l (qal n fr ρ) []).th (qm3 ρ K) else .no:=(rfl)
end
section
variable (ρ:Env) (K:Bool×Env->R β) (v u:Rv) (t:Bool)
theorem xT_not (a:T):(iT cl (.not a) ρ).th K=(iT cl a ρ).th (kTn K):=by rw [qlm,qc];rfl
theorem xT_one (a:T):(iT cl (.one a) ρ).th K=(iT cl a ρ).th K:=(rfl)
theorem xT_and (a b:T):(iT cl (.and a b) ρ).th K=(iT cl a ρ).th (kTa cl b K):=by rw [qln,qc];refine qD _ fun t=>?_;rw [zY];rfl
theorem xT_or (a b:T):(iT cl (.or a b) ρ).th K=(iT cl a ρ).th (kTo cl b K):=by rw [qm0,qc];refine qD _ fun t=>?_;rw [zY];rfl
theorem xT_cmp (op:CmpOp) (a b:E):(iT cl (.cmp op a b) ρ).th K=(iR cl a ρ).th (kD1 cl op b K):=by rw [qlo,qc];refine qD _ fun x=>?_;rw [qc];refine qD _ fun y=>?_;rw [qc];rfl
theorem xT_val (a:E):(iT cl (.val a) ρ).th K=(iR cl a ρ).th (kTv K):=by rw [qlp,qc];refine qD _ fun x=>?_;rw [qc];rfl
theorem yBo:kBo ρ K t=K (t,ρ):=(rfl)
theorem yTn:kTn K (t,ρ)=K (!t,ρ):=(rfl)
theorem yTa (b:T):kTa cl b K (t,ρ)=if t=true then (iT cl b ρ).th K else K (false,ρ):=(rfl)
theorem yTo (b:T):kTo cl b K (t,ρ)=if t=true then K (true,ρ) else (iT cl b ρ).th K:=(rfl)
theorem yD1 (op:CmpOp) (b:E):kD1 cl op b K (v,ρ)=(iR cl b ρ).th (kD2 op v K):=(rfl)
theorem yD2 (op:CmpOp):kD2 op u K (v,ρ)=(R.of (JX op u v)).th (kBo ρ K):=(rfl)
theorem yTv:kTv K (v,ρ)=(R.of (truthD v)).th (kBo ρ K):=(rfl)
theorem xF_yes:(iF cl .yes ρ).th K=K (true,ρ):=(rfl)
theorem xF_test (c:T):(iF cl (.test c) ρ).th K=(iT cl c ρ).th K:=(rfl)
end
section
variable (ρ:Env)
theorem xEs_nil (K:List D×Env->R β):(iEs cl .nil ρ).th K=K ([],ρ):=(rfl)
theorem xEs_cons (K:List D×Env->R β) (e:E) (l:Es):(iEs cl (.cons e l) ρ).th K=(jO e (iR cl e) ρ).th (kE1 cl l K):=by rw [qfU,qc];refine qD _ fun x=>?_;rw [qc];rfl
theorem yE1 (K:List D×Env->R β) (l:Es) (d:D):kE1 cl l K (d,ρ)=(iEs cl l ρ).th (kE2 d K):=(rfl)
theorem yE2 (K:List D×Env->R β) (d:D) (ds:List D):kE2 d K (ds,ρ)=K (d::ds,ρ):=(rfl)
theorem xAs_nil (K:List Ar×Env->R β):(iAs cl .nil ρ).th K=K ([],ρ):=(rfl)
theorem xAs_cons (K:List Ar×Env->R β) (e:E) (l:Es):(iAs cl (.cons e l) ρ).th K=(iR cl e ρ).th (kA1 cl l K):=by rw [qfV,qc];refine qD _ fun x=>?_;rw [qc];rfl
theorem yA1 (K:List Ar×Env->R β) (l:Es) (v:Rv):kA1 cl l K (v,ρ)=(iAs cl l ρ).th (kA2 v K):=(rfl)
theorem yA2 (K:List Ar×Env->R β) (v:Rv) (l:List Ar):kA2 v K (l,ρ)=K (toAr v::l,ρ):=(rfl)
theorem xO_none (K:Option Int×Env->R β):(iO cl .none ρ).th K=K (none,ρ):=(rfl)
theorem xO_some (K:Option Int×Env->R β) (e:E):(iO cl (.some e) ρ).th K=(iR cl e ρ).th (kO K):=by rw [qit,qc];rfl
theorem yO (K:Option Int×Env->R β) (i:Int):kO K (.val (.int i),ρ)=K (some i,ρ):=(rfl)
variable (K:List D×Env->R β)
theorem xI_seq (a:E):(iI cl (.seq a) ρ).th K=(yC a (iR cl a) ρ).th (qnA K):=by rw [qlq,qc];rfl
theorem xI_rng (a:E):(iI cl (.rng a) ρ).th K=(iR cl a ρ).th (qnB K):=by rw [qlr,qc];rfl
theorem xI_rev (a:E):(iI cl (.rev a) ρ).th K=(yC a (iR cl a) ρ).th (qnC K):=by rw [qls,qc];rfl
theorem xI_enum (a:E):(iI cl (.enum a) ρ).th K=(yC a (iR cl a) ρ).th (qlA K):=by rw [qiu,qc];rfl
theorem xI_zip (a b:E):(iI cl (.zip a b) ρ).th K=(yC a (iR cl a) ρ).th (kZ1 cl b K):=by rw [qlt,qc];refine qD _ fun x=>?_;rw [qc];rfl
theorem ySeq (s:Sk) (l:List D):qnA K ((s,l),ρ)=K (l,ρ):=(rfl)
theorem yRng (n:Int):qnB K (.val (.int n),ρ)=if qO n=true then K (zI 0 n,ρ) else .no:=by show R.th (if qO n=true then _ else _) K=_;rw [zY];rfl
theorem yRev (l:List D):qnC K ((.lst,l),ρ)=K (l.reverse,ρ):=(rfl)
theorem yEnum (l:List D):qlA K ((.lst,l),ρ)=K (Yg l,ρ):=(rfl)
theorem yZ1 (b:E) (x:Sk×List D):kZ1 cl b K (x,ρ)=(yC b (iR cl b) ρ).th (kZ2 x K):=(rfl)
theorem yZ2 (l n:List D):kZ2 (.lst,l) K ((.lst,n),ρ)=K (qbF l n,ρ):=(rfl)
end
section
variable (ρ:Env) (s:Sl) (i:Nat) (d:D) (l:List D)
theorem yVal (K:D×Env->R β):qjh K (.val d,ρ)=K (d,ρ):=(rfl)
theorem yValL (K:(Sk×List D)×Env->R β):Qi K (.val (.lst l),ρ)=K ((.lst,l),ρ):=(rfl)
theorem yValLt (K:(Sk×List D)×Env->R β):Qi K (.val (.tup l),ρ)=K ((.tup,l),ρ):=(rfl)
theorem yValLs (K:(Sk×List D)×Env->R β) (z:Str):Qi K (.val (.str z),ρ)=K ((.str,qaV z),ρ):=(rfl)
theorem yValLm (K:(Sk×List D)×Env->R β):Qi K (.tmp l,ρ)=K ((.lst,l),ρ):=(rfl)
theorem yX (K:Rv->R β):kX K (.val d,ρ)=K (.val d):=(rfl)
theorem yXt (K:Rv->R β):kX K (.tmp l,ρ)=K (.tmp l):=(rfl)
theorem yAv (K:Sl×Env->R β):kAv K (d,ρ)=K (.val d,ρ):=(rfl)
theorem yAx (K:Sl×Env->R β):kAx K (.val d,ρ)=K (.val d,ρ):=(rfl)
theorem yAxt (K:Sl×Env->R β):kAx K (.tmp l,ρ)=K (.own l,ρ):=(rfl)
theorem yCons {α:Type} (K:α×Env->R β) (x:α):qiw s K (x,ρ)=K (x,s::ρ):=(rfl)
theorem xE_s (K:D×Env->R β):(slE (s::ρ) (i+1)).th K=(slE ρ i).th (qiw s K):=by rw [qm1,qc];rfl
theorem xE_v (K:D×Env->R β):(slE (.val d::ρ) 0).th K=K (d,.val d::ρ):=(rfl)
theorem xE_o (K:D×Env->R β):(slE (.own l::ρ) 0).th K=K (.lst l,.val (.lst l)::ρ):=(rfl)
variable (K:(Sk×List D)×Env->R β)
theorem xL_s:(slL (s::ρ) (i+1)).th K=(slL ρ i).th (qiw s K):=by rw [qm2,qc];rfl
theorem xL_l:(slL (.val (.lst l)::ρ) 0).th K=K ((.lst,l),.val (.lst l)::ρ):=(rfl)
theorem xL_t:(slL (.val (.tup l)::ρ) 0).th K=K ((.tup,l),.val (.tup l)::ρ):=(rfl)
theorem xL_z (z:Str):(slL (.val (.str z)::ρ) 0).th K=K ((.str,qaV z),.val (.str z)::ρ):=(rfl)
theorem xL_o:(slL (.own l::ρ) 0).th K=K ((.lst,l),.val (.lst l)::ρ):=(rfl)
end
section
variable (ρ:Env) (K:Fl->R β) (i:Nat)
theorem oGo_some (l:List D) (x:R β):oGo (some l) x=x:=(rfl)
theorem xS_app (e:E):(iS cl w (.app i e) ρ).th K=oGo (zD ρ i) ((jO e (iR cl e) ρ).th (qnD i K)):=by
 rw [qk1]
 cases zD ρ i with
 | none=>rfl
 | some l=>show R.th (R.th (jO e (iR cl e) ρ) _) K=_;rw [qc];rfl
theorem yApp (d:D):qnD i K (d,ρ)=qix i d ρ K (zD ρ i):=(rfl)
theorem yApp2 (d:D) (l:List D):qix i d ρ K (some l)=if l.length < sizeLine then K (.next (ρ.set i (.own (l++[d])))) else .no:=by show R.th (if l.length < sizeLine then _ else _) K=_;rw [zY];rfl
theorem xS_ext (e:E):(iS cl w (.ext i e) ρ).th K=oGo (zD ρ i) ((iR cl e ρ).th (qnE i K)):=by
 rw [qk2]
 cases zD ρ i with
 | none=>rfl
 | some l=>show R.th (R.th (iR cl e ρ) _) K=_;rw [qc];rfl
theorem yExt (v:Rv):qnE i K (v,ρ)=qiy i ρ K (zD ρ i) v.plain?:=(rfl)
theorem yExt2 (l n:List D):qiy i ρ K (some l) (some n)=if l.length+n.length<=sizeLine then K (.next (ρ.set i (.own (l++n)))) else .no:=by show R.th (if l.length+n.length<=sizeLine then _ else _) K=_;rw [zY];rfl
theorem xS_ret (e:E):(iS cl w (.ret e) ρ).th K=(qao e (iR cl e) ρ).th (kRt K):=by rw [qk3,qc];rfl
theorem yRt (r:Rv):kRt K r=K (.ret r):=(rfl)
theorem xS_set (e:E):(iS cl w (.set i e) ρ).th K=(Qx e (iR cl e) ρ).th (qnF i K):=by rw [qk4,qc];rfl
theorem ySet (s:Sl):qnF i K (s,ρ)=K (.next (ρ.set i s)):=(rfl)
theorem xS_setT (tg:Tg) (e:E):(iS cl w (.setT tg e) ρ).th K=(jO e (iR cl e) ρ).th (kST tg K):=by rw [qip,qc];refine qD _ fun x=>?_;rw [qc];rfl
theorem yST (tg:Tg) (d:D):kST tg K (d,ρ)=(tg.go d ρ).th (kNx K):=(rfl)
theorem yNx:kNx K ρ=K (.next ρ):=(rfl)
theorem xS_setI (x e:E):(iS cl w (.setI i x e) ρ).th K=(jO e (iR cl e) ρ).th (kSI cl i x K):=by
 rw [qiq,qc];refine qD _ fun y=>?_;show R.th (match zD y.2 i with | none=>_ | some _=>_) K=oGo (zD y.2 i) _
 cases zD y.2 i with
 | none=>rfl
 | some l=>
  show R.th (R.th (iR cl x y.2) _) K=R.th _ _;rw [qc];refine qD _ fun z=>?_;show R.th (match zD z.2 i,z.1.int? with | some l,some n=>_ | _,_=>_) K=qmd i y.1 z.2 K (zD z.2 i) z.1.int?
  cases zD z.2 i with
  | none=>rfl
  | some l=>cases z.1.int?<;>rfl
theorem ySI (x:E) (d:D):kSI cl i x K (d,ρ)=oGo (zD ρ i) ((iR cl x ρ).th (qna i d K)):=(rfl)
theorem ySI2 (d:D) (v:Rv):qna i d K (v,ρ)=qmd i d ρ K (zD ρ i) v.int?:=(rfl)
theorem ySI3 (d:D) (l:List D) (n:Int):qmd i d ρ K (some l) (some n)=qm9 i d ρ K l (ixN l.length n):=(rfl)
theorem ySI4 (d:D) (l:List D) (k:Nat):qm9 i d ρ K l (some k)=K (.next (ρ.set i (.own (l.set k d)))):=(rfl)
theorem xS_ite (c:T) (a b:Ss):(iS cl w (.ite c a b) ρ).th K=(iT cl c ρ).th (qnG cl w a b K):=by rw [qk5,qc];refine qD _ fun t=>?_;rw [zY];rfl
theorem yIte (a b:Ss) (t:Bool):qnG cl w a b K (t,ρ)=if t=true then (iSs cl w a ρ).th K else (iSs cl w b ρ).th K:=(rfl)
theorem xS_for (tg:Tg) (src:I) (b:Ss):(iS cl w (.for_ tg src b) ρ).th K=(iI cl src ρ).th (qnH cl w tg b K):=by rw [qk6,qc];rfl
theorem yFor (tg:Tg) (b:Ss) (l:List D):qnH cl w tg b K (l,ρ)=(yb cl w tg b l ρ).th K:=(rfl)
theorem xS_whl (c:T) (b:Ss):(iS cl w (.whl c b) ρ).th K=(whD cl w c b w ρ).th K:=(rfl)
theorem xSs_nil:(iSs cl w .nil ρ).th K=K (.next ρ):=(rfl)
theorem xSs_cons (s:S) (l:Ss):(iSs cl w (.cons s l) ρ).th K=(iS cl w s ρ).th (qiz cl w l K):=by rw [qfT,qc];rfl
theorem yNext (l:Ss):qiz cl w l K (.next ρ)=(iSs cl w l ρ).th K:=(rfl)
theorem yNextr (l:Ss) (r:Rv):qiz cl w l K (.ret r)=K (.ret r):=(rfl)
theorem xFo_cons (tg:Tg) (b:Ss) (d:D) (l:List D):(yb cl w tg b (d::l) ρ).th K=(tg.go d ρ).th (qnI cl w tg b l K):=by rw [qd4,qc,qc];refine qD _ fun ρ2=>?_;rfl
theorem yFo1 (tg:Tg) (b:Ss) (l:List D):qnI cl w tg b l K ρ=(iSs cl w b ρ).th (qme cl w tg b l K):=(rfl)
theorem yFo2 (tg:Tg) (b:Ss) (l:List D):qme cl w tg b l K (.next ρ)=(yb cl w tg b l ρ).th K:=(rfl)
theorem yFo2r (tg:Tg) (b:Ss) (l:List D) (r:Rv):qme cl w tg b l K (.ret r)=K (.ret r):=(rfl)
theorem xWh (c:T) (b:Ss) (n:Nat):(whD cl w c b (n+1) ρ).th K=(iT cl c ρ).th (qnJ cl w c b n K):=by rw [qfS,qc];refine qD _ fun t=>?_;rw [zY,qc];rfl
theorem yWh1 (c:T) (b:Ss) (n:Nat) (t:Bool):qnJ cl w c b n K (t,ρ)=if t=true then (iSs cl w b ρ).th (qnb cl w c b n K) else K (.next ρ):=(rfl)
theorem yWh2 (c:T) (b:Ss) (n:Nat):qnb cl w c b n K (.next ρ)=(whD cl w c b n ρ).th K:=(rfl)
end
section
variable (ρ:Env) (K:List D->R β) (e:E) (tg:Tg) (c:F) (l acc:List D) (d:D)
theorem xP_nil:(zk cl e tg c [] ρ acc).th K=K acc:=(rfl)
theorem xP_cons:(zk cl e tg c (d::l) ρ acc).th K=(tg.go d ρ).th (kP1 cl e tg c l acc K):=by
 rw [qcI,qc];refine qD _ fun ρ1=>?_;rw [qc];refine qD _ fun bt=>?_;rw [zY,qc];show (if bt.1=true then _ else _)=(if bt.1=true then _ else _)
 by_cases h:bt.1=true
 ·rw [if_pos h,if_pos h];refine qD _ fun x=>?_;rw [zY];rfl
 ·rw [if_neg h,if_neg h]
theorem yP1:kP1 cl e tg c l acc K ρ=(iF cl c ρ).th (kP2 cl e tg c l acc K):=(rfl)
theorem yP2 (t:Bool):kP2 cl e tg c l acc K (t,ρ)=if t=true then (jO e (iR cl e) ρ).th (kP3 cl e tg c l acc K) else (zk cl e tg c l ρ acc).th K:=(rfl)
theorem yP3:kP3 cl e tg c l acc K (d,ρ)=if acc.length < sizeLine then (zk cl e tg c l ρ (acc++[d])).th K else .no:=(rfl)
end
end
section
variable {β:Type} (r:Env->R (Rv×Env)) (ρ:Env)
theorem eE_bin (K:D×Env->R β) (op:Operator) (a b:E):(jO (.bin op a b) r ρ).th K=(r ρ).th (qjh K):=by rw [show jO (.bin op a b) r ρ=(r ρ).th qgV from rfl,qc];rfl
theorem eL_bin (K:(Sk×List D)×Env->R β) (op:Operator) (a b:E):(yC (.bin op a b) r ρ).th K=(r ρ).th (Qi K):=by rw [show yC (.bin op a b) r ρ=(r ρ).th qfP from rfl,qc];rfl
theorem eX_bin (K:Rv->R β) (op:Operator) (a b:E):(qao (.bin op a b) r ρ).th K=(r ρ).th (kX K):=qc (r ρ) _ _
theorem eA_bin (K:Sl×Env->R β) (op:Operator) (a b:E):(Qx (.bin op a b) r ρ).th K=(r ρ).th (kAx K):=qc (r ρ) _ _
theorem eA_neg (K:Sl×Env->R β) (a:E):(Qx (.neg a) r ρ).th K=(r ρ).th (kAx K):=qc (r ρ) _ _
theorem eX_and (K:Rv->R β) (a b:E):(qao (.and a b) r ρ).th K=(r ρ).th (kX K):=qc (r ρ) _ _
theorem eX_cmp (K:Rv->R β) (op:CmpOp) (a b:E):(qao (.cmp op a b) r ρ).th K=(r ρ).th (kX K):=qc (r ρ) _ _
theorem eA_cmp (K:Sl×Env->R β) (op:CmpOp) (a b:E):(Qx (.cmp op a b) r ρ).th K=(r ρ).th (kAx K):=qc (r ρ) _ _
theorem eX_ite (K:Rv->R β) (c:T) (a b:E):(qao (.ite c a b) r ρ).th K=(r ρ).th (kX K):=qc (r ρ) _ _
theorem eE_idx (K:D×Env->R β) (a b:E):(jO (.idx a b) r ρ).th K=(r ρ).th (qjh K):=by rw [show jO (.idx a b) r ρ=(r ρ).th qgV from rfl,qc];rfl
theorem eX_idx (K:Rv->R β) (a b:E):(qao (.idx a b) r ρ).th K=(r ρ).th (kX K):=qc (r ρ) _ _
theorem eA_idx (K:Sl×Env->R β) (a b:E):(Qx (.idx a b) r ρ).th K=(r ρ).th (kAx K):=qc (r ρ) _ _
theorem eL_sli (K:(Sk×List D)×Env->R β) (a:E) (lo hi:O):(yC (.sli a lo hi) r ρ).th K=(r ρ).th (Qi K):=by rw [show yC (.sli a lo hi) r ρ=(r ρ).th qfP from rfl,qc];rfl
theorem eA_sli (K:Sl×Env->R β) (a:E) (lo hi:O):(Qx (.sli a lo hi) r ρ).th K=(r ρ).th (kAx K):=qc (r ρ) _ _
theorem eA_lst (K:Sl×Env->R β) (l:Es):(Qx (.lst l) r ρ).th K=(r ρ).th (kAx K):=qc (r ρ) _ _
theorem eE_tup (K:D×Env->R β) (l:Es):(jO (.tup l) r ρ).th K=(r ρ).th (qjh K):=by rw [show jO (.tup l) r ρ=(r ρ).th qgV from rfl,qc];rfl
theorem eX_tup (K:Rv->R β) (l:Es):(qao (.tup l) r ρ).th K=(r ρ).th (kX K):=qc (r ρ) _ _
theorem eA_tup (K:Sl×Env->R β) (l:Es):(Qx (.tup l) r ρ).th K=(r ρ).th (kAx K):=qc (r ρ) _ _
theorem eE_call (K:D×Env->R β) (f:Str) (l:Es):(jO (.call f l) r ρ).th K=(r ρ).th (qjh K):=by rw [show jO (.call f l) r ρ=(r ρ).th qgV from rfl,qc];rfl
theorem eL_call (K:(Sk×List D)×Env->R β) (f:Str) (l:Es):(yC (.call f l) r ρ).th K=(r ρ).th (Qi K):=by rw [show yC (.call f l) r ρ=(r ρ).th qfP from rfl,qc];rfl
theorem eX_call (K:Rv->R β) (f:Str) (l:Es):(qao (.call f l) r ρ).th K=(r ρ).th (kX K):=qc (r ρ) _ _
theorem eA_call (K:Sl×Env->R β) (f:Str) (l:Es):(Qx (.call f l) r ρ).th K=(r ρ).th (kAx K):=qc (r ρ) _ _
theorem eL_b1 (K:(Sk×List D)×Env->R β) (f:B1) (a:E):(yC (.b1 f a) r ρ).th K=(r ρ).th (Qi K):=by rw [show yC (.b1 f a) r ρ=(r ρ).th qfP from rfl,qc];rfl
theorem eX_b1 (K:Rv->R β) (f:B1) (a:E):(qao (.b1 f a) r ρ).th K=(r ρ).th (kX K):=qc (r ρ) _ _
theorem eA_b1 (K:Sl×Env->R β) (f:B1) (a:E):(Qx (.b1 f a) r ρ).th K=(r ρ).th (kAx K):=qc (r ρ) _ _
theorem eE_b2 (K:D×Env->R β) (f:B2) (a b:E):(jO (.b2 f a b) r ρ).th K=(r ρ).th (qjh K):=by rw [show jO (.b2 f a b) r ρ=(r ρ).th qgV from rfl,qc];rfl
theorem eA_b2 (K:Sl×Env->R β) (f:B2) (a b:E):(Qx (.b2 f a b) r ρ).th K=(r ρ).th (kAx K):=qc (r ρ) _ _
theorem eL_fld (K:(Sk×List D)×Env->R β) (a:E) (x:Str):(yC (.fld a x) r ρ).th K=(r ρ).th (Qi K):=by rw [show yC (.fld a x) r ρ=(r ρ).th qfP from rfl,qc];rfl
theorem eL_met (K:(Sk×List D)×Env->R β) (a:E) (x:Str) (l:Es):(yC (.met a x l) r ρ).th K=(r ρ).th (Qi K):=by rw [show yC (.met a x l) r ρ=(r ρ).th qfP from rfl,qc];rfl
theorem eA_met (K:Sl×Env->R β) (a:E) (x:Str) (l:Es):(Qx (.met a x l) r ρ).th K=(r ρ).th (kAx K):=qc (r ρ) _ _
theorem eX_new (K:Rv->R β) (f:Str) (l:Es):(qao (.new f l) r ρ).th K=(r ρ).th (kX K):=qc (r ρ) _ _
theorem eA_new (K:Sl×Env->R β) (f:Str) (l:Es):(Qx (.new f l) r ρ).th K=(r ρ).th (kAx K):=qc (r ρ) _ _
theorem eX_comp (K:Rv->R β) (e:E) (src:I) (tg:Tg) (c:F) (n:Nat) (fr:List Nat):(qao (.comp e src tg c n fr) r ρ).th K=(r ρ).th (kX K):=qc (r ρ) _ _
theorem eA_comp (K:Sl×Env->R β) (e:E) (src:I) (tg:Tg) (c:F) (n:Nat) (fr:List Nat):(Qx (.comp e src tg c n fr) r ρ).th K=(r ρ).th (kAx K):=qc (r ρ) _ _
theorem eE_var (K:D×Env->R β) (i:Nat):(jO (.var i) r ρ).th K=(slE ρ i).th K:=(rfl)
theorem eE_con (K:D×Env->R β) (d:D):(jO (.con d) r ρ).th K=K (d,ρ):=(rfl)
theorem eL_var (K:(Sk×List D)×Env->R β) (i:Nat):(yC (.var i) r ρ).th K=(slL ρ i).th K:=(rfl)
theorem eX_var (K:Rv->R β) (i:Nat):(qao (.var i) r ρ).th K=(slX ρ i).th K:=(rfl)
theorem eX_con (K:Rv->R β) (d:D):(qao (.con d) r ρ).th K=K (.val d):=(rfl)
theorem eA_var (K:Sl×Env->R β) (i:Nat):(Qx (.var i) r ρ).th K=(slE ρ i).th (kAv K):=qc (slE ρ i) _ _
theorem eA_con (K:Sl×Env->R β) (d:D):(Qx (.con d) r ρ).th K=K (.val d,ρ):=(rfl)
end
theorem bAdd (a b:Int):qaW .Add (.val (.int a)) (.val (.int b))=.ok (.val (.int (a+b))):=(rfl)
theorem bAdds (a b:Str):qaW .Add (.val (.str a)) (.val (.str b))=if a.length+b.length<=sizeLine then .ok (.val (.str (a++b))) else .no:=(rfl)
theorem bAddtt (a b:List D):qaW .Add (.tmp a) (.tmp b)=if a.length+b.length<=sizeLine then .ok (.tmp (a++b)) else .no:=(rfl)
theorem bAddct (a b:List D):qaW .Add (.cell a) (.tmp b)=if a.length+b.length<=sizeLine then .ok (.tmp (a++b)) else .no:=(rfl)
theorem bSub (a b:Int):qaW .Sub (.val (.int a)) (.val (.int b))=.ok (.val (.int (a - b))):=(rfl)
theorem bMult (a b:Int):qaW .Mult (.val (.int a)) (.val (.int b))=if Q7 a b=true then .ok (.val (.int (a * b))) else .no:=(rfl)
theorem bDiv (a b:Int):qaW .FloorDiv (.val (.int a)) (.val (.int b))=if 0 < b/\b < 1073741824 then .ok (.val (.int (a / b))) else .no:=(rfl)
theorem bMod (a b:Int):qaW .Mod (.val (.int a)) (.val (.int b))=if 0 < b then .ok (.val (.int (a % b))) else .no:=(rfl)
theorem bPow (a b:Int):qaW .Pow (.val (.int a)) (.val (.int b))=if 0<=b/\b<=1000000/\a.natAbs < 2 ^ 64 then .ok (.val (.int (a ^ b.toNat))) else .no:=(rfl)
theorem cEq (x y:Rv):JX .Eq x y=eqD x.data y.data:=(rfl)
theorem cNe (x y:Rv):JX .NotEq x y=(eqD x.data y.data).map (!·):=(rfl)
theorem cLt (a b:Int):JX .Lt (.val (.int a)) (.val (.int b))=some (decide (a < b)):=(rfl)
theorem cLe (a b:Int):JX .LtE (.val (.int a)) (.val (.int b))=some (decide (a<=b)):=(rfl)
theorem cGt (a b:Int):JX .Gt (.val (.int a)) (.val (.int b))=some (decide (b < a)):=(rfl)
theorem cGe (a b:Int):JX .GtE (.val (.int a)) (.val (.int b))=some (decide (b<=a)):=(rfl)
theorem cIs (x:Rv):JX .Is x (.val .non)=some x.non?:=(rfl)
theorem cIsN (x:Rv):JX .IsNot x (.val .non)=some (!x.non?):=(rfl)
theorem cIn (x y:Rv):JX .In x y=qeX x y:=(rfl)
theorem cNi (x y:Rv):JX .NotIn x y=(qeX x y).map (!·):=(rfl)
theorem mIn (a b:Str):qeX (.val (.str a)) (.val (.str b))=some (qjd a b):=(rfl)
theorem rgoV (i:Nat) (d:D) (ρ:Env):Tg.go (.one i) d ρ=.ok (ρ.set i (.val d)):=(rfl)
theorem rgoT (l:List Nat) (ds:List D) (ρ:Env):Tg.go (.many l) (.tup ds) ρ=Zb l ds ρ:=(rfl)
theorem setIs_nil (ρ:Env):Zb [] [] ρ=.ok ρ:=(rfl)
theorem setIs_cons (i:Nat) (l:List Nat) (d:D) (ds:List D) (ρ:Env):Zb (i::l) (d::ds) ρ=Zb l ds (ρ.set i (.val d)):=(rfl)
end DE
namespace DE
open PySem L2
section
variable {α β:Type} (f:α->β) (a b:α) (l m:List α) (n:Nat)
theorem g_mapc:List.map f (a::l)=f a::List.map f l:=(rfl)
theorem g_mapn:List.map f []=[]:=(rfl)
theorem g_lenc:(a::l).length=l.length+1:=(rfl)
theorem g_lenn:([]:List α).length=0:=(rfl)
theorem g_rep0:List.replicate 0 a=[]:=(rfl)
theorem g_reps:List.replicate (n+1) a=a::List.replicate n a:=(rfl)
theorem g_appc:(a::l)++m=a::(l++m):=(rfl)
theorem g_appn:[]++m=m:=(rfl)
theorem g_set0:(a::l).set 0 b=b::l:=(rfl)
theorem g_sets:(a::l).set (n+1) b=a::l.set n b:=(rfl)
theorem g_last (l:List α) (x:α):atI (l++[x]) (-1)=some x:=L2.qfi ..
theorem g_nott:(!true)=false:=(rfl)
theorem g_notf:(!false)=true:=(rfl)
theorem g_omap:Option.map f (some a)=some (f a):=(rfl)
theorem g_fe:(false=true)=False:=Bool.false_eq_true
theorem g_and (p:Prop):(p/\p)=p:=and_self p
theorem g_dt (h:Decidable True):@decide True h=true:=decide_true ..
theorem g_df (h:Decidable False):@decide False h=false:=decide_false ..
end
def aL (b:Bool) (l:List D):Ar:=match b with
 | true=>.bor l
 | false=>.val (.lst l)
def rA (b:Bool) (l:List D):Rv:=match b with
 | true=>.cell l
 | false=>.val (.lst l)
def pS (b:Bool) (l:List D):Sl:=match b with
 | true=>.bor l
 | false=>.val (.lst l)
def qmf (b:Bool) (l:List D):Sl:=match b with
 | true=>.own l
 | false=>.val (.lst l)
section
variable {β:Type} (b:Bool) (l:List D) (ρ:DE.Env)
theorem lend_v (d:D):qeZ (.val d)=.val d:=(rfl)
theorem qnc:qmf true l=.own l:=rfl
theorem qnd:qmf false l=.val (.lst l):=rfl
theorem qcJ:aL true l=.bor l:=rfl
theorem qcK:aL false l=.val (.lst l):=rfl
theorem sA_p:toSl (aL b l)=pS b l:=by cases b<;>rfl
theorem sA_R:slR (pS b l::ρ) 0=.ok (rA b l):=by cases b<;>rfl
theorem sA_L (K:(Sk×List D)×DE.Env->R β):(slL (pS b l::ρ) 0).th K=K ((.lst,l),pS b l::ρ):=by cases b<;>rfl
theorem sL_L (K:(Sk×List D)×DE.Env->R β):(slL (qmf b l::ρ) 0).th K=K ((.lst,l),.val (.lst l)::ρ):=by cases b<;>rfl
theorem rA_a:toAr (rA b l)=aL b l:=by cases b<;>rfl
theorem rA_l:(rA b l).list?=some l:=by cases b<;>rfl
theorem rA_s:(rA b l).str?=none:=by cases b<;>rfl
theorem rA_t:(rA b l).tup?=none:=by cases b<;>rfl
theorem rA_y:Ty.list.go (rA b l)=some true:=by cases b<;>rfl
end
noncomputable abbrev RW (pg:Pg) (f:Str) (c:Nat×Nat×Ss):Prop:=∀ (k:Nat) (args:List Ar),clK pg (k+1) f args=runD (pg.kk k) 1000 c args
noncomputable abbrev USs (b c:Ss):Prop:=∀ {β:Type} (cl:Cl) (w:Nat) (ρ:DE.Env) (K:Fl->R β),(iSs cl w b ρ).th K=(iSs cl w c ρ).th K
noncomputable abbrev UT (b c:T):Prop:=∀ {β:Type} (cl:Cl) (ρ:DE.Env) (K:Bool×DE.Env->R β),(iT cl b ρ).th K=(iT cl c ρ).th K
noncomputable abbrev UE (b c:E):Prop:=∀ {β:Type} (cl:Cl) (ρ:DE.Env) (K:D×DE.Env->R β),(jO b (iR cl b) ρ).th K=(jO c (iR cl c) ρ).th K
end DE
namespace DG
open PySem L2 DE
def qiA:Stmt->List Stmt
 | .ClassDef _ _ _ b _ _ _ _ _ _ _=>b
 | _=>[]
def rk (c:Str):Bool:=c == "Within" || c == "Since" || c == "InRow"
noncomputable def pcs:Cs where
 tab:=["Within","Since","InRow","Book"]
 fld:=fun c x=>(rk c&&(x == "lands" || x == "most" || (x == "span" && c == "Within")||(x == "leave" && c != "Within")))||(c == "Book" && (x == "kept_rules" || x == "kept_papers"))
 mt:=fun c x=>if rk c&&x == "weight" then some "Rule.weight" else if c == "Book" && x == "rules" then some "Book.rules" else if c == "Book" && x == "lifted" then some "Book.lifted" else if c == "Book" && x == "papers" then some "Book.papers" else none
 sub:=fun c t=>if rk c&&t == "Within" then some (c == "Within") else if rk c&&t == "Since" then some (c != "Within") else none
noncomputable def qcL (s:Str):Bool:=decide (1<=s.length)&&decide (s.length<=8)&&s.cps.toList.all fun c=>decide (97<=c)&&decide (c<=122)
noncomputable def qd7:D->Option (Str×Int)
 | .tup [.str s,.int w]=>if qcL s&&decide (1<=w)&&decide (w<=9) then some (s,w) else none
 | _=>none
noncomputable def Qy:List Str->List D->Bool
 | _,[]=>true
 | acc,d::l=>match qd7 d with
  | some p=>!acc.contains p.1&&Qy (acc++[p.1]) l
  | none=>false
def qJ (l:List D):Bool:=decide (1<=l.length)&&decide (l.length<=6)&&Qy [] l
def btw (n a b:Int):Bool:=decide (a<=n)&&decide (n<=b)
def qap:D->Bool
 | .ins c _ _=>rk c
 | _=>false
noncomputable def yF (many:Int):D->Bool
 | .tup [.int o,.int a,.int b]=>btw o 0 (many - 1)&&btw a 0 1000000000&&btw b 0 1000000000&&decide (a<=b)
 | _=>false
def arL:Ar->Option (List D)
 | .val (.lst l)=>some l
 | .bor l=>some l
 | _=>none
def arI:Ar->Option Int
 | .val (.int n)=>some n
 | _=>none
noncomputable def qbU:List Ar->Option (List (Str×D))
 | [a,b]=>match arL a,arI b with
  | some l,some m=>if (qJ l&&btw m 0 1000000000)=true then some [("lands",.tup l),("most",.int m)] else none
  | _,_=>none
 | _=>none
noncomputable def yc (x:Str):List Ar->Option (List (Str×D))
 | [a,b,c]=>match arL a,arI b,arI c with
  | some l,some m,some s=>if (qJ l&&btw m 0 1000000000&&btw s 1 1000000000)=true then some [("lands",.tup l),("most",.int m),(x,.int s)] else none
  | _,_,_=>none
 | _=>none
noncomputable def qcM:List Ar->Option (List (Str×D))
 | [a,b]=>match arL a,arI b with
  | some l,some m=>if (qJ l&&btw m 0 1000000000)=true then some [("lands",.tup l),("most",.int m),("leave",.int 1)] else none
  | _,_=>none
 | _=>none
noncomputable def Qz:List Ar->Option (List (Str×D))
 | [a,b]=>match arL a,arL b with
  | some l,some ps=>if ((decide (l.length<=8)&&l.all qap)&&(decide (ps.length<=12)&&ps.all (yF l.length)))=true then some [("kept_rules",.lst l),("kept_papers",.lst ps)] else none
  | _,_=>none
 | _=>none
noncomputable def qcN (c:Str):Option (List (Str×D))->R Rv
 | some fs=>.ok (.val (.ins c (fs.map (·.1)) (fs.map (·.2))))
 | none=>.no
noncomputable def pnw (k:Nat) (f:Str) (args:List Ar):R Rv:=if k < 12 then .no else
 if f = "Within" then qcN "Within" (yc "span" args) else if f = "Since" then qcN "Since" (yc "leave" args) else if f = "InRow" then qcN "InRow" (qcM args) else if f = "Book" then qcN "Book" (Qz args) else .no
noncomputable def QA:Nat×Nat×Ss:=(1,1,%[.ret (.and (.isi Ty.int (.var 0)) (.one (.not (.isi Ty.bool (.var 0)))))|0])
noncomputable def J2:Nat×Nat×Ss:=(3,3,%[.ret (.and (.call "is_whole" %[0|0]) (.and (.cmp .LtE (.var 1) (.var 0)) (.one (.cmp .LtE (.var 0) (.var 2)))))|0])
noncomputable def QB:Nat×Nat×Ss:=(2,2,%[.ret (.and (.call "is_between" %[0,.con (.int 0),.con (.int 1000000000)|0]) (.and (.call "is_between" %[1,.con (.int 0),.con (.int 1000000000)|0]) (.one (.cmp .LtE (.var 0) (.var 1)))))|0])
noncomputable abbrev yd:Ss:=%[.ite (.cmp .NotIn (.var 2) (.var 1)) %[.ret (.con (.bl false))|0] .nil|0]
def jc:Ss:=yd
theorem Yh:USs jc yd:=fun _ _ _ _=>(rfl)
noncomputable def J3:Nat×Nat×Ss:=(2,3,%[.for_ (.one 2) (.seq (.var 0)) jc,.ret (.con (.bl true))|0])
noncomputable def qaq:Nat×Nat×Ss:=(1,1,%[.ite (.not (.val (.isi Ty.str (.var 0)))) %[.ret (.con (.bl false))|0] .nil,.ret (.and (.cmp .LtE (.con (.int 1)) (.b1 .len (.var 0))) (.and (.cmp .LtE (.b1 .len (.var 0)) (.con (.int 8))) (.one (.call "is_made_of" %[0,.con (.str "abcdefghijklmnopqrstuvwxyz")|0]))))|0])
class CH (pg:Pg):Prop where
 r_is_whole:RW pg "is_whole" QA
 r_is_between:RW pg "is_between" J2
 r_are_days:RW pg "are_days" QB
 r_is_made_of:RW pg "is_made_of" J3
 r_is_name:RW pg "is_name" qaq
noncomputable def qar:Nat×Nat×Ss:=(1,1,%[.ite (.or (.not (.val (.isi Ty.tuple (.var 0)))) (.one (.cmp .NotEq (.b1 .len (.var 0)) (.con (.int 3))))) %[.ret (.con (.bl false))|0] .nil,.ret (.and (.call "is_name" %[.idx (.var 0) (.con (.int 0))|0]) (.one (.call "are_days" %[.idx (.var 0) (.con (.int 1)),.idx (.var 0) (.con (.int 2))|0])))|0])
noncomputable abbrev Jg:Ss:=%[.ite (.or (.not (.val (.call "is_stay" %[3|0]))) (.one (.cmp .LtE (.idx (.var 3) (.con (.int 1))) (.var 1)))) %[.stuck|0] .nil,.set 1 (.idx (.var 3) (.con (.int 2)))|0]
def ye:Ss:=Jg
theorem Qj:USs ye Jg:=fun _ _ _ _=>(rfl)
noncomputable def QC:Nat×Nat×Ss:=(1,4,%[.ite (.not (.val (.isi Ty.list (.var 0)))) %[.stuck|0] .nil,.set 1 (.neg (.con (.int 1))),.for_ (.many [2,3]) (.enum (.var 0)) ye,.ite (.cmp .Gt (.b1 .len (.var 0)) (.con (.int 60))) %[.stuck|0] .nil,.ret (.b1 .list (.var 0))|0])
class ST (pg:Pg):Prop where
 r_is_stay:RW pg "is_stay" qar
 r_stays_of:RW pg "stays_of" QC
noncomputable abbrev YK:Ss:=%[.ite (.and (.val (.var 1)) (.one (.cmp .LtE (.var 2) (.bin .Add (.idx (.idx (.var 1) (.neg (.con (.int 1)))) (.con (.int 1))) (.con (.int 1)))))) %[.setI 1 (.neg (.con (.int 1))) (.tup %[.idx (.idx (.var 1) (.neg (.con (.int 1)))) (.con (.int 0)),.b2 .max (.idx (.idx (.var 1) (.neg (.con (.int 1)))) (.con (.int 1))) (.var 3)|0])|0] %[.app 1 (.tup %[2,3|0])|0]|0]
def JJ:Ss:=YK
theorem yf:USs JJ YK:=fun _ _ _ _=>(rfl)
noncomputable def qbV:Nat×Nat×Ss:=(1,4,%[.set 1 (.lst .nil),.for_ (.many [2,3]) (.seq (.b1 .srt (.var 0))) JJ,.ret (.var 1)|0])
class SP (pg:Pg):Prop where
 r_spread:RW pg "spread" qbV
noncomputable def qas:Nat×Nat×Ss:=(1,1,%[.ite (.or (.not (.val (.isi Ty.tuple (.var 0)))) (.one (.cmp .NotEq (.b1 .len (.var 0)) (.con (.int 2))))) %[.ret (.con (.bl false))|0] .nil,.ret (.and (.call "is_name" %[.idx (.var 0) (.con (.int 0))|0]) (.one (.call "is_between" %[.idx (.var 0) (.con (.int 1)),.con (.int 1),.con (.int 9)|0])))|0])
noncomputable abbrev yG:Ss:=%[.ite (.or (.not (.val (.call "is_land" %[2|0]))) (.one (.cmp .In (.idx (.var 2) (.con (.int 0))) (.var 1)))) %[.ret (.con (.bl false))|0] .nil,.app 1 (.idx (.var 2) (.con (.int 0)))|0]
def jF:Ss:=yG
theorem YL:USs jF yG:=fun _ _ _ _=>(rfl)
noncomputable def YM:Nat×Nat×Ss:=(1,3,%[.ite (.or (.not (.val (.isi Ty.list (.var 0)))) (.or (.cmp .Lt (.b1 .len (.var 0)) (.con (.int 1))) (.one (.cmp .Gt (.b1 .len (.var 0)) (.con (.int 6)))))) %[.ret (.con (.bl false))|0] .nil,.set 1 (.lst .nil),.for_ (.one 2) (.seq (.var 0)) jF,.ret (.con (.bl true))|0])
abbrev jP:Ss:=%[.ite (.cmp .Eq (.var 2) (.var 1)) %[.ret (.var 3)|0] .nil|0]
def zJ:Ss:=jP
theorem jn:USs zJ jP:=fun _ _ _ _=>(rfl)
noncomputable def jG:Nat×Nat×Ss:=(2,4,%[.for_ (.many [2,3]) (.seq (.fld (.var 0) "lands")) zJ,.ret (.con (.int 0))|0])
class RU (pg:Pg):Prop where
 cs:pg.cs=pcs
 nw:pg.nw=pnw
 r_is_land:RW pg "is_land" qas
 r_are_lands:RW pg "are_lands" YM
 r_Rule_weight:RW pg "Rule.weight" jG
noncomputable abbrev yH:Ss:=%[.ite (.and (.not (.val (.isc "Within" (.var 1)))) (.one (.not (.val (.isc "Since" (.var 1)))))) %[.ret (.con (.bl false))|0] .nil|0]
def jH:Ss:=yH
theorem yg:USs jH yH:=fun _ _ _ _=>(rfl)
noncomputable def YN:Nat×Nat×Ss:=(1,2,%[.ite (.or (.not (.val (.isi Ty.list (.var 0)))) (.one (.cmp .Gt (.b1 .len (.var 0)) (.con (.int 8))))) %[.ret (.con (.bl false))|0] .nil,.for_ (.one 1) (.seq (.var 0)) jH,.ret (.con (.bl true))|0])
noncomputable def QD:Nat×Nat×Ss:=(2,2,%[.ite (.or (.not (.val (.isi Ty.tuple (.var 0)))) (.one (.cmp .NotEq (.b1 .len (.var 0)) (.con (.int 3))))) %[.ret (.con (.bl false))|0] .nil,.ret (.and (.call "is_between" %[.idx (.var 0) (.con (.int 0)),.con (.int 0),.bin .Sub (.var 1) (.con (.int 1))|0]) (.one (.call "are_days" %[.idx (.var 0) (.con (.int 1)),.idx (.var 0) (.con (.int 2))|0])))|0])
noncomputable abbrev jo:Ss:=%[.ite (.not (.val (.call "is_paper" %[3,1|0]))) %[.stuck|0] .nil|0]
def zn:Ss:=jo
theorem Jh:USs zn jo:=fun _ _ _ _=>(rfl)
noncomputable def yI:Nat×Nat×Ss:=(2,4,%[.ite (.not (.val (.isi Ty.list (.var 0)))) %[.stuck|0] .nil,.for_ (.many [2,3]) (.enum (.var 0)) zn,.ite (.cmp .Gt (.b1 .len (.var 0)) (.con (.int 12))) %[.stuck|0] .nil|0])
def J4:Nat×Nat×Ss:=(1,1,%[.ret (.b1 .list (.fld (.var 0) "kept_rules"))|0])
def Zg:Nat×Nat×Ss:=(1,1,%[.ret (.b1 .list (.fld (.var 0) "kept_papers"))|0])
abbrev jQ:E:=(.tup %[1,2|0])
def zK:E:=jQ
theorem jp:UE zK jQ:=fun _ _ _=>(rfl)
noncomputable def Ji:Nat×Nat×Ss:=(2,2,%[.ret (.call "spread" %[.comp zK (.seq (.fld (.var 0) "kept_papers")) (.many [0,1,2]) (.test (.cmp .Eq (.var 0) (.var 3))) 3 [1]|0])|0])
class BO (pg:Pg):Prop where
 r_are_rules:RW pg "are_rules" YN
 r_is_paper:RW pg "is_paper" QD
 r_check_papers:RW pg "check_papers" yI
 r_Book_rules:RW pg "Book.rules" J4
 r_Book_papers:RW pg "Book.papers" Zg
 r_Book_lifted:RW pg "Book.lifted" Ji
end DG
namespace DG
open PySem L2 DE
open CH ST SP RU BO
section
variable {pg:Pg} [CH pg]
theorem Zh (k:Nat) (n:Int):clK pg (k+1) "is_whole" [.val (.int n)]=.ok (.val (.bl true)):=by rw [r_is_whole];simp? only [QA]
theorem jq (k:Nat) (n a b:Int) (h1:a<=n) (h2:n<=b):clK pg (k+2) "is_between" [.val (.int n),.val (.int a),.val (.int b)]=.ok (.val (.bl true)):=by rw [r_is_between];simp? only [J2,Zh,h1,h2,decide_true]
theorem qd8 (k:Nat) (a b:Int) (h0:0<=a) (h1:a<=b) (h2:b<=1000000000):clK pg (k+3) "are_days" [.val (.int a),.val (.int b)]=.ok (.val (.bl true)):=by
 have h3:a<=1000000000:=by omega
 have h4:0<=b:=by omega
 rw [r_are_days];simp? only [QB,jq k a 0 1000000000 h0 h3,jq k b 0 1000000000 h4 h2,h1,decide_true]
def yY (c:Nat):Prop:=97<=c/\c < 123
theorem qiB (c:Nat) (h:yY c):qjd ⟨#[c]⟩ "abcdefghijklmnopqrstuvwxyz" = true:=by
 have key:∀ j:Fin 26,qjd ⟨#[97+j.val]⟩ "abcdefghijklmnopqrstuvwxyz" = true:=by decide+kernel
 have:=key ⟨c - 97,by unfold yY at h;omega⟩
 rw [show 97+(c - 97)=c by unfold yY at h;omega] at this;exact this
theorem qat (k:Nat) (z:Str):∀ (l:List Nat) (s:Sl),(∀ c∈l,yY c)->∃ s',yb (pg.kk k) 1000 (.one 2) jc (l.map fun c=>D.str ⟨#[c]⟩) [.val (.str z),.val (.str "abcdefghijklmnopqrstuvwxyz"),s]=.ok (.next [.val (.str z),.val (.str "abcdefghijklmnopqrstuvwxyz"),s'])
 | [],s,_=>⟨s,by rw [List.map_nil,zX]⟩
 | c::l,s,h=>by obtain ⟨s',e⟩:=qat k z l (.val (.str ⟨#[c]⟩)) fun x hx=>h x (by simp [hx]);refine ⟨s',?_⟩;show 1;rw [List.map_cons];simp? only [Yh,qiB c (h c (by simp)),e]
theorem qiC (k:Nat) (z:Str) (h:∀ c∈z.cps.toList,yY c):clK pg (k+1) "is_made_of" [.val (.str z),.val (.str "abcdefghijklmnopqrstuvwxyz")]=.ok (.val (.bl true)):=by rw [r_is_made_of];obtain ⟨s',e⟩:=qat (pg:=pg) k z z.cps.toList .no h;simp? only [J3,Nat.reduceAdd,Nat.reduceSub,qaV,e]
structure NameOk (z:Str):Prop where
 one:1<=z.cps.size
 eight:z.cps.size<=8
 lets:∀ c∈z.cps.toList,yY c
theorem qd9 (k:Nat) (z:Str) (h:NameOk z):clK pg (k+2) "is_name" [.val (.str z)]=.ok (.val (.bl true)):=by
 have hz:z.length<=sizeLine:=by
  have:=h.eight
  show z.cps.size<=2 ^ 24;omega
 have h1:(1:Int)<=(z.length:Int):=by
  have:=h.one
  show (1:Int)<=(z.cps.size:Int);omega
 have h8:(z.length:Int)<=8:=by
  have:=h.eight
  show (z.cps.size:Int)<=8;omega
 rw [r_is_name];simp? only [qaq,hz,h1,h8,decide_true,qiC k z h.lets]
def stD (s:Str×Int×Int):D:=.tup [.str s.1,.int s.2.1,.int s.2.2]
theorem J5 (s:Str×Int×Int):stD s=.tup [.str s.1,.int s.2.1,.int s.2.2]:=rfl
structure StOk (e:Int) (s:Str×Int×Int):Prop where
 nm:NameOk s.1
 lo:e < s.2.1
 ab:s.2.1<=s.2.2
 hi:s.2.2<=1000000000
end
section
variable {pg:Pg} [CH pg] [ST pg]
theorem qiD (k:Nat) (e:Int) (s:Str×Int×Int) (he:-1<=e) (h:StOk e s):clK pg (k+4) "is_stay" [.val (stD s)]=.ok (.val (.bl true)):=by
 have hlo:=h.lo;have hab:=h.ab;rw [r_is_stay];have e0:atI [D.str s.1,D.int s.2.1,D.int s.2.2] 0=some (.str s.1):=by rfl
 have e1:atI [D.str s.1,D.int s.2.1,D.int s.2.2] 1=some (.int s.2.1):=by rfl
 have e2:atI [D.str s.1,D.int s.2.1,D.int s.2.2] 2=some (.int s.2.2):=by rfl
 simp? only [qar,stD,e0,e1,e2,qx,qd9 (k+1) s.1 h.nm,qd8 k s.2.1 s.2.2 (1:) h.ab h.hi,show ((((0+1+1+1:Nat):Int) == 3)=true) from rfl]
def Ch:Int->List (Str×Int×Int)->Prop
 | _,[]=>True
 | e,s::l=>StOk e s/\Ch s.2.2 l
theorem jr (k:Nat) (v:Sl):∀ (l:List (Str×Int×Int)) (i:Nat) (e:Int) (s2 s3:Sl),-1<=e->Ch e l->∃ e' s2' s3',yb (pg.kk (k+4)) 1000 (.many [2,3]) ye (enF i (l.map stD)) [v,.val (.int e),s2,s3]=.ok (.next [v,.val (.int e'),s2',s3'])
 | [],i,e,s2,s3,_,_=>⟨e,s2,s3,rfl⟩
 | s::l,i,e,s2,s3,he,h=>by
  have h1:=h.1.lo;have h2:=h.1.ab;obtain ⟨e',s2',s3',ih⟩:=jr k v l (i+1) s.2.2 (.val (.int i)) (.val (stD s)) (1:) h.2;refine ⟨e',s2',s3',?_⟩;have hn:¬ s.2.1<=e:=by omega
  have st:=qiD (pg:=pg) k e s he h.1;simp only [J5] at st ih;show 1;rw [List.map_cons,enF];simp? only [Qj,J5,st,hn,ih]
theorem Zi (k:Nat) (b:Bool) (l:List (Str×Int×Int)) (h:Ch (-1) l) (hl:l.length<=60):clK pg (k+5) "stays_of" [aL b (l.map stD)]=.ok (.tmp (l.map stD)):=by
 have h6:¬ (60:Int) < ((l.map stD).length:Int):=by rw [List.length_map];omega
 obtain ⟨e',s2',s3',ih⟩:=jr (pg:=pg) k (pS b (l.map stD)) l 0 (-1) .no .no (1:) h;rw [r_stays_of];simp? only [QC,Nat.reduceAdd,Nat.reduceSub,Ze,ih,h6,decide_false]
end
theorem NameOk.of {z:Str} (h:qcL z=true):NameOk z:=by
 unfold qcL at h;simp only [Bool.and_eq_true,decide_eq_true_eq,List.all_eq_true] at h;refine ⟨h.1.1,h.1.2,fun c hc=>?_⟩
 have:=h.2 c hc
 unfold yY;omega
theorem qfY {d:D} {p:Str×Int} (h:qd7 d=some p):d=.tup [.str p.1,.int p.2]/\NameOk p.1/\1<=p.2/\p.2<=9:=by
 unfold qd7 at h
 split at h
 ·rename_i s w
  split at h
  ·rename_i hc;cases h;simp only [Bool.and_eq_true,decide_eq_true_eq] at hc;exact ⟨rfl,NameOk.of hc.1.1,hc.1.2,hc.2⟩
  ·cases h
 ·cases h
section
variable {pg:Pg} [CH pg] [RU pg]
theorem qiE (k:Nat) (s:Str) (w:Int) (hs:NameOk s) (h1:1<=w) (h9:w<=9):clK pg (k+3) "is_land" [.val (.tup [.str s,.int w])]=.ok (.val (.bl true)):=by
 rw [r_is_land];have e0:atI [D.str s,D.int w] 0=some (.str s):=by rfl
 have e1:atI [D.str s,D.int w] 1=some (.int w):=by rfl
 simp? only [qas,e0,e1,qx,qd9 k s hs,jq k w 1 9 h1 h9,show ((((0+1+1:Nat):Int) == 2)=true) from rfl]
end
theorem qfZ (s:Str) (acc:List Str):inD (.str s) (acc.map D.str)=some (acc.contains s):=by
 have e:∀ acc:List Str,inV (V.str s) (acc.map V.str)=acc.contains s:=by
  intro acc
  induction acc with
  | nil=>rfl
  | cons z l ih=>
   rw [List.map_cons,List.contains_cons,<-ih];show (eqV (V.str z) (V.str s)||_)=_
   congr 1
   exact BEq.comm
 unfold inD;rw [if_pos (by simp [Qh]),show (acc.map D.str).map flV=acc.map V.str by simp [flV]];exact congrArg some (e acc)
theorem qea (s:Str) (acc:List Str):qeX (.val (.str s)) (.cell (acc.map D.str))=some (acc.contains s):=qfZ s acc
section
variable {pg:Pg} [CH pg] [RU pg]
theorem QE (k:Nat) (v:Sl):∀ (l:List D) (acc:List Str) (s2:Sl),Qy acc l=true->acc.length+l.length < 1000->∃ acc' s2',yb (pg.kk (k+3)) 1000 (.one 2) jF l [v,.own (acc.map D.str),s2]=.ok (.next [v,.own acc',s2'])
 | [],acc,s2,_,_=>⟨_,s2,rfl⟩
 | d::l,acc,s2,h,hl=>by
  unfold Qy at h
  cases e:qd7 d with
  | none=>rw [e] at h;cases h
  | some p=>
   rw [e] at h;simp only [Bool.and_eq_true,Bool.not_eq_true'] at h;obtain ⟨rfl,hn,h1,h9⟩:=qfY e;rw [List.length_cons] at hl;obtain ⟨acc',s2',ih⟩:=QE k v l (acc++[p.1]) (.val (.tup [.str p.1,.int p.2])) h.2 (by simp;omega);refine ⟨acc',s2',?_⟩;rw [List.map_append,List.map_cons,List.map_nil] at ih;have e0:atI [D.str p.1,D.int p.2] 0=some (.str p.1):=by rfl
   have hs:(acc.map D.str).length < sizeLine:=by rw [List.length_map];show acc.length < 2 ^ 24;omega
   show 1;simp? only [YL,e0,qiE k p.1 p.2 hn h1 h9,qea,h.1,hs,ih]
theorem qbh (k:Nat) (b:Bool) (l:List D) (h:qJ l=true):clK pg (k+4) "are_lands" [aL b l]=.ok (.val (.bl true)):=by
 unfold qJ at h;simp only [Bool.and_eq_true,decide_eq_true_eq] at h;have h1:¬ (l.length:Int) < 1:=by have:=h.1.1;omega
 have h2:¬ (6:Int) < (l.length:Int):=by have:=h.1.2;omega
 rw [r_are_lands];obtain ⟨acc',s2',ih⟩:=QE (pg:=pg) k (pS b l) l [] .no h.2 (by have:=h.1.2;simp;omega);rw [List.map_nil] at ih;simp? only [YM,h1,h2,show (0:Nat)<=sizeLine by decide+kernel,ih]
end
section
variable {pg:Pg} [CH pg]
theorem qlB (k:Nat) (n a b:Int) (h:btw n a b=true):clK pg (k+2) "is_between" [.val (.int n),.val (.int a),.val (.int b)]=.ok (.val (.bl true)):=by unfold btw at h;simp only [Bool.and_eq_true,decide_eq_true_eq] at h;exact jq k n a b h.1 h.2
end
theorem QF (cl:Cl) (hc:cl.cs=pcs) (v:Sl):∀ (l:List D) (s1:Sl),l.all qap=true->∃ s1',yb cl 1000 (.one 1) jH l [v,s1]=.ok (.next [v,s1'])
 | [],s1,_=>⟨s1,rfl⟩
 | d::l,s1,h=>by
  rw [List.all_cons,Bool.and_eq_true] at h
  cases d with
  | ins c ns ds=>
   obtain ⟨s1',ih⟩:=QF cl hc v l (.val (.ins c ns ds)) h.2;refine ⟨s1',?_⟩;have hk:rk c=true:=h.1
   have i1:qdK pcs (.val (.ins c ns ds)) "Within" = some (c == "Within"):=by show (if bty.contains "Within" then none else (if (rk c&&_)=true then _ else _))=_;rw [hk];rfl
   have i2:qdK pcs (.val (.ins c ns ds)) "Since" = some (c != "Within"):=by show (if bty.contains "Since" then none else (if (rk c&&false)=true then _ else if (rk c&&true)=true then _ else _))=_;rw [hk];rfl
   show 1
   by_cases hw:(c == "Within")=true
   ·simp? only [yg,hc,i1,hw,ih]
   ·have hw:(c == "Within")=false:=by simpa using hw
    have hn:(c != "Within")=true:=by simp [bne,hw]
    simp? only [yg,hc,i1,i2,hw,hn,ih]
  | _=>cases h.1
section
variable {pg:Pg} [CH pg] [RU pg] [BO pg]
theorem qbi (k:Nat) (b:Bool) (l:List D) (h:(decide (l.length<=8)&&l.all qap)=true):clK pg (k+1) "are_rules" [aL b l]=.ok (.val (.bl true)):=by
 simp only [Bool.and_eq_true,decide_eq_true_eq] at h;have h2:¬ (8:Int) < (l.length:Int):=by have:=h.1;omega
 rw [r_are_rules];obtain ⟨s1',ih⟩:=QF (pg.kk k) RU.cs (pS b l) l .no h.2;simp? only [YN,h2,ih]
end
theorem qeb {n:Int} {d:D} (h:yF n d=true):∃ o a b,d=.tup [.int o,.int a,.int b]/\0<=o/\o<=n - 1/\0<=a/\a<=b/\b<=1000000000:=by
 unfold yF at h
 split at h
 ·rename_i o a b;simp only [btw,Bool.and_eq_true,decide_eq_true_eq] at h;exact ⟨o,a,b,rfl,by omega,by omega,by omega,by omega,by omega⟩
 ·cases h
section
variable {pg:Pg} [CH pg] [BO pg]
theorem qf0 (k:Nat) (n:Int) (d:D) (h:yF n d=true):clK pg (k+4) "is_paper" [.val d,.val (.int n)]=.ok (.val (.bl true)):=by
 obtain ⟨o,a,b,rfl,h1,h2,h3,h4,h5⟩:=qeb h;have e0:atI [D.int o,D.int a,D.int b] 0=some (.int o):=by rfl
 have e1:atI [D.int o,D.int a,D.int b] 1=some (.int a):=by rfl
 have e2:atI [D.int o,D.int a,D.int b] 2=some (.int b):=by rfl
 rw [r_is_paper];simp? only [QD,e0,e1,e2,qx,jq (k+1) o 0 (n - 1) h1 h2,qd8 k a b h3 h4 h5,show ((((0+1+1+1:Nat):Int) == 3)=true) from rfl]
theorem zL (k:Nat) (v:Sl) (n:Int):∀ (l:List D) (i:Nat) (s2 s3:Sl),l.all (yF n)=true->∃ s2' s3',yb (pg.kk (k+4)) 1000 (.many [2,3]) zn (enF i l) [v,.val (.int n),s2,s3]=.ok (.next [v,.val (.int n),s2',s3'])
 | [],i,s2,s3,_=>⟨s2,s3,rfl⟩
 | d::l,i,s2,s3,h=>by rw [List.all_cons,Bool.and_eq_true] at h;obtain ⟨s2',s3',ih⟩:=zL k v n l (i+1) (.val (.int i)) (.val d) h.2;refine ⟨s2',s3',?_⟩;show 1;rw [enF];simp? only [Jh,qf0 k n d h.1,ih]
theorem Qk (k:Nat) (b:Bool) (ps:List D) (n:Int) (h:(decide (ps.length<=12)&&ps.all (yF n))=true):clK pg (k+5) "check_papers" [aL b ps,.val (.int n)]=.ok (.val .non):=by
 simp only [Bool.and_eq_true,decide_eq_true_eq] at h;have h2:¬ (12:Int) < (ps.length:Int):=by have:=h.1;omega
 rw [r_check_papers];obtain ⟨s2',s3',ih⟩:=zL (pg:=pg) k (pS b ps) n ps 0 .no .no h.2;simp? only [yI,Ze,ih,h2]
end
end DG
namespace FA
open PySem L2 DE DG
theorem J6 {i j:Int} (h1:-(2 ^ 64) < j) (h2:j < 2 ^ 64):Q7 i j=true:=by unfold Q7;rw [decide_eq_true h1,decide_eq_true h2];simp
theorem qec {i j:Int} (h1:-(2 ^ 64) < i) (h2:i < 2 ^ 64):Q7 i j=true:=by unfold Q7;rw [decide_eq_true h1,decide_eq_true h2];simp
def zM (ns:List Int) (i:Nat):Int:=ns.getD i 0
theorem qlC (i:Int) (h0:0<=i) (h1:i < 26):atI (Str.cps "abcdefghijklmnopqrstuvwxyz").toList i=some (97+i.toNat)/\yY (97+i.toNat):=by
 have key:∀ j:Fin 26,atI (Str.cps "abcdefghijklmnopqrstuvwxyz").toList (j.val:Int)=some (97+j.val):=by decide+kernel
 obtain ⟨j,rfl⟩:=Int.eq_ofNat_of_zero_le h0;exact ⟨key ⟨j,by omega⟩,by unfold yY;simp;omega⟩
theorem Zj (z:Str) (c:Nat):(z++(⟨#[c]⟩:Str)).cps.size=z.cps.size+1:=by show (z.cps ++ #[c]).size=_;simp
theorem qf1 (z:Str) (c:Nat):(z++(⟨#[c]⟩:Str)).cps.toList=z.cps.toList++[c]:=by show (z.cps ++ #[c]).toList=_;simp
structure NamesOk (zs:List Str):Prop where
 two:2<=zs.length
 four:zs.length<=4
 ok:∀ z∈zs,NameOk z
 once:∀ (i j:Nat) (z:Str),zs[i]?=some z->zs[j]?=some z->i=j
end FA
namespace FA
open PySem L2 DE DG
def lnD (p:Str×Int):D:=.tup [.str p.1,.int p.2]
theorem qbW (p:Str×Int):lnD p=.tup [.str p.1,.int p.2]:=rfl
theorem qf2 {z:Str} (h:NameOk z):qcL z=true:=by
 unfold qcL;simp only [Bool.and_eq_true,decide_eq_true_eq,List.all_eq_true];refine ⟨⟨h.one,h.eight⟩,fun c hc=>?_⟩
 have:=h.lets c hc
 unfold yY at this;omega
structure LnOk (p:Str×Int):Prop where
 nm:NameOk p.1
 one:1<=p.2
 nine:p.2<=9
theorem qf3 {p:Str×Int} (h:LnOk p):qd7 (lnD p)=some p:=by show (if (qcL p.1&&decide (1<=p.2)&&decide (p.2<=9))=true then some (p.1,p.2) else none)=_;rw [if_pos (by rw [qf2 h.nm,decide_eq_true h.one,decide_eq_true h.nine];rfl)]
theorem qau:∀ (l:List (Str×Int)) (acc:List Str),(∀ p∈l,LnOk p)->(acc++l.map (·.1)).Nodup->Qy acc (l.map lnD)=true
 | [],acc,_,_=>rfl
 | p::l,acc,h,nd=>by
  rw [List.map_cons];unfold Qy;rw [qf3 (h p (by simp))];have e:acc++(p::l).map (·.1)=(acc++[p.1])++l.map (·.1):=by simp
  rw [e] at nd
  have n1:p.1∉acc:=by
   have:=(List.nodup_append.mp nd).1
   have:=(List.nodup_append.mp this).2.2
   intro hm;exact this p.1 hm p.1 (by simp) rfl
  simp only [Bool.and_eq_true,Bool.not_eq_true'];exact ⟨by simpa using n1,qau l (acc++[p.1]) (fun q hq=>h q (by simp [hq])) nd⟩
theorem qcO {l:List (Str×Int)} (h:∀ p∈l,LnOk p) (nd:(l.map (·.1)).Nodup) (h1:1<=l.length) (h6:l.length<=6):qJ (l.map lnD)=true:=by unfold qJ;rw [List.length_map,decide_eq_true h1,decide_eq_true h6,qau l [] h (by simpa using nd)];rfl
theorem Zk {zs:List Str} (i:Int) (h0:0<=i) (h1:i < zs.length):∃ z,atI (zs.map D.str) i=some (.str z)/\zs[i.toNat]?=some z:=by
 obtain ⟨j,rfl⟩:=Int.eq_ofNat_of_zero_le h0;have hj:j < zs.length:=by omega
 exact ⟨zs[j],qfX (by rw [List.getElem?_map,List.getElem?_eq_getElem hj];rfl),by simp [hj]⟩
theorem YO (zs:List Str):((zs.map D.str).length:Int)=(zs.length:Int):=by rw [List.length_map]
noncomputable def Lns (zs:List Str) (a:Int) (l:List (Str×Int)):Prop:=∀ (i:Nat) (p:Str×Int),l[i]?=some p->zs[((a+(i:Int)) % (zs.length:Int)).toNat]?=some p.1/\LnOk p
inductive Kd where
 | wi | si | ro
structure Ru where
 kd:Kd
 lands:List (Str×Int)
 most:Int
 days:Int
theorem Lns.nodup {zs:List Str} (hz:NamesOk zs) {a:Int} {l:List (Str×Int)} (h:Lns zs a l) (hl:l.length<=zs.length):(l.map (·.1)).Nodup:=by
 rw [List.nodup_iff_pairwise_ne,List.pairwise_iff_getElem];intro i j hi hj hij e;rw [List.length_map] at hi hj;rw [List.getElem_map,List.getElem_map] at e;have h1:=(h i _ (List.getElem?_eq_getElem hi)).1;have h2:=(h j _ (List.getElem?_eq_getElem hj)).1;rw [e] at h1
 have:=hz.once _ _ _ h1 h2
 have hL:(0:Int) < (zs.length:Int):=by have:=hz.two;omega
 have a0:0<=(a+(i:Int)) % (zs.length:Int):=Int.emod_nonneg _ (1:);have b0:0<=(a+(j:Int)) % (zs.length:Int):=Int.emod_nonneg _ (1:);have e3:(a+(i:Int)) % (zs.length:Int)=(a+(j:Int)) % (zs.length:Int):=by omega
 have e4:=Int.emod_emod_of_dvd (a+j - (a+i)) (Int.dvd_refl (zs.length:Int));have e5:(a+(j:Int) - (a+(i:Int))) % (zs.length:Int)=0:=by rw [Int.sub_emod,e3,Int.sub_self,Int.zero_emod]
 rw [show a+(j:Int) - (a+(i:Int))=((j - i:Nat):Int) by omega] at e5;rw [Int.emod_eq_of_lt (1:) (1:)] at e5;omega
end FA
namespace Dy
abbrev P:=Int×Int
def Day (fs:List P) (d:Int):Prop:=∃ p∈fs,p.1<=d/\d<=p.2
structure Spr (fs:List P):Prop where
 ok:∀ p∈fs,p.1<=p.2
 gap:fs.Pairwise fun p q=>p.2+2<=q.1
def lex (p q:P):Prop:=p.1 < q.1\/(p.1=q.1/\p.2<=q.2)
noncomputable def stp (acc:List P) (p:P):List P:=match acc.getLast? with
 | some l=>if p.1<=l.2+1 then acc.dropLast++[(l.1,if p.2 > l.2 then p.2 else l.2)] else acc++[p]
 | none=>[p]
theorem qbj (p:P):stp [] p=[p]:=rfl
theorem Zl (a:List P) (l p:P):stp (a++[l]) p=if p.1<=l.2+1 then a++[(l.1,if p.2 > l.2 then p.2 else l.2)] else (a++[l])++[p]:=by unfold stp;rw [List.getLast?_append];simp
theorem qbk {α:Type} (l:List α):l=[]\/∃ a x,l=a++[x]:=by
 cases l with
 | nil=>exact .inl rfl
 | cons a r=>exact .inr ⟨(a::r).dropLast,(a::r).getLast (by simp),(List.dropLast_concat_getLast (by simp)).symm⟩
theorem JK {a b:List P} {d:Int}:Day (a++b) d↔Day a d\/Day b d:=by
 unfold Day;constructor
 ·rintro ⟨p,hp,h⟩;rcases List.mem_append.mp hp with q | q
  ·exact .inl ⟨p,q,h⟩
  ·exact .inr ⟨p,q,h⟩
 ·rintro (⟨p,hp,h⟩ | ⟨p,hp,h⟩)
  ·exact ⟨p,List.mem_append_left _ hp,h⟩
  ·exact ⟨p,List.mem_append_right _ hp,h⟩
theorem Zm {p:P} {d:Int}:Day [p] d↔p.1<=d/\d<=p.2:=by
 unfold Day;constructor
 ·rintro ⟨q,hq,h⟩;rw [List.mem_singleton.mp hq] at h;exact h
 ·intro h;exact ⟨p,List.mem_singleton.mpr rfl,h⟩
theorem qf4 {a b:List P} (h:a.Perm b) (d:Int):Day a d↔Day b d:=by
 unfold Day;constructor
 ·rintro ⟨p,hp,q⟩;exact ⟨p,h.mem_iff.mp hp,q⟩
 ·rintro ⟨p,hp,q⟩;exact ⟨p,h.mem_iff.mpr hp,q⟩
structure Run (done acc:List P):Prop where
 spr:Spr acc
 day:∀ d,Day acc d↔Day done d
 low:∀ a l,acc=a++[l]->∃ q∈done,q.1=l.1
 len:acc.length<=done.length
 emp:acc=[]->done=[]
theorem qiF:Run [] []:=⟨⟨(fun _ h=>nomatch h),List.Pairwise.nil⟩,fun _=>Iff.rfl,fun a l e=>by simp at e,Nat.le_refl _,fun _=>rfl⟩
theorem qf5 {done acc:List P} {p:P} (R:Run done acc) (hp:p.1<=p.2) (hs:∀ q∈done,q.1<=p.1):Run (done++[p]) (stp acc p):=by
 rcases qbk acc with rfl | ⟨a,l,rfl⟩
 ·have hd:=R.emp rfl;subst hd;rw [qbj];refine ⟨⟨fun q hq=>by rw [List.mem_singleton.mp hq];exact hp,by simp⟩,fun d=>by simp,fun a l e=>?_,by simp,fun e=>by simp at e⟩;refine ⟨p,by simp,?_⟩
  have:a=[]/\p=l:=by
   cases a with
   | nil=>simpa using e
   | cons x r=>simp at e
  rw [this.2]
 ·rw [Zl];obtain ⟨q0,hq0,e0⟩:=R.low a l rfl;have hl:l.1<=p.1:=by rw [<-e0];exact hs q0 hq0
  have hlo:=R.spr.ok l (by simp);have hg:=List.pairwise_append.mp R.spr.gap
  by_cases hc:p.1<=l.2+1
  ·rw [if_pos hc];refine ⟨⟨fun q hq=>?_,?_⟩,fun d=>?_,fun a' l' e=>?_,?_,fun e=>by simp at e⟩
   ·rcases List.mem_append.mp hq with h | h
    ·exact R.spr.ok q (List.mem_append_left _ h)
    ·rw [List.mem_singleton.mp h];dsimp only
     split<;>omega
   ·refine List.pairwise_append.mpr ⟨hg.1,by simp,fun x hx y hy=>?_⟩;rw [List.mem_singleton.mp hy];exact hg.2.2 x hx l (by simp)
   ·rw [JK,Zm,JK,Zm,<-R.day d,JK,Zm];dsimp only;constructor
    ·rintro (h | h)
     ·exact .inl (.inl h)
     ·by_cases h2:d<=l.2
      ·exact .inl (.inr ⟨h.1,h2⟩)
      ·right
       have:=h.2
       split at this<;>omega
    ·rintro ((h | h) | h)
     ·exact .inl h
     ·right;refine ⟨h.1,?_⟩
      split<;>omega
     ·right;refine ⟨by omega,?_⟩
      split<;>omega
   ·have:l'.1=l.1:=by
     have:=(List.append_inj' e rfl).2
     simp at this;rw [<-this]
    exact ⟨q0,List.mem_append_left _ hq0,by rw [this];exact e0⟩
   ·have:=R.len
    simp at this ⊢;omega
  ·rw [if_neg hc];refine ⟨⟨fun q hq=>?_,?_⟩,fun d=>?_,fun a' l' e=>?_,?_,fun e=>by simp at e⟩
   ·rcases List.mem_append.mp hq with h | h
    ·exact R.spr.ok q h
    ·rw [List.mem_singleton.mp h];exact hp
   ·refine List.pairwise_append.mpr ⟨R.spr.gap,by simp,fun x hx y hy=>?_⟩;rw [List.mem_singleton.mp hy];rcases List.mem_append.mp hx with h | h
    ·have:=hg.2.2 x h l (by simp)
     omega
    ·rw [List.mem_singleton.mp h];omega
   ·rw [JK (a:=a++[l]),JK (a:=done),R.day d]
   ·have:=(List.append_inj' e rfl).2
    simp at this;exact ⟨p,by simp,by rw [this]⟩
   ·have:=R.len
    simp at this ⊢;omega
theorem qiG {qs:List P} (hs:qs.Pairwise lex) (hq:∀ p∈qs,p.1<=p.2):∀ n,n<=qs.length->Run (qs.take n) ((qs.take n).foldl stp []):=by
 intro n
 induction n with
 | zero=>intro _;simpa using qiF
 | succ n ih=>
  intro hn;have e:qs.take (n+1)=qs.take n++[qs[n]]:=by rw [List.take_succ_eq_append_getElem (1:)]
  rw [e,List.foldl_append];refine qf5 (ih (1:)) (hq _ (List.getElem_mem _)) fun q hq'=>?_;obtain ⟨i,hi,rfl⟩:=List.mem_take_iff_getElem.mp hq'
  have:=List.pairwise_iff_getElem.mp hs i n (1:) (1:) (1:)
  rcases this with h | h
  ·omega
  ·omega
theorem Spr.ends {fs:List P} (S:Spr fs) {p:P} (hp:p∈fs):¬ Day fs (p.2+1)/\¬ Day fs (p.1 - 1):=by
 have key:∀ q∈fs,q=p\/q.2+2<=p.1\/p.2+2<=q.1:=by
  intro q hq;obtain ⟨i,hi,rfl⟩:=List.mem_iff_getElem.mp hq;obtain ⟨j,hj,rfl⟩:=List.mem_iff_getElem.mp hp;have g:=List.pairwise_iff_getElem.mp S.gap;rcases Nat.lt_trichotomy i j with h | h | h
  ·exact .inr (.inl (g i j hi hj h))
  ·subst h;exact .inl rfl
  ·exact .inr (.inr (g j i hj hi h))
 have hpp:=S.ok p hp;constructor
 ·rintro ⟨q,hq,h1,h2⟩;rcases key q hq with rfl | h | h<;>omega
 ·rintro ⟨q,hq,h1,h2⟩;rcases key q hq with rfl | h | h<;>omega
theorem Spr.same {fs gs:List P} (S:Spr fs) (T:Spr gs) (h:∀ d,Day fs d↔Day gs d):fs=gs:=by
 have sub:∀ {fs gs:List P},Spr fs->Spr gs->(∀ d,Day fs d↔Day gs d)->∀ p∈fs,p∈gs:=by
  intro fs gs S T h p hp;have hpp:=S.ok p hp;obtain ⟨q,hq,h1,h2⟩:=(h p.1).mp ⟨p,hp,Int.le_refl _,hpp⟩;obtain ⟨e1,e2⟩:=T.ends hq;obtain ⟨f1,f2⟩:=S.ends hp
  have a1:q.1=p.1:=by
   by_cases hlt:q.1=p.1
   ·exact hlt
   ·exact absurd ((h (p.1 - 1)).mpr ⟨q,hq,by omega,by omega⟩) f2
  have a2:q.2=p.2:=by
   rcases Int.lt_trichotomy q.2 p.2 with hlt | hlt | hlt
   ·exact absurd ((h (q.2+1)).mp ⟨p,hp,by omega,by omega⟩) e1
   ·exact hlt
   ·exact absurd ((h (p.2+1)).mpr ⟨q,hq,by omega,by omega⟩) f1
  have:q=p:=Prod.ext a1 a2
  rw [<-this];exact hq
 have strict:∀ {fs:List P},Spr fs->fs.Pairwise (fun p q=>p.1 < q.1):=fun {fs} S=>by
  refine List.Pairwise.imp_of_mem (fun {p q} hp hq hg=>?_) S.gap
  have:=S.ok p hp
  omega
 have uniq:∀ (fs gs:List P),fs.Pairwise (fun p q=>p.1 < q.1)->gs.Pairwise (fun p q=>p.1 < q.1)->(∀ p,p∈fs↔p∈gs)->fs=gs:=by
  intro fs
  induction fs with
  | nil=>
   intro gs _ _ h
   cases gs with
   | nil=>rfl
   | cons g gs=>exact absurd ((h g).mpr (by simp)) (by simp)
  | cons p fs ih=>
   intro gs h1 h2 h
   cases gs with
   | nil=>exact absurd ((h p).mp (by simp)) (by simp)
   | cons q gs=>
    have p1:=List.pairwise_cons.mp h1;have p2:=List.pairwise_cons.mp h2
    have e:p=q:=by
     rcases List.mem_cons.mp ((h p).mp (by simp)) with e | e
     ·exact e
     ·rcases List.mem_cons.mp ((h q).mpr (by simp)) with e' | e'
      ·exact e'.symm
      ·have:=p1.1 q e'
       have:=p2.1 p e
       omega
    subst e;have hne:∀ x,x∈fs->x≠p:=fun x hx e=>by subst e;have:=p1.1 x hx;omega
    have hne':∀ x,x∈gs->x≠p:=fun x hx e=>by subst e;have:=p2.1 x hx;omega
    rw [ih gs p1.2 p2.2 fun x=>⟨fun hx=>by
     rcases List.mem_cons.mp ((h x).mp (List.mem_cons_of_mem _ hx)) with e | e
     ·exact absurd e (hne x hx)
     ·exact e,fun hx=>by
     rcases List.mem_cons.mp ((h x).mpr (List.mem_cons_of_mem _ hx)) with e | e
     ·exact absurd e (hne' x hx)
     ·exact e⟩]
 exact uniq fs gs (strict S) (strict T) fun p=>⟨sub S T h p,sub T S (fun d=>(h d).symm) p⟩
end Dy
namespace Dy
def qlD (A:List P) (d:Int):Bool:=A.any fun p=>decide (p.1<=d)&&decide (d<=p.2)
theorem jI {A:List P} {d:Int}:qlD A d=true↔Day A d:=by unfold qlD Day;simp [List.any_eq_true]
end Dy
namespace DG
open PySem L2 DE FA Dy
open CH ST SP RU BO
theorem qbl:∀ ps:List (Int×Int),qgG (ps.map pD)=some ps
 | []=>rfl
 | p::ps=>by rw [List.map_cons,qgG,qbl ps];rfl
theorem jd (p:Int×Int):pD p=.tup [.int p.1,.int p.2]:=rfl
def spr (ps:List (Int×Int)):List (Int×Int):=(yU ps).foldl stp []
theorem qiH (acc:List (Int×Int)) (p:Int×Int):(stp acc p).length<=acc.length+1:=by
 rcases qbk acc with rfl | ⟨a,l,rfl⟩
 ·simp [qbj]
 ·rw [Zl]
  split<;>simp
theorem qE {n:Nat} (h:n < 100000):n < sizeLine:=Nat.lt_trans h (by decide+kernel)
theorem qF {n:Nat} (h:n < 100000):n<=sizeLine:=Nat.le_of_lt (qE h)
theorem YQ (cl:Cl) (v:Sl):∀ (ps acc:List (Int×Int)) (s2 s3:Sl),acc.length+ps.length < 10000->∃ s2' s3',yb cl 1000 (.many [2,3]) JJ (ps.map pD) [v,.own (acc.map pD),s2,s3]=.ok (.next [v,.own ((ps.foldl stp acc).map pD),s2',s3'])
 | [],acc,s2,s3,_=>⟨s2,s3,rfl⟩
 | p::ps,acc,s2,s3,hl=>by
  rw [List.length_cons] at hl
  have:=qiH acc p
  obtain ⟨s2',s3',ih⟩:=YQ cl v ps (stp acc p) (.val (.int p.1)) (.val (.int p.2)) (1:);refine ⟨s2',s3',?_⟩;have hs:acc.length < sizeLine:=qE (1:);have two:0+1+1<=sizeLine:=by decide+kernel
  rw [List.foldl_cons];rcases qbk acc with rfl | ⟨a,l,rfl⟩
  ·rw [qbj] at ih ⊢;simp only [List.map_cons,List.map_nil,jd] at ih;show 1;simp? only [yf,jd,List.isEmpty_nil,two,show (0:Nat) < sizeLine by decide+kernel,ih]
  ·rw [Zl] at ih ⊢
   by_cases hc:p.1<=l.2+1
   ·rw [if_pos hc] at ih ⊢;simp only [List.map_append,List.map_cons,List.map_nil,jd] at ih;show 1;simp? only [yf,jd,List.map_append,hc,two,ih]
   ·rw [if_neg hc] at ih ⊢;simp only [List.map_append,List.map_cons,List.map_nil,jd] at ih;have hs':(a.map pD++[D.tup [.int l.1,.int l.2]]).length < sizeLine:=by simpa using hs
    show 1;simp? only [yf,jd,List.map_append,hc,two,hs',ih]
theorem qed {pg:Pg} [SP pg] (k:Nat) (b:Bool) (ps:List (Int×Int)) (hl:ps.length < 64):clK pg (k+1) "spread" [aL b (ps.map pD)]=.ok (.tmp ((spr ps).map pD)):=by
 have hl':(yU ps).length < 10000:=by unfold yU;rw [List.length_mergeSort];omega
 rw [r_spread];obtain ⟨s2,s3,e⟩:=YQ (pg.kk k) (pS b (ps.map pD)) (yU ps) [] .no .no (by simpa using hl');rw [List.map_nil] at e;simp? only [qbV,JG,qbl,hl,show (0:Nat)<=sizeLine by decide+kernel,e,spr]
theorem Zn (p q:Int×Int):ZF p q=true↔lex p q:=by unfold ZF lex;simp
theorem Zo (ps:List (Int×Int)) (h:∀ p∈ps,p.1<=p.2):Run (yU ps) (spr ps):=by
 have hs:(yU ps).Pairwise lex:=by
  have:=List.pairwise_mergeSort (le:=ZF) (fun a b c h1 h2=>by rw [Zn] at h1 h2 ⊢;unfold lex at *;omega) (fun a b=>by simp only [Bool.or_eq_true,Zn];unfold lex;omega) ps
  exact this.imp fun {a b} h=>(Zn a b).mp h
 have hq:∀ p∈yU ps,p.1<=p.2:=fun p hp=>h p ((List.mergeSort_perm ps ZF).mem_iff.mp hp)
 have:=qiG hs hq (yU ps).length (Nat.le_refl _)
 rwa [List.take_length] at this
theorem qiI {ps:List (Int×Int)} (h:∀ p∈ps,p.1<=p.2) (d:Int):qlD (spr ps) d=qlD ps d:=by rw [Bool.eq_iff_iff,jI,jI,(Zo ps h).day d];exact qf4 (List.mergeSort_perm ps ZF) d
theorem qee {ps:List (Int×Int)} (h:∀ p∈ps,p.1<=p.2):Spr (spr ps):=(Zo ps h).spr
theorem qef {ps:List (Int×Int)} (h:∀ p∈ps,p.1<=p.2):(spr ps).length<=ps.length:=by
 have:=(Zo ps h).len
 unfold yU at this
 rwa [List.length_mergeSort] at this
end DG
namespace DG
open PySem L2 DE FA Dy
open CH ST SP RU BO
def _root_.FA.Kd.cls:Kd->Str
 | .wi=>"Within"
 | .si=>"Since"
 | .ro=>"InRow"
def _root_.FA.Kd.fld:Kd->Str
 | .wi=>"span"
 | .si=>"leave"
 | .ro=>"leave"
def _root_.FA.Kd.isW:Kd->Bool
 | .wi=>true
 | .si=>false
 | .ro=>false
noncomputable def ruI (r:Ru):D:=.ins r.kd.cls ["lands","most",r.kd.fld] [.tup (r.lands.map lnD),.int r.most,.int r.days]
theorem qbX (r:Ru):qc4 pcs (.val (ruI r)) "lands" = some (.tup (r.lands.map lnD)):=by obtain ⟨kd,l,m,d⟩:=r;cases kd<;>rfl
theorem qeg (r:Ru):qc4 pcs (.val (ruI r)) "most" = some (.int r.most):=by obtain ⟨kd,l,m,d⟩:=r;cases kd<;>rfl
theorem qeh (r:Ru) (h:r.kd.isW=true):qc4 pcs (.val (ruI r)) "span" = some (.int r.days):=by
 obtain ⟨kd,l,m,d⟩:=r
 cases kd<;>first | rfl | cases h
theorem qf6 (r:Ru) (h:r.kd.isW=false):qc4 pcs (.val (ruI r)) "leave" = some (.int r.days):=by
 obtain ⟨kd,l,m,d⟩:=r
 cases kd<;>first | rfl | cases h
theorem qav (r:Ru):mtD pcs (.val (ruI r)) "weight" = some ("Rule.weight" : Str):=by obtain ⟨kd,l,m,d⟩:=r;cases kd<;>rfl
theorem qaw (r:Ru):qdK pcs (.val (ruI r)) "Within" = some r.kd.isW:=by obtain ⟨kd,l,m,d⟩:=r;cases kd<;>rfl
abbrev St:=Str×Int×Int
abbrev Pa:=Int×Int×Int
def paD (p:Pa):D:=.tup [.int p.1,.int p.2.1,.int p.2.2]
theorem qM (p:Pa):paD p=.tup [.int p.1,.int p.2.1,.int p.2.2]:=rfl
noncomputable def bkI (rs:List Ru) (ps:List Pa):D:=.ins "Book" ["kept_rules","kept_papers"] [.lst (rs.map ruI),.lst (ps.map paD)]
theorem qf7 (rs:List Ru) (ps:List Pa):qc4 pcs (.val (bkI rs ps)) "kept_rules" = some (.lst (rs.map ruI)):=rfl
theorem qei (rs:List Ru) (ps:List Pa):qc4 pcs (.val (bkI rs ps)) "kept_papers" = some (.lst (ps.map paD)):=rfl
theorem qbY (rs:List Ru) (ps:List Pa):mtD pcs (.val (bkI rs ps)) "rules" = some ("Book.rules" : Str):=rfl
theorem qej (rs:List Ru) (ps:List Pa):mtD pcs (.val (bkI rs ps)) "lifted" = some ("Book.lifted" : Str):=rfl
noncomputable def YR:List St->Int->Option Str
 | [],_=>none
 | s::l,d=>if s.2.1<=d/\d<=s.2.2 then some s.1 else YR l d
def qiJ:Option Str->D
 | some z=>.str z
 | none=>.non
def wt:List (Str×Int)->Option Str->Int
 | [],_=>0
 | p::l,o=>if o=some p.1 then p.2 else wt l o
theorem Ys {z:Str} (h:NameOk z):PyData.strOk z=true:=by
 unfold PyData.strOk;rw [<-Array.all_toList,List.all_eq_true];intro c hc
 have:=h.lets c hc
 unfold yY at this;rw [decide_eq_true_eq];omega
theorem qiK {p:Str} (hp:NameOk p) {o:Option Str} (ho:∀ z,o=some z->NameOk z):eqD (.str p) (qiJ o)=some (decide (o=some p)):=by
 cases o with
 | none=>show eqD (.str p) .non=_;rw [qlx (Ys hp)];simp
 | some z=>
  show eqD (.str p) (.str z)=_;rw [qiv (Ys hp) (Ys (ho z rfl))]
  congr 1
  rw [Bool.eq_iff_iff,beq_iff_eq,decide_eq_true_eq];constructor
  ·rintro rfl;rfl
  ·intro e;cases e;rfl
theorem YS (cl:Cl) (v:Sl) (o:Option Str) (ho:∀ z,o=some z->NameOk z):∀ (l:List (Str×Int)) (s2 s3:Sl),(∀ p∈l,LnOk p)->∃ F,yb cl 1000 (.many [2,3]) zJ (l.map lnD) [v,.val (qiJ o),s2,s3]=.ok F/\(F=.ret (.val (.int (wt l o)))\/(wt l o=0/\∃ ρ',F=.next ρ'))
 | [],s2,s3,_=>⟨_,rfl,.inr ⟨rfl,_,rfl⟩⟩
 | p::l,s2,s3,h=>by
  obtain ⟨F,i,a⟩:=YS cl v o ho l (.val (.str p.1)) (.val (.int p.2)) fun q hq=>h q (by simp [hq]);have e:=qiK (h p (by simp)).nm ho;unfold wt
  by_cases hc:o=some p.1
  ·rw [if_pos hc];rw [decide_eq_true hc] at e;refine ⟨_,?_,.inl rfl⟩;show 1;rw [List.map_cons];simp? only [jn,qbW,e]
  ·rw [if_neg hc];rw [decide_eq_false hc] at e;refine ⟨F,?_,a⟩;show 1;rw [List.map_cons];simp? only [jn,qbW,e,i]
theorem qek {pg:Pg} [RU pg] (k:Nat) (r:Ru) (h:∀ p∈r.lands,LnOk p) (o:Option Str) (ho:∀ z,o=some z->NameOk z):clK pg (k+1) "Rule.weight" [.val (ruI r),.val (qiJ o)]=.ok (.val (.int (wt r.lands o))):=by
 rw [r_Rule_weight];obtain ⟨F,i,a⟩:=YS (pg.kk k) (.val (ruI r)) o ho r.lands .no .no h;rcases a with rfl | ⟨i0,ρ',rfl⟩
 ·simp? only [jG,RU.cs,qbX,i]
 ·simp? only [jG,RU.cs,qbX,i,i0]
theorem qbZ {pg:Pg} [RU pg] [BO pg] (k:Nat) (rs:List Ru) (ps:List Pa):clK pg (k+1) "Book.rules" [.val (bkI rs ps)]=.ok (.tmp (rs.map ruI)):=by rw [r_Book_rules];simp? only [J4,RU.cs,qf7]
def ofN (n:Int) (ps:List Pa):List (Int×Int):=(ps.filter fun p=>p.1 == n).map fun p=>(p.2.1,p.2.2)
def Yi (n:Int) (ps:List Pa):List (Int×Int):=spr (ofN n ps)
theorem yZ (cl:Cl) (n:Int):∀ (ps:List Pa) (acc:List (Int×Int)) (s0 s1 s2:Sl),acc.length+ps.length < 10000->zk cl zK (.many [0,1,2]) (.test (.cmp .Eq (.var 0) (.var 3))) (ps.map paD) [s0,s1,s2,.val (.int n)] (acc.map pD)=.ok ((acc++ofN n ps).map pD)
 | [],acc,s0,s1,s2,_=>by simp [ofN,qL]
 | p::ps,acc,s0,s1,s2,hl=>by
  rw [List.length_cons] at hl;have two:0+1+1<=sizeLine:=by decide+kernel
  have hs:(acc.map pD).length < sizeLine:=by rw [List.length_map];exact qE (1:)
  cases hc:(p.1 == n) with
  | true=>
   have ih:=yZ cl n ps (acc++[(p.2.1,p.2.2)]) (.val (.int p.1)) (.val (.int p.2.1)) (.val (.int p.2.2)) (by simp;omega);have e:ofN n (p::ps)=(p.2.1,p.2.2)::ofN n ps:=by simp [ofN,hc]
   rw [e];simp only [List.map_append,List.map_cons,List.map_nil,jd,List.append_assoc,List.cons_append,List.nil_append] at ih ⊢;show 1;simp? only [jp,qM,qx,hc,two,hs,ih]
  | false=>
   have ih:=yZ cl n ps acc (.val (.int p.1)) (.val (.int p.2.1)) (.val (.int p.2.2)) (1:);have e:ofN n (p::ps)=ofN n ps:=by simp [ofN,hc]
   rw [e];show 1;rw [List.map_cons];simp? only [jp,qM,qx,hc,two,hs,ih]
theorem qbm (n:Int) (ps:List Pa):(ofN n ps).length<=ps.length:=by unfold ofN;rw [List.length_map];exact List.length_filter_le ..
theorem qel {pg:Pg} [RU pg] [BO pg] [SP pg] (k:Nat) (rs:List Ru) (ps:List Pa) (n:Int) (hl:ps.length < 64):clK pg (k+2) "Book.lifted" [.val (bkI rs ps),.val (.int n)]=.ok (.tmp ((Yi n ps).map pD)):=by
 have i:=yZ (pg.kk (k+1)) n ps [] .no .no .no (by simp;omega);have s:=qed (pg:=pg) k false (ofN n ps) (Nat.lt_of_le_of_lt (qbm n ps) hl);have hs:(ps.map paD).length<=sizeLine:=by rw [List.length_map];exact qF (1:)
 simp only [qcJ,qcK] at s;rw [List.map_nil,List.nil_append] at i;rw [r_Book_lifted];simp? only [Ji,RU.cs,qei,qal,List.getD_cons_succ,List.getD_cons_zero,hs,i,s,Yi]
noncomputable def wgt (r:Ru) (lf:List (Int×Int)) (st:List St) (d:Int):Int:=if qlD lf d=true then 0 else wt r.lands (YR st d)
end DG
namespace DG
open PySem L2 DE FA Dy
open CH ST SP RU BO
def ws (f:Int->Int) (lo:Int):Nat->List Int
 | 0=>[]
 | n+1=>f lo::ws f (lo+1) n
theorem qb0:∀ l:List Int,qa7 (l.map D.int)=some l
 | []=>rfl
 | n::l=>by rw [List.map_cons,qa7,qb0 l];rfl
theorem qem:∀ (n:Nat) (lo:Int),(rgF lo n).length=n
 | 0,_=>rfl
 | n+1,lo=>by rw [rgF,List.length_cons,qem n]
theorem YT {i:Int} (h1:-1000000000000<=i) (h2:i<=1000000000000):qO i=true:=by unfold qO;simp;omega
section
variable {pg:Pg} [RU pg]
noncomputable def qen (f:Int->Int) (leave:Int):Nat->Int->Int->Int->Int->Int×Int
 | 0,fi,to,_,_=>(fi,to)
 | n+1,fi,to,em,ba=>if em < leave then (if f ba=0 then qen f leave n fi to (em+1) (ba - 1) else qen f leave n ba (to+f ba) 0 (ba - 1)) else (fi,to)
end
noncomputable def win (r:Ru) (f:Int->Int) (d:Int):Int×Int:=if r.kd.isW=true then (d - r.days+1,(ws f (d - r.days+1) r.days.toNat).sum) else qen f r.days 1000 (d+1) 0 0 d
theorem qiL {rs:List Ru} {n:Nat} {r:Ru} (h:rs[n]?=some r):atI (rs.map ruI) (n:Int)=some (ruI r):=qfX (by rw [List.getElem?_map,h];rfl)
abbrev Rl:=Ru×List (Int×Int)
noncomputable def qg1 (st:List St) (d:Int):Nat->List Rl->Option (Int×Int×Int)
 | _,[]=>none
 | i,x::l=>if x.1.most < (win x.1 (wgt x.1 x.2 st) d).2 then some (d,(i:Int),(win x.1 (wgt x.1 x.2 st) d).1) else qg1 st d (i+1) l
noncomputable def flt (st:List St) (rs:List Rl) (lo:Int):Nat->Option (Int×Int×Int)
 | 0=>none
 | n+1=>match qg1 st lo 0 rs with
  | some x=>some x
  | none=>flt st rs (lo+1) n
def f3D (x:Int×Int×Int):D:=.tup [.int x.1,.int x.2.1,.int x.2.2]
def Qf:Option (Int×Int×Int)->D
 | none=>.non
 | some x=>f3D x
end DG
namespace DG
open PySem L2 DE FA Dy
open CH ST SP RU BO
def rlF (ps:List Pa):Nat->List Ru->List Rl
 | _,[]=>[]
 | i,r::l=>(r,Yi i ps)::rlF ps (i+1) l
theorem qg2 (ps:List Pa):∀ (i:Nat) (rs:List Ru),(rlF ps i rs).map (fun x=>ruI x.1)=rs.map ruI
 | _,[]=>rfl
 | i,r::l=>by rw [rlF,List.map_cons,List.map_cons,qg2 ps (i+1) l]
theorem JL (ps:List Pa):∀ (i:Nat) (rs:List Ru) (j:Nat),(rlF ps i rs)[j]?=(rs[j]?).map fun r=>(r,Yi ((i+j:Nat):Int) ps)
 | _,[],j=>by simp [rlF]
 | i,r::l,0=>by simp [rlF]
 | i,r::l,j+1=>by rw [rlF,List.getElem?_cons_succ,JL ps (i+1) l j,List.getElem?_cons_succ,show i+1+j=i+(j+1) by omega]
theorem qiM {ps:List Pa} {i:Nat} {rs:List Ru} {x:Rl} (h:x∈rlF ps i rs):∃ j:Nat,rs[j]?=some x.1/\x.2=Yi ((i+j:Nat):Int) ps:=by obtain ⟨j,hj⟩:=List.getElem?_of_mem h;rw [JL] at hj;obtain ⟨r,e1,e2⟩:=Option.map_eq_some_iff.mp hj;exact ⟨j,by rw [e1,<-e2],by rw [<-e2]⟩
end DG
namespace FA
open PySem DE DG Dy
open L2 hiding St
open RU
theorem Zp {k:Nat}:¬ (k+12 < 12):=by omega
end FA
namespace DG
open PySem DE FA Dy
open L2 hiding St
theorem qeo:∀ l:List (Str×Int),wt l none=0
 | []=>rfl
 | p::l=>by unfold wt;rw [if_neg (by simp)];exact qeo l
theorem qne {l:List (Str×Int)} (h:∀ p∈l,LnOk p) (o:Option Str):0<=wt l o:=by
 induction l with
 | nil=>exact Int.le_refl _
 | cons p l ih=>
  unfold wt;split
  ·have:=(h p (by simp)).one;omega
  ·exact ih fun q hq=>h q (by simp [hq])
theorem qiN {r:Ru} {lf:List (Int×Int)} {st:List St} {d:Int} (h:YR st d=none):wgt r lf st d=0:=by unfold wgt;rw [h,qeo];simp
theorem Zq {f:Int->Int}:∀ (n:Nat) (lo:Int),(ws f lo (n+1)).sum=(ws f lo n).sum+f (lo+n)
 | 0,lo=>by simp [ws]
 | n+1,lo=>by rw [ws,List.sum_cons,Zq n (lo+1),ws,List.sum_cons,show lo+1+(n:Int)=lo+((n+1:Nat):Int) by omega];omega
theorem qlE {f:Int->Int} (hf:∀ x,0<=f x):∀ (n:Nat) (lo:Int),0<=(ws f lo n).sum
 | 0,_=>by simp [ws]
 | n+1,lo=>by
  rw [ws,List.sum_cons]
  have:=hf lo
  have:=qlE hf n (lo+1)
  omega
theorem Zr {f:Int->Int}:∀ (n:Nat) (lo:Int),(∀ x,lo<=x->x < lo+n->f x=0)->(ws f lo n).sum=0
 | 0,_,_=>by simp [ws]
 | n+1,lo,h=>by rw [ws,List.sum_cons,h lo (1:) (1:),Zr n (lo+1) fun x h1 h2=>h x (1:) (1:)];rfl
theorem Ch.lo:∀ {l:List St} {e:Int},Ch e l->∀ t∈l,e < t.2.1/\t.2.1<=t.2.2
 | [],_,_,t,ht=>by cases ht
 | u::r,e,h,t,ht=>by
  rcases List.mem_cons.mp ht with rfl | ht
  ·exact ⟨h.1.lo,h.1.ab⟩
  ·have:=Ch.lo h.2 t ht
   have:=h.1.lo
   have:=h.1.ab
   exact ⟨by omega,by omega⟩
end DG
namespace FA
open PySem DE DG Dy
open L2 hiding St
open RU
theorem qep (ns:List Int) (a b:Nat):∃ ms:List Int,qa6 (ns.map D.int) (some (a:Int)) (some (b:Int))=ms.map D.int/\ms.length<=b - a:=by
 refine ⟨(ns.drop (min a ns.length)).take (min b ns.length - min a ns.length),?_,?_⟩
 ·unfold qa6;rw [HT.Yz,HT.Yz,List.length_map,List.map_take,List.map_drop]
 ·refine Nat.le_trans (List.length_take_le ..) ?_;rcases Nat.le_total a ns.length with h | h
  ·rw [Nat.min_eq_left h];exact Nat.sub_le_sub_right (Nat.min_le_left ..) a
  ·rw [Nat.min_eq_right h,Nat.sub_eq_zero_of_le (Nat.min_le_right ..)];exact Nat.zero_le _
end FA
namespace DG
open PySem DE FA Dy
open L2 hiding St
theorem qf8 (r:Ru):qap (ruI r)=true:=by obtain ⟨kd,l,m,d⟩:=r;cases kd<;>rfl
theorem qeq {pg:Pg} [RU pg] (k:Nat) (b c:Bool) (rs:List Ru) (ps:List Pa) (hr:rs.length<=8) (hp:ps.length<=12) (h:∀ p∈ps,0<=p.1/\p.1 < rs.length/\0<=p.2.1/\p.2.1<=p.2.2/\p.2.2<=1000000000) :
  pg.nw (k+12) "Book" [aL b (rs.map ruI),aL c (ps.map paD)]=.ok (.val (bkI rs ps)):=by
 have e:∀ (b:Bool) (l:List D),arL (aL b l)=some l:=fun b l=>by cases b<;>rfl
 have h1:((decide ((rs.map ruI).length<=8)&&(rs.map ruI).all qap)&&(decide ((ps.map paD).length<=12)&&(ps.map paD).all (yF (rs.map ruI).length)))=true:=by simp only [List.length_map,Bool.and_eq_true,decide_eq_true_eq,List.all_eq_true,List.mem_map];refine ⟨⟨hr,fun x ⟨r,_,hx⟩=>by rw [<-hx];exact qf8 r⟩,hp,fun x ⟨p,hm,hx⟩=>?_⟩;obtain ⟨q1,q2,q3,q4,q5⟩:=h p hm;rw [<-hx];show (btw p.1 0 ((rs.length:Int) - 1)&&btw p.2.1 0 1000000000&&btw p.2.2 0 1000000000&&decide (p.2.1<=p.2.2))=true;unfold btw;simp only [Bool.and_eq_true,decide_eq_true_eq];omega
 rw [RU.nw]
 show (if k+12 < 12 then R.no else qcN "Book" (match arL (aL b (rs.map ruI)),arL (aL c (ps.map paD)) with
  | some l,some ps=>if ((decide (l.length<=8)&&l.all qap)&&(decide (ps.length<=12)&&ps.all (yF l.length)))=true then some [("kept_rules",D.lst l),("kept_papers",D.lst ps)] else none
  | _,_=>none))=_
 rw [if_neg (1:),e,e];dsimp only;rw [if_pos h1];rfl
theorem Ch.weak {l:List St} {e e':Int} (h:e'<=e) (hc:Ch e l):Ch e' l:=by
 cases l with
 | nil=>trivial
 | cons s l=>exact ⟨⟨hc.1.nm,by have:=hc.1.lo;omega,hc.1.ab,hc.1.hi⟩,hc.2⟩
end DG
namespace DG
open PySem L2 DE
noncomputable abbrev qax:T:=(.and (.cmp .Lt (.var 3) (.b1 .len (.var 0))) (.one (.cmp .Lt (.var 4) (.b1 .len (.var 1)))))
def Zs:T:=qax
theorem yB:UT Zs qax:=fun _ _ _=>(rfl)
noncomputable abbrev qay:Ss:=%[.set 5 (.b2 .max (.idx (.idx (.var 0) (.var 3)) (.con (.int 0))) (.idx (.idx (.var 1) (.var 4)) (.con (.int 0)))),.set 6 (.b2 .min (.idx (.idx (.var 0) (.var 3)) (.con (.int 1))) (.idx (.idx (.var 1) (.var 4)) (.con (.int 1)))),.ite (.cmp .LtE (.var 5) (.var 6)) %[.app 2 (.tup %[5,6|0])|0] .nil,.ite (.cmp .Lt (.idx (.idx (.var 0) (.var 3)) (.con (.int 1))) (.idx (.idx (.var 1) (.var 4)) (.con (.int 1)))) %[.set 3 (.bin .Add (.var 3) (.con (.int 1)))|0] %[.set 4 (.bin .Add (.var 4) (.con (.int 1)))|0]|0]
def Zt:Ss:=qay
theorem QG:USs Zt qay:=fun _ _ _ _=>(rfl)
noncomputable def qg3:Nat×Nat×Ss:=(2,7,%[.set 2 (.lst .nil),.set 3 (.con (.int 0)),.set 4 (.con (.int 0)),.whl Zs Zt,.ret (.var 2)|0])
noncomputable abbrev J7:Ss:=%[.ite (.cmp .Lt (.var 4) (.idx (.var 5) (.con (.int 0)))) %[.app 3 (.tup %[4,.bin .Sub (.idx (.var 5) (.con (.int 0))) (.con (.int 1))|0])|0] .nil,.set 4 (.b2 .max (.var 4) (.bin .Add (.idx (.var 5) (.con (.int 1))) (.con (.int 1))))|0]
def y6:Ss:=J7
theorem Jj:USs y6 J7:=fun _ _ _ _=>(rfl)
noncomputable def YU:Nat×Nat×Ss:=(3,6,%[.set 3 (.lst .nil),.set 4 (.var 1),.for_ (.one 5) (.seq (.var 0)) y6,.ite (.cmp .LtE (.var 4) (.var 2)) %[.app 3 (.tup %[4,2|0])|0] .nil,.ret (.var 3)|0])
noncomputable def qg4:Nat×Nat×Ss:=(2,2,%[.ite (.not (.val (.var 0))) %[.ret (.lst .nil)|0] .nil,.ret (.call "both" %[0,.call "outside" %[1,.idx (.idx (.var 0) (.con (.int 0))) (.con (.int 0)),.idx (.idx (.var 0) (.neg (.con (.int 1)))) (.con (.int 1))|0]|0])|0])
class BT (pg:Pg):Prop where
 r_both:RW pg "both" qg3
 r_outside:RW pg "outside" YU
 r_less:RW pg "less" qg4
abbrev js:E:=(.tup %[0,1,2|0])
def zo:E:=js
theorem Jk:UE zo js:=fun _ _ _=>(rfl)
noncomputable abbrev jt:Ss:=%[.set 9 (.met (.var 3) "weight" %[6|0]),.ite (.cmp .Gt (.var 9) (.con (.int 0))) %[.ext 5 (.comp zo (.seq (.call "less" %[.lst %[.tup %[7,8|0]|0],4|0])) (.many [0,1]) .yes 2 [9])|0] .nil|0]
def zq:Ss:=jt
theorem zZ:USs zq jt:=fun _ _ _ _=>(rfl)
noncomputable def yJ:Nat×Nat×Ss:=(3,10,%[.set 3 (.idx (.met (.var 0) "rules" .nil) (.var 1)),.set 4 (.met (.var 0) "lifted" %[1|0]),.set 5 (.lst .nil),.for_ (.many [6,7,8]) (.seq (.var 2)) zq,.ret (.var 5)|0])
class PC (pg:Pg):Prop where
 r_pieces_among:RW pg "pieces_among" yJ
noncomputable abbrev YV:Ss:=%[.set 7 (.bin .Add (.bin .Sub (.b2 .min (.var 5) (.var 2)) (.b2 .max (.var 4) (.var 1))) (.con (.int 1))),.ite (.cmp .Gt (.var 7) (.con (.int 0))) %[.set 3 (.bin .Add (.var 3) (.bin .Mult (.var 7) (.var 6)))|0] .nil|0]
def JM:Ss:=YV
theorem J8:USs JM YV:=fun _ _ _ _=>(rfl)
noncomputable def qb1:Nat×Nat×Ss:=(3,8,%[.set 3 (.con (.int 0)),.for_ (.many [4,5,6]) (.seq (.var 0)) JM,.ret (.var 3)|0])
noncomputable abbrev jR:Ss:=%[.ite (.cmp .LtE (.var 4) (.var 2)) %[.ite (.cmp .GtE (.bin .Sub (.bin .Sub (.var 3) (.con (.int 1))) (.b2 .min (.var 5) (.var 2))) (.var 1)) %[.ret (.var 3)|0] .nil,.set 3 (.var 4)|0] .nil|0]
def zN:Ss:=jR
theorem ze:USs zN jR:=fun _ _ _ _=>(rfl)
noncomputable def Jl:Nat×Nat×Ss:=(3,7,%[.set 3 (.bin .Add (.var 2) (.con (.int 1))),.for_ (.many [4,5,6]) (.rev (.var 0)) zN,.ret (.var 3)|0])
noncomputable def zf:Nat×Nat×Ss:=(3,3,%[.ite (.val (.isc "Within" (.var 0))) %[.ret (.bin .Add (.bin .Sub (.var 2) (.fld (.var 0) "span")) (.con (.int 1)))|0] .nil,.ret (.call "first_since" %[1,.fld (.var 0) "leave",2|0])|0])
noncomputable def Jm:Nat×Nat×Ss:=(3,3,%[.ret (.call "sum_of" %[1,.call "first_of_window" %[0,1,2|0],2|0])|0])
class SU (pg:Pg):Prop where
 r_sum_of:RW pg "sum_of" qb1
 r_first_since:RW pg "first_since" Jl
 r_first_of_window:RW pg "first_of_window" zf
 r_count_among:RW pg "count_among" Jm
noncomputable abbrev Jn:Ss:=%[.app 2 (.bin .Add (.var 3) (.fld (.var 0) "span")),.app 2 (.bin .Add (.bin .Add (.var 4) (.con (.int 1))) (.fld (.var 0) "span"))|0]
def yh:Ss:=Jn
theorem Ql:USs yh Jn:=fun _ _ _ _=>(rfl)
noncomputable def JN:Nat×Nat×Ss:=(2,6,%[.set 2 (.lst .nil),.ite (.val (.isc "Within" (.var 0))) %[.for_ (.many [3,4,5]) (.seq (.var 1)) yh|0] .nil,.ret (.var 2)|0])
noncomputable def zB:Nat×Nat×Ss:=(4,7,%[.set 4 (.call "count_among" %[0,1,.bin .Sub (.var 2) (.con (.int 1))|0]),.set 5 (.bin .Sub (.call "count_among" %[0,1,2|0]) (.var 4)),.ite (.cmp .LtE (.var 5) (.con (.int 0))) %[.ret (.con .non)|0] .nil,.set 6 (.bin .Add (.var 2) (.bin .FloorDiv (.bin .Sub (.fld (.var 0) "most") (.var 4)) (.var 5))),.ret (.ite (.cmp .LtE (.var 6) (.var 3)) (.var 6) (.con .non))|0])
abbrev ju:E:=(.var 0)
def zr:E:=ju
theorem Jo:UE zr ju:=fun _ _ _=>(rfl)
abbrev jv:E:=(.bin .Sub (.var 0) (.con (.int 1)))
def zt:E:=jv
theorem Jp:UE zt jv:=fun _ _ _=>(rfl)
noncomputable abbrev jw:Ss:=%[.set 10 (.call "first_above" %[0,1,7,9|0]),.ite (.cmp .IsNot (.var 10) (.con .non)) %[.ret (.var 10)|0] .nil|0]
def zu:Ss:=jw
theorem z7:USs zu jw:=fun _ _ _ _=>(rfl)
noncomputable abbrev jx:Ss:=%[.set 6 (.bin .Add (.lst %[3|0]) (.comp zr (.seq (.var 2)) (.one 0) (.test (.and (.cmp .Lt (.var 1) (.var 0)) (.one (.cmp .LtE (.var 0) (.var 2))))) 1 [3,4])),.set 8 (.bin .Add (.comp zt (.seq (.sli (.var 6) (.some (.con (.int 1))) .none)) (.one 0) .yes 1 []) (.lst %[4|0])),.for_ (.many [7,9]) (.zip (.var 6) (.var 8)) zu|0]
def zv:Ss:=jx
theorem z8:USs zv jx:=fun _ _ _ _=>(rfl)
noncomputable def je:Nat×Nat×Ss:=(2,11,%[.set 2 (.call "turns_of" %[0,1|0]),.for_ (.many [3,4,5]) (.seq (.var 1)) zv,.ret (.con .non)|0])
class FK (pg:Pg):Prop where
 r_turns_of:RW pg "turns_of" JN
 r_first_above:RW pg "first_above" zB
 r_first_broken:RW pg "first_broken" je
noncomputable abbrev jS:Ss:=%[.set 5 (.call "pieces_among" %[0,3,1|0]),.set 6 (.call "first_broken" %[4,5|0]),.ite (.and (.cmp .IsNot (.var 6) (.con .non)) (.one (.or (.cmp .Is (.var 2) (.con .non)) (.one (.cmp .Lt (.var 6) (.idx (.var 2) (.con (.int 0)))))))) %[.set 2 (.tup %[6,3,.call "first_of_window" %[4,5,6|0]|0])|0] .nil|0]
def zO:Ss:=jS
theorem JO:USs zO jS:=fun _ _ _ _=>(rfl)
noncomputable def Jq:Nat×Nat×Ss:=(2,7,%[.set 2 (.con .non),.for_ (.many [3,4]) (.enum (.met (.var 0) "rules" .nil)) zO,.ret (.var 2)|0])
class FM (pg:Pg):Prop where
 r_fault_among:RW pg "fault_among" Jq
noncomputable def QH:Nat×Nat×Ss:=(2,2,%[.ret (.call "fault_among" %[0,.call "stays_of" %[1|0]|0])|0])
class FO (pg:Pg):Prop where
 r_fault_of:RW pg "fault_of" QH
end DG
namespace FZ
open PySem L2 DE DG
noncomputable def YW:Nat×Nat×Ss:=(2,2,%[.ite (.cmp .Lt (.var 1) (.b1 .len (.var 0))) %[.ret (.idx (.var 0) (.var 1))|0] .nil,.ret (.con (.int 0))|0])
class ZA (pg:Pg):Prop where
 r__law_at:RW pg "_law_at" YW
noncomputable abbrev yK:Ss:=%[.set 3 (.bin .Add (.var 3) (.idx (.con (.str "abcdefghijklmnopqrstuvwxyz")) (.bin .Mod (.var 1) (.con (.int 26))))),.set 1 (.bin .FloorDiv (.var 1) (.con (.int 26)))|0]
def jJ:Ss:=yK
theorem YX:USs jJ yK:=fun _ _ _ _=>(rfl)
noncomputable def YY:Nat×Nat×Ss:=(1,5,%[.set 1 (.bin .Mod (.bin .Mult (.var 0) (.con (.int 1099087573))) (.con (.int 10000000000037))),.set 2 (.bin .Add (.con (.int 1)) (.bin .Mod (.var 1) (.con (.int 7)))),.set 1 (.bin .FloorDiv (.var 1) (.con (.int 7))),.set 3 (.con (.str "")),.for_ (.one 4) (.rng (.var 2)) jJ,.ret (.var 3)|0])
class ZW (pg:Pg):Prop where
 r__law_word:RW pg "_law_word" YY
noncomputable abbrev yi:E:=(.bin .Add (.bin .Add (.sli (.var 1) .none (.some (.var 2))) (.var 0)) (.sli (.var 1) (.some (.var 2)) .none))
def jf:E:=yi
theorem Yj:UE jf yi:=fun _ _ _=>(rfl)
noncomputable def J9:Nat×Nat×Ss:=(2,4,%[.set 2 (.call "_law_word" %[0|0]),.set 3 (.bin .Mod (.var 0) (.bin .Add (.b1 .len (.var 2)) (.con (.int 1)))),.ret (.comp jf (.seq (.sli (.con (.str "kcxq")) .none (.some (.var 1)))) (.one 0) .yes 1 [2,3])|0])
class ZN (pg:Pg):Prop where
 r__law_names:RW pg "_law_names" J9
noncomputable def y7:Nat×Nat×Ss:=(3,7,%[.set 3 (.bin .Mod (.bin .Mult (.var 0) (.con (.int 48271))) (.con (.int 2147483647))),.set 4 (.lst %[.tup %[.idx (.var 1) (.bin .Mod (.var 3) (.b1 .len (.var 1))),.bin .Add (.con (.int 1)) (.bin .Mod (.bin .FloorDiv (.var 3) (.con (.int 4))) (.con (.int 3)))|0]|0]),.ite (.and (.cmp .Eq (.bin .Mod (.bin .FloorDiv (.var 3) (.con (.int 12))) (.con (.int 2))) (.con (.int 1))) (.one (.cmp .Gt (.b1 .len (.var 1)) (.con (.int 1))))) %[.app 4 (.tup %[.idx (.var 1) (.bin .Mod (.bin .Add (.var 3) (.con (.int 1))) (.b1 .len (.var 1))),.bin .Add (.con (.int 1)) (.bin .Mod (.bin .FloorDiv (.var 3) (.con (.int 24))) (.con (.int 9)))|0])|0] .nil,.set 5 (.bin .Mod (.bin .FloorDiv (.var 3) (.con (.int 216))) (.con (.int 25))),.set 6 (.bin .Add (.con (.int 1)) (.bin .Mod (.bin .FloorDiv (.var 3) (.con (.int 5400))) (.con (.int 30)))),.ite (.val (.var 2)) %[.set 5 (.bin .Mod (.var 0) (.bin .Pow (.con (.int 10)) (.con (.int 7)))),.set 6 (.bin .Add (.con (.int 1)) (.bin .Mod (.bin .Mod (.bin .Mult (.var 0) (.con (.int 16807))) (.con (.int 2147483629))) (.idx (.lst %[.bin .Pow (.con (.int 10)) (.con (.int 7)),.bin .Pow (.con (.int 10)) (.con (.int 9))|0]) (.bin .FloorDiv (.bin .Mod (.var 0) (.con (.int 8))) (.con (.int 7))))))|0] .nil,.ret (.tup %[.bin .Mod (.bin .FloorDiv (.var 3) (.con (.int 162000))) (.con (.int 3)),4,5,6|0])|0])
class ZS (pg:Pg):Prop where
 r__law_spec:RW pg "_law_spec" y7
noncomputable def jK:Nat×Nat×Ss:=(1,1,%[.ite (.cmp .Eq (.idx (.var 0) (.con (.int 0))) (.con (.int 0))) %[.ret (.new "Within" %[.b1 .list (.idx (.var 0) (.con (.int 1))),.idx (.var 0) (.con (.int 2)),.idx (.var 0) (.con (.int 3))|0])|0] .nil,.ite (.cmp .Eq (.idx (.var 0) (.con (.int 0))) (.con (.int 1))) %[.ret (.new "Since" %[.b1 .list (.idx (.var 0) (.con (.int 1))),.idx (.var 0) (.con (.int 2)),.idx (.var 0) (.con (.int 3))|0])|0] .nil,.ret (.new "InRow" %[.b1 .list (.idx (.var 0) (.con (.int 1))),.idx (.var 0) (.con (.int 2))|0])|0])
class ZR (pg:Pg):Prop where
 r__law_rule:RW pg "_law_rule" jK
noncomputable abbrev yj:Ss:=%[.set 6 (.bin .Mod (.bin .Mult (.var 5) (.con (.int 69621))) (.con (.int 2147483647))),.set 7 (.bin .Add (.var 3) (.bin .Mod (.var 6) (.con (.int 10)))),.set 8 (.bin .Add (.var 7) (.bin .Mod (.bin .FloorDiv (.var 6) (.con (.int 10))) (.con (.int 12)))),.ite (.and (.val (.var 2)) (.one (.cmp .Eq (.bin .Mod (.bin .FloorDiv (.var 6) (.con (.int 120))) (.con (.int 3))) (.con (.int 1))))) %[.set 7 (.bin .Add (.bin .Add (.var 7) (.bin .Mult (.bin .Mod (.var 5) (.con (.int 2))) (.bin .Pow (.con (.int 10)) (.con (.int 6))))) (.bin .Mod (.bin .FloorDiv (.var 6) (.con (.int 360))) (.bin .Pow (.con (.int 10)) (.con (.int 6))))),.set 8 (.bin .Add (.bin .Add (.var 7) (.bin .Mult (.bin .Mod (.bin .FloorDiv (.var 6) (.con (.int 360))) (.con (.int 2))) (.bin .Pow (.con (.int 10)) (.con (.int 6))))) (.bin .Mod (.var 5) (.bin .Pow (.con (.int 10)) (.con (.int 6)))))|0] .nil,.app 4 (.tup %[.idx (.var 1) (.bin .Mod (.bin .FloorDiv (.var 6) (.con (.int 840))) (.b1 .len (.var 1))),7,8|0]),.set 3 (.bin .Add (.var 8) (.con (.int 1)))|0]
def jg:Ss:=yj
theorem Yk:USs jg yj:=fun _ _ _ _=>(rfl)
noncomputable def Yb:Nat×Nat×Ss:=(4,9,%[.set 4 (.lst .nil),.for_ (.one 5) (.seq (.var 0)) jg,.ret (.var 4)|0])
class ZT (pg:Pg):Prop where
 r__law_stays:RW pg "_law_stays" Yb
noncomputable abbrev jT:Ss:=%[.set 6 (.bin .Mod (.bin .Mult (.var 5) (.con (.int 16807))) (.con (.int 2147483629))),.ite (.cmp .Gt (.var 1) (.con (.int 0))) %[.set 7 (.bin .Add (.var 2) (.bin .Mod (.bin .FloorDiv (.var 6) (.con (.int 8))) (.b2 .max (.con (.int 1)) (.var 3)))),.app 4 (.tup %[.bin .Mod (.var 6) (.var 1),7,.bin .Add (.var 7) (.bin .Mod (.bin .FloorDiv (.var 6) (.con (.int 64))) (.bin .Add (.con (.int 1)) (.bin .FloorDiv (.var 3) (.con (.int 4)))))|0])|0] .nil|0]
def zP:Ss:=jT
theorem JP:USs zP jT:=fun _ _ _ _=>(rfl)
noncomputable def Jr:Nat×Nat×Ss:=(4,8,%[.set 4 (.lst .nil),.for_ (.one 5) (.seq (.var 0)) zP,.ret (.var 4)|0])
class ZP (pg:Pg):Prop where
 r__law_papers:RW pg "_law_papers" Jr
end FZ
namespace DG
open PySem DE FA Dy
open L2 hiding St
open CH ST SP RU BO BT PC SU FK FM FO
abbrev Pr:=Int×Int
def mx (a b:Int):Int:=if b > a then b else a
def mn (a b:Int):Int:=if b < a then b else a
theorem mxF (a b:Int):(if b > a then b else a)=mx a b:=(rfl)
theorem mnF (a b:Int):(if b < a then b else a)=mn a b:=(rfl)
theorem qer (a b:Int):(a<=b->mx a b=b)/\(b<=a->mx a b=a):=by unfold mx;split<;>omega
theorem qaz (a b:Int):(a<=b->mn a b=a)/\(b<=a->mn a b=b):=by unfold mn;split<;>omega
noncomputable def jy:Nat->List Pr->List Pr->List Pr
 | 0,_,_=>[]
 | _+1,[],_=>[]
 | _+1,_,[]=>[]
 | n+1,p::a,q::b=>(if mx p.1 q.1<=mn p.2 q.2 then [(mx p.1 q.1,mn p.2 q.2)] else [])++(if p.2 < q.2 then jy n a (q::b) else jy n (p::a) b)
theorem qes (l:List Pr) (i:Nat) (p:Pr) (h:l[i]?=some p):atI (l.map pD) (i:Int)=some (.tup [.int p.1,.int p.2]):=qfX (by rw [List.getElem?_map,h];rfl)
theorem YZ (cl:Cl) (A B:List Pr):∀ (n i j:Nat) (acc:List Pr) (s5 s6:Sl),(A.length - i)+(B.length - j) < n->acc.length+n < 10000->
  ∃ ρ',whD cl 1000 Zs Zt n [.val (.lst (A.map pD)),.val (.lst (B.map pD)),.own (acc.map pD),.val (.int (i:Int)),.val (.int (j:Int)),s5,s6]=.ok (.next (.val (.lst (A.map pD))::.val (.lst (B.map pD))::.own ((acc++jy n (A.drop i) (B.drop j)).map pD)::ρ'))
 | 0,i,j,acc,s5,s6,h,_=>by omega
 | n+1,i,j,acc,s5,s6,h,hl=>by
  have two:0+1+1<=sizeLine:=by decide+kernel
  have hs:(acc.map pD).length < sizeLine:=by rw [List.length_map];exact qE (1:)
  by_cases hi:i < A.length
  ·by_cases hj:j < B.length
   ·obtain ⟨p,hp⟩:∃ p,A[i]?=some p:=⟨A[i],List.getElem?_eq_getElem hi⟩;obtain ⟨q,hq⟩:∃ q,B[j]?=some q:=⟨B[j],List.getElem?_eq_getElem hj⟩;have ap:=qes A i p hp;have aq:=qes B j q hq;have c1:(i:Int) < ((A.map pD).length:Int):=by rw [List.length_map];omega
    have c2:(j:Int) < ((B.map pD).length:Int):=by rw [List.length_map];omega
    have dA:A.drop i=p::A.drop (i+1):=by rw [List.drop_eq_getElem_cons hi];congr 1;rw [List.getElem?_eq_getElem hi] at hp;exact Option.some.inj hp
    have dB:B.drop j=q::B.drop (j+1):=by rw [List.drop_eq_getElem_cons hj];congr 1;rw [List.getElem?_eq_getElem hj] at hq;exact Option.some.inj hq
    have X:∀ {β:Type} (K:Fl->R β) (a b c d:Sl),(iS cl 1000 (.ite (.cmp .LtE (.var 5) (.var 6)) %[.app 2 (.tup %[5,6|0])|0] .nil) [a,b,.own (acc.map pD),c,d,.val (.int (mx p.1 q.1)),.val (.int (mn p.2 q.2))]).th K=K (.next [a,b,.own ((acc++if mx p.1 q.1<=mn p.2 q.2 then [(mx p.1 q.1,mn p.2 q.2)] else []).map pD),c,d,.val (.int (mx p.1 q.1)),.val (.int (mn p.2 q.2))]):=by
     intro β K a b c d
     by_cases hc:mx p.1 q.1<=mn p.2 q.2
     ·rw [if_pos hc,List.map_append];simp? only [hc,two,hs,jd]
     ·rw [if_neg hc,List.append_nil];simp? only [hc]
    have hl':(acc++if mx p.1 q.1<=mn p.2 q.2 then [(mx p.1 q.1,mn p.2 q.2)] else []).length<=acc.length+1:=by
     rw [List.length_append]
     split<;>simp
    rw [dA,dB,jy,<-List.append_assoc];generalize acc++(if mx p.1 q.1<=mn p.2 q.2 then [(mx p.1 q.1,mn p.2 q.2)] else [])=acc' at *
    by_cases hd:p.2 < q.2
    ·obtain ⟨ρ',e⟩:=YZ cl A B n (i+1) j acc' (.val (.int (mx p.1 q.1))) (.val (.int (mn p.2 q.2))) (1:) (1:);refine ⟨ρ',?_⟩;rw [dB] at e;rw [if_pos hd];simp only [show ((i+1:Nat):Int)=(i:Int)+1 by omega] at e;show 1;simp? only [↓X,yB,QG,c1,c2,ap,aq,mxF,mnF,hd,e]
    ·obtain ⟨ρ',e⟩:=YZ cl A B n i (j+1) acc' (.val (.int (mx p.1 q.1))) (.val (.int (mn p.2 q.2))) (1:) (1:);refine ⟨ρ',?_⟩;rw [dA] at e;rw [if_neg hd];simp only [show ((j+1:Nat):Int)=(j:Int)+1 by omega] at e;show 1;simp? only [↓X,yB,QG,c1,c2,ap,aq,mxF,mnF,hd,e]
   ·have c1:(i:Int) < ((A.map pD).length:Int):=by rw [List.length_map];omega
    have c2:¬ (j:Int) < ((B.map pD).length:Int):=by rw [List.length_map];omega
    have e:jy (n+1) (A.drop i) (B.drop j)=[]:=by
     rw [show B.drop j=[] from List.drop_eq_nil_of_le (1:)]
     cases A.drop i<;>rfl
    rw [e,List.append_nil];refine ⟨[.val (.int (i:Int)),.val (.int (j:Int)),s5,s6],?_⟩;show 1;simp? only [yB,c1,c2]
  ·have c1:¬ (i:Int) < ((A.map pD).length:Int):=by rw [List.length_map];omega
   have e:jy (n+1) (A.drop i) (B.drop j)=[]:=by rw [show A.drop i=[] from List.drop_eq_nil_of_le (1:)];rfl
   rw [e,List.append_nil];refine ⟨[.val (.int (i:Int)),.val (.int (j:Int)),s5,s6],?_⟩;show 1;simp? only [yB,c1]
theorem qiO {pg:Pg} [BT pg] (k:Nat) (A B:List Pr) (hl:A.length+B.length < 999):clK pg (k+1) "both" [.val (.lst (A.map pD)),.val (.lst (B.map pD))]=.ok (.tmp ((jy 1000 A B).map pD)):=by obtain ⟨ρ',e⟩:=YZ (pg.kk k) A B 1000 0 0 [] .no .no (1:) (by simp);rw [List.map_nil,List.nil_append,List.drop_zero,List.drop_zero,show ((0:Nat):Int)=0 from rfl] at e;rw [r_both];simp? only [qg3,show (0:Nat)<=sizeLine by decide+kernel,e]
noncomputable def Yl:Int->List Pr->List Pr×Int
 | b,[]=>([],b)
 | b,t::l=>((if b < t.1 then [(b,t.1 - 1)] else [])++(Yl (mx b (t.2+1)) l).1,(Yl (mx b (t.2+1)) l).2)
noncomputable def qQ (l:List Pr) (first last:Int):List Pr:=(Yl first l).1++(if (Yl first l).2<=last then [((Yl first l).2,last)] else [])
theorem Zu (cl:Cl) (v0 v1 v2:Sl):∀ (l:List Pr) (b:Int) (acc:List Pr) (s5:Sl),acc.length+l.length < 10000->∃ s5',yb cl 1000 (.one 5) y6 (l.map pD) [v0,v1,v2,.own (acc.map pD),.val (.int b),s5]=.ok (.next [v0,v1,v2,.own ((acc++(Yl b l).1).map pD),.val (.int (Yl b l).2),s5'])
 | [],b,acc,s5,_=>⟨s5,by simp [Yl,zX]⟩
 | t::l,b,acc,s5,hl=>by
  rw [List.length_cons] at hl;have two:0+1+1<=sizeLine:=by decide+kernel
  have hs:(acc.map pD).length < sizeLine:=by rw [List.length_map];exact qE (1:)
  rw [Yl]
  by_cases hc:b < t.1
  ·obtain ⟨s5',ih⟩:=Zu cl v0 v1 v2 l (mx b (t.2+1)) (acc++[(b,t.1 - 1)]) (.val (pD t)) (by simp;omega);refine ⟨s5',?_⟩;rw [if_pos hc];simp only [List.map_append,List.map_cons,List.map_nil,jd,List.append_assoc,List.cons_append,List.nil_append] at ih ⊢;show 1;simp? only [Jj,hc,two,hs,mxF,ih]
  ·obtain ⟨s5',ih⟩:=Zu cl v0 v1 v2 l (mx b (t.2+1)) acc (.val (pD t)) (1:);refine ⟨s5',?_⟩;rw [if_neg hc,List.nil_append];simp only [jd] at ih;show 1;rw [List.map_cons];simp? only [Jj,jd,hc,mxF,ih]
theorem qcP {pg:Pg} [BT pg] (k:Nat) (b:Bool) (l:List Pr) (hl:l.length < 5000) (first last:Int):clK pg (k+1) "outside" [aL b (l.map pD),.val (.int first),.val (.int last)]=.ok (.tmp ((qQ l first last).map pD)):=by
 have two:0+1+1<=sizeLine:=by decide+kernel
 have len:∀ (l:List Pr) (b:Int),(Yl b l).1.length<=l.length:=by
  intro l
  induction l with
  | nil=>intro b;simp [Yl]
  | cons t l ih=>
   intro b;rw [Yl]
   have:=ih (mx b (t.2+1))
   dsimp only;rw [List.length_append,List.length_cons]
   split<;>simp<;>omega
 have hs:((Yl first l).1.map pD).length < sizeLine:=by rw [List.length_map];have:=len l first;exact qE (1:)
 rw [r_outside];unfold qQ;obtain ⟨s5,e⟩:=Zu (pg.kk k) (pS b (l.map pD)) (.val (.int first)) (.val (.int last)) l first [] .no (by simp;omega);rw [List.map_nil,List.nil_append] at e
 by_cases hc:(Yl first l).2<=last
 ·rw [if_pos hc,List.map_append,List.map_cons,List.map_nil];simp? only [YU,show (0:Nat)<=sizeLine by decide+kernel,e,hc,two,hs,jd]
 ·rw [if_neg hc,List.append_nil];simp? only [YU,show (0:Nat)<=sizeLine by decide+kernel,e,hc]
def y8 (p:Pr) (l:List Pr):List Pr:=jy 1000 [p] (qQ l p.1 p.2)
theorem y9 (l:List Pr) (f t:Int):(qQ l f t).length<=l.length+1:=by
 have len:∀ (l:List Pr) (b:Int),(Yl b l).1.length<=l.length:=by
  intro l
  induction l with
  | nil=>intro b;simp [Yl]
  | cons t l ih=>
   intro b;rw [Yl]
   have:=ih (mx b (t.2+1))
   dsimp only;rw [List.length_append,List.length_cons]
   split<;>simp<;>omega
 unfold qQ;rw [List.length_append]
 have:=len l f
 split<;>simp<;>omega
theorem qiP {pg:Pg} [BT pg] (k:Nat) (b:Bool) (p:Pr) (l:List Pr) (hl:l.length < 900):clK pg (k+2) "less" [.val (.lst [.tup [.int p.1,.int p.2]]),aL b (l.map pD)]=.ok (.tmp ((y8 p l).map pD)):=by
 have o:=qcP (pg:=pg) k b l (1:) p.1 p.2;have t:=qiO (pg:=pg) k [p] (qQ l p.1 p.2) (by have:=y9 l p.1 p.2;simp;omega);simp only [qcJ,qcK,List.map_cons,List.map_nil,jd] at t;have g:atI [D.tup [.int p.1,.int p.2]] (-1)=some (.tup [.int p.1,.int p.2]):=g_last [] _;rw [r_less]
 try simp only [qcJ,qcK] at o ⊢
 simp? only [qg4,List.isEmpty_cons,g,o,t,y8]
end DG
namespace DG
open PySem DE FA Dy
open L2 hiding St
open CH ST SP RU BO BT PC SU FK FM FO
theorem Y0:∀ (n:Nat) (A B:List Pr),(jy n A B).length<=A.length+B.length
 | 0,_,_=>by simp [jy]
 | n+1,[],B=>by simp [jy]
 | n+1,p::A,[]=>by simp [jy]
 | n+1,p::A,q::B=>by
  have h1:=Y0 n A (q::B);have h2:=Y0 n (p::A) B;simp only [List.length_cons] at h1 h2;rw [jy,List.length_append,List.length_cons,List.length_cons]
  split<;>split<;>simp<;>omega
theorem Js (p:Pr) (l:List Pr):(y8 p l).length<=l.length+2:=by have h1:=Y0 1000 [p] (qQ l p.1 p.2);have h2:=y9 l p.1 p.2;unfold y8;simp at h1;omega
def JQ (w:Int) (p:Pr):Pa:=(p.1,p.2,w)
noncomputable def qG (r:Ru) (lf:List Pr) (s:St):List Pa:=if 0 < wt r.lands (some s.1) then (y8 (s.2.1,s.2.2) lf).map (JQ (wt r.lands (some s.1))) else []
def qu (r:Ru) (lf:List Pr):List St->List Pa
 | []=>[]
 | s::l=>qG r lf s++qu r lf l
theorem qlF (cl:Cl) (w:Int):∀ (l:List Pr) (acc:List Pa) (s0 s1:Sl),acc.length+l.length < 10000->zk cl zo (.many [0,1]) .yes (l.map pD) [s0,s1,.val (.int w)] (acc.map paD)=.ok ((acc++l.map (JQ w)).map paD)
 | [],acc,s0,s1,_=>by simp [qL]
 | p::l,acc,s0,s1,hl=>by
  rw [List.length_cons] at hl;have ih:=qlF cl w l (acc++[JQ w p]) (.val (.int p.1)) (.val (.int p.2)) (by simp;omega);have three:0+1+1+1<=sizeLine:=by decide+kernel
  have hs:(acc.map paD).length < sizeLine:=by rw [List.length_map];exact qE (1:)
  simp only [List.map_append,List.map_cons,List.map_nil,List.append_assoc,List.cons_append,List.nil_append,qM,JQ] at ih ⊢;show 1;simp? only [Jk,jd,three,hs,ih]
theorem Y1 (r:Ru) (lf:List Pr) (s:St):(qG r lf s).length<=lf.length+2:=by
 unfold qG;split
 ·rw [List.length_map];exact Js _ _
 ·simp
theorem Y2 (r:Ru) (lf:List Pr):∀ st:List St,(qu r lf st).length<=st.length * (lf.length+2)
 | []=>by simp [qu]
 | s::l=>by
  rw [qu,List.length_append,List.length_cons,Nat.succ_mul]
  have:=Y1 r lf s
  have:=Y2 r lf l
  omega
section
variable {pg:Pg} [RU pg] [BT pg]
theorem qT (k:Nat) (v0 v1 v2:Sl) (r:Ru) (hr:∀ p∈r.lands,LnOk p) (lf:List Pr) (hf:lf.length<=20):∀ (st:List St) (acc:List Pa) (s6 s7 s8 s9:Sl),(∀ s∈st,NameOk s.1)->acc.length+st.length * 22 < 9000->
  ∃ ρ',yb (pg.kk (k+2)) 1000 (.many [6,7,8]) zq (st.map stD) [v0,v1,v2,.val (ruI r),.own (lf.map pD),.own (acc.map paD),s6,s7,s8,s9]=.ok (.next (v0::v1::v2::.val (ruI r)::.own (lf.map pD)::.own ((acc++qu r lf st).map paD)::ρ'))
 | [],acc,s6,s7,s8,s9,_,_=>⟨[s6,s7,s8,s9],by simp [qu,zX]⟩
 | s::st,acc,s6,s7,s8,s9,hn,hl=>by
  rw [List.length_cons,Nat.succ_mul] at hl;have w:clK pg (k+2) "Rule.weight" [.val (ruI r),.val (.str s.1)]=.ok (.val (.int (wt r.lands (some s.1)))):=qek (pg:=pg) (k+1) r hr (some s.1) (fun z hz=>by cases hz;exact hn s (by simp));have l1:=Y1 r lf s;have two:0+1+1<=sizeLine:=by decide+kernel
  have one:0+1<=sizeLine:=by decide+kernel
  by_cases hc:0 < wt r.lands (some s.1)
  ·have e1:qG r lf s=(y8 (s.2.1,s.2.2) lf).map (JQ (wt r.lands (some s.1))):=by unfold qG;rw [if_pos hc]
   obtain ⟨ρ',ih⟩:=qT k v0 v1 v2 r hr lf hf st (acc++qG r lf s) (.val (.str s.1)) (.val (.int s.2.1)) (.val (.int s.2.2)) (.val (.int (wt r.lands (some s.1)))) (fun x hx=>hn x (by simp [hx])) (by rw [List.length_append];omega);refine ⟨ρ',?_⟩;have le:clK pg (k+2) "less" [.val (.lst [.tup [.int s.2.1,.int s.2.2]]),.bor (lf.map pD)]=.ok (.tmp ((y8 (s.2.1,s.2.2) lf).map pD)):=qiP (pg:=pg) k true (s.2.1,s.2.2) lf (1:);have c:=qlF (pg.kk (k+2)) (wt r.lands (some s.1)) (y8 (s.2.1,s.2.2) lf) [] .no .no (by have:=Js (s.2.1,s.2.2) lf;simp;omega);rw [List.map_nil,List.nil_append,<-e1] at c;have z1:((y8 (s.2.1,s.2.2) lf).map pD).length<=sizeLine:=by rw [List.length_map];have:=Js (s.2.1,s.2.2) lf;exact qF (1:)
   have z2:(acc.map paD).length+((qG r lf s).map paD).length<=sizeLine:=by rw [List.length_map,List.length_map];exact qF (1:)
   rw [qu,<-List.append_assoc];rw [List.map_append (l₁:=acc)] at ih;show 1;rw [List.map_cons];simp? only [zZ,J5,RU.cs,qav,w,hc,one,two,le,z1,qal,List.getD_cons_succ,List.getD_cons_zero,c,z2,ih]
  ·have e1:qG r lf s=[]:=by unfold qG;rw [if_neg hc]
   obtain ⟨ρ',ih⟩:=qT k v0 v1 v2 r hr lf hf st acc (.val (.str s.1)) (.val (.int s.2.1)) (.val (.int s.2.2)) (.val (.int (wt r.lands (some s.1)))) (fun x hx=>hn x (by simp [hx])) (1:);refine ⟨ρ',?_⟩;rw [qu,e1,List.nil_append];show 1;rw [List.map_cons];simp? only [zZ,J5,RU.cs,qav,w,hc,ih]
end
section
variable {pg:Pg} [RU pg] [BO pg] [SP pg] [BT pg] [PC pg]
theorem qet (k:Nat) (b:Bool) (rs:List Ru) (ps:List Pa) (hp:ps.length<=18) (n:Nat) (r:Ru) (hn:rs[n]?=some r) (hr:∀ p∈r.lands,LnOk p) (hlf:(Yi n ps).length<=20) (st:List St) (hs:∀ s∈st,NameOk s.1) (hl:st.length<=70) :
  clK pg (k+3) "pieces_among" [.val (bkI rs ps),.val (.int (n:Int)),aL b (st.map stD)]=.ok (.tmp ((qu r (Yi n ps) st).map paD)):=by
 have a:=qbZ (pg:=pg) (k+1) rs ps;have l:=qel (pg:=pg) k rs ps (n:Int) (1:);have e:=qiL hn;rw [r_pieces_among];obtain ⟨ρ',i⟩:=qT (pg:=pg) k (.val (bkI rs ps)) (.val (.int (n:Int))) (pS b (st.map stD)) r hr (Yi n ps) hlf st [] .no .no .no .no hs (by simp;omega);rw [List.map_nil,List.nil_append] at i;simp? only [yJ,RU.cs,qbY,qej,a,l,e,show (0:Nat)<=sizeLine by decide+kernel,i]
end
noncomputable def qg5 (f t:Int):List Pa->Int->Int
 | [],a=>a
 | p::l,a=>qg5 f t l (if 0 < mn p.2.1 t - mx p.1 f+1 then a+(mn p.2.1 t - mx p.1 f+1) * p.2.2 else a)
def WOk (l:List Pa):Prop:=∀ p∈l,1<=p.2.2/\p.2.2<=9
theorem Zv (cl:Cl) (v0:Sl) (f t:Int):∀ (l:List Pa) (a:Int) (s4 s5 s6 s7:Sl),WOk l->∃ ρ',yb cl 1000 (.many [4,5,6]) JM (l.map paD) [v0,.val (.int f),.val (.int t),.val (.int a),s4,s5,s6,s7]=.ok (.next (v0::.val (.int f)::.val (.int t)::.val (.int (qg5 f t l a))::ρ'))
 | [],a,s4,s5,s6,s7,_=>⟨[s4,s5,s6,s7],rfl⟩
 | p::l,a,s4,s5,s6,s7,h=>by
  have hw:=h p (by simp);have mul:Q7 (mn p.2.1 t - mx p.1 f+1) p.2.2=true:=J6 (1:) (1:);rw [qg5]
  by_cases hc:0 < mn p.2.1 t - mx p.1 f+1
  ·obtain ⟨ρ',ih⟩:=Zv cl v0 f t l (a+(mn p.2.1 t - mx p.1 f+1) * p.2.2) (.val (.int p.1)) (.val (.int p.2.1)) (.val (.int p.2.2)) (.val (.int (mn p.2.1 t - mx p.1 f+1))) (fun q hq=>h q (by simp [hq]));refine ⟨ρ',?_⟩;rw [if_pos hc];show 1;rw [List.map_cons];simp? only [J8,qM,mxF,mnF,hc,mul,ih]
  ·obtain ⟨ρ',ih⟩:=Zv cl v0 f t l a (.val (.int p.1)) (.val (.int p.2.1)) (.val (.int p.2.2)) (.val (.int (mn p.2.1 t - mx p.1 f+1))) (fun q hq=>h q (by simp [hq]));refine ⟨ρ',?_⟩;rw [if_neg hc];show 1;rw [List.map_cons];simp? only [J8,qM,mxF,mnF,hc,ih]
noncomputable def fsF (leave day:Int):List Pa->Int->Int
 | [],f=>f
 | p::l,f=>if p.1<=day then (if leave<=f - 1 - mn p.2.1 day then f else fsF leave day l p.1) else fsF leave day l f
theorem qbn (cl:Cl) (v0:Sl) (leave day:Int):∀ (l:List Pa) (f:Int) (s4 s5 s6:Sl),∃ F,yb cl 1000 (.many [4,5,6]) zN (l.map paD) [v0,.val (.int leave),.val (.int day),.val (.int f),s4,s5,s6]=.ok F/\(F=.ret (.val (.int (fsF leave day l f)))\/∃ ρ',F=.next (v0::.val (.int leave)::.val (.int day)::.val (.int (fsF leave day l f))::ρ'))
 | [],f,s4,s5,s6=>⟨_,rfl,.inr ⟨[s4,s5,s6],rfl⟩⟩
 | p::l,f,s4,s5,s6=>by
  rw [fsF]
  by_cases h1:p.1<=day
  ·rw [if_pos h1]
   by_cases h2:leave<=f - 1 - mn p.2.1 day
   ·rw [if_pos h2];refine ⟨_,?_,.inl rfl⟩;show 1;rw [List.map_cons];simp? only [ze,qM,h1,mnF,h2]
   ·rw [if_neg h2];obtain ⟨F,i,a⟩:=qbn cl v0 leave day l p.1 (.val (.int p.1)) (.val (.int p.2.1)) (.val (.int p.2.2));refine ⟨F,?_,a⟩;show 1;rw [List.map_cons];simp? only [ze,qM,h1,mnF,h2,i]
  ·rw [if_neg h1];obtain ⟨F,i,a⟩:=qbn cl v0 leave day l f (.val (.int p.1)) (.val (.int p.2.1)) (.val (.int p.2.2));refine ⟨F,?_,a⟩;show 1;rw [List.map_cons];simp? only [ze,qM,h1,i]
section
variable {pg:Pg} [RU pg] [SU pg]
theorem qf9 (k:Nat) (b:Bool) (l:List Pa) (h:WOk l) (f t:Int):clK pg (k+1) "sum_of" [aL b (l.map paD),.val (.int f),.val (.int t)]=.ok (.val (.int (qg5 f t l 0))):=by rw [r_sum_of];obtain ⟨ρ',i⟩:=Zv (pg.kk k) (pS b (l.map paD)) f t l 0 .no .no .no .no h;simp? only [qb1,i]
theorem Zw (k:Nat) (b:Bool) (l:List Pa) (leave day:Int):clK pg (k+1) "first_since" [aL b (l.map paD),.val (.int leave),.val (.int day)]=.ok (.val (.int (fsF leave day l.reverse (day+1)))):=by rw [r_first_since];obtain ⟨F,i,a⟩:=qbn (pg.kk k) (pS b (l.map paD)) leave day l.reverse (day+1) .no .no .no;rw [List.map_reverse] at i;rcases a with rfl | ⟨ρ',rfl⟩<;>simp? only [Jl,i]
noncomputable def qaX (r:Ru) (l:List Pa) (d:Int):Int:=if r.kd.isW=true then d - r.days+1 else fsF r.days d l.reverse (d+1)
def qH (r:Ru) (l:List Pa) (d:Int):Int:=qg5 (qaX r l d) d l 0
theorem qg6 (k:Nat) (b:Bool) (r:Ru) (l:List Pa) (d:Int):clK pg (k+2) "first_of_window" [.val (ruI r),aL b (l.map paD),.val (.int d)]=.ok (.val (.int (qaX r l d))):=by
 have s:=Zw (pg:=pg) k b l r.days d;have iw:=qaw r;rw [r_first_of_window];unfold qaX
 cases hk:r.kd.isW with
 | true=>rw [hk] at iw;simp? only [zf,RU.cs,iw,qeh r hk]
 | false=>
  rw [hk] at iw
  try simp only [qcJ,qcK] at s
  simp? only [zf,RU.cs,iw,qf6 r hk,s]
theorem Jt (k:Nat) (b:Bool) (r:Ru) (l:List Pa) (h:WOk l) (d:Int):clK pg (k+3) "count_among" [.val (ruI r),aL b (l.map paD),.val (.int d)]=.ok (.val (.int (qH r l d))):=by
 have s:=qf9 (pg:=pg) (k+1) b l h (qaX r l d) d;have f:=qg6 (pg:=pg) k b r l d;rw [r_count_among];unfold qH
 try simp only [qcJ,qcK] at s f
 simp? only [Jm,f,s]
end
end DG
namespace DG
open PySem DE FA Dy
open L2 hiding St
open CH ST SP RU BO BT PC SU FK FM FO
def zQ (span:Int):List Pa->List Int
 | []=>[]
 | p::l=>(p.1+span)::(p.2.1+1+span)::zQ span l
def z9 (r:Ru) (l:List Pa):List Int:=if r.kd.isW=true then zQ r.days l else []
theorem zE (cl:Cl) (hcs:cl.cs=pcs) (v1:Sl) (r:Ru) (hk:r.kd.isW=true):∀ (l:List Pa) (acc:List Int) (s3 s4 s5:Sl),acc.length+2 * l.length < 10000->∃ ρ',yb cl 1000 (.many [3,4,5]) yh (l.map paD) [.val (ruI r),v1,.own (acc.map D.int),s3,s4,s5]=.ok (.next (.val (ruI r)::v1::.own ((acc++zQ r.days l).map D.int)::ρ'))
 | [],acc,s3,s4,s5,_=>⟨[s3,s4,s5],by simp [zQ,zX]⟩
 | p::l,acc,s3,s4,s5,hl=>by
  rw [List.length_cons] at hl;obtain ⟨ρ',ih⟩:=zE cl hcs v1 r hk l (acc++[p.1+r.days]++[p.2.1+1+r.days]) (.val (.int p.1)) (.val (.int p.2.1)) (.val (.int p.2.2)) (by simp;omega);refine ⟨ρ',?_⟩;have hs:(acc.map D.int).length < sizeLine:=by rw [List.length_map];exact qE (1:)
  have hs2:(acc.map D.int++[D.int (p.1+r.days)]).length < sizeLine:=by simp;exact qE (1:)
  rw [zQ,show acc++(p.1+r.days)::(p.2.1+1+r.days)::zQ r.days l=acc++[p.1+r.days]++[p.2.1+1+r.days]++zQ r.days l by simp];rw [List.map_append (l₁:=acc++[p.1+r.days]),List.map_append (l₁:=acc),List.map_cons,List.map_nil,List.map_cons,List.map_nil] at ih;show 1;rw [List.map_cons];simp? only [Ql,qM,hcs,qeh r hk,hs,hs2,ih]
theorem QI (s:Int):∀ l:List Pa,(zQ s l).length=2 * l.length
 | []=>rfl
 | p::l=>by rw [zQ,List.length_cons,List.length_cons,QI s l,List.length_cons];omega
noncomputable def Yc (r:Ru) (l:List Pa) (b e:Int):Option Int:=if qH r l b - qH r l (b - 1)<=0 then none else if b+(r.most - qH r l (b - 1)) / (qH r l b - qH r l (b - 1))<=e then some (b+(r.most - qH r l (b - 1)) / (qH r l b - qH r l (b - 1))) else none
def qaY:Option Int->D
 | none=>.non
 | some d=>.int d
noncomputable def JR (r:Ru) (l:List Pa):List Pr->Option Int
 | []=>none
 | p::s=>match Yc r l p.1 p.2 with
  | some d=>some d
  | none=>JR r l s
def inB (f t x:Int):Bool:=decide (f < x)&&decide (x<=t)
def qg7 (f t:Int) (ts:List Int):List Pr:=(f::ts).zip (ts.map (· - 1)++[t])
noncomputable def yk (r:Ru) (L:List Pa) (ts:List Int):List Pa->Option Int
 | []=>none
 | p::l=>match JR r L (qg7 p.1 p.2.1 (ts.filter (inB p.1 p.2.1))) with
  | some d=>some d
  | none=>yk r L ts l
theorem qg8:∀ (a b:List Int),qbF (a.map D.int) (b.map D.int)=(a.zip b).map pD
 | [],b=>by simp [qbF]
 | x::a,[]=>by simp [qbF]
 | x::a,y::b=>by
  have:=qg8 a b
  unfold qbF at this ⊢;rw [List.map_cons,List.map_cons,List.zipWith_cons_cons,this];rfl
theorem qeu (d:D) (l:List D):qa6 (d::l) (some 1) none=l:=by unfold qa6;rw [show (some (1:Int))=some ((1:Nat):Int) from rfl,HT.Yz,HT.QY];simp
theorem qga (cl:Cl) (f t:Int):∀ (ts acc:List Int) (s0:Sl),acc.length+ts.length < 10000->zk cl zr (.one 0) (.test (.and (.cmp .Lt (.var 1) (.var 0)) (.one (.cmp .LtE (.var 0) (.var 2))))) (ts.map D.int) [s0,.val (.int f),.val (.int t)] (acc.map D.int)=.ok ((acc++ts.filter (inB f t)).map D.int)
 | [],acc,s0,_=>by simp [qL]
 | x::ts,acc,s0,hl=>by
  rw [List.length_cons] at hl;have hs:(acc.map D.int).length < sizeLine:=by rw [List.length_map];exact qE (1:)
  by_cases h1:f < x
  ·by_cases h2:x<=t
   ·have ih:=qga cl f t ts (acc++[x]) (.val (.int x)) (by simp;omega);have e:(x::ts).filter (inB f t)=x::ts.filter (inB f t):=by simp [inB,h1,h2]
    rw [e];simp only [List.map_append,List.map_cons,List.map_nil,List.append_assoc,List.cons_append,List.nil_append] at ih ⊢;show 1;simp? only [Jo,h1,h2,hs,ih]
   ·have ih:=qga cl f t ts acc (.val (.int x)) (1:);have e:(x::ts).filter (inB f t)=ts.filter (inB f t):=by simp [inB,h2]
    rw [e];show 1;rw [List.map_cons];simp? only [h1,h2,ih]
  ·have ih:=qga cl f t ts acc (.val (.int x)) (1:);have e:(x::ts).filter (inB f t)=ts.filter (inB f t):=by simp [inB,h1]
   rw [e];show 1;rw [List.map_cons];simp? only [h1,ih]
theorem qlG (cl:Cl):∀ (ts acc:List Int) (s0:Sl),acc.length+ts.length < 10000->zk cl zt (.one 0) .yes (ts.map D.int) [s0] (acc.map D.int)=.ok ((acc++ts.map (· - 1)).map D.int)
 | [],acc,s0,_=>by simp [qL]
 | x::ts,acc,s0,hl=>by
  rw [List.length_cons] at hl;have hs:(acc.map D.int).length < sizeLine:=by rw [List.length_map];exact qE (1:)
  have ih:=qlG cl ts (acc++[x - 1]) (.val (.int x)) (by simp;omega);simp only [List.map_append,List.map_cons,List.map_nil,List.append_assoc,List.cons_append,List.nil_append] at ih ⊢;show 1;simp? only [Jp,hs,ih]
def qji (r:Ru) (l:List Pa):Prop:=∀ d,qH r l d - qH r l (d - 1) < 1073741824
section
variable {pg:Pg} [RU pg] [SU pg] [FK pg]
theorem qcQ (k:Nat) (b:Bool) (r:Ru) (l:List Pa) (hl:l.length < 4000):clK pg (k+1) "turns_of" [.val (ruI r),aL b (l.map paD)]=.ok (.tmp ((z9 r l).map D.int)):=by
 have iw:=qaw r;rw [r_turns_of];unfold z9
 cases hk:r.kd.isW with
 | true=>rw [hk] at iw;obtain ⟨ρ',i⟩:=zE (pg.kk k) RU.cs (pS b (l.map paD)) r hk l [] .no .no .no (by simp;omega);rw [List.map_nil,List.nil_append] at i;simp? only [JN,RU.cs,iw,show (0:Nat)<=sizeLine by decide+kernel,i]
 | false=>rw [hk] at iw;simp? only [JN,RU.cs,iw,show (0:Nat)<=sizeLine by decide+kernel]
theorem qgb (k:Nat) (b:Bool) (r:Ru) (l:List Pa) (h:WOk l) (hs:qji r l) (f t:Int):clK pg (k+4) "first_above" [.val (ruI r),aL b (l.map paD),.val (.int f),.val (.int t)]=.ok (.val (qaY (Yc r l f t))):=by
 have c1:=Jt (pg:=pg) k b r l h (f - 1);have c2:=Jt (pg:=pg) k b r l h f;have hg:=hs f;rw [r_first_above];unfold Yc
 by_cases h1:qH r l f - qH r l (f - 1)<=0
 ·rw [if_pos h1]
  try simp only [qcJ,qcK] at c1 c2
  simp? only [zB,c1,c2,h1,qaY]
 ·rw [if_neg h1];have hd:(0:Int) < qH r l f - qH r l (f - 1)/\qH r l f - qH r l (f - 1) < 1073741824:=⟨by omega,hg⟩
  by_cases h2:f+(r.most - qH r l (f - 1)) / (qH r l f - qH r l (f - 1))<=t
  ·rw [if_pos h2]
   try simp only [qcJ,qcK] at c1 c2
   simp? only [zB,c1,c2,h1,RU.cs,qeg,hd,h2,qaY]
  ·rw [if_neg h2]
   try simp only [qcJ,qcK] at c1 c2
   simp? only [zB,c1,c2,h1,RU.cs,qeg,hd,h2,qaY]
theorem qb2 (k:Nat) (b:Bool) (r:Ru) (l:List Pa) (h:WOk l) (hs:qji r l) (v2 v3 v4 v5 v6 v8:Sl):∀ (ss:List Pr) (s7 s9 s10:Sl),
  ∃ F,yb (pg.kk (k+4)) 1000 (.many [7,9]) zu (ss.map pD) [.val (ruI r),pS b (l.map paD),v2,v3,v4,v5,v6,s7,v8,s9,s10]=.ok F/\(∀ d,JR r l ss=some d->F=.ret (.val (.int d)))/\(JR r l ss=none->∃ s7' s9' s10',F=.next [.val (ruI r),pS b (l.map paD),v2,v3,v4,v5,v6,s7',v8,s9',s10'])
 | [],s7,s9,s10=>⟨_,rfl,fun d e=>(by cases e),fun _=>⟨s7,s9,s10,rfl⟩⟩
 | p::ss,s7,s9,s10=>by
  have a:=qgb (pg:=pg) k b r l h hs p.1 p.2;rw [JR]
  cases e:Yc r l p.1 p.2 with
  | some d0=>rw [e] at a;dsimp only;refine ⟨_,?_,fun d ed=>(by cases ed;rfl),fun q=>(by cases q)⟩;show 1;rw [List.map_cons];simp? only [z7,jd,a,qaY]
  | none=>rw [e] at a;dsimp only;obtain ⟨F,i,c⟩:=qb2 k b r l h hs v2 v3 v4 v5 v6 v8 ss (.val (.int p.1)) (.val (.int p.2)) (.val .non);refine ⟨F,?_,c⟩;show 1;rw [List.map_cons];simp? only [z7,jd,a,qaY,i]
theorem Y3 (k:Nat) (b:Bool) (r:Ru) (L:List Pa) (h:WOk L) (hs:qji r L) (ts:List Int) (ht:ts.length < 8000):∀ (l:List Pa) (c:Bool) (s3 s4 s5 s6 s7 s8 s9 s10:Sl),
  ∃ F,yb (pg.kk (k+4)) 1000 (.many [3,4,5]) zv (l.map paD) [.val (ruI r),pS b (L.map paD),qmf c (ts.map D.int),s3,s4,s5,s6,s7,s8,s9,s10]=.ok F/\(∀ d,yk r L ts l=some d->F=.ret (.val (.int d)))/\(yk r L ts l=none->∃ ρ',F=.next ρ')
 | [],c,s3,s4,s5,s6,s7,s8,s9,s10=>⟨_,rfl,fun d e=>(by cases e),fun _=>⟨_,rfl⟩⟩
 | p::l,c,s3,s4,s5,s6,s7,s8,s9,s10=>by
  have fl:=List.length_filter_le (inB p.1 p.2.1) ts;have t1:=qga (pg.kk (k+4)) p.1 p.2.1 ts [] .no (by simp;omega);have t2:=qlG (pg.kk (k+4)) (ts.filter (inB p.1 p.2.1)) [] .no (by simp;omega);rw [List.map_nil,List.nil_append] at t1 t2;have z:=qg8 (p.1::ts.filter (inB p.1 p.2.1)) ((ts.filter (inB p.1 p.2.1)).map (· - 1)++[p.2.1]);rw [List.map_cons,List.map_append,List.map_cons,List.map_nil] at z;have z0:ts.length<=sizeLine:=qF (1:);have z1:0+1<=sizeLine:=by decide+kernel
  have z2:1+(ts.filter (inB p.1 p.2.1)).length<=sizeLine:=qF (1:);have z3:(ts.filter (inB p.1 p.2.1)).length<=sizeLine:=qF (1:);have z4:(ts.filter (inB p.1 p.2.1)).length+1<=sizeLine:=qF (1:);obtain ⟨G,i,seg⟩:=qb2 (pg:=pg) k b r L h hs (.val (.lst (ts.map D.int))) (.val (.int p.1)) (.val (.int p.2.1)) (.val (.int p.2.2)) (.val (.lst (D.int p.1::(ts.filter (inB p.1 p.2.1)).map D.int))) (.val (.lst (((ts.filter (inB p.1 p.2.1)).map (· - 1)).map D.int++[D.int p.2.1]))) (qg7 p.1 p.2.1 (ts.filter (inB p.1 p.2.1))) s7 s9 s10;rw [show qg7 p.1 p.2.1 (ts.filter (inB p.1 p.2.1))=(p.1::ts.filter (inB p.1 p.2.1)).zip ((ts.filter (inB p.1 p.2.1)).map (· - 1)++[p.2.1]) from rfl] at i seg;rw [yk,show qg7 p.1 p.2.1 (ts.filter (inB p.1 p.2.1))=(p.1::ts.filter (inB p.1 p.2.1)).zip ((ts.filter (inB p.1 p.2.1)).map (· - 1)++[p.2.1]) from rfl]
  cases e:JR r L ((p.1::ts.filter (inB p.1 p.2.1)).zip ((ts.filter (inB p.1 p.2.1)).map (· - 1)++[p.2.1])) with
  | some d0=>rw [seg.1 d0 e] at i;dsimp only;refine ⟨_,?_,fun d ed=>(by cases ed;rfl),fun q=>(by cases q)⟩;show 1;rw [List.map_cons];simp? only [z8,qM,List.length_map,z0,z1,z2,z3,z4,qal,List.getD_cons_succ,List.getD_cons_zero,t1,qeu,t2,z,i]
  | none=>obtain ⟨s7',s9',s10',eG⟩:=seg.2 e;rw [eG] at i;dsimp only;obtain ⟨F,i2,c2⟩:=Y3 k b r L h hs ts ht l false (.val (.int p.1)) (.val (.int p.2.1)) (.val (.int p.2.2)) (.val (.lst (D.int p.1::(ts.filter (inB p.1 p.2.1)).map D.int))) s7' (.val (.lst (((ts.filter (inB p.1 p.2.1)).map (· - 1)).map D.int++[D.int p.2.1]))) s9' s10';refine ⟨F,?_,c2⟩;simp only [qnc,qnd] at i2;show 1;rw [List.map_cons];simp? only [z8,qM,List.length_map,z0,z1,z2,z3,z4,qal,List.getD_cons_succ,List.getD_cons_zero,t1,qeu,t2,z,i,i2]
def qy (r:Ru) (l:List Pa):Option Int:=yk r l (z9 r l) l
theorem qcR (r:Ru) (l:List Pa):(z9 r l).length<=2 * l.length:=by
 unfold z9;split
 ·rw [QI];omega
 ·simp
theorem qev (k:Nat) (b:Bool) (r:Ru) (l:List Pa) (h:WOk l) (hs:qji r l) (hl:l.length < 3900):clK pg (k+5) "first_broken" [.val (ruI r),aL b (l.map paD)]=.ok (.val (qaY (qy r l))):=by
 have t:=qcQ (pg:=pg) (k+3) b r l (1:);obtain ⟨F,i,lp⟩:=Y3 (pg:=pg) k b r l h hs (z9 r l) (by have:=qcR r l;omega) l true .no .no .no .no .no .no .no .no;rw [r_first_broken];unfold qy
 cases e:yk r l (z9 r l) l with
 | some d=>
  rw [lp.1 d e] at i
  try simp only [qcJ,qcK,qnc,qnd] at t i ⊢
  simp? only [je,t,i,qaY]
 | none=>
  obtain ⟨ρ',eF⟩:=lp.2 e;rw [eF] at i
  try simp only [qcJ,qcK,qnc,qnd] at t i ⊢
  simp? only [je,t,i,qaY]
end
end DG
namespace DG
open PySem DE FA Dy
open L2 hiding St
open CH ST SP RU BO BT PC SU FK FM FO
def yL (st:List St) (x:Rl):List Pa:=qu x.1 x.2 st
def Y4 (d:Int):Option (Int×Int×Int)->Bool
 | none=>true
 | some z=>decide (d < z.1)
noncomputable def ym (st:List St):List Rl->Nat->Option (Int×Int×Int)->Option (Int×Int×Int)
 | [],_,f=>f
 | x::l,i,f=>match qy x.1 (yL st x) with
  | none=>ym st l (i+1) f
  | some d=>if Y4 d f=true then ym st l (i+1) (some (d,(i:Int),qaX x.1 (yL st x) d)) else ym st l (i+1) f
structure RlOk (st:List St) (x:Rl):Prop where
 ln:∀ p∈x.1.lands,LnOk p
 w:WOk (yL st x)
 slow:qji x.1 (yL st x)
 lf:x.2.length<=20
section
variable {pg:Pg} [RU pg] [BO pg] [SP pg] [BT pg] [PC pg] [SU pg] [FK pg]
theorem QJ (k:Nat) (b:Bool) (rs:List Ru) (ps:List Pa) (hp:ps.length<=18) (st:List St) (hs:∀ s∈st,NameOk s.1) (hl:st.length<=70):∀ (rest:List Rl) (i:Nat) (f:Option (Int×Int×Int)) (s3 s4 s5 s6:Sl),(∀ (j:Nat) x,rest[j]?=some x->rs[i+j]?=some x.1/\x.2=Yi ((i+j:Nat):Int) ps/\RlOk st x)->
  ∃ ρ',yb (pg.kk (k+6)) 1000 (.many [3,4]) zO (enF i (rest.map fun x=>ruI x.1)) [.val (bkI rs ps),pS b (st.map stD),.val (Qf f),s3,s4,s5,s6]=.ok (.next (.val (bkI rs ps)::pS b (st.map stD)::.val (Qf (ym st rest i f))::ρ'))
 | [],i,f,s3,s4,s5,s6,_=>⟨[s3,s4,s5,s6],rfl⟩
 | x::rest,i,f,s3,s4,s5,s6,h=>by
  obtain ⟨e1,e2,ok⟩:=h 0 x rfl;rw [Nat.add_zero] at e1 e2
  have nxt:∀ (j:Nat) y,rest[j]?=some y->rs[i+1+j]?=some y.1/\y.2=Yi ((i+1+j:Nat):Int) ps/\RlOk st y:=fun j y hy=>by
   have:=h (j+1) y hy
   rwa [show i+(j+1)=i+1+j by omega] at this
  have pl:(yL st x).length < 3900:=by
   have:=Y2 x.1 x.2 st
   have h1:=ok.lf
   have:st.length * (x.2.length+2)<=70 * 22:=Nat.mul_le_mul hl (1:)
   unfold yL;omega
  have p:=qet (pg:=pg) (k+3) b rs ps hp i x.1 e1 ok.ln (by rw [<-e2];exact ok.lf) st hs hl;rw [<-e2] at p;rw [show qu x.1 x.2 st=yL st x from rfl] at p;have br:=qev (pg:=pg) (k+1) true x.1 (yL st x) ok.w ok.slow pl;have three:0+1+1+1<=sizeLine:=by decide+kernel
  simp only [qcJ,qcK] at br;have fw:∀ d,clK pg (k+6) "first_of_window" [.val (ruI x.1),.bor ((yL st x).map paD),.val (.int d)]=.ok (.val (.int (qaX x.1 (yL st x) d))):=fun d=>qg6 (pg:=pg) (k+4) true x.1 (yL st x) d
  obtain ⟨f',ef,X⟩:∃ f',ym st (x::rest) i f=ym st rest (i+1) f'/\∀ {β:Type} (K:Fl->R β) (a b:Sl),(iS (pg.kk (k+6)) 1000 (.ite (.and (.cmp .IsNot (.var 6) (.con D.non)) (.one (.or (.cmp .Is (.var 2) (.con D.non)) (.one (.cmp .Lt (.var 6) (.idx (.var 2) (.con (D.int 0)))))))) %[.set 2 (.tup %[6,3,.call "first_of_window" %[4,5,6|0]|0])|0] .nil) [a,b,.val (Qf f),.val (.int i),.val (ruI x.1),.own ((yL st x).map paD),.val (qaY (qy x.1 (yL st x)))]).th K=K (.next [a,b,.val (Qf f'),.val (.int i),.val (ruI x.1),.own ((yL st x).map paD),.val (qaY (qy x.1 (yL st x)))]):=by
   rw [ym]
   cases e:qy x.1 (yL st x) with
   | none=>exact ⟨f,rfl,fun K a b=>by simp? only [qaY]⟩
   | some d=>
    dsimp only
    cases f with
    | none=>exact ⟨some (d,(i:Int),qaX x.1 (yL st x) d),by rw [show Y4 d none=true from rfl,if_pos rfl],fun K a b=>by simp? only [qaY,Qf,f3D,fw,three]⟩
    | some z=>
     by_cases hc:d < z.1
     ·exact ⟨some (d,(i:Int),qaX x.1 (yL st x) d),by rw [if_pos (by simp [Y4,hc])],fun K a b=>by simp? only [qaY,Qf,f3D,hc,fw,three]⟩
     ·exact ⟨some z,by rw [if_neg (by simp [Y4,hc])],fun K a b=>by simp? only [qaY,Qf,f3D,hc]⟩
  rw [ef];obtain ⟨ρ',ih⟩:=QJ k b rs ps hp st hs hl rest (i+1) f' (.val (.int i)) (.val (ruI x.1)) (.own ((yL st x).map paD)) (.val (qaY (qy x.1 (yL st x)))) nxt;refine ⟨ρ',?_⟩;show 1;rw [List.map_cons,enF];simp? only [↓X,JO,p,br,ih]
end
def yn (rs:List Ru) (ps:List Pa) (st:List St):Option (Int×Int×Int):=ym st (rlF ps 0 rs) 0 none
section
variable {pg:Pg} [RU pg] [BO pg] [SP pg] [BT pg] [PC pg] [SU pg] [FK pg] [FM pg]
theorem Zx (k:Nat) (b:Bool) (rs:List Ru) (ps:List Pa) (hp:ps.length<=18) (st:List St) (hs:∀ s∈st,NameOk s.1) (hl:st.length<=70) (hr:∀ x∈rlF ps 0 rs,RlOk st x) :
  clK pg (k+7) "fault_among" [.val (bkI rs ps),aL b (st.map stD)]=.ok (.val (Qf (yn rs ps st))):=by
 have a:=qbZ (pg:=pg) (k+5) rs ps
 obtain ⟨ρ',i⟩:=QJ (pg:=pg) k b rs ps hp st hs hl (rlF ps 0 rs) 0 none .no .no .no .no (fun j x hx=>by have hm:=List.mem_of_getElem? hx;rw [JL] at hx;obtain ⟨r,e1,e2⟩:=Option.map_eq_some_iff.mp hx;rw [Nat.zero_add];rw [Nat.zero_add] at e2;exact ⟨by rw [e1,<-e2],by rw [<-e2],hr x hm⟩)
 rw [qg2] at i;rw [r_fault_among]
 try simp only [qcJ,qcK,Qf] at i ⊢
 simp? only [Jq,RU.cs,qbY,a,Ze,i,yn]
end
section
variable {pg:Pg} [CH pg] [ST pg] [RU pg] [BO pg] [SP pg] [BT pg] [PC pg] [SU pg] [FK pg] [FM pg] [FO pg]
theorem QK (k:Nat) (b:Bool) (rs:List Ru) (ps:List Pa) (hp:ps.length<=18) (st:List St) (hs:∀ s∈st,NameOk s.1) (hc:Ch (-1) st) (hl:st.length<=60) (hr:∀ x∈rlF ps 0 rs,RlOk st x) :
  clK pg (k+8) "fault_of" [.val (bkI rs ps),aL b (st.map stD)]=.ok (.val (Qf (yn rs ps st))):=by
 have s:=Zi (pg:=pg) (k+2) b st hc hl;have f:=Zx (pg:=pg) k false rs ps hp st hs (1:) hr;rw [r_fault_of]
 try simp only [qcJ,qcK] at s f ⊢
 simp? only [QH,s,f]
end
end DG
namespace FZ
open PySem DE DG Dy FA
open L2 hiding St
open ZA ZW ZN ZS ZR ZT ZP RU
theorem qb3 (z:Str) (i:Nat) (h:i<=z.length):(Txt.slice z none (some (i:Int))).cps.toList=z.cps.toList.take i:=by
 have e:Builtin.Str.strSliceIndices none (some (i:Int)) 1 z.length=(List.range i).map (0 + ·):=by
  have:=sliceRange_one 0 i
  rw [Nat.sub_zero] at this;rw [<-this];unfold Builtin.Str.strSliceIndices;simp only [show (1:Int) > 0 by decide,if_true]
  congr 1
  rw [if_neg (1:)];omega
 unfold Txt.slice;rw [e];split
 ·rename_i hc;simp at hc;rw [hc,List.take_of_length_le (by simp [Str.length])]
 ·show (List.toArray _).toList=_;rw [pick_run];simp
theorem qgc (z:Str) (i:Nat) (h:i<=z.length):(Txt.slice z (some (i:Int)) none).cps.toList=z.cps.toList.drop i:=by
 have e:Builtin.Str.strSliceIndices (some (i:Int)) none 1 z.length=(List.range (z.length - i)).map (i + ·):=by
  rw [<-sliceRange_one i z.length];unfold Builtin.Str.strSliceIndices;simp only [show (1:Int) > 0 by decide,if_true]
  congr 1
  rw [if_neg (1:)];omega
 unfold Txt.slice;rw [e];split
 ·rename_i hc;simp at hc
  have:i=0\/z.length=0:=by omega
  rcases this with q | q
  ·rw [q];simp
  ·have:z.cps.toList=[]:=by simpa [Str.length] using q
   rw [this];simp
 ·show (List.toArray _).toList=_;rw [pick_run,List.take_of_length_le (by simp [Str.length])]
section
variable {pg:Pg} [ZA pg]
theorem qlH (k:Nat) (ns:List Int) (i:Nat):clK pg (k+1) "_law_at" [.scr (ns.map D.int),.val (.int (i:Int))]=.ok (.val (.int (zM ns i))):=by
 rw [r__law_at]
 by_cases h:i < ns.length
 ·have h1:(i:Int) < ((ns.map D.int).length:Int):=by rw [List.length_map];omega
  have h2:atI (ns.map D.int) (i:Int)=some (.int (zM ns i)):=qfX (by simp [h,zM]);simp? only [YW,Nat.reduceAdd,Nat.reduceSub,h1,h2,decide_true]
 ·have h1:¬ (i:Int) < ((ns.map D.int).length:Int):=by rw [List.length_map];omega
  have h2:zM ns i=0:=by simp [zM,h]
  simp? only [YW,Nat.reduceAdd,Nat.reduceSub,h1,h2,decide_false]
end
def qmg (z:Str):Prop:=∀ c∈z.cps.toList,yY c
theorem qaA (cl:Cl) (v0 v2:Sl):∀ (n:Nat) (j:Int) (m:Int) (z:Str) (s4:Sl),z.cps.size+n<=8->qmg z->∃ (z':Str) (m':Int) (s4':Sl),yb cl 1000 (.one 4) jJ (rgF j n) [v0,.val (.int m),v2,.val (.str z),s4]=.ok (.next [v0,.val (.int m'),v2,.val (.str z'),s4'])/\z'.cps.size=z.cps.size+n/\qmg z'
 | 0,j,m,z,s4,_,h=>⟨z,m,s4,rfl,rfl,h⟩
 | n+1,j,m,z,s4,hn,h=>by
  obtain ⟨h1,hl⟩:=qlC (m % 26) (Int.emod_nonneg _ (2:)) (Int.emod_lt_of_pos _ (2:));generalize 97+(m % 26).toNat=c at h1 hl
  obtain ⟨z',m',s4',ih,i1,i2⟩:=qaA cl v0 v2 n (j+1) (m / 26) (z++(⟨#[c]⟩:Str)) (.val (.int j)) (by rw [Zj];omega) (fun x hx=>by
   rw [qf1] at hx;rcases List.mem_append.mp hx with q | q
   ·exact h x q
   ·rw [List.mem_singleton.mp q];exact hl)
  refine ⟨z',m',s4',?_,by rw [i1,Zj];omega,i2⟩
  have hs:z.length+(⟨#[c]⟩:Str).length<=sizeLine:=by show z.cps.size+1<=2 ^ 24;omega
  have h26:("abcdefghijklmnopqrstuvwxyz" : Str).length<=sizeLine:=by decide+kernel
  show 1;rw [rgF];simp? only [YX,h1,hs,h26,ih]
theorem qiQ {pg:Pg} [ZW pg] (k:Nat) (c:Int):∃ z:Str,clK pg (k+1) "_law_word" [.val (.int c)]=.ok (.val (.str z))/\1<=z.cps.size/\z.cps.size<=7/\qmg z:=by
 have mul:Q7 c 1099087573=true:=J6 (2:) (2:);generalize hN:c * 1099087573 % 10000000000037=n;have a0:0<=n % 7:=Int.emod_nonneg _ (2:);have a1:n % 7 < 7:=Int.emod_lt_of_pos _ (2:);obtain ⟨m,em⟩:∃ m:Nat,1+n % 7=(m:Int):=⟨(1+n % 7).toNat,by omega⟩;have e0:("" : Str).cps.size=0:=by decide+kernel
 obtain ⟨z,m',s4,e,e1,e2⟩:=qaA (pg.kk k) (.val (.int c)) (.val (.int (m:Int))) m 0 (n / 7) "" .no (1:) (fun x hx=>by rw [show ("" : Str).cps.toList=[] by decide+kernel] at hx;cases hx)
 refine ⟨z,?_,by omega,by omega,e2⟩
 have sm:qO (m:Int)=true:=by unfold qO;simp;omega
 rw [r__law_word];simp? only [YY,mul,hN,em,sm,Jf,Int.sub_zero,Int.toNat_natCast,e]
noncomputable def Qm (z:Str) (a c:Nat):Str:=Txt.slice z none (some (a:Int))++(⟨#[c]⟩:Str)++Txt.slice z (some (a:Int)) none
theorem qew (x y:Str):(x++y).cps.toList=x.cps.toList++y.cps.toList:=by show (x.cps++y.cps).toList=_;simp
theorem jz {z:Str} {a:Nat} (h:a<=z.length) (c:Nat):(Qm z a c).cps.toList=z.cps.toList.take a++c::z.cps.toList.drop a:=by unfold Qm;rw [qew,qew,qb3 z a h,qgc z a h];simp
theorem QL {z:Str} {a:Nat} (h:a<=z.length) (c:Nat):(Qm z a c).cps.size=z.cps.size+1:=by have h':a<=z.cps.size:=h;rw [<-Array.length_toList,jz h];simp;omega
theorem qgd {z:Str} {a:Nat} (h:a<=z.length) (h7:z.cps.size<=7) (hl:qmg z) {c:Nat} (hc:yY c):NameOk (Qm z a c):=by
 refine ⟨by rw [QL h];omega,by rw [QL h];omega,fun x hx=>?_⟩;rw [jz h] at hx;rcases List.mem_append.mp hx with q | q
 ·exact hl x (List.mem_of_mem_take q)
 ·rcases List.mem_cons.mp q with q | q
  ·rw [q];exact hc
  ·exact hl x (List.mem_of_mem_drop q)
theorem qex {z:Str} {a:Nat} (h:a<=z.length) {c c':Nat} (e:Qm z a c=Qm z a c'):c=c':=by
 have e1:=congrArg (fun x:Str=>x.cps.toList) e;rw [jz h,jz h] at e1
 have:=List.append_cancel_left e1
 exact (List.cons.inj this).1
theorem QM (cl:Cl) (z:Str) (a:Nat) (ha:a<=z.length) (h7:z.cps.size<=7):∀ (cs:List Nat) (acc:List Str) (s0:Sl),acc.length+cs.length < 10000->zk cl jf (.one 0) .yes (cs.map fun c=>D.str ⟨#[c]⟩) [s0,.val (.str z),.val (.int (a:Int))] (acc.map D.str)=.ok ((acc++cs.map (Qm z a)).map D.str)
 | [],acc,s0,_=>by simp [qL]
 | c::cs,acc,s0,hl=>by
  rw [List.length_cons] at hl;have hs:(acc.map D.str).length < sizeLine:=by rw [List.length_map];exact qE (1:)
  have hz:z.length<=sizeLine:=by show z.cps.size<=2 ^ 24;omega
  have l1:(Txt.slice z none (some (a:Int))).length<=z.length:=Txt.slice_le _ _ _;have l2:(Txt.slice z (some (a:Int)) none).length<=z.length:=Txt.slice_le _ _ _;have h7':z.length<=7:=h7
  have s1:(Txt.slice z none (some (a:Int))).length+(⟨#[c]⟩:Str).length<=sizeLine:=by
   have:(⟨#[c]⟩:Str).length=1:=rfl
   show _<=2 ^ 24;omega
  have s2:(Txt.slice z none (some (a:Int))++(⟨#[c]⟩:Str)).length+(Txt.slice z (some (a:Int)) none).length<=sizeLine:=by
   have:(Txt.slice z none (some (a:Int))++(⟨#[c]⟩:Str)).length=(Txt.slice z none (some (a:Int))).length+1:=Zj _ _
   show _<=2 ^ 24;omega
  have ih:=QM cl z a ha h7 cs (acc++[Qm z a c]) (.val (.str ⟨#[c]⟩)) (by simp;omega);simp only [List.map_append,List.map_cons,List.map_nil,List.append_assoc,List.cons_append,List.nil_append,Qm] at ih ⊢;show 1;simp? only [Yj,hs,hz,s1,s2,ih]
theorem qge (n:Nat) (h:n<=4):qaV (Txt.slice "kcxq" none (some (n:Int)))=(([107,99,120,113]:List Nat).take n).map fun c=>D.str ⟨#[c]⟩:=by unfold qaV;rw [qb3 _ _ (by show n<=("kcxq" : Str).length;rw [show ("kcxq" : Str).length=4 by decide+kernel];exact h),show ("kcxq" : Str).cps.toList=[107,99,120,113] by decide+kernel]
theorem qgf {pg:Pg} [ZW pg] [ZN pg] (k:Nat) (c:Int) (n:Nat) (hn:2<=n/\n<=4):∃ zs:List Str,clK pg (k+2) "_law_names" [.val (.int c),.val (.int (n:Int))]=.ok (.tmp (zs.map D.str))/\zs.length=n/\NamesOk zs/\∀ y∈zs,∃ c∈([107,99,120,113]:List Nat),c∈y.cps.toList:=by
 obtain ⟨z,hw,h1,h7,hl⟩:=qiQ (pg:=pg) k c;have hp:(0:Int) < (z.length:Int)+1:=by omega
 obtain ⟨a,ea⟩:∃ a:Nat,c % ((z.length:Int)+1)=(a:Int):=⟨(c % ((z.length:Int)+1)).toNat,by have:=Int.emod_nonneg c (show (z.length:Int)+1≠0 by omega);omega⟩;have ha:a<=z.length:=by have:=Int.emod_lt_of_pos c hp;omega
 have hz:z.length<=sizeLine:=by show z.cps.size<=2 ^ 24;omega
 have cs:=QM (pg.kk (k+1)) z a ha h7 (([107,99,120,113]:List Nat).take n) [] .no (by simp;omega);rw [List.map_nil,List.nil_append] at cs;have hk:("kcxq" : Str).length<=sizeLine:=by decide+kernel
 have let4:∀ x∈([107,99,120,113]:List Nat).take n,yY x:=fun x hx=>by
  have:=List.mem_of_mem_take hx
  unfold yY;simp at this;omega
 refine ⟨(([107,99,120,113]:List Nat).take n).map (Qm z a),?_,by simp;omega,⟨by simp;omega,by simp;omega,fun y hy=>?_,fun i j y hi hj=>?_⟩,fun y hy=>?_⟩
 ·have sig:=qge n hn.2;rw [r__law_names];have hs4:((([107,99,120,113]:List Nat).take n).map fun c=>D.str ⟨#[c]⟩).length<=sizeLine:=qF (by simp;omega);simp? only [J9,hw,hz,hp,ea,hk,sig,hs4,qal,List.getD_cons_succ,List.getD_cons_zero,cs]
 ·obtain ⟨x,hx,rfl⟩:=List.mem_map.mp hy;exact qgd ha h7 hl (let4 x hx)
 ·rw [List.getElem?_map] at hi hj;obtain ⟨x,hx,ex⟩:=Option.map_eq_some_iff.mp hi;obtain ⟨x',hx',ex'⟩:=Option.map_eq_some_iff.mp hj;have e:=qex ha (ex.trans ex'.symm);subst e;have nd:(([107,99,120,113]:List Nat).take n).Nodup:=(List.take_sublist n _).nodup (2:);exact (List.getElem?_inj (List.getElem?_eq_some_iff.mp hx).1 nd).mp (hx.trans hx'.symm)
 ·obtain ⟨x,hx,rfl⟩:=List.mem_map.mp hy;exact ⟨x,List.mem_of_mem_take hx,by rw [jz ha];simp⟩
end FZ
namespace FZ
open PySem DE DG Dy FA
open L2 hiding St
open ZA ZW ZN ZS ZR ZT ZP RU
def kw:Kd->Int
 | .wi=>0
 | .si=>1
 | .ro=>2
def spD (r:Ru):D:=.tup [.int (kw r.kd),.lst (r.lands.map lnD),.int r.most,.int r.days]
theorem qg9 (r:Ru):spD r=.tup [.int (kw r.kd),.lst (r.lands.map lnD),.int r.most,.int r.days]:=rfl
def mkR (r:Ru):Ru:=match r.kd with
 | .ro=>{ r with days:=1 }
 | _=>r
structure SpOk (r:Ru):Prop where
 nd:(r.lands.map (·.1)).Nodup
 l1:1<=r.lands.length
 l6:r.lands.length<=6
 ok:∀ p∈r.lands,LnOk p
 m0:0<=r.most
 m1:r.most<=1000000000
 d0:1<=r.days
 d1:r.days<=1000000000
theorem SpOk.lands {r:Ru} (h:SpOk r):qJ (r.lands.map lnD)=true:=qcO h.ok h.nd h.l1 h.l6
theorem qha (r:Ru):(mkR r).lands=r.lands:=by obtain ⟨kd,_,_,_⟩:=r;cases kd<;>rfl
theorem Ju (r:Ru):(mkR r).most=r.most:=by obtain ⟨kd,_,_,_⟩:=r;cases kd<;>rfl
theorem qgg (r:Ru):(mkR r).days=match r.kd with | .ro=>1 | _=>r.days:=by obtain ⟨kd,_,_,_⟩:=r;cases kd<;>rfl
theorem qlI {r:Ru} (h:SpOk r):(∀ p∈(mkR r).lands,LnOk p)/\1<=(mkR r).days/\0<=(mkR r).most:=by
 have h1:=h.d0;refine ⟨by rw [qha];exact h.ok,?_,by rw [Ju];exact h.m0⟩;rw [qgg]
 split<;>omega
theorem qlJ (n:Int):∃ kd:Kd,n % 3=kw kd:=by
 have h0:0<=n % 3:=Int.emod_nonneg _ (2:);have h1:n % 3 < 3:=Int.emod_lt_of_pos _ (2:)
 by_cases a:n % 3=0
 ·exact ⟨.wi,a⟩
 ·by_cases b:n % 3=1
  ·exact ⟨.si,b⟩
  ·exact ⟨.ro,by show n % 3=2;omega⟩
theorem qiR {pg:Pg} [ZS pg] (k:Nat) (g:Bool) (c:Int) (zs:List Str) (hz:NamesOk zs):∃ r:Ru,SpOk r/\(r.most<=10000000/\∀ p∈r.lands,p.1∈zs)/\clK pg (k+1) "_law_spec" [.val (.int c),.bor (zs.map D.str),.val (.bl g)]=.ok (.val (spD r)):=by
 have two:=hz.two;have four:=hz.four;have hL:(0:Int) < (zs.length:Int):=by omega
 have mul:Q7 c 48271=true:=J6 (2:) (2:);have mul2:Q7 c 16807=true:=J6 (2:) (2:);generalize hN:c * 48271 % 2147483647=n;have hn:0<=n:=by rw [<-hN];exact Int.emod_nonneg _ (2:)
 obtain ⟨z1,e1,f1⟩:=Zk (zs:=zs) (n % (zs.length:Int)) (Int.emod_nonneg _ (1:)) (Int.emod_lt_of_pos _ hL);obtain ⟨z2,e2,f2⟩:=Zk (zs:=zs) ((n+1) % (zs.length:Int)) (Int.emod_nonneg _ (1:)) (Int.emod_lt_of_pos _ hL);have w1:LnOk (z1,1+n / 4 % 3):=⟨hz.ok _ (List.mem_of_getElem? f1),by dsimp only;omega,by dsimp only;omega⟩;have w2:LnOk (z2,1+n / 24 % 9):=⟨hz.ok _ (List.mem_of_getElem? f2),by dsimp only;omega,by dsimp only;omega⟩
 have lns:Lns zs n [(z1,1+n / 4 % 3),(z2,1+n / 24 % 9)]:=fun i p hp=>by
  match i with
  | 0=>simp at hp;subst hp;exact ⟨by simpa using f1,w1⟩
  | 1=>simp at hp;subst hp;exact ⟨by simpa using f2,w2⟩
  | i+2=>simp at hp
 have nd2:=lns.nodup hz (by simpa using two);obtain ⟨kd,ek⟩:=qlJ (n / 162000)
 have lands:∃ l:List (Str×Int),(∀ p∈l,LnOk p)/\((l.map (·.1)).Nodup/\1<=l.length/\l.length<=6)/\(((n / 12 % 2 == 1)=true/\l=[(z1,1+n / 4 % 3),(z2,1+n / 24 % 9)])\/((n / 12 % 2 == 1)=false/\l=[(z1,1+n / 4 % 3)])):=by
  cases q:(n / 12 % 2 == 1) with
  | true=>
   have ok:∀ p∈[(z1,1+n / 4 % 3),(z2,1+n / 24 % 9)],LnOk p:=fun p hp=>by
    rcases List.mem_cons.mp hp with rfl | hp
    ·exact w1
    ·rw [List.mem_singleton.mp hp];exact w2
   exact ⟨_,ok,⟨nd2,by simp,by simp⟩,.inl ⟨rfl,rfl⟩⟩
  | false=>
   have ok:∀ p∈[(z1,1+n / 4 % 3)],LnOk p:=fun p hp=>by rw [List.mem_singleton.mp hp];exact w1
   exact ⟨_,ok,⟨by simp,by simp,by simp⟩,.inr ⟨rfl,rfl⟩⟩
 obtain ⟨l,lok,lnd,hl⟩:=lands
 have lz:∀ p∈l,p.1∈zs:=by
  have q1:=List.mem_of_getElem? f1;have q2:=List.mem_of_getElem? f2;rcases hl with ⟨_,rfl⟩ | ⟨_,rfl⟩
  ·intro p hp;rcases List.mem_cons.mp hp with rfl | hp
   ·exact q1
   ·rw [List.mem_singleton.mp hp];exact q2
  ·intro p hp;rw [List.mem_singleton.mp hp];exact q1
 have s1:0+1+1<=sizeLine:=by decide+kernel
 have s0:0+1<=sizeLine:=by decide+kernel
 have s4:0+1+1+1+1<=sizeLine:=by decide+kernel
 have sa:0+1 < sizeLine:=by decide+kernel
 have gt:(1:Int) < (zs.length:Int):=by omega
 have p7:(10:Int) ^ (7:Int).toNat=10000000:=by decide
 have p9:(10:Int) ^ (9:Int).toNat=1000000000:=by decide
 have c7:(0:Int)<=7/\(7:Int)<=1000000/\(10:Int).natAbs < 2 ^ 64:=by decide
 have c9:(0:Int)<=9/\(9:Int)<=1000000/\(10:Int).natAbs < 2 ^ 64:=by decide
 cases g with
 | false=>refine ⟨⟨kd,l,n / 216 % 25,1+n / 5400 % 30⟩,⟨lnd.1,lnd.2.1,lnd.2.2,lok,by dsimp only;omega,by dsimp only;omega,by dsimp only;omega,by dsimp only;omega⟩,⟨by dsimp only;omega,lz⟩,?_⟩;rw [r__law_spec];rcases hl with ⟨q,rfl⟩ | ⟨q,rfl⟩<;>simp? only [y7,YO,mul,hN,hL,e1,e2,qx,q,gt,s0,s1,s4,sa,qg9,qbW,ek,List.map_cons,List.map_nil]
 | true=>
  obtain ⟨w,hw,ew⟩:∃ w:Int,(w=10000000\/w=1000000000)/\atI [D.int 10000000,D.int 1000000000] (c % 8 / 7)=some (.int w):=by
   have h0:0<=c % 8:=Int.emod_nonneg _ (2:);have h1:c % 8 < 8:=Int.emod_lt_of_pos _ (2:)
   by_cases z:c % 8 / 7=0
   ·exact ⟨_,.inl rfl,by rw [z];rfl⟩
   ·exact ⟨_,.inr rfl,by rw [show c % 8 / 7=1 by omega];rfl⟩
  have wp:0 < w:=by omega
  have m0:0<=c % 10000000:=Int.emod_nonneg _ (2:);have m1:c % 10000000 < 10000000:=Int.emod_lt_of_pos _ (2:);have d0:0<=c * 16807 % 2147483629 % w:=Int.emod_nonneg _ (1:);have d1:c * 16807 % 2147483629 % w < w:=Int.emod_lt_of_pos _ wp;refine ⟨⟨kd,l,c % 10000000,1+c * 16807 % 2147483629 % w⟩,⟨lnd.1,lnd.2.1,lnd.2.2,lok,m0,by dsimp only;omega,by dsimp only;omega,by dsimp only;omega⟩,⟨by dsimp only;omega,lz⟩,?_⟩;rw [r__law_spec];rcases hl with ⟨q,rfl⟩ | ⟨q,rfl⟩<;>simp? only [y7,YO,mul,mul2,hN,hL,e1,e2,qx,q,gt,s0,s1,s4,sa,p7,p9,c7,c9,ew,wp,qg9,qbW,ek,List.map_cons,List.map_nil]
theorem at3 (a b c d:D):atI [a,b,c,d] (3:Int)=some d:=(rfl)
theorem qiS {pg:Pg} [RU pg] [ZR pg] (k:Nat) (r:Ru) (h:SpOk r):clK pg (k+13) "_law_rule" [.val (spD r)]=.ok (.val (ruI (mkR r))):=by
 have hl:=h.lands;have h0:=h.m0;have h1:=h.m1;have h2:=h.d0;have h3:=h.d1;have hm:btw r.most 0 1000000000=true:=by unfold btw;simp;omega
 have hd:btw r.days 1 1000000000=true:=by unfold btw;simp;omega
 obtain ⟨kd,lands,most,days⟩:=r;dsimp only at hl hm hd;rw [r__law_rule]
 cases kd with
 | wi=>
  have e:pg.nw (k+12) "Within" [.val (.lst (lands.map lnD)),.val (.int most),.val (.int days)]=.ok (.val (ruI ⟨.wi,lands,most,days⟩)):=by rw [RU.nw];show (if k+12 < 12 then R.no else qcN "Within" (if (qJ (lands.map lnD)&&btw most 0 1000000000&&btw days 1 1000000000)=true then _ else none))=_;rw [if_neg Zp,if_pos (by rw [hl,hm,hd];rfl)];rfl
  simp? only [jK,spD,kw,mkR,qx,show ((0:Int) == 0)=true by decide,at3,e]
 | si=>
  have e:pg.nw (k+12) "Since" [.val (.lst (lands.map lnD)),.val (.int most),.val (.int days)]=.ok (.val (ruI ⟨.si,lands,most,days⟩)):=by rw [RU.nw];show (if k+12 < 12 then R.no else qcN "Since" (if (qJ (lands.map lnD)&&btw most 0 1000000000&&btw days 1 1000000000)=true then _ else none))=_;rw [if_neg Zp,if_pos (by rw [hl,hm,hd];rfl)];rfl
  simp? only [jK,spD,kw,mkR,qx,show ((1:Int) == 0)=false by decide,show ((1:Int) == 1)=true by decide,at3,e]
 | ro=>
  have e:pg.nw (k+12) "InRow" [.val (.lst (lands.map lnD)),.val (.int most)]=.ok (.val (ruI ⟨.ro,lands,most,1⟩)):=by rw [RU.nw];show (if k+12 < 12 then R.no else qcN "InRow" (if (qJ (lands.map lnD)&&btw most 0 1000000000)=true then _ else none))=_;rw [if_neg Zp,if_pos (by rw [hl,hm];rfl)];rfl
  simp? only [jK,spD,kw,mkR,qx,show ((2:Int) == 0)=false by decide,show ((2:Int) == 1)=false by decide,e]
end FZ
namespace FZ
open PySem DE DG Dy FA
open L2 hiding St
open ZA ZW ZN ZS ZR ZT ZP RU
theorem qhb (a b:Int):a<=mx a b/\b<=mx a b/\(mx a b=a\/mx a b=b):=by
 unfold mx
 split<;>omega
theorem p6:(10:Int) ^ (6:Int).toNat=1000000:=by decide
theorem c6:(0:Int)<=6/\(6:Int)<=1000000/\(10:Int).natAbs < 2 ^ 64:=by decide
def wd (g:Bool):Int:=if g=true then 5000000 else 25
theorem qlK (g:Bool):25<=wd g/\(g=true->5000000<=wd g)/\wd g<=5000000:=by cases g<;>simp [wd]
theorem jr (cl:Cl) (v0:Sl) (g:Bool) (zs:List Str) (hz:NamesOk zs):∀ (cs:List Int) (acc:List St) (day:Int) (s5 s6 s7 s8:Sl),acc.length+cs.length < 10000->0<=day->day+wd g * (cs.length:Int)<=1000000000->
  ∃ (l:List St) (ρ':List Sl),yb cl 1000 (.one 5) jg (cs.map D.int) [v0,.bor (zs.map D.str),.val (.bl g),.val (.int day),.own (acc.map stD),s5,s6,s7,s8]=.ok (.next (v0::.bor (zs.map D.str)::.val (.bl g)::(ρ'.headD .no)::.own ((acc++l).map stD)::ρ'.tail))/\Ch (day - 1) l/\l.length=cs.length/\(∀ s∈l,s.1∈zs/\s.2.2 < day+wd g * (cs.length:Int))
 | [],acc,day,s5,s6,s7,s8,_,_,_=>⟨[],.val (.int day)::[s5,s6,s7,s8],by simp [zX],trivial,rfl,fun s h=>(by cases h)⟩
 | c::cs,acc,day,s5,s6,s7,s8,hl,h0,h1=>by
  rw [List.length_cons] at hl h1;have e5:wd g * ((cs.length+1:Nat):Int)=wd g * (cs.length:Int)+wd g:=by rw [show ((cs.length+1:Nat):Int)=(cs.length:Int)+1 from rfl,Int.mul_add,Int.mul_one]
  have w0:=qlK g;have w2:0<=wd g * (cs.length:Int):=Int.mul_nonneg (1:) (1:);rw [e5] at h1;have hL:(0:Int) < (zs.length:Int):=by have:=hz.two;omega
  have mul:Q7 c 69621=true:=J6 (2:) (2:);generalize hN:c * 69621 % 2147483647=n;have hn:0<=n:=by rw [<-hN];exact Int.emod_nonneg _ (2:)
  obtain ⟨z,e1,e2⟩:=Zk (zs:=zs) (n / 840 % (zs.length:Int)) (Int.emod_nonneg _ (1:)) (Int.emod_lt_of_pos _ hL);have hzm:z∈zs:=List.mem_of_getElem? e2;have hs:(acc.map stD).length < sizeLine:=by rw [List.length_map];exact qE (1:)
  have three:0+1+1+1<=sizeLine:=by decide+kernel
  have a0:0<=c % 2:=Int.emod_nonneg _ (2:);have a1:c % 2 < 2:=Int.emod_lt_of_pos _ (2:);have b0:0<=c % 1000000:=Int.emod_nonneg _ (2:);have b1:c % 1000000 < 1000000:=Int.emod_lt_of_pos _ (2:);have mul2:Q7 (c % 2) 1000000=true:=J6 (2:) (2:);have mul3:Q7 (n / 360 % 2) 1000000=true:=J6 (2:) (2:)
  obtain ⟨f,t,⟨g1,g2,g3⟩,A⟩:∃ f t:Int,(day<=f/\f<=t/\t < day+wd g)/\∀ {β:Type} (K:Fl->R β),(iS cl 1000 (.ite (.and (.val (.var 2)) (.one (.cmp .Eq (.bin .Mod (.bin .FloorDiv (.var 6) (.con (D.int 120))) (.con (D.int 3))) (.con (D.int 1))))) %[.set 7 (.bin .Add (.bin .Add (.var 7) (.bin .Mult (.bin .Mod (.var 5) (.con (D.int 2))) (.bin .Pow (.con (D.int 10)) (.con (D.int 6))))) (.bin .Mod (.bin .FloorDiv (.var 6) (.con (D.int 360))) (.bin .Pow (.con (D.int 10)) (.con (D.int 6))))),.set 8 (.bin .Add (.bin .Add (.var 7) (.bin .Mult (.bin .Mod (.bin .FloorDiv (.var 6) (.con (D.int 360))) (.con (D.int 2))) (.bin .Pow (.con (D.int 10)) (.con (D.int 6))))) (.bin .Mod (.var 5) (.bin .Pow (.con (D.int 10)) (.con (D.int 6)))))|0] .nil) [v0,.bor (zs.map D.str),.val (.bl g),.val (.int day),.own (acc.map stD),.val (.int c),.val (.int n),.val (.int (day+n % 10)),.val (.int (day+n % 10+n / 10 % 12))]).th K=K (.next [v0,.bor (zs.map D.str),.val (.bl g),.val (.int day),.own (acc.map stD),.val (.int c),.val (.int n),.val (.int f),.val (.int t)]):=by
   cases hg:g with
   | false=>rw [hg] at w0;exact ⟨day+n % 10,day+n % 10+n / 10 % 12,⟨by omega,by omega,by omega⟩,fun K=>by simp? only [qx]⟩
   | true=>
    rw [hg] at w0;have w1:=w0.2.1 rfl
    cases hq:(n / 120 % 3 == 1) with
    | true=>exact ⟨day+n % 10+c % 2 * 1000000+n / 360 % 1000000,day+n % 10+c % 2 * 1000000+n / 360 % 1000000+n / 360 % 2 * 1000000+c % 1000000,⟨by omega,by omega,by omega⟩,fun K=>by simp? only [mul2,mul3,qx,hq,p6,c6]⟩
    | false=>exact ⟨day+n % 10,day+n % 10+n / 10 % 12,⟨by omega,by omega,by omega⟩,fun K=>by simp? only [qx,hq]⟩
  obtain ⟨l,ρ',i0,i1,i2,i3⟩:=jr cl v0 g zs hz cs (acc++[(z,f,t)]) (t+1) (.val (.int c)) (.val (.int n)) (.val (.int f)) (.val (.int t)) (by simp;omega) (1:) (1:);refine ⟨(z,f,t)::l,ρ',?_,⟨⟨hz.ok z hzm,by dsimp only;omega,g2,by dsimp only;omega⟩,by rw [show t+1 - 1=t by omega] at i1;exact i1⟩,by rw [List.length_cons,i2,List.length_cons],fun s hs=>?_⟩
  ·rw [show acc++(z,f,t)::l=acc++[(z,f,t)]++l by simp];simp only [List.map_append,List.map_cons,List.map_nil,J5] at i0 ⊢;show 1;simp? only [↓A,Yk,mul,hN,e1,YO,hL,three,hs,i0]
  ·rw [List.length_cons,e5];rcases List.mem_cons.mp hs with rfl | hs
   ·exact ⟨hzm,by dsimp only;omega⟩
   ·have:=(i3 s hs).2
    exact ⟨(i3 s hs).1,by omega⟩
theorem qgh {pg:Pg} [ZT pg] (k:Nat) (g:Bool) (cs:List Int) (hl:cs.length < 1000) (zs:List Str) (hz:NamesOk zs) (day:Int) (h0:0<=day) (h1:day+wd g * (cs.length:Int)<=1000000000) :
  ∃ l:List St,clK pg (k+1) "_law_stays" [.val (.lst (cs.map D.int)),.bor (zs.map D.str),.val (.bl g),.val (.int day)]=.ok (.tmp (l.map stD))/\Ch (day - 1) l/\l.length=cs.length/\(∀ s∈l,s.1∈zs/\s.2.2 < day+wd g * (cs.length:Int)):=by
 obtain ⟨l,ρ',e,e1,e2,e3⟩:=jr (pg.kk k) (.val (.lst (cs.map D.int))) g zs hz cs [] day .no .no .no .no (by simp;omega) h0 h1;refine ⟨l,?_,e1,e2,e3⟩;rw [List.map_nil,List.nil_append] at e;rw [r__law_stays];simp? only [Yb,show (0:Nat)<=sizeLine by decide+kernel,e]
theorem Zi {pg:Pg} [ZT pg] (k:Nat) (g:Bool) (cs:List Int) (hl:cs.length < 1000) (zs:List Str) (hz:NamesOk zs) (day:Int) (h0:0<=day) (h1:day+5000000 * (cs.length:Int)<=1000000000) :
  ∃ l:List St,clK pg (k+1) "_law_stays" [.val (.lst (cs.map D.int)),.bor (zs.map D.str),.val (.bl g),.val (.int day)]=.ok (.tmp (l.map stD))/\Ch (day - 1) l/\l.length=cs.length/\(∀ s∈l,s.1∈zs/\s.2.2 < day+5000000 * (cs.length:Int)):=by
 have w:=qlK g;have m:wd g * (cs.length:Int)<=5000000 * (cs.length:Int):=Int.mul_le_mul_of_nonneg_right w.2.2 (1:);obtain ⟨l,e,e1,e2,e3⟩:=qgh (pg:=pg) k g cs hl zs hz day h0 (1:);exact ⟨l,e,e1,e2,fun s hs=>⟨(e3 s hs).1,by have:=(e3 s hs).2;omega⟩⟩
structure PpOk (m:Int) (p:Pa):Prop where
 o0:0<=p.1
 o1:p.1 < m
 a0:0<=p.2.1
 ab:p.2.1<=p.2.2
 b1:p.2.2<=1000000000
theorem zL (cl:Cl) (v0:Sl) (m long day:Int) (hm:0 < m) (h0:0<=day) (hl0:0<=long) (hl1:day+2 * long<=999999990):∀ (cs:List Int) (acc:List Pa) (s5 s6 s7:Sl),acc.length+cs.length < 10000->
  ∃ (l:List Pa) (ρ':List Sl),yb cl 1000 (.one 5) zP (cs.map D.int) [v0,.val (.int m),.val (.int day),.val (.int long),.own (acc.map paD),s5,s6,s7]=.ok (.next (v0::.val (.int m)::.val (.int day)::.val (.int long)::.own ((acc++l).map paD)::ρ'))/\l.length=cs.length/\∀ p∈l,PpOk m p/\p.2.2<=day+2 * long+10
 | [],acc,s5,s6,s7,_=>⟨[],[s5,s6,s7],by simp [zX],rfl,fun s h=>(by cases h)⟩
 | c::cs,acc,s5,s6,s7,hl=>by
  rw [List.length_cons] at hl;have mul:Q7 c 16807=true:=J6 (2:) (2:);generalize hN:c * 16807 % 2147483629=n;have hn:0<=n:=by rw [<-hN];exact Int.emod_nonneg _ (2:)
  have hx:(0:Int) < mx 1 long:=by have:=qhb 1 long;omega
  have hx2:mx 1 long<=long+1:=by have:=qhb 1 long;omega
  have hq:(0:Int) < 1+long / 4:=by omega
  have a0:0<=n / 8 % mx 1 long:=Int.emod_nonneg _ (1:);have a1:n / 8 % mx 1 long < mx 1 long:=Int.emod_lt_of_pos _ hx;have b0:0<=n / 64 % (1+long / 4):=Int.emod_nonneg _ (1:);have b1:n / 64 % (1+long / 4) < 1+long / 4:=Int.emod_lt_of_pos _ hq;have o0:0<=n % m:=Int.emod_nonneg _ (1:);have o1:n % m < m:=Int.emod_lt_of_pos _ hm;obtain ⟨l,ρ',i0,i1,i2⟩:=zL cl v0 m long day hm h0 hl0 hl1 cs (acc++[(n % m,day+n / 8 % mx 1 long,day+n / 8 % mx 1 long+n / 64 % (1+long / 4))]) (.val (.int c)) (.val (.int n)) (.val (.int (day+n / 8 % mx 1 long))) (by simp;omega);refine ⟨(n % m,day+n / 8 % mx 1 long,day+n / 8 % mx 1 long+n / 64 % (1+long / 4))::l,ρ',?_,by rw [List.length_cons,i1,List.length_cons],fun p hp=>?_⟩
  ·have hs:(acc.map paD).length < sizeLine:=by rw [List.length_map];exact qE (1:)
   have three:0+1+1+1<=sizeLine:=by decide+kernel
   have mxr:(if long > 1 then long else 1)=mx 1 long:=rfl;simp only [List.map_append,List.map_cons,List.map_nil,List.append_assoc,List.cons_append,List.nil_append,qM] at i0 ⊢;show 1;simp? only [JP,mul,hN,hm,hx,hq,three,hs,mxr,i0]
  ·rcases List.mem_cons.mp hp with rfl | hp
   ·exact ⟨⟨o0,o1,by dsimp only;omega,by dsimp only;omega,by dsimp only;omega⟩,by dsimp only;omega⟩
   ·exact i2 p hp
theorem qey {pg:Pg} [ZP pg] (k:Nat) (b:Bool) (m long day:Int) (hm:0 < m) (h0:0<=day) (hl0:0<=long) (hl1:day+2 * long<=999999990) (cs:List Int) (hl:cs.length < 1000) :
  ∃ l:List Pa,clK pg (k+1) "_law_papers" [.val (.lst (cs.map D.int)),.val (.int m),.val (.int day),.val (.int long)]=.ok (.tmp (l.map paD))/\l.length=cs.length/\∀ p∈l,PpOk m p/\p.2.2<=day+2 * long+10:=by
 obtain ⟨l,ρ',e,e1,e2⟩:=zL (pg.kk k) (.val (.lst (cs.map D.int))) m long day hm h0 hl0 hl1 cs [] .no .no .no (by simp;omega);refine ⟨l,?_,e1,e2⟩;rw [List.map_nil,List.nil_append] at e;rw [r__law_papers];simp? only [Jr,show (0:Nat)<=sizeLine by decide+kernel,e]
end FZ
namespace DG
open PySem DE FA Dy
open L2 hiding St
theorem Spr.tail {p:Pr} {l:List Pr} (h:Spr (p::l)):Spr l:=⟨fun q hq=>h.ok q (by simp [hq]),(List.pairwise_cons.mp h.gap).2⟩
theorem qz {p:Pr} {l:List Pr} {d:Int}:Day (p::l) d↔(p.1<=d/\d<=p.2)\/Day l d:=by
 unfold Day;constructor
 ·rintro ⟨q,hq,h⟩;rcases List.mem_cons.mp hq with rfl | hq
  ·exact .inl h
  ·exact .inr ⟨q,hq,h⟩
 ·rintro (h | ⟨q,hq,h⟩)
  ·exact ⟨p,by simp,h⟩
  ·exact ⟨q,by simp [hq],h⟩
theorem zg {d:Int}:¬ Day [] d:=fun ⟨_,h,_⟩=>by cases h
structure Apart (l:List Pr):Prop where
 ok:∀ p∈l,p.1<=p.2
 ap:l.Pairwise fun p q=>p.2+1 < q.1
structure OutOk (b:Int) (l:List Pr) (F:List Pr) (b':Int):Prop where
 apart:Apart F
 lo:∀ x∈F,b<=x.1
 hi:∀ x∈F,x.2+1 < b'
 le:b<=b'
 day:∀ d,b<=d->d < b'->(Day F d↔¬ Day l d)
 end_:∀ d,b'<=d->¬ Day l d
theorem qhc:∀ (l:List Pr) (b:Int),Spr l->OutOk b l (Yl b l).1 (Yl b l).2
 | [],b,_=>⟨⟨fun _ h=>(by cases h),List.Pairwise.nil⟩,fun _ h=>(by cases h),fun _ h=>(by cases h),Int.le_refl _,fun d h1 h2=>by dsimp only [Yl] at h2;omega,fun d _=>zg⟩
 | t::l,b,hS=>by
  have hS':=Spr.tail hS;have ht:=hS.ok t (by simp);have hg:=(List.pairwise_cons.mp hS.gap).1;have hlow:∀ d,Day l d->t.2+2<=d:=fun d ⟨q,hq,h1,_⟩=>by have:=hg q hq;omega
  have ih:=qhc l (mx b (t.2+1)) hS';have hm:=qer b (t.2+1);rw [Yl];generalize hb1:mx b (t.2+1)=b1 at *;have hle:=ih.le
  have hb:b<=b1/\t.2+1<=b1/\(b1=b\/b1=t.2+1):=by
   rcases Int.le_total b (t.2+1) with q | q
   ·have:=hm.1 q;omega
   ·have:=hm.2 q;omega
  generalize (Yl b1 l).1=F at *;generalize (Yl b1 l).2=b' at *;dsimp only
  by_cases hc:b < t.1
  ·rw [if_pos hc];refine ⟨⟨fun x hx=>?_,?_⟩,fun x hx=>?_,fun x hx=>?_,by omega,fun d h1 h2=>?_,fun d h1=>?_⟩
   ·rcases List.mem_cons.mp hx with rfl | hx
    ·dsimp only;omega
    ·exact ih.apart.ok x hx
   ·refine List.pairwise_cons.mpr ⟨fun x hx=>?_,ih.apart.ap⟩
    have:=ih.lo x hx
    dsimp only;omega
   ·rcases List.mem_cons.mp hx with rfl | hx
    ·dsimp only;omega
    ·have:=ih.lo x hx;omega
   ·rcases List.mem_cons.mp hx with rfl | hx
    ·dsimp only;omega
    ·exact ih.hi x hx
   ·show Day ((b,t.1 - 1)::F) d↔_;rw [qz,qz]
    by_cases q:d < b1
    ·have n1:¬ Day F d:=fun ⟨x,hx,h3,_⟩=>by have:=ih.lo x hx;omega
     have n2:¬ Day l d:=fun z=>by have:=hlow d z;omega
     dsimp only;constructor
     ·rintro (z | z)
      ·rintro (y | y)
       ·omega
       ·exact n2 y
      ·exact absurd z n1
     ·intro z;left;refine ⟨h1,?_⟩
      by_cases y:t.1<=d
      ·exact absurd (.inl ⟨y,by omega⟩) z
      ·omega
    ·have:=ih.day d (1:) h2
     rw [this];dsimp only;constructor
     ·rintro (z | z)
      ·omega
      ·rintro (y | y)
       ·omega
       ·exact z y
     ·intro z;exact .inr fun y=>z (.inr y)
   ·rw [qz];rintro (z | z)
    ·omega
    ·exact ih.end_ d h1 z
  ·rw [if_neg hc,List.nil_append];refine ⟨ih.apart,fun x hx=>by have:=ih.lo x hx;omega,ih.hi,by omega,fun d h1 h2=>?_,fun d h1=>?_⟩
   ·rw [qz]
    by_cases q:d < b1
    ·have n1:¬ Day F d:=fun ⟨x,hx,h3,_⟩=>by have:=ih.lo x hx;omega
     constructor
     ·intro z;exact absurd z n1
     ·intro z;exact absurd (.inl ⟨by omega,by omega⟩) z
    ·rw [ih.day d (1:) h2];constructor
     ·intro z;rintro (y | y)
      ·omega
      ·exact z y
     ·intro z y;exact z (.inr y)
   ·rw [qz];rintro (z | z)
    ·omega
    ·exact ih.end_ d h1 z
theorem qcS {l:List Pr} (h:Spr l) (f t:Int):Apart (qQ l f t)/\(∀ x∈qQ l f t,f<=x.1)/\∀ d,f<=d->d<=t->(Day (qQ l f t) d↔¬ Day l d):=by
 have o:=qhc l f h;have hle:=o.le;unfold qQ;generalize (Yl f l).1=F at *;generalize (Yl f l).2=b at *
 by_cases hc:b<=t
 ·rw [if_pos hc];refine ⟨⟨fun x hx=>?_,?_⟩,fun x hx=>?_,fun d h1 h2=>?_⟩
  ·rcases List.mem_append.mp hx with q | q
   ·exact o.apart.ok x q
   ·rw [List.mem_singleton.mp q];exact hc
  ·refine List.pairwise_append.mpr ⟨o.apart.ap,by simp,fun x hx y hy=>?_⟩;rw [List.mem_singleton.mp hy];exact o.hi x hx
  ·rcases List.mem_append.mp hx with q | q
   ·exact o.lo x q
   ·rw [List.mem_singleton.mp q];exact hle
  ·rw [JK,Zm]
   by_cases q:d < b
   ·rw [<-o.day d h1 q];dsimp only;constructor
    ·rintro (z | z)
     ·exact z
     ·omega
    ·exact .inl
   ·have n:=o.end_ d (1:);constructor
    ·intro _;exact n
    ·intro _;exact .inr ⟨by dsimp only;omega,h2⟩
 ·rw [if_neg hc,List.append_nil];exact ⟨o.apart,o.lo,fun d h1 h2=>o.day d h1 (1:)⟩
theorem qlL (p:Pr) (hp:p.1<=p.2):∀ (n:Nat) (B:List Pr),B.length < n->Apart B->Apart (jy n [p] B)/\(∀ x∈jy n [p] B,p.1<=x.1/\x.2<=p.2/\∃ q∈B,q.1<=x.1/\x.2<=q.2)/\∀ d,Day (jy n [p] B) d↔(p.1<=d/\d<=p.2)/\Day B d
 | 0,B,h,_=>by omega
 | n+1,[],_,_=>⟨⟨fun _ h=>(by cases h),List.Pairwise.nil⟩,fun _ h=>(by cases h),fun d=>⟨fun z=>absurd z zg,fun z=>absurd z.2 zg⟩⟩
 | n+1,q::B,h,hA=>by
  rw [List.length_cons] at h;have hq:=hA.ok q (by simp);have hg:=(List.pairwise_cons.mp hA.ap);have hlow:∀ d,Day B d->q.2 < d:=fun d ⟨x,hx,h1,_⟩=>by have:=hg.1 x hx;omega
  have m1:=qer p.1 q.1;have m2:=qaz p.2 q.2;rw [jy]
  have hm1:p.1<=mx p.1 q.1/\q.1<=mx p.1 q.1/\(mx p.1 q.1=p.1\/mx p.1 q.1=q.1):=by
   rcases Int.le_total p.1 q.1 with z | z
   ·have:=m1.1 z;omega
   ·have:=m1.2 z;omega
  have hm2:mn p.2 q.2<=p.2/\mn p.2 q.2<=q.2/\(mn p.2 q.2=p.2\/mn p.2 q.2=q.2):=by
   rcases Int.le_total p.2 q.2 with z | z
   ·have:=m2.1 z;omega
   ·have:=m2.2 z;omega
  generalize mx p.1 q.1=a at *;generalize mn p.2 q.2=b at *
  obtain ⟨R,hR,r1,r2,r3⟩:∃ R,(if p.2 < q.2 then jy n [] (q::B) else jy n [p] B)=R/\Apart R/\(∀ x∈R,p.1<=x.1/\x.2<=p.2/\(∃ y∈q::B,y.1<=x.1/\x.2<=y.2)/\b+1 < x.1)/\∀ d,Day R d↔(p.1<=d/\d<=p.2)/\Day B d:=by
   by_cases hd:p.2 < q.2
   ·rw [if_pos hd];have e:jy n [] (q::B)=[]:=by cases n<;>rfl
    rw [e];exact ⟨[],rfl,⟨fun _ h=>(by cases h),List.Pairwise.nil⟩,fun _ h=>(by cases h),fun d=>⟨fun z=>absurd z zg,fun z=>by have:=hlow d z.2;omega⟩⟩
   ·rw [if_neg hd];obtain ⟨i1,i2,i3⟩:=qlL p hp n B (1:) ⟨fun x hx=>hA.ok x (by simp [hx]),hg.2⟩;refine ⟨_,rfl,i1,fun x hx=>?_,i3⟩;obtain ⟨j1,j2,y,hy,j3,j4⟩:=i2 x hx
    have:=hg.1 y hy
    exact ⟨j1,j2,⟨y,by simp [hy],j3,j4⟩,by omega⟩
  rw [hR]
  by_cases hc:a<=b
  ·rw [if_pos hc];refine ⟨⟨fun x hx=>?_,?_⟩,fun x hx=>?_,fun d=>?_⟩
   ·rcases List.mem_cons.mp hx with rfl | hx
    ·exact hc
    ·exact r1.ok x hx
   ·exact List.pairwise_cons.mpr ⟨fun x hx=>(r2 x hx).2.2.2,r1.ap⟩
   ·rcases List.mem_cons.mp hx with rfl | hx
    ·exact ⟨by dsimp only;omega,by dsimp only;omega,q,by simp,by dsimp only;omega,by dsimp only;omega⟩
    ·exact ⟨(r2 x hx).1,(r2 x hx).2.1,(r2 x hx).2.2.1⟩
   ·show Day ((a,b)::R) d↔_;rw [qz,qz,r3];dsimp only;constructor
    ·rintro (z | z)
     ·exact ⟨by omega,.inl (1:)⟩
     ·exact ⟨z.1,.inr z.2⟩
    ·rintro ⟨z,y | y⟩
     ·left;omega
     ·exact .inr ⟨z,y⟩
  ·rw [if_neg hc,List.nil_append];refine ⟨r1,fun x hx=>⟨(r2 x hx).1,(r2 x hx).2.1,(r2 x hx).2.2.1⟩,fun d=>?_⟩;rw [qz,r3];constructor
   ·intro z;exact ⟨z.1,.inr z.2⟩
   ·rintro ⟨z,y | y⟩
    ·omega
    ·exact ⟨z,y⟩
theorem qez {l:List Pr} (h:Spr l) (hl:l.length < 900) {p:Pr} (hp:p.1<=p.2):Apart (y8 p l)/\(∀ x∈y8 p l,p.1<=x.1/\x.2<=p.2)/\∀ d,Day (y8 p l) d↔(p.1<=d/\d<=p.2)/\¬ Day l d:=by
 obtain ⟨o1,o2,o3⟩:=qcS h p.1 p.2;obtain ⟨b1,b2,b3⟩:=qlL p hp 1000 (qQ l p.1 p.2) (by have:=y9 l p.1 p.2;omega) o1;refine ⟨b1,fun x hx=>⟨(b2 x hx).1,(b2 x hx).2.1⟩,fun d=>?_⟩;unfold y8;rw [b3];constructor
 ·rintro ⟨z,y⟩;exact ⟨z,(o3 d z.1 z.2).mp y⟩
 ·rintro ⟨z,y⟩;exact ⟨z,(o3 d z.1 z.2).mpr y⟩
end DG
namespace DG
open PySem DE FA Dy
open L2 hiding St
def inP (p:Pa) (d:Int):Prop:=p.1<=d/\d<=p.2.1
instance (p:Pa) (d:Int):Decidable (inP p d):=by unfold inP;infer_instance
def ind (p:Pa) (d:Int):Int:=if inP p d then p.2.2 else 0
def pf:List Pa->Int->Int
 | [],_=>0
 | p::l,d=>if inP p d then p.2.2 else pf l d
structure PcOk (L:List Pa):Prop where
 ok:∀ p∈L,p.1<=p.2.1/\1<=p.2.2/\p.2.2<=9
 ap:L.Pairwise fun p q=>p.2.1 < q.1
theorem PcOk.tail {p:Pa} {l:List Pa} (h:PcOk (p::l)):PcOk l:=⟨fun q hq=>h.ok q (by simp [hq]),(List.pairwise_cons.mp h.ap).2⟩
theorem PcOk.w {L:List Pa} (h:PcOk L):WOk L:=fun p hp=>(h.ok p hp).2
theorem qU {L:List Pa} {d:Int} (h:∀ p∈L,¬ inP p d):pf L d=0:=by
 induction L with
 | nil=>rfl
 | cons p l ih=>rw [pf,if_neg (h p (by simp))];exact ih fun q hq=>h q (by simp [hq])
theorem qlM {a b:List Pa} {d:Int}:pf (a++b) d=if ∃ p∈a,inP p d then pf a d else pf b d:=by
 induction a with
 | nil=>simp
 | cons p l ih=>
  rw [List.cons_append,pf]
  by_cases h:inP p d
  ·rw [if_pos h,if_pos ⟨p,by simp,h⟩,pf,if_pos h]
  ·rw [if_neg h,ih]
   by_cases g:∃ q∈l,inP q d
   ·rw [if_pos g,if_pos (by obtain ⟨q,hq,hh⟩:=g;exact ⟨q,by simp [hq],hh⟩),pf,if_neg h]
   ·rw [if_neg g,if_neg];rintro ⟨q,hq,hh⟩;rcases List.mem_cons.mp hq with rfl | hq
    ·exact h hh
    ·exact g ⟨q,hq,hh⟩
theorem jL {L:List Pa} (hL:PcOk L) {p:Pa} (hp:p∈L) {d:Int} (h:inP p d):pf L d=p.2.2:=by
 induction L with
 | nil=>cases hp
 | cons q l ih=>
  rw [pf];rcases List.mem_cons.mp hp with rfl | hp
  ·rw [if_pos h]
  ·have:=(List.pairwise_cons.mp hL.ap).1 p hp
   rw [if_neg (fun z=>by unfold inP at *;omega)];exact ih hL.tail hp
theorem qnf {L:List Pa} (hL:PcOk L) (d:Int):0<=pf L d:=by
 by_cases h:∃ p∈L,inP p d
 ·obtain ⟨p,hp,hd⟩:=h;rw [jL hL hp hd]
  have:=(hL.ok p hp).2.1
  omega
 ·rw [qU fun p hp hd=>h ⟨p,hp,hd⟩];exact Int.le_refl _
theorem qlN {L:List Pa} {d:Int} (h:pf L d≠0):∃ p∈L,inP p d:=by
 by_cases q:∃ p∈L,inP p d
 ·exact q
 ·exact absurd (qU fun p hp hd=>q ⟨p,hp,hd⟩) h
theorem qng {l:List (Str×Int)} (h:∀ p∈l,LnOk p) (o:Option Str):wt l o<=9:=by
 induction l with
 | nil=>show (0:Int)<=9;decide
 | cons p l ih=>
  unfold wt;split
  ·exact (h p (by simp)).nine
  ·exact ih fun q hq=>h q (by simp [hq])
instance dayDec (F:List Pr) (d:Int):Decidable (Day F d):=decidable_of_iff _ jI
theorem qlO (w:Int) (F:List Pr) (d:Int):pf (F.map (JQ w)) d=if Day F d then w else 0:=by
 induction F with
 | nil=>rw [if_neg zg];rfl
 | cons p l ih=>
  rw [List.map_cons,pf,ih]
  by_cases h:p.1<=d/\d<=p.2
  ·rw [if_pos (show inP (JQ w p) d from h),if_pos (qz.mpr (.inl h))];rfl
  ·rw [if_neg (show ¬ inP (JQ w p) d from h)]
   by_cases g:Day l d
   ·rw [if_pos g,if_pos (qz.mpr (.inr g))]
   ·rw [if_neg g,if_neg (fun z=>(qz.mp z).elim h g)]
def Chw:Int->List St->Prop
 | _,[]=>True
 | e,s::l=>(e < s.2.1/\s.2.1<=s.2.2)/\Chw s.2.2 l
theorem Ch.w:∀ {l:List St} {e:Int},Ch e l->Chw e l
 | [],_,_=>trivial
 | _::_,_,h=>⟨⟨h.1.lo,h.1.ab⟩,Ch.w h.2⟩
theorem qaB {r:Ru} (hr:∀ p∈r.lands,LnOk p) {lf:List Pr} (hS:Spr lf) (hl:lf.length < 900):∀ (st:List St) (e:Int),Chw e st->PcOk (qu r lf st)/\(∀ p∈qu r lf st,e < p.1)/\∀ d,pf (qu r lf st) d=wgt r lf st d
 | [],e,_=>⟨⟨fun _ h=>(by cases h),List.Pairwise.nil⟩,fun _ h=>(by cases h),fun d=>(qiN rfl).symm⟩
 | s::st,e,hc=>by
  obtain ⟨i1,i2,i3⟩:=qaB hr hS hl st s.2.2 hc.2;have h1:=hc.1.1;have h2:=hc.1.2;obtain ⟨l1,l2,l3⟩:=qez hS hl (p:=(s.2.1,s.2.2)) h2;have w9:=qng hr (some s.1)
  have one:PcOk (qG r lf s)/\(∀ p∈qG r lf s,s.2.1<=p.1/\p.2.1<=s.2.2)/\∀ d,pf (qG r lf s) d=if (s.2.1<=d/\d<=s.2.2)/\¬ Day lf d then wt r.lands (some s.1) else 0:=by
   unfold qG
   by_cases hw:0 < wt r.lands (some s.1)
   ·rw [if_pos hw];refine ⟨⟨fun p hp=>?_,?_⟩,fun p hp=>?_,fun d=>?_⟩
    ·obtain ⟨x,hx,rfl⟩:=List.mem_map.mp hp;exact ⟨l1.ok x hx,hw,w9⟩
    ·exact List.pairwise_map.mpr (l1.ap.imp fun q=>by dsimp only [JQ];omega)
    ·obtain ⟨x,hx,rfl⟩:=List.mem_map.mp hp;exact l2 x hx
    ·rw [qlO]
     by_cases g:Day (y8 (s.2.1,s.2.2) lf) d
     ·rw [if_pos g,if_pos ((l3 d).mp g)]
     ·rw [if_neg g,if_neg (fun z=>g ((l3 d).mpr z))]
   ·rw [if_neg hw];refine ⟨⟨fun _ h=>(by cases h),List.Pairwise.nil⟩,fun _ h=>(by cases h),fun d=>?_⟩
    have:wt r.lands (some s.1)=0:=by have:=qne hr (some s.1);omega
    rw [this];simp [pf]
  obtain ⟨o1,o2,o3⟩:=one;rw [qu];refine ⟨⟨fun p hp=>?_,?_⟩,fun p hp=>?_,fun d=>?_⟩
  ·rcases List.mem_append.mp hp with q | q
   ·exact o1.ok p q
   ·exact i1.ok p q
  ·refine List.pairwise_append.mpr ⟨o1.ap,i1.ap,fun x hx y hy=>?_⟩
   have:=(o2 x hx).2
   have:=i2 y hy
   omega
  ·rcases List.mem_append.mp hp with q | q
   ·have:=(o2 p q).1;omega
   ·have:=i2 p q;omega
  ·rw [qlM]
   by_cases hd:s.2.1<=d/\d<=s.2.2
   ·have n:pf (qu r lf st) d=0:=qU fun p hp z=>by have:=i2 p hp;unfold inP at z;omega
    have e1:(if ∃ p∈qG r lf s,inP p d then pf (qG r lf s) d else pf (qu r lf st) d)=pf (qG r lf s) d:=by
     split
     ·rfl
     ·rename_i g;rw [n,qU fun p hp hz=>g ⟨p,hp,hz⟩]
    rw [e1,o3];unfold wgt YR;rw [if_pos hd]
    by_cases g:Day lf d
    ·rw [if_neg (fun z=>z.2 g),if_pos (jI.mpr g)]
    ·rw [if_pos ⟨hd,g⟩,if_neg (fun z=>g (jI.mp z))]
   ·rw [if_neg (fun ⟨p,hp,z⟩=>by have:=o2 p hp;unfold inP at z;omega),i3];unfold wgt;rw [show YR (s::st) d=YR st d by conv=>lhs;unfold YR;rw [if_neg hd]]
noncomputable def qbo (f t:Int) (p:Pa):Int:=if 0 < mn p.2.1 t - mx p.1 f+1 then (mn p.2.1 t - mx p.1 f+1) * p.2.2 else 0
def Ym (f t:Int):List Pa->Int
 | []=>0
 | p::l=>qbo f t p+Ym f t l
theorem Y5 (f t:Int):∀ (l:List Pa) (a:Int),qg5 f t l a=a+Ym f t l
 | [],a=>by simp [qg5,Ym]
 | p::l,a=>by
  rw [qg5,Y5 f t l,Ym];unfold qbo
  split<;>omega
theorem qb4 (f t:Int):∀ a b:List Pa,Ym f t (a++b)=Ym f t a+Ym f t b
 | [],b=>by simp [Ym]
 | p::a,b=>by rw [List.cons_append,Ym,Ym,qb4 f t a b];omega
theorem qb5 (f t:Int):∀ l:List Pa,Ym f t l.reverse=Ym f t l
 | []=>rfl
 | p::l=>by rw [List.reverse_cons,qb4,qb5 f t l,Ym,Ym,Ym];omega
theorem qhd (p:Pa) (hp:p.1<=p.2.1) (f:Int):∀ n:Nat,(ws (ind p) f n).sum=qbo f (f+n - 1) p
 | 0=>by
  have m1:=qer p.1 f;have m2:=qaz p.2.1 (f+(0:Nat) - 1);unfold qbo;rw [if_neg]
  ·simp [ws]
  ·rcases Int.le_total p.1 f with z | z<;>rcases Int.le_total p.2.1 (f+(0:Nat) - 1) with y | y
   ·have:=m1.1 z;have:=m2.1 y;omega
   ·have:=m1.1 z;have:=m2.2 y;omega
   ·have:=m1.2 z;have:=m2.1 y;omega
   ·have:=m1.2 z;have:=m2.2 y;omega
 | n+1=>by
  rw [Zq,qhd p hp f n];have m1:=qer p.1 f;have m2:=qaz p.2.1 (f+(n:Int) - 1);have m3:=qaz p.2.1 (f+((n+1:Nat):Int) - 1);have e:f+((n+1:Nat):Int) - 1=f+n:=by omega
  rw [e] at m3 ⊢;unfold qbo ind
  have hm1:p.1<=mx p.1 f/\f<=mx p.1 f/\(mx p.1 f=p.1\/mx p.1 f=f):=by
   rcases Int.le_total p.1 f with z | z
   ·have:=m1.1 z;omega
   ·have:=m1.2 z;omega
  generalize mx p.1 f=a at *
  by_cases h1:f+(n:Int) < p.1
  ·rw [if_neg (c:=inP p (f+(n:Int))) (fun z=>by unfold inP at z;omega)]
   have:=m2.2 (1:)
   have:=m3.2 (1:)
   rw [if_neg (1:),if_neg (1:)];rfl
  ·by_cases h2:p.2.1 < f+(n:Int)
   ·rw [if_neg (c:=inP p (f+(n:Int))) (fun z=>by unfold inP at z;omega)];have a1:=m2.1 (1:);have a2:=m3.1 (1:);rw [a1,a2];omega
   ·rw [if_pos (c:=inP p (f+(n:Int))) ⟨by omega,by omega⟩];have a1:=m2.2 (1:);have a2:=m3.2 (1:);rw [a1,a2];have hpos:0 < f+(n:Int) - a+1:=by omega
    rw [if_pos hpos]
    by_cases h3:0 < f+(n:Int) - 1 - a+1
    ·rw [if_pos h3,show f+(n:Int) - a+1=(f+(n:Int) - 1 - a+1)+1 by omega];generalize f+(n:Int) - 1 - a+1=k;rw [Int.add_mul,Int.one_mul]
    ·rw [if_neg h3,show f+(n:Int) - a+1=1 by omega,Int.one_mul];omega
theorem qhe {f g h:Int->Int}:∀ (n:Nat) (lo:Int),(∀ x,f x=g x+h x)->(ws f lo n).sum=(ws g lo n).sum+(ws h lo n).sum
 | 0,_,_=>by simp [ws]
 | n+1,lo,e=>by rw [ws,ws,ws,List.sum_cons,List.sum_cons,List.sum_cons,qhe n (lo+1) e,e lo];omega
theorem qiT {L:List Pa} (hL:PcOk L) (f:Int) (n:Nat):(ws (pf L) f n).sum=Ym f (f+n - 1) L:=by
 induction L with
 | nil=>rw [Ym];exact Zr n f fun x _ _=>rfl
 | cons p l ih=>
  have hp:=(hL.ok p (by simp)).1;rw [Ym,<-qhd p hp,<-ih hL.tail];refine qhe n f fun x=>?_;rw [pf];unfold ind
  by_cases h:inP p x
  ·rw [if_pos h,if_pos h,qU fun q hq z=>by have:=(List.pairwise_cons.mp hL.ap).1 q hq;unfold inP at *;omega];omega
  ·rw [if_neg h,if_neg h];omega
noncomputable def chn (leave d:Int):List Pa->Int->Int
 | [],_=>0
 | p::R,f=>if p.1<=d then (if leave<=f - 1 - mn p.2.1 d then 0 else (mn p.2.1 d - p.1+1) * p.2.2+chn leave d R p.1) else chn leave d R f
structure RvOk (R:List Pa):Prop where
 ok:∀ p∈R,p.1<=p.2.1
 ap:R.Pairwise fun p q=>q.2.1 < p.1
theorem RvOk.of {L:List Pa} (h:PcOk L):RvOk L.reverse:=⟨fun p hp=>(h.ok p (by simpa using hp)).1,List.pairwise_reverse.mpr h.ap⟩
theorem RvOk.tail {p:Pa} {R:List Pa} (h:RvOk (p::R)):RvOk R:=⟨fun q hq=>h.ok q (by simp [hq]),(List.pairwise_cons.mp h.ap).2⟩
theorem qaC (a b:Int):mn a b<=a/\mn a b<=b/\(mn a b=a\/mn a b=b):=by
 unfold mn
 split<;>omega
theorem qeA (a b:Int):a<=mx a b/\b<=mx a b/\(mx a b=a\/mx a b=b):=by
 unfold mx
 split<;>omega
theorem qaD {f t:Int}:∀ {R:List Pa},(∀ p∈R,p.2.1 < f)->Ym f t R=0
 | [],_=>rfl
 | p::R,h=>by rw [Ym,qaD fun q hq=>h q (by simp [hq])];have h0:=h p (by simp);have h1:=qaC p.2.1 t;have h2:=qeA p.1 f;unfold qbo;rw [if_neg (1:)];rfl
theorem qeB {leave d:Int} (hl:1<=leave):∀ (R:List Pa) (f:Int),RvOk R->(d < f\/∀ p∈R,p.2.1 < f)->fsF leave d R f<=f/\Ym (fsF leave d R f) d R=chn leave d R f
 | [],f,_,_=>⟨Int.le_refl _,rfl⟩
 | p::R,f,hR,hf=>by
  have hp:=hR.ok p (by simp);have hg:=(List.pairwise_cons.mp hR.ap).1;have hm:=qaC p.2.1 d;rw [fsF,chn,Ym]
  by_cases h1:p.1<=d
  ·rw [if_pos h1,if_pos h1]
   by_cases h2:leave<=f - 1 - mn p.2.1 d
   ·rw [if_pos h2,if_pos h2];refine ⟨Int.le_refl _,?_⟩;rw [qaD fun q hq=>by have:=hg q hq;omega]
    have:=qeA p.1 f
    unfold qbo;rw [if_neg (1:)];rfl
   ·rw [if_neg h2,if_neg h2];obtain ⟨i1,i2⟩:=qeB (d:=d) hl R p.1 hR.tail (.inr hg)
    have hlt:p.1<=f:=by
     rcases hf with q | q
     ·omega
     ·have:=q p (by simp);omega
    refine ⟨by omega,?_⟩;rw [i2]
    have:=qeA p.1 (fsF leave d R p.1)
    have e:mx p.1 (fsF leave d R p.1)=p.1:=by omega
    unfold qbo;rw [e,if_pos (1:)]
  ·rw [if_neg h1,if_neg h1];obtain ⟨i1,i2⟩:=qeB hl R f hR.tail (hf.imp id fun q x hx=>q x (by simp [hx]));refine ⟨i1,?_⟩;rw [i2]
   have:=qeA p.1 (fsF leave d R f)
   unfold qbo;rw [if_neg (1:)];omega
theorem Zy {leave d:Int}:∀ (B R:List Pa) (f:Int),(∀ p∈B,d < p.1)->chn leave d (B++R) f=chn leave d R f
 | [],R,f,_=>rfl
 | p::B,R,f,h=>by have h0:=h p (by simp);rw [List.cons_append,chn,if_neg (1:)];exact Zy B R f fun q hq=>h q (by simp [hq])
theorem Zz {leave d d':Int}:∀ (R:List Pa) (f:Int),(∀ p∈R,p.1<=p.2.1/\p.2.1<=d/\p.2.1<=d')->chn leave d R f=chn leave d' R f
 | [],_,_=>rfl
 | p::R,f,h=>by have h0:=h p (by simp);have e1:mn p.2.1 d=p.2.1:=(qaz p.2.1 d).1 h0.2.1;have e2:mn p.2.1 d'=p.2.1:=(qaz p.2.1 d').1 h0.2.2;rw [chn,chn,if_pos (c:=p.1<=d) (1:),if_pos (c:=p.1<=d') (1:),e1,e2,Zz R p.1 fun q hq=>h q (by simp [hq])]
end DG
namespace DG
open PySem DE FA Dy
open L2 hiding St
theorem qbp {r:Ru} (hk:r.kd.isW=true) (h1:1<=r.days) {L:List Pa} (hL:PcOk L) (d:Int):qH r L d=(ws (pf L) (d - r.days+1) r.days.toNat).sum:=by unfold qH qaX;rw [if_pos hk,Y5,qiT hL,show d - r.days+1+(r.days.toNat:Int) - 1=d by omega];omega
theorem qeC {r:Ru} (hk:r.kd.isW=false) (h1:1<=r.days) {L:List Pa} (hL:PcOk L) (d:Int):qH r L d=chn r.days d L.reverse (d+1):=by unfold qH qaX;rw [if_neg (by rw [hk];decide),Y5,<-qb5,(qeB h1 L.reverse (d+1) (RvOk.of hL) (.inl (1:))).2];omega
theorem qb6 {d:Int}:∀ {R:List Pa},RvOk R->∃ B A,R=B++A/\(∀ p∈B,d < p.1)/\∀ p∈A,p.1<=d
 | [],_=>⟨[],[],rfl,fun _ h=>(by cases h),fun _ h=>(by cases h)⟩
 | p::R,h=>by
  by_cases hd:d < p.1
  ·obtain ⟨B,A,e,h1,h2⟩:=qb6 (d:=d) h.tail;refine ⟨p::B,A,by rw [e];rfl,fun q hq=>?_,h2⟩;rcases List.mem_cons.mp hq with rfl | hq
   ·exact hd
   ·exact h1 q hq
  ·refine ⟨[],p::R,rfl,fun _ h=>(by cases h),fun q hq=>?_⟩;rcases List.mem_cons.mp hq with rfl | hq
   ·omega
   ·have:=(List.pairwise_cons.mp h.ap).1 q hq
    have:=h.ok q (by simp [hq])
    omega
def qaE (f:Int->Int) (n d:Int):Prop:=∀ x,d - n < x->x<=d->f x=0
theorem qcT {leave:Int} (h1:1<=leave) {L:List Pa} (hL:PcOk L) (d:Int) :
  (qaE (pf L) leave d->chn leave d L.reverse (d+1)=0)/\(¬ qaE (pf L) leave d->chn leave d L.reverse (d+1)=chn leave (d - 1) L.reverse d+pf L d):=by
 have hR:=RvOk.of hL;obtain ⟨B,A,e,hB,hA⟩:=qb6 (d:=d) hR;have mem:∀ p,p∈L↔p∈B\/p∈A:=fun p=>by rw [<-List.mem_reverse,e,List.mem_append]
 rw [e,Zy B A _ hB,Zy B A _ (fun p hp=>by have:=hB p hp;omega)]
 cases A with
 | nil=>
  refine ⟨fun _=>rfl,fun h=>absurd (fun x _ hx=>?_) h⟩
  exact qU fun p hp z=>by
   rcases (mem p).mp hp with q | q
   ·have:=hB p q;unfold inP at z;omega
   ·cases q
 | cons q A=>
  have hq:q∈L:=(mem q).mpr (.inr (by simp));have hqo:=hL.ok q hq;have hq1:=hA q (by simp)
  have hap:∀ p∈A,p.2.1 < q.1:=by
   have:=hR.ap
   rw [e] at this;exact (List.pairwise_cons.mp (List.pairwise_append.mp this).2.1).1
  have hAo:∀ p∈A,p.1<=p.2.1:=fun p hp=>(hL.ok p ((mem p).mpr (.inr (by simp [hp])))).1;have hm:=qaz q.2.1 d;have hm':=qaz q.2.1 (d - 1)
  by_cases hd:d<=q.2.1
  ·have hpf:pf L d=q.2.2:=jL hL hq ⟨hq1,hd⟩;refine ⟨fun h=>?_,fun _=>?_⟩
   ·have:=h d (1:) (Int.le_refl _)
    omega
   ·rw [hpf,chn,if_pos hq1,hm.2 hd,if_neg (1:)]
    by_cases hb:q.1<=d - 1
    ·rw [chn,if_pos hb,hm'.2 (1:),if_neg (1:),Zz (d:=d) (d':=d - 1) A q.1 fun p hp=>by have:=hap p hp;have:=hAo p hp;omega];rw [show d - q.1+1=(d - 1 - q.1+1)+1 by omega];generalize d - 1 - q.1+1=k;rw [Int.add_mul,Int.one_mul];omega
    ·rw [chn,if_neg hb,Zz (d:=d) (d':=d - 1) A q.1 fun p hp=>by have:=hap p hp;have:=hAo p hp;omega];rw [show q.1=d by omega,show d - d+1=1 by omega,Int.one_mul];omega
  ·have hz:∀ x,q.2.1 < x->x<=d->pf L x=0:=fun x h2 h3=>qU fun p hp z=>by
    rcases (mem p).mp hp with y | y
    ·have:=hB p y;unfold inP at z;omega
    ·rcases List.mem_cons.mp y with rfl | y
     ·unfold inP at z;omega
     ·have:=hap p y;unfold inP at z;omega
   have hpf:pf L q.2.1=q.2.2:=jL hL hq ⟨hqo.1,Int.le_refl _⟩;rw [chn,if_pos hq1,hm.1 (1:),chn,if_pos (c:=q.1<=d - 1) (1:),hm'.1 (1:),hz d (1:) (Int.le_refl _)];refine ⟨fun h=>?_,fun h=>?_⟩
   ·rw [if_pos]
    by_cases y:leave<=d+1 - 1 - q.2.1
    ·exact y
    ·have:=h q.2.1 (1:) (1:)
     omega
   ·have y:¬ leave<=d+1 - 1 - q.2.1:=fun y=>h fun x h2 h3=>hz x (1:) h3;rw [if_neg y,if_neg (1:),Zz (d:=d) (d':=d - 1) A q.1 fun p hp=>by have:=hap p hp;have:=hAo p hp;omega];omega
structure Cnt (w:Bool) (n:Int) (f C:Int->Int):Prop where
 nn:∀ d,0<=f d
 low:∃ b,∀ d,d < b->C d=0/\f d=0
 win:w=true->∀ d,C d=(ws f (d - n+1) n.toNat).sum
 idle:w=false->∀ d,qaE f n d->C d=0
 busy:w=false->∀ d,¬ qaE f n d->C d=C (d - 1)+f d
theorem qlP {L:List Pa} (hL:PcOk L):∃ b,∀ d,d < b->pf L d=0:=by
 induction L with
 | nil=>exact ⟨0,fun _ _=>rfl⟩
 | cons p l _=>
  refine ⟨p.1,fun d hd=>qU fun q hq z=>?_⟩;have h0:=(hL.ok p (by simp)).1;rcases List.mem_cons.mp hq with rfl | hq
  ·unfold inP at z;omega
  ·have:=(List.pairwise_cons.mp hL.ap).1 q hq
   unfold inP at z;omega
theorem QN {r:Ru} (h1:1<=r.days) {L:List Pa} (hL:PcOk L):Cnt r.kd.isW r.days (pf L) (qH r L):=by
 obtain ⟨b,hb⟩:=qlP hL
 have sn:r.kd.isW=false->∀ d,(qaE (pf L) r.days d->qH r L d=0)/\(¬ qaE (pf L) r.days d->qH r L d=qH r L (d - 1)+pf L d):=fun hk d=>by rw [qeC hk h1 hL,qeC hk h1 hL,show d - 1+1=d by omega];exact qcT h1 hL d
 refine ⟨qnf hL,⟨b,fun d hd=>⟨?_,hb d hd⟩⟩,fun hk=>qbp hk h1 hL,fun hk d=>(sn hk d).1,fun hk d=>(sn hk d).2⟩
 cases hk:r.kd.isW with
 | true=>rw [qbp hk h1 hL];exact Zr _ _ fun x h2 h3=>hb x (1:)
 | false=>exact (sn hk d).1 fun x _ hx=>hb x (1:)
namespace Cnt
variable {w:Bool} {n:Int} {f C:Int->Int}
theorem step (h:Cnt w n f C) (hw:w=true) (hn:1<=n) (d:Int):C d=C (d - 1)+f d - f (d - n):=by rw [h.win hw d,h.win hw (d - 1)];obtain ⟨m,rfl⟩:∃ m:Nat,n=((m+1:Nat):Int):=⟨(n - 1).toNat,by omega⟩;rw [Int.toNat_natCast,Zq,show d - 1 - ((m+1:Nat):Int)+1=d - ((m+1:Nat):Int) by omega,ws,List.sum_cons,show d - ((m+1:Nat):Int)+1+(m:Int)=d by omega];omega
theorem pos (h:Cnt w n f C) (d:Int):0<=C d:=by
 cases hw:w with
 | true=>rw [h.win hw];exact qlE h.nn _ _
 | false=>
  obtain ⟨b,hb⟩:=h.low
  have:∀ m:Nat,∀ d,d < b+m->0<=C d:=by
   intro m
   induction m with
   | zero=>intro d hd;rw [(hb d (1:)).1];exact Int.le_refl _
   | succ m ih=>
    intro d hd
    by_cases hi:qaE f n d
    ·rw [h.idle hw d hi];exact Int.le_refl _
    ·rw [h.busy hw d hi]
     have:=ih (d - 1) (1:)
     have:=h.nn d
     omega
  exact this (d - b+1).toNat d (1:)
theorem grow (h:Cnt w n f C) (hn:1<=n) (d:Int):C d<=C (d - 1)+f d:=by
 cases hw:w with
 | true=>rw [h.step hw hn d];have:=h.nn (d - n);omega
 | false=>
  by_cases hi:qaE f n d
  ·rw [h.idle hw d hi]
   have:=h.pos (d - 1)
   have:=h.nn d
   omega
  ·rw [h.busy hw d hi];exact Int.le_refl _
theorem busy' (h:Cnt w n f C) (hw:w=false) (hn:1<=n) {d:Int} (hd:f d≠0):C d=C (d - 1)+f d:=
 h.busy hw d fun z=>hd (z d (1:) (Int.le_refl _))
theorem keeps (h:Cnt w n f C) (hn:1<=n) {m a b:Int} (ha:C a<=m) (hz:∀ x,a < x->x < b->f x=0):∀ x,a<=x->x < b->C x<=m:=by
 have:∀ k:Nat,∀ x,a<=x->x < b->x < a+k+1->C x<=m:=by
  intro k
  induction k with
  | zero=>intro x h1 h2 h3;rw [show x=a by omega];exact ha
  | succ k ih=>
   intro x h1 h2 h3
   by_cases y:x=a
   ·rw [y];exact ha
   ·have:=h.grow hn x
    rw [hz x (1:) h2] at this
    have:=ih (x - 1) (1:) (1:) (1:)
    omega
 exact fun x h1 h2=>this (x - a).toNat x h1 h2 (1:)
end Cnt
end DG
namespace DG
open PySem DE FA Dy
open L2 hiding St
theorem qiU {r:Ru} (h1:1<=r.days) {L:List Pa} (hL:PcOk L):qji r L:=fun d=>by
 have g:=(QN h1 hL).grow h1 d
 have:pf L d<=9:=by
  by_cases h:∃ p∈L,inP p d
  ·obtain ⟨p,hp,hd⟩:=h;rw [jL hL hp hd];exact (hL.ok p hp).2.2
  ·rw [qU fun p hp hd=>h ⟨p,hp,hd⟩];decide
 omega
theorem qiV {L:List Pa} (hL:PcOk L) {y:Int} (h:pf L y≠pf L (y - 1)):∃ p∈L,y=p.1\/y=p.2.1+1:=by
 by_cases h1:∃ p∈L,inP p y
 ·obtain ⟨p,hp,hd⟩:=h1;refine ⟨p,hp,?_⟩
  by_cases h2:inP p (y - 1)
  ·rw [jL hL hp hd,jL hL hp h2] at h;exact absurd rfl h
  ·unfold inP at *;omega
 ·rw [qU fun p hp hd=>h1 ⟨p,hp,hd⟩] at h;obtain ⟨p,hp,hd⟩:=qlN (Ne.symm h);refine ⟨p,hp,?_⟩;have nz:¬ inP p y:=fun z=>h1 ⟨p,hp,z⟩;unfold inP at *;omega
theorem Y6 {s x:Int}:∀ {L:List Pa},x∈zQ s L↔∃ p∈L,x=p.1+s\/x=p.2.1+1+s
 | []=>by simp [zQ]
 | p::L=>by
  rw [zQ,List.mem_cons,List.mem_cons,Y6];constructor
  ·rintro (h | h | ⟨q,hq,h⟩)
   ·exact ⟨p,by simp,.inl h⟩
   ·exact ⟨p,by simp,.inr h⟩
   ·exact ⟨q,by simp [hq],h⟩
  ·rintro ⟨q,hq,h⟩;rcases List.mem_cons.mp hq with rfl | hq
   ·exact h.elim .inl fun z=>.inr (.inl z)
   ·exact .inr (.inr ⟨q,hq,h⟩)
theorem qb7 (s:Int):∀ {L:List Pa},PcOk L->(zQ s L).Pairwise (·<=·)
 | [],_=>List.Pairwise.nil
 | p::L,h=>by
  have h0:=(h.ok p (by simp)).1;have hg:=(List.pairwise_cons.mp h.ap).1
  have lo:∀ x∈zQ s L,p.2.1+1+s<=x:=fun x hx=>by
   obtain ⟨q,hq,z⟩:=Y6.mp hx
   have:=hg q hq
   have:=(h.ok q (by simp [hq])).1
   omega
  rw [zQ];refine List.pairwise_cons.mpr ⟨fun x hx=>?_,List.pairwise_cons.mpr ⟨lo,qb7 s h.tail⟩⟩;rcases List.mem_cons.mp hx with rfl | hx
  ·omega
  ·have:=lo x hx;omega
noncomputable def Fst (r:Ru) (L:List Pa) (f t:Int):Option Int->Prop
 | none=>∀ x,f<=x->x<=t->qH r L x<=r.most
 | some d=>f<=d/\d<=t/\r.most < qH r L d/\∀ x,f<=x->x < d->qH r L x<=r.most
theorem qb8 {r:Ru} {L:List Pa} {b e:Int} (h0:qH r L (b - 1)<=r.most) (hg:∀ x,b < x->x<=e->qH r L x - qH r L (x - 1)=qH r L (x - 1) - qH r L (x - 2)):Fst r L b e (Yc r L b e):=by
 have lin:∀ k:Nat,b+k<=e->qH r L (b+k)=qH r L (b - 1)+((k:Int)+1) * (qH r L b - qH r L (b - 1))/\qH r L (b+k) - qH r L (b+k - 1)=qH r L b - qH r L (b - 1):=by
  intro k
  induction k with
  | zero=>intro _;rw [show b+((0:Nat):Int)=b by omega,show (((0:Nat):Int)+1)=1 by rfl,Int.one_mul];omega
  | succ k ih=>intro hk;obtain ⟨i1,i2⟩:=ih (1:);have g:=hg (b+((k+1:Nat):Int)) (1:) hk;rw [show b+((k+1:Nat):Int) - 1=b+k by omega,show b+((k+1:Nat):Int) - 2=b+k - 1 by omega] at g;rw [show b+((k+1:Nat):Int) - 1=b+k by omega,show (((k+1:Nat):Int)+1)=((k:Int)+1)+1 by omega,Int.add_mul _ 1,Int.one_mul];omega
 have lin':∀ x,b<=x->x<=e->qH r L x=qH r L (b - 1)+(x - b+1) * (qH r L b - qH r L (b - 1)):=fun x h1 h2=>by
  have:=(lin (x - b).toNat (1:)).1
  rw [show b+((x - b).toNat:Int)=x by omega,show ((x - b).toNat:Int)=x - b by omega] at this;exact this
 unfold Yc;generalize qH r L b - qH r L (b - 1)=g at *;generalize hc:qH r L (b - 1)=c at *
 by_cases h1:g<=0
 ·rw [if_pos h1];intro x h2 h3;rw [lin' x h2 h3]
  have:=Int.mul_nonpos_of_nonneg_of_nonpos (show 0<=x - b+1 by omega) h1
  omega
 ·rw [if_neg h1];have q:∀ x,x - b+1<=(r.most - c) / g↔(x - b+1) * g<=r.most - c:=fun x=>Int.le_ediv_iff_mul_le (1:);have q0:0<=(r.most - c) / g:=Int.ediv_nonneg (1:) (1:);generalize (r.most - c) / g=k at *
  by_cases h2:b+k<=e
  ·rw [if_pos h2];refine ⟨by omega,h2,?_,fun x h3 h4=>?_⟩
   ·rw [lin' _ (1:) h2]
    have:=mt (q (b+k)).mpr (1:)
    omega
   ·rw [lin' x h3 (1:)]
    have:=(q x).mp (1:)
    omega
  ·rw [if_neg h2];intro x h3 h4;rw [lin' x h3 h4]
   have:=(q x).mp (1:)
   omega
theorem qhf {r:Ru} {L:List Pa} {t:Int}:∀ (ts:List Int) (f:Int),qH r L (f - 1)<=r.most->(∀ x,f < x->x<=t->x∉ts->qH r L x - qH r L (x - 1)=qH r L (x - 1) - qH r L (x - 2))->(f::ts).Pairwise (·<=·)->(∀ b∈ts,b<=t)->Fst r L f t (JR r L (qg7 f t ts))
 | [],f,h0,hg,_,_=>by
  have a:=qb8 (r:=r) (L:=L) (b:=f) (e:=t) h0 fun x h1 h2=>hg x h1 h2 (by simp);show Fst r L f t (JR r L [(f,t)]);rw [JR]
  cases e:Yc r L f t with
  | none=>rw [e] at a;exact a
  | some d=>rw [e] at a;exact a
 | b::ts,f,h0,hg,hp,ht=>by
  obtain ⟨hp1,hp2⟩:=List.pairwise_cons.mp hp;have hfb:=hp1 b (by simp);have hbt:=ht b (by simp);have hpb:=(List.pairwise_cons.mp hp2).1
  have a:=qb8 (r:=r) (L:=L) (b:=f) (e:=b - 1) h0 fun x h1 h2=>hg x h1 (1:) (fun z=>by
   rcases List.mem_cons.mp z with rfl | z
   ·omega
   ·have:=hpb x z;omega)
  show Fst r L f t (JR r L ((f,b - 1)::qg7 b t ts));rw [JR]
  cases e:Yc r L f (b - 1) with
  | some d=>rw [e] at a;exact ⟨a.1,by have:=a.2.1;omega,a.2.2.1,a.2.2.2⟩
  | none=>
   rw [e] at a;have low:∀ x,f<=x->x<=b - 1->qH r L x<=r.most:=a
   have i:=qhf ts b (by
    by_cases z:f<=b - 1
    ·exact low _ z (Int.le_refl _)
    ·rw [show b - 1=f - 1 by omega];exact h0) (fun x h1 h2 h3=>hg x (1:) h2 fun z=>by
     rcases List.mem_cons.mp z with rfl | z
     ·omega
     ·exact h3 z) hp2 fun x hx=>ht x (by simp [hx])
   dsimp only;generalize JR r L (qg7 b t ts)=o at i
   cases o with
   | none=>
    intro x h1 h2
    by_cases z:x<=b - 1
    ·exact low x h1 z
    ·exact i x (1:) h2
   | some d=>
    refine ⟨by have:=i.1;omega,i.2.1,i.2.2.1,fun x h1 h2=>?_⟩
    by_cases z:x<=b - 1
    ·exact low x h1 z
    ·exact i.2.2.2 x (1:) h2
noncomputable def qnK (r:Ru) (L:List Pa):Option Int->Prop
 | none=>∀ x,qH r L x<=r.most
 | some d=>r.most < qH r L d/\∀ x,x < d->qH r L x<=r.most
theorem qeD {r:Ru} (h1:1<=r.days) {L:List Pa} (hL:PcOk L) {p:Pa} (hp:p∈L) {x:Int} (hx:p.1 < x) (hx':x<=p.2.1) (ht:x∉z9 r L):qH r L x - qH r L (x - 1)=qH r L (x - 1) - qH r L (x - 2):=by
 have c:=QN h1 hL;have e1:pf L x=p.2.2:=jL hL hp ⟨by omega,hx'⟩;have e2:pf L (x - 1)=p.2.2:=jL hL hp ⟨by omega,by omega⟩;have hw:=(hL.ok p hp).2.1
 cases hk:r.kd.isW with
 | true=>
  have s1:=c.step hk h1 x;have s2:=c.step hk h1 (x - 1);unfold z9 at ht;rw [if_pos hk] at ht
  have:pf L (x - r.days)=pf L (x - r.days - 1):=by
   by_cases z:pf L (x - r.days)=pf L (x - r.days - 1)
   ·exact z
   ·obtain ⟨q,hq,y⟩:=qiV hL z;exact absurd (Y6.mpr ⟨q,hq,by omega⟩) ht
  rw [show x - 1 - r.days=x - r.days - 1 by omega,show x - 1 - 1=x - 2 by omega] at s2;omega
 | false=>have s1:=c.busy' hk h1 (d:=x) (1:);have s2:=c.busy' hk h1 (d:=x - 1) (1:);rw [show x - 1 - 1=x - 2 by omega] at s2;omega
theorem qaF {r:Ru} (h1:1<=r.days) (h0:0<=r.most) {L:List Pa} (hL:PcOk L):∀ (l A:List Pa),L=A++l->(∀ x,(∀ p∈l,x < p.1)->qH r L x<=r.most)->qnK r L (yk r L (z9 r L) l)
 | [],A,_,h=>fun x=>h x fun _ z=>(by cases z)
 | p::l,A,e,h=>by
  have hp:p∈L:=by rw [e];simp
  have hpo:=hL.ok p hp;have hsp:=hL.ap;rw [e] at hsp;have hlo:=(List.pairwise_cons.mp (List.pairwise_append.mp hsp).2.1).1;have hA:=(List.pairwise_append.mp hsp).2.2;have hl:∀ q∈l,q.1<=q.2.1:=fun q hq=>(hL.ok q (by rw [e];simp [hq])).1
  have before:∀ x,x < p.1->qH r L x<=r.most:=fun x hx=>h x fun q hq=>by
   rcases List.mem_cons.mp hq with rfl | hq
   ·exact hx
   ·have:=hlo q hq;omega
  have tu:(z9 r L).Pairwise (·<=·):=by
   unfold z9;split
   ·exact qb7 _ hL
   ·exact List.Pairwise.nil
  have i:=qhf (r:=r) (L:=L) (t:=p.2.1) ((z9 r L).filter (inB p.1 p.2.1)) p.1 (before _ (1:)) (fun x h2 h3 h4=>qeD h1 hL hp h2 h3 fun z=>h4 (List.mem_filter.mpr ⟨z,by unfold inB;simp;omega⟩)) (List.pairwise_cons.mpr ⟨fun b hb=>by
    have:=(List.mem_filter.mp hb).2
    unfold inB at this;simp at this
    omega,tu.filter _⟩) (fun b hb=>by
    have:=(List.mem_filter.mp hb).2
    unfold inB at this;simp at this
    omega)
  rw [yk]
  cases o:JR r L (qg7 p.1 p.2.1 ((z9 r L).filter (inB p.1 p.2.1))) with
  | some d=>
   rw [o] at i;refine ⟨i.2.2.1,fun x hx=>?_⟩
   by_cases z:x < p.1
   ·exact before x z
   ·exact i.2.2.2 x (1:) hx
  | none=>
   rw [o] at i;have within:∀ x,p.1<=x->x<=p.2.1->qH r L x<=r.most:=i;refine qaF h1 h0 hL l (A++[p]) (by rw [e];simp) fun x hx=>?_
   by_cases z:x < p.1
   ·exact before x z
   ·by_cases y:x<=p.2.1
    ·exact within x (1:) y
    ·refine (QN h1 hL).keeps h1 (a:=p.2.1) (b:=x+1) (within _ hpo.1 (Int.le_refl _)) (fun u h2 h3=>qU fun q hq hz=>?_) x (1:) (1:);rw [e] at hq;unfold inP at hz;rcases List.mem_append.mp hq with g | g
     ·have:=hA q g p (by simp);omega
     ·rcases List.mem_cons.mp g with rfl | g
      ·omega
      ·have:=hx q g;omega
theorem qb9 {r:Ru} (h1:1<=r.days) (h0:0<=r.most) {L:List Pa} (hL:PcOk L):qnK r L (qy r L):=by
 refine qaF h1 h0 hL L [] rfl fun x hx=>?_;have z:∀ y,y<=x->pf L y=0:=fun y hy=>qU fun p hp hz=>by have:=hx p hp;unfold inP at hz;omega
 have c:=QN h1 hL
 have:qH r L x=0:=by
  cases hk:r.kd.isW with
  | true=>rw [c.win hk];exact Zr _ _ fun y _ h3=>z y (1:)
  | false=>exact c.idle hk x fun y _ hy=>z y hy
 omega
end DG
namespace DG
open PySem DE FA Dy
open L2 hiding St
def cb (st:List St) (x:Rl) (d:Int):Int:=qH x.1 (yL st x) d
structure Rlw (x:Rl):Prop where
 ln:∀ p∈x.1.lands,LnOk p
 days:1<=x.1.days
 most:0<=x.1.most
 spr:Spr x.2
 len:x.2.length<=20
section
variable {st:List St} {x:Rl} (h:Rlw x) {e:Int} (hc:Chw e st)
include h hc
theorem qaG:PcOk (yL st x):=(qaB h.ln h.spr (by have:=h.len;omega) st e hc).1
theorem qnh:RlOk st x:=⟨h.ln,(qaG h hc).w,qiU h.days (qaG h hc),h.len⟩
theorem qiW (hn:qy x.1 (yL st x)=none) (d:Int):cb st x d<=x.1.most:=by
 have:=qb9 h.days h.most (qaG h hc)
 rw [hn] at this;exact this d
theorem qiX {d:Int} (hn:qy x.1 (yL st x)=some d):x.1.most < cb st x d/\∀ y,y < d->cb st x y<=x.1.most:=by
 have:=qb9 h.days h.most (qaG h hc)
 rw [hn] at this;exact this
end
structure BF (st:List St) (rs:List Rl) (z:Int×Int×Int):Prop where
 at_:∃ (j:Nat) (x:Rl),rs[j]?=some x/\z.2.1=(j:Int)/\z.2.2=qaX x.1 (yL st x) z.1/\x.1.most < cb st x z.1/\∀ i,i < j->∀ y,rs[i]?=some y->cb st y z.1<=y.1.most
 low:∀ y∈rs,∀ d,d < z.1->cb st y d<=y.1.most
theorem Jv (st:List St) {e:Int} (hc:Chw e st) (all:List Rl) (hr:∀ x∈all,Rlw x):∀ (l A:List Rl) (f:Option (Int×Int×Int)),all=A++l->
  (f=none->∀ y∈A,∀ d,cb st y d<=y.1.most)->(∀ z,f=some z->BF st A z)->
  (ym st l A.length f=none->∀ y∈all,∀ d,cb st y d<=y.1.most)/\∀ z,ym st l A.length f=some z->BF st all z
 | [],A,f,ea,h1,h2=>by rw [List.append_nil] at ea;subst ea;exact ⟨h1,h2⟩
 | x::l,A,f,ea,h1,h2=>by
  have hx:=hr x (by rw [ea];simp);have ea':all=(A++[x])++l:=by rw [ea];simp
  have el:A.length+1=(A++[x]).length:=by simp
  have one:∀ y,y∈A++[x]->y∈A\/y=x:=fun y hy=>by simpa using hy
  have getA:∀ (j:Nat) y,A[j]?=some y->(A++[x])[j]?=some y:=fun j y hy=>by obtain ⟨hj,_⟩:=List.getElem?_eq_some_iff.mp hy;rw [List.getElem?_append_left hj];exact hy
  rw [ym]
  cases hb:qy x.1 (yL st x) with
  | none=>
   dsimp only;have nb:=qiW hx hc hb;rw [el];refine Jv st hc all hr l (A++[x]) f ea' (fun hf y hy d=>?_) (fun z hz=>?_)
   ·rcases one y hy with q | q
    ·exact h1 hf y q d
    ·rw [q];exact nb d
   ·obtain ⟨⟨j,x',g1,g2,g3,g4,g5⟩,lo⟩:=h2 z hz;refine ⟨⟨j,x',getA j x' g1,g2,g3,g4,fun i hi y hy=>?_⟩,fun y hy d hd=>?_⟩
    ·obtain ⟨hj,_⟩:=List.getElem?_eq_some_iff.mp g1;rw [List.getElem?_append_left (1:)] at hy;exact g5 i hi y hy
    ·rcases one y hy with q | q
     ·exact lo y q d hd
     ·rw [q];exact nb d
  | some d0=>
   dsimp only;obtain ⟨b1,b2⟩:=qiX hx hc hb
   by_cases hbt:Y4 d0 f=true
   ·rw [if_pos hbt,el]
    have lowA:∀ y∈A,∀ d,d<=d0->cb st y d<=y.1.most:=fun y hy d hd=>by
     cases f with
     | none=>exact h1 rfl y hy d
     | some z=>
      have:d0 < z.1:=by unfold Y4 at hbt;simpa using hbt
      exact (h2 z rfl).low y hy d (1:)
    refine Jv st hc all hr l (A++[x]) _ ea' (fun hf=>(by cases hf)) (fun z hz=>?_);cases hz;refine ⟨⟨A.length,x,by simp,rfl,rfl,b1,fun i hi y hy=>?_⟩,fun y hy d hd=>?_⟩
    ·rw [List.getElem?_append_left hi] at hy;exact lowA y (List.mem_of_getElem? hy) d0 (Int.le_refl _)
    ·rcases one y hy with q | q
     ·exact lowA y q d (by dsimp only at hd;omega)
     ·rw [q];exact b2 d hd
   ·rw [if_neg hbt,el]
    cases f with
    | none=>exact absurd rfl hbt
    | some z0=>
     have hge:z0.1<=d0:=by unfold Y4 at hbt;simp at hbt;exact hbt
     refine Jv st hc all hr l (A++[x]) _ ea' (fun hf=>(by cases hf)) (fun z hz=>?_);cases hz;obtain ⟨⟨j,x',g1,g2,g3,g4,g5⟩,lo⟩:=h2 z0 rfl;refine ⟨⟨j,x',getA j x' g1,g2,g3,g4,fun i hi y hy=>?_⟩,fun y hy d hd=>?_⟩
     ·obtain ⟨hj,_⟩:=List.getElem?_eq_some_iff.mp g1;rw [List.getElem?_append_left (1:)] at hy;exact g5 i hi y hy
     ·rcases one y hy with q | q
      ·exact lo y q d hd
      ·rw [q];exact b2 d (1:)
theorem qiY {rs:List Ru} {ps:List Pa} {st:List St} {e:Int} (hc:Chw e st) (hr:∀ x∈rlF ps 0 rs,Rlw x) :
  (yn rs ps st=none->∀ y∈rlF ps 0 rs,∀ d,cb st y d<=y.1.most)/\∀ z,yn rs ps st=some z->BF st (rlF ps 0 rs) z:=
 Jv st hc (rlF ps 0 rs) hr (rlF ps 0 rs) [] none rfl (fun _ _ h=>(by cases h)) (fun _ h=>(by cases h))
theorem qlQ {rs:List Ru} {ps:List Pa} (hr:∀ r∈rs,(∀ p∈r.lands,LnOk p)/\1<=r.days/\0<=r.most) (hp:∀ p∈ps,p.2.1<=p.2.2) (hl:ps.length<=18):∀ x∈rlF ps 0 rs,Rlw x:=fun x hx=>by
 obtain ⟨j,e1,e2⟩:=qiM hx;obtain ⟨a,b,c⟩:=hr x.1 (List.mem_of_getElem? e1)
 have ok:∀ n:Int,∀ p∈ofN n ps,p.1<=p.2:=fun n p h=>by unfold ofN at h;obtain ⟨q,hq,rfl⟩:=List.mem_map.mp h;exact hp q (List.mem_filter.mp hq).1
 refine ⟨a,b,c,?_,?_⟩
 ·rw [e2];exact qee (ok _)
 ·rw [e2];have h1:=qef (ok ((0+j:Nat):Int));have h2:=qbm ((0+j:Nat):Int) ps;unfold Yi;omega
end DG
namespace DG
open PySem DE FA Dy
open L2 hiding St
structure WF (f:Int->Int) (n d a:Int):Prop where
 le:a<=d
 ne:f a≠0
 ahead:qaE f n (a - 1)
 busy:∀ x,a<=x->x<=d->¬ qaE f n x
theorem WF.unique {f:Int->Int} {n d a b:Int} (h:WF f n d a) (h':WF f n d b):a=b:=by
 rcases Int.lt_trichotomy a b with q | q | q
 ·exact absurd h'.ahead (h.busy (b - 1) (1:) (by have:=h'.le;omega))
 ·exact q
 ·exact absurd h.ahead (h'.busy (a - 1) (1:) (by have:=h.le;omega))
theorem qiZ {leave d:Int} (hl:1<=leave) (F:Int->Int):∀ (R:List Pa) (f:Int),RvOk R->f<=d+1->(∀ x,x < f->x<=d->(F x≠0↔∃ p∈R,inP p x))->(f<=d->F f≠0/\∀ x,f<=x->x<=d->¬ qaE F leave x)->(f=d+1\/∀ p∈R,p.2.1 < f)->
  (fsF leave d R f=d+1/\qaE F leave d)\/WF F leave d (fsF leave d R f)
 | [],f,_,h2,h1,h3,_=>by
  rw [fsF]
  by_cases hf:f=d+1
  ·refine .inl ⟨hf,fun x hx hd=>?_⟩
   by_cases q:F x=0
   ·exact q
   ·obtain ⟨p,hp,_⟩:=(h1 x (1:) hd).mp q;cases hp
  ·have hf':f<=d:=by omega
   refine .inr ⟨hf',(h3 hf').1,fun x hx hd=>?_,(h3 hf').2⟩
   by_cases q:F x=0
   ·exact q
   ·obtain ⟨p,hp,_⟩:=(h1 x (1:) (1:)).mp q;cases hp
 | p::l,f,hR,h2,h1,h3,h4=>by
  have hp:=hR.ok p (by simp);have hap:=(List.pairwise_cons.mp hR.ap).1;rw [fsF]
  by_cases c1:p.1<=d
  ·rw [if_pos c1];have m:=qaC p.2.1 d
   have pf':p.1 < f:=by
    rcases h4 with q | q
    ·omega
    ·have:=q p (by simp);omega
   have hbelow:∀ x,p.2.1 < x->x < f->x<=d->F x=0:=fun x hx hf hd=>by
    by_cases q:F x=0
    ·exact q
    ·obtain ⟨p',hp',i1,i2⟩:=(h1 x hf hd).mp q;rcases List.mem_cons.mp hp' with rfl | hm
     ·omega
     ·have:=hap p' hm;omega
   by_cases c2:leave<=f - 1 - mn p.2.1 d
   ·rw [if_pos c2]
    have hm:mn p.2.1 d=p.2.1:=by
     rcases m.2.2 with q | q
     ·exact q
     ·omega
    rw [hm] at c2;have idl:qaE F leave (f - 1):=fun x hx hd=>hbelow x (1:) (1:) (1:)
    by_cases hf:f=d+1
    ·exact .inl ⟨hf,by rw [hf,show d+1 - 1=d by omega] at idl;exact idl⟩
    ·have hf':f<=d:=by omega
     exact .inr ⟨hf',(h3 hf').1,idl,(h3 hf').2⟩
   ·rw [if_neg c2];have inn:∀ x,p.1<=x->x<=p.2.1->x < f->x<=d->F x≠0:=fun x a b c e=>(h1 x c e).mpr ⟨p,by simp,a,b⟩;refine qiZ hl F l p.1 hR.tail (1:) (fun x hx hd=>?_) (fun _=>⟨inn p.1 (Int.le_refl _) hp pf' c1,fun x hx hd=>?_⟩) (.inr fun q hq=>hap q hq)
    ·rw [h1 x (1:) hd];constructor
     ·rintro ⟨q,hq,i1,i2⟩;rcases List.mem_cons.mp hq with rfl | hm
      ·omega
      ·exact ⟨q,hm,i1,i2⟩
     ·rintro ⟨q,hq,i⟩;exact ⟨q,by simp [hq],i⟩
    ·by_cases hxf:f<=x
     ·exact (h3 (1:)).2 x hxf hd
     ·by_cases hxe:x<=p.2.1
      ·exact fun idl=>inn x hx hxe (1:) hd (idl x (1:) (Int.le_refl _))
      ·have hm:mn p.2.1 d=p.2.1:=by
        rcases m.2.2 with q | q
        ·exact q
        ·omega
       rw [hm] at c2;exact fun idl=>inn p.2.1 hp (Int.le_refl _) (1:) (1:) (idl p.2.1 (1:) (1:))
  ·rw [if_neg c1]
   have hf:f=d+1:=by
    rcases h4 with q | q
    ·exact q
    ·have:=q p (by simp);omega
   refine qiZ hl F l f hR.tail h2 (fun x hx hd=>?_) h3 (.inl hf);rw [h1 x hx hd];constructor
   ·rintro ⟨q,hq,i1,i2⟩;rcases List.mem_cons.mp hq with rfl | hm
    ·omega
    ·exact ⟨q,hm,i1,i2⟩
   ·rintro ⟨q,hq,i⟩;exact ⟨q,by simp [hq],i⟩
theorem qhg {L:List Pa} (hL:PcOk L) (x:Int):pf L x≠0↔∃ p∈L,inP p x:=by
 constructor
 ·exact qlN
 ·rintro ⟨p,hp,i⟩;rw [jL hL hp i]
  have:=(hL.ok p hp).2.1
  omega
theorem qeE {r:Ru} (hk:r.kd.isW=false) (h1:1<=r.days) {L:List Pa} (hL:PcOk L) {d:Int} (hb:¬ qaE (pf L) r.days d):WF (pf L) r.days d (qaX r L d):=by
 unfold qaX;rw [if_neg (by rw [hk];simp)];rcases qiZ h1 (pf L) L.reverse (d+1) (RvOk.of hL) (Int.le_refl _) (fun x _ _=>by rw [qhg hL];simp) (fun q=>absurd q (1:)) (.inl rfl) with ⟨_,q⟩ | q
 ·exact absurd q hb
 ·exact q
end DG
namespace DG
open PySem DE FA Dy
open L2 hiding St
theorem Cnt.sum {n:Int} {f C:Int->Int} (h:Cnt false n f C) {d a:Int} (w:WF f n d a):C d=(ws f a (d+1 - a).toNat).sum:=by
 have key:∀ k:Nat,a+k - 1<=d->C (a+k - 1)=(ws f a k).sum:=by
  intro k
  induction k with
  | zero=>intro _;rw [show a+((0:Nat):Int) - 1=a - 1 by omega,h.idle rfl _ w.ahead];rfl
  | succ k ih=>intro hk;have b:=h.busy rfl (a+(k+1:Nat) - 1) (w.busy _ (1:) hk);rw [show a+((k+1:Nat):Int) - 1 - 1=a+(k:Int) - 1 by omega,ih (1:)] at b;rw [b,Zq,show a+((k+1:Nat):Int) - 1=a+(k:Int) by omega]
 have:=key (d+1 - a).toNat (by have:=w.le;omega)
 rw [show a+((d+1 - a).toNat:Int) - 1=d by have:=w.le;omega] at this;exact this
end DG
namespace DG
open PySem DE FA Dy
open L2 hiding St
theorem qhh:∀ l:List (Str×Int),qeY (l.map lnD)=some l
 | []=>rfl
 | p::l=>by rw [List.map_cons,qeY,qhh l];rfl
theorem qeF (z:Str):∀ l:List (Str×Int),(qhR l z).getD 0=wt l (some z)
 | []=>rfl
 | p::l=>by
  have ih:=qeF z l;unfold qhR at ih ⊢;unfold wt
  by_cases e:p.1=z
  ·rw [List.find?_cons,show decide (p.1=z)=true from decide_eq_true e,if_pos (by rw [e])];rfl
  ·rw [List.find?_cons,show decide (p.1=z)=false from decide_eq_false e,if_neg (fun q=>e (by cases q;rfl))];exact ih
theorem qi0 {l:List (Str×Int)} (nd:(l.map (·.1)).Nodup) (z:Str):qac 0 (.val (.lst (l.map lnD))) (.val (.str z))=.ok (.val (.int (wt l (some z)))):=by show (match qeY (l.map lnD) with | some kvs=>_ | none=>_)=_;rw [qhh];dsimp only;rw [if_pos nd,qeF]
end DG
namespace FX
open PySem L2 DE DG
noncomputable abbrev jU:Ss:=%[.set 13 (.bin .Add (.var 13) (.lst %[.tup %[14,.b2 .min (.var 15) (.bin .Sub (.var 11) (.con (.int 1)))|0],.tup %[.b2 .max (.var 14) (.bin .Add (.var 12) (.con (.int 1))),15|0]|0]))|0]
def zR:Ss:=jU
theorem JS:USs zR jU:=fun _ _ _ _=>(rfl)
abbrev jV:E:=(.var 0)
def zS:E:=jV
theorem jA:UE zS jV:=fun _ _ _=>(rfl)
noncomputable abbrev jW:Ss:=%[.ite (.cmp .Eq (.var 10) (.var 2)) %[.set 13 (.lst .nil),.for_ (.many [14,15]) (.seq (.var 9)) zR,.set 9 (.comp zS (.seq (.var 13)) (.one 0) (.test (.cmp .LtE (.idx (.var 0) (.con (.int 0))) (.idx (.var 0) (.con (.int 1))))) 1 [])|0] .nil|0]
def zT:Ss:=jW
theorem jB:USs zT jW:=fun _ _ _ _=>(rfl)
abbrev jX:E:=(.tup %[0,1,2|0])
def zU:E:=jX
theorem JT:UE zU jX:=fun _ _ _=>(rfl)
noncomputable abbrev jY:Ss:=%[.set 8 (.b2 (.get 0) (.idx (.var 0) (.con (.int 1))) (.var 5)),.set 9 (.lst %[.tup %[6,7|0]|0]),.for_ (.many [10,11,12]) (.seq (.var 1)) zT,.ite (.cmp .Gt (.var 8) (.con (.int 0))) %[.set 4 (.bin .Add (.var 4) (.comp zU (.seq (.b1 .srt (.var 9))) (.many [0,1]) .yes 2 [8]))|0] .nil|0]
def zV:Ss:=jY
theorem jC:USs zV jY:=fun _ _ _ _=>(rfl)
noncomputable def Jw:Nat×Nat×Ss:=(4,16,%[.set 4 (.lst .nil),.for_ (.many [5,6,7]) (.seq (.var 3)) zV,.ret (.var 4)|0])
class XP (pg:Pg):Prop where
 r__law_pieces:RW pg "_law_pieces" Jw
noncomputable abbrev Jx:E:=(.bin .Mult (.var 2) (.b2 .max (.con (.int 0)) (.bin .Add (.bin .Sub (.b2 .min (.var 1) (.var 4)) (.b2 .max (.var 0) (.var 3))) (.con (.int 1)))))
def yo:E:=Jx
theorem Qn:UE yo Jx:=fun _ _ _=>(rfl)
noncomputable def QO:Nat×Nat×Ss:=(3,3,%[.ret (.b1 .sum (.comp yo (.seq (.var 0)) (.many [0,1,2]) .yes 3 [1,2]))|0])
noncomputable abbrev yq:Ss:=%[.ite (.cmp .LtE (.var 6) (.var 2)) %[.ite (.or (.cmp .Is (.var 5) (.con .non)) (.one (.cmp .GtE (.bin .Sub (.bin .Sub (.var 6) (.var 5)) (.con (.int 1))) (.var 3)))) %[.set 4 (.var 6)|0] .nil,.set 5 (.b2 .min (.var 7) (.var 2))|0] .nil|0]
def jh:Ss:=yq
theorem qR:USs jh yq:=fun _ _ _ _=>(rfl)
noncomputable def qV:Nat×Nat×Ss:=(3,9,%[.ite (.cmp .Eq (.idx (.var 0) (.con (.int 0))) (.con (.int 0))) %[.ret (.bin .Add (.bin .Sub (.var 2) (.idx (.var 0) (.con (.int 3)))) (.con (.int 1)))|0] .nil,.set 3 (.idx (.lst %[.con (.int 1),.idx (.var 0) (.con (.int 3)),.con (.int 1)|0]) (.idx (.var 0) (.con (.int 0)))),.set 4 (.con .non),.set 5 (.con .non),.for_ (.many [6,7,8]) (.seq (.var 1)) jh,.ite (.or (.cmp .Is (.var 5) (.con .non)) (.one (.cmp .GtE (.bin .Sub (.var 2) (.var 5)) (.var 3)))) %[.ret (.con .non)|0] .nil,.ret (.var 4)|0])
noncomputable def yr:Nat×Nat×Ss:=(3,4,%[.set 3 (.call "_law_first" %[0,1,2|0]),.ite (.cmp .Is (.var 3) (.con .non)) %[.ret (.con (.int 0))|0] .nil,.ret (.call "_law_sum" %[1,3,2|0])|0])
class XC (pg:Pg):Prop where
 r__law_sum:RW pg "_law_sum" QO
 r__law_first:RW pg "_law_first" qV
 r__law_count:RW pg "_law_count" yr
noncomputable abbrev yt:Ss:=%[.set 3 (.bin .Add (.var 3) (.lst %[4,5|0])),.ite (.cmp .Eq (.idx (.var 0) (.con (.int 0))) (.con (.int 0))) %[.set 3 (.bin .Add (.var 3) (.lst %[.bin .Sub (.bin .Add (.var 4) (.idx (.var 0) (.con (.int 3)))) (.con (.int 1)),.bin .Add (.var 4) (.idx (.var 0) (.con (.int 3))),.bin .Add (.var 5) (.idx (.var 0) (.con (.int 3))),.bin .Add (.bin .Add (.var 5) (.idx (.var 0) (.con (.int 3)))) (.con (.int 1))|0]))|0] .nil|0]
def ji:Ss:=yt
theorem jZ:USs ji yt:=fun _ _ _ _=>(rfl)
abbrev yu:E:=(.var 0)
def jj:E:=yu
theorem j0:UE jj yu:=fun _ _ _=>(rfl)
noncomputable def Yd:Nat×Nat×Ss:=(3,7,%[.set 3 (.lst .nil),.for_ (.many [4,5,6]) (.seq (.var 1)) ji,.ret (.comp jj (.seq (.var 3)) (.one 0) (.test (.cmp .LtE (.var 0) (.var 1))) 1 [2])|0])
class XT (pg:Pg):Prop where
 r__law_turns:RW pg "_law_turns" Yd
noncomputable abbrev yM:Ss:=%[.ite (.cmp .Gt (.call "_law_count" %[.idx (.var 0) (.var 4),5,6|0]) (.idx (.idx (.var 0) (.var 4)) (.con (.int 2)))) %[.ret (.con (.bl false))|0] .nil|0]
def jM:Ss:=yM
theorem Y7:USs jM yM:=fun _ _ _ _=>(rfl)
noncomputable abbrev yN:Ss:=%[.set 5 (.call "_law_pieces" %[.idx (.var 0) (.var 4),1,4,2|0]),.for_ (.one 6) (.seq (.bin .Add (.call "_law_turns" %[.idx (.var 0) (.var 4),5,3|0]) (.lst %[3|0]))) jM|0]
def jN:Ss:=yN
theorem Y8:USs jN yN:=fun _ _ _ _=>(rfl)
noncomputable def Y9:Nat×Nat×Ss:=(4,7,%[.for_ (.one 4) (.rng (.b1 .len (.var 0))) jN,.ret (.con (.bl true))|0])
class XH (pg:Pg):Prop where
 r__law_held:RW pg "_law_held" Y9
end FX
namespace FX
open PySem DE DG FA Dy FZ
open L2 hiding St
open XP
noncomputable def j5 (b e:Int):List Pr->List Pr
 | []=>[]
 | p::l=>(p.1,mn p.2 (b - 1))::(mx p.1 (e+1),p.2)::j5 b e l
def okP (p:Pr):Bool:=decide (p.1<=p.2)
def qca (b e:Int) (l:List Pr):List Pr:=(j5 b e l).filter okP
noncomputable def yv (n:Int):List Pa->List Pr->List Pr
 | [],l=>l
 | p::ps,l=>yv n ps (if (p.1 == n)=true then qca p.2.1 p.2.2 l else l)
theorem qgi (b e:Int) (p:Pr) (l:List Pr):qca b e (p::l)=((if p.1<=mn p.2 (b - 1) then [(p.1,mn p.2 (b - 1))] else [])++(if mx p.1 (e+1)<=p.2 then [(mx p.1 (e+1),p.2)] else []))++qca b e l:=by
 unfold qca;rw [j5,List.filter_cons,List.filter_cons];unfold okP;dsimp only
 by_cases h1:p.1<=mn p.2 (b - 1)<;>by_cases h2:mx p.1 (e+1)<=p.2<;>simp [h1,h2]
theorem qhi {b e:Int} (hb:b<=e):∀ {l:List Pr},Spr l->Spr (qca b e l)/\(∀ x∈qca b e l,∃ p∈l,p.1<=x.1/\x.2<=p.2)/\(∀ d,Day (qca b e l) d↔Day l d/\¬ (b<=d/\d<=e))/\(qca b e l).length<=2 * l.length
 | [],h=>⟨h,fun x hx=>(by cases hx),fun d=>⟨fun z=>absurd z zg,fun z=>absurd z.1 zg⟩,Nat.le_refl _⟩
 | p::l,h=>by
  obtain ⟨i1,i2,i3,i4⟩:=qhi hb (Spr.tail h);have hp:=h.ok p (by simp);have hg:=(List.pairwise_cons.mp h.gap).1;rw [qgi];have m1:=qaC p.2 (b - 1);have m2:=qeA p.1 (e+1);generalize mn p.2 (b - 1)=u at *;generalize mx p.1 (e+1)=v at *
  have hA:∃ A,((if p.1<=u then [(p.1,u)] else [])++(if v<=p.2 then [(v,p.2)] else []))=A/\Spr A/\(∀ x∈A,p.1<=x.1/\x.2<=p.2)/\(∀ d,Day A d↔(p.1<=d/\d<=p.2)/\¬ (b<=d/\d<=e))/\A.length<=2:=by
   have d0:∀ d,(p.1<=d/\d<=p.2)/\¬ (b<=d/\d<=e)↔(p.1<=d/\d<=u)\/(v<=d/\d<=p.2):=fun d=>by omega
   by_cases h1:p.1<=u
   ·by_cases h2:v<=p.2
    ·rw [if_pos h1,if_pos h2];refine ⟨[(p.1,u),(v,p.2)],rfl,⟨fun x hx=>?_,by simp;omega⟩,fun x hx=>?_,fun d=>?_,Nat.le_refl _⟩
     ·simp at hx;rcases hx with rfl | rfl<;>assumption
     ·simp at hx;rcases hx with rfl | rfl<;>(dsimp only;omega)
     ·rw [qz,qz,d0];simp [zg]
    ·rw [if_pos h1,if_neg h2];refine ⟨[(p.1,u)],rfl,⟨fun x hx=>?_,by simp⟩,fun x hx=>?_,fun d=>?_,by simp⟩
     ·simp at hx;subst hx;exact h1
     ·simp at hx;subst hx;dsimp only;omega
     ·rw [qz,d0];simp only [zg,or_false];omega
   ·by_cases h2:v<=p.2
    ·rw [if_neg h1,if_pos h2];refine ⟨[(v,p.2)],rfl,⟨fun x hx=>?_,by simp⟩,fun x hx=>?_,fun d=>?_,by simp⟩
     ·simp at hx;subst hx;exact h2
     ·simp at hx;subst hx;dsimp only;omega
     ·rw [qz,d0];simp only [zg,or_false];omega
    ·rw [if_neg h1,if_neg h2];refine ⟨[],rfl,⟨fun x hx=>(by cases hx),List.Pairwise.nil⟩,fun x hx=>(by cases hx),fun d=>?_,by simp⟩;rw [d0];simp only [zg,false_iff];omega
  obtain ⟨A,hA,a1,a2,a3,a4⟩:=hA;rw [hA];refine ⟨⟨fun x hx=>?_,List.pairwise_append.mpr ⟨a1.gap,i1.gap,fun x hx y hy=>?_⟩⟩,fun x hx=>?_,fun d=>?_,?_⟩
  ·rcases List.mem_append.mp hx with q | q
   ·exact a1.ok x q
   ·exact i1.ok x q
  ·obtain ⟨q,hq,q1,q2⟩:=i2 y hy
   have:=hg q hq
   have:=a2 x hx
   omega
  ·rcases List.mem_append.mp hx with q | q
   ·exact ⟨p,by simp,a2 x q⟩
   ·obtain ⟨y,hy,z⟩:=i2 x q;exact ⟨y,by simp [hy],z⟩
  ·have ap:Day (A++qca b e l) d↔Day A d\/Day (qca b e l) d:=by
    unfold Day;simp only [List.mem_append];constructor
    ·rintro ⟨x,hx | hx,z⟩
     ·exact .inl ⟨x,hx,z⟩
     ·exact .inr ⟨x,hx,z⟩
    ·rintro (⟨x,hx,z⟩ | ⟨x,hx,z⟩)
     ·exact ⟨x,.inl hx,z⟩
     ·exact ⟨x,.inr hx,z⟩
   rw [ap,a3,i3,qz];constructor
   ·rintro (z | z)
    ·exact ⟨.inl z.1,z.2⟩
    ·exact ⟨.inr z.1,z.2⟩
   ·rintro ⟨z | z,y⟩
    ·exact .inl ⟨z,y⟩
    ·exact .inr ⟨z,y⟩
  ·rw [List.length_append,List.length_cons];omega
theorem ZB {n:Int}:∀ {ps:List Pa} {l:List Pr},(∀ p∈ps,p.2.1<=p.2.2)->Spr l->Spr (yv n ps l)/\(∀ d,Day (yv n ps l) d↔Day l d/\¬ Day (ofN n ps) d)/\(yv n ps l).length<=2 ^ ps.length * l.length
 | [],l,_,h=>⟨h,fun d=>⟨fun z=>⟨z,zg⟩,fun z=>z.1⟩,by simp [yv]⟩
 | p::ps,l,hp,h=>by
  have hp':∀ q∈ps,q.2.1<=q.2.2:=fun q hq=>hp q (by simp [hq])
  have e:ofN n (p::ps)=if (p.1 == n)=true then (p.2.1,p.2.2)::ofN n ps else ofN n ps:=by
   unfold ofN;rw [List.filter_cons]
   split<;>rfl
  rw [yv,e]
  cases q:(p.1 == n) with
  | true=>
   rw [if_pos rfl,if_pos rfl];obtain ⟨c1,_,c3,c4⟩:=qhi (hp p (by simp)) h;obtain ⟨i1,i2,i3⟩:=ZB (n:=n) hp' c1;refine ⟨i1,fun d=>?_,?_⟩
   ·rw [i2,c3,qz];constructor
    ·rintro ⟨⟨z1,z2⟩,z3⟩;exact ⟨z1,fun z=>z.elim z2 z3⟩
    ·rintro ⟨z1,z2⟩;exact ⟨⟨z1,fun z=>z2 (.inl z)⟩,fun z=>z2 (.inr z)⟩
   ·rw [List.length_cons,Nat.pow_succ]
    have:2 ^ ps.length * (qca p.2.1 p.2.2 l).length<=2 ^ ps.length * (2 * l.length):=Nat.mul_le_mul_left _ c4
    rw [<-Nat.mul_assoc] at this;exact Nat.le_trans i3 this
  | false=>rw [if_neg (2:),if_neg (2:)];obtain ⟨i1,i2,i3⟩:=ZB (n:=n) hp' h;refine ⟨i1,i2,Nat.le_trans i3 ?_⟩;rw [List.length_cons,Nat.pow_succ];exact Nat.mul_le_mul_right _ (1:)
theorem qgj {n:Int} {ps:List Pa} (hp:∀ p∈ps,p.2.1<=p.2.2) (d:Int):Day (Yi n ps) d↔Day (ofN n ps) d:=by
 rw [<-jI,<-jI];unfold Yi
 rw [qiI fun p hq=>by unfold ofN at hq;obtain ⟨q,hm,rfl⟩:=List.mem_map.mp hq;exact hp q (List.mem_filter.mp hm).1]
theorem qgk {n:Int} {ps:List Pa} (hp:∀ p∈ps,p.2.1<=p.2.2):Spr (Yi n ps):=qee fun p hq=>by unfold ofN at hq;obtain ⟨q,hm,rfl⟩:=List.mem_map.mp hq;exact hp q (List.mem_filter.mp hm).1
theorem qeG {n:Int} {ps:List Pa} (hp:∀ p∈ps,p.2.1<=p.2.2) (hl:ps.length < 900) {a b:Int} (h:a<=b):yv n ps [(a,b)]=y8 (a,b) (Yi n ps):=by
 obtain ⟨l1,l2,_⟩:=ZB (n:=n) hp (l:=[(a,b)]) ⟨fun x hx=>(by simp at hx;subst hx;exact h),by simp⟩
 have len:(Yi n ps).length < 900:=by
  have:=qef (ps:=ofN n ps) fun p hq=>by unfold ofN at hq;obtain ⟨q,hm,rfl⟩:=List.mem_map.mp hq;exact hp q (List.mem_filter.mp hm).1
  have h2:=qbm n ps;unfold Yi;omega
 obtain ⟨m1,_,m3⟩:=qez (qgk (n:=n) hp) len (p:=(a,b)) h;refine Spr.same l1 ⟨m1.ok,m1.ap.imp fun q=>by omega⟩ fun d=>?_;rw [l2,m3,qgj hp,qz];simp [zg]
theorem qgl {l:List Pr} (h:Spr l):yU l=l:=by
 refine qbI (List.Perm.refl _) (h.gap.imp_of_mem fun {a b} ha hb q=>?_)
 have:=h.ok a ha
 unfold qcx;left;omega
end FX
namespace FX
open PySem DE DG FA Dy FZ
open L2 hiding St
open XP
theorem QP (cl:Cl) (v0 v1 v2 v3 v4 v5 v6 v7 v8 v9 v10:Sl) (b e:Int):∀ (l acc:List Pr) (s14 s15:Sl),acc.length+2 * l.length < 10000->
  ∃ s14' s15',yb cl 1000 (.many [14,15]) zR (l.map pD) [v0,v1,v2,v3,v4,v5,v6,v7,v8,v9,v10,.val (.int b),.val (.int e),.own (acc.map pD),s14,s15]=.ok (.next [v0,v1,v2,v3,v4,v5,v6,v7,v8,v9,v10,.val (.int b),.val (.int e),.own ((acc++j5 b e l).map pD),s14',s15'])
 | [],acc,s14,s15,_=>⟨s14,s15,by simp [j5,zX]⟩
 | p::l,acc,s14,s15,h=>by
  rw [List.length_cons] at h;obtain ⟨s14',s15',ih⟩:=QP cl v0 v1 v2 v3 v4 v5 v6 v7 v8 v9 v10 b e l (acc++[(p.1,mn p.2 (b - 1)),(mx p.1 (e+1),p.2)]) (.val (.int p.1)) (.val (.int p.2)) (by simp;omega);refine ⟨s14',s15',?_⟩;have two:0+1+1<=sizeLine:=by decide+kernel
  have hz:acc.length+(0+1+1)<=sizeLine:=qF (1:);rw [j5,List.map_cons];simp only [List.map_append,List.map_cons,List.map_nil,List.append_assoc,List.cons_append,List.nil_append,jd] at ih ⊢;show 1;simp? only [JS,mnF,mxF,two,List.length_map,hz,ih]
theorem Qa (cl:Cl):∀ (l acc:List Pr) (s0:Sl),acc.length+l.length < 10000->
  zk cl zS (.one 0) (.test (.cmp .LtE (.idx (.var 0) (.con (.int 0))) (.idx (.var 0) (.con (.int 1))))) (l.map pD) [s0] (acc.map pD)=.ok ((acc++l.filter okP).map pD)
 | [],acc,s0,_=>by simp [qL]
 | p::l,acc,s0,h=>by
  rw [List.length_cons] at h;have a0:atI [D.int p.1,.int p.2] 0=some (.int p.1):=rfl;have a1:atI [D.int p.1,.int p.2] 1=some (.int p.2):=rfl;have hz:(acc.map pD).length < sizeLine:=by rw [List.length_map];exact qE (1:)
  rw [List.filter_cons,List.map_cons]
  by_cases hp:p.1<=p.2
  ·rw [if_pos (show okP p=true from decide_eq_true hp)];have ih:=Qa cl l (acc++[p]) (.val (pD p)) (by simp;omega);simp only [List.map_append,List.map_cons,List.map_nil,List.append_assoc,List.cons_append,List.nil_append,jd] at ih ⊢;show 1;simp? only [jA,a0,a1,hp,hz,ih]
  ·rw [if_neg (show ¬ okP p=true from by unfold okP;simpa using hp)];have ih:=Qa cl l acc (.val (pD p)) (1:);simp only [jd] at ih ⊢;show 1;simp? only [jA,a0,a1,hp,ih]
theorem Jy (b e:Int):∀ l:List Pr,(j5 b e l).length=2 * l.length
 | []=>rfl
 | p::l=>by rw [j5,List.length_cons,List.length_cons,List.length_cons,Jy b e l];omega
theorem Qb (cl:Cl) (v0 v1 v3 v4 v5 v6 v7 v8:Sl) (n:Int):∀ (ps:List Pa) (l:List Pr) (s10 s11 s12 s13 s14 s15:Sl),2 ^ ps.length * l.length < 2000->
  ∃ s10' s11' s12' s13' s14' s15',yb cl 1000 (.many [10,11,12]) zT (ps.map paD) [v0,v1,.val (.int n),v3,v4,v5,v6,v7,v8,.own (l.map pD),s10,s11,s12,s13,s14,s15]=.ok (.next [v0,v1,.val (.int n),v3,v4,v5,v6,v7,v8,.own ((yv n ps l).map pD),s10',s11',s12',s13',s14',s15'])
 | [],l,s10,s11,s12,s13,s14,s15,_=>⟨s10,s11,s12,s13,s14,s15,rfl⟩
 | p::ps,l,s10,s11,s12,s13,s14,s15,h=>by
  rw [List.length_cons,Nat.pow_succ,Nat.mul_assoc] at h;have h1:1<=2 ^ ps.length:=Nat.one_le_two_pow
  have hl:2 * l.length < 2000:=by
   have:=Nat.mul_le_mul_right (2 * l.length) h1
   omega
  rw [yv,List.map_cons]
  cases q:(p.1 == n) with
  | true=>
   rw [if_pos rfl];obtain ⟨t14,t15,pl⟩:=QP cl v0 v1 (.val (.int n)) v3 v4 v5 v6 v7 v8 (.val (.lst (l.map pD))) (.val (.int p.1)) p.2.1 p.2.2 l [] s14 s15 (by simp;omega);have kc:=Qa cl (j5 p.2.1 p.2.2 l) [] .no (by rw [Jy];simp;omega)
   have hc:(qca p.2.1 p.2.2 l).length<=2 * l.length:=by
    have:=List.length_filter_le okP (j5 p.2.1 p.2.2 l)
    rw [Jy] at this;exact this
   obtain ⟨s10',s11',s12',s13',s14',s15',ih⟩:=Qb cl v0 v1 v3 v4 v5 v6 v7 v8 n ps (qca p.2.1 p.2.2 l) (.val (.int p.1)) (.val (.int p.2.1)) (.val (.int p.2.2)) (.val (.lst ((j5 p.2.1 p.2.2 l).map pD))) t14 t15 (Nat.lt_of_le_of_lt (Nat.mul_le_mul_left _ hc) h);refine ⟨s10',s11',s12',s13',s14',s15',?_⟩;have z0:(0:Nat)<=sizeLine:=by decide+kernel
   have zp:((j5 p.2.1 p.2.2 l).map pD).length<=sizeLine:=by rw [List.length_map,Jy];exact qF (1:)
   rw [List.map_nil,List.nil_append] at pl kc;unfold qca at ih ⊢;show 1;simp? only [jB,qM,qx,q,z0,pl,zp,qal,qeZ,List.getD_cons_succ,List.getD_cons_zero,kc,ih]
  | false=>
   rw [if_neg (2:)]
   obtain ⟨s10',s11',s12',s13',s14',s15',ih⟩:=Qb cl v0 v1 v3 v4 v5 v6 v7 v8 n ps l (.val (.int p.1)) (.val (.int p.2.1)) (.val (.int p.2.2)) s13 s14 s15 (by
    have:=Nat.mul_le_mul_left (2 ^ ps.length) (show l.length<=2 * l.length by omega)
    omega)
   refine ⟨s10',s11',s12',s13',s14',s15',?_⟩;show 1;simp? only [jB,qM,qx,q,ih]
theorem qaH (cl:Cl) (w:Int):∀ (l:List Pr) (acc:List Pa) (s0 s1:Sl),acc.length+l.length < 10000->
  zk cl zU (.many [0,1]) .yes (l.map pD) [s0,s1,.val (.int w)] (acc.map paD)=.ok ((acc++l.map (JQ w)).map paD)
 | [],acc,s0,s1,_=>by simp [qL]
 | p::l,acc,s0,s1,h=>by
  rw [List.length_cons] at h;have ih:=qaH cl w l (acc++[JQ w p]) (.val (.int p.1)) (.val (.int p.2)) (by simp;omega);have three:0+1+1+1<=sizeLine:=by decide+kernel
  have hz:(acc.map paD).length < sizeLine:=by rw [List.length_map];exact qE (1:)
  simp only [List.map_append,List.map_cons,List.map_nil,List.append_assoc,List.cons_append,List.nil_append,qM,JQ] at ih ⊢;show 1;simp? only [JT,jd,three,hz,ih]
theorem qT (cl:Cl) (b1:Bool) (r:Ru) (nd:(r.lands.map (·.1)).Nodup) (ps:List Pa) (hp:∀ p∈ps,p.2.1<=p.2.2) (hl:ps.length<=5) (n:Int) (v3:Sl):∀ (st:List St) (acc:List Pa) (s5 s6 s7 s8 s9 s10 s11 s12 s13 s14 s15:Sl),(∀ s∈st,s.2.1<=s.2.2)->acc.length+32 * st.length < 10000->
  ∃ s5' s6' s7' s8' s9' s10' s11' s12' s13' s14' s15',yb cl 1000 (.many [5,6,7]) zV (st.map stD) [.val (spD r),pS b1 (ps.map paD),.val (.int n),v3,.own (acc.map paD),s5,s6,s7,s8,s9,s10,s11,s12,s13,s14,s15]=.ok (.next [.val (spD r),pS b1 (ps.map paD),.val (.int n),v3,.own ((acc++qu r (Yi n ps) st).map paD),s5',s6',s7',s8',s9',s10',s11',s12',s13',s14',s15'])
 | [],acc,s5,s6,s7,s8,s9,s10,s11,s12,s13,s14,s15,_,_=>⟨s5,s6,s7,s8,s9,s10,s11,s12,s13,s14,s15,by simp [qu,zX]⟩
 | s::st,acc,s5,s6,s7,s8,s9,s10,s11,s12,s13,s14,s15,hs,h=>by
  rw [List.length_cons] at h;have hs0:=hs s (by simp);have sp1:Spr [(s.2.1,s.2.2)]:=⟨fun x hx=>(by simp at hx;subst hx;exact hs0),by simp⟩;obtain ⟨l1,_,l3⟩:=ZB (n:=n) hp sp1;have e32:2 ^ ps.length<=32:=Nat.le_trans (Nat.pow_le_pow_right (1:) hl) (2:)
  have l3':(yv n ps [(s.2.1,s.2.2)]).length<=32:=by simp only [List.length_cons,List.length_nil,Nat.zero_add,Nat.mul_one] at l3;omega
  have eL:=qeG (n:=n) hp (1:) hs0;have eS:=qgl l1;obtain ⟨t10,t11,t12,t13,t14,t15,lp⟩:=Qb cl (.val (spD r)) (pS b1 (ps.map paD)) v3 (.own (acc.map paD)) (.val (.str s.1)) (.val (.int s.2.1)) (.val (.int s.2.2)) (.val (.int (wt r.lands (some s.1)))) n ps [(s.2.1,s.2.2)] s10 s11 s12 s13 s14 s15 (by simp;omega);have g:=qi0 nd s.1;have a1:atI [D.int (kw r.kd),.lst (r.lands.map lnD),.int r.most,.int r.days] 1=some (.lst (r.lands.map lnD)):=rfl;have two:0+1+1<=sizeLine:=by decide+kernel
  have one:0+1<=sizeLine:=by decide+kernel
  have zl:(yv n ps [(s.2.1,s.2.2)]).length < 64:=by omega
  have zs:(yv n ps [(s.2.1,s.2.2)]).length<=sizeLine:=qF (1:);simp only [List.map_cons,List.map_nil,jd,spD] at lp;rw [qu,List.map_cons];unfold qG
  by_cases hw:0 < wt r.lands (some s.1)
  ·rw [if_pos hw];have wc:=qaH cl (wt r.lands (some s.1)) (yv n ps [(s.2.1,s.2.2)]) [] .no .no (by simp;omega);rw [List.map_nil,List.nil_append] at wc;obtain ⟨s5',s6',s7',s8',s9',s10',s11',s12',s13',s14',s15',ih⟩:=qT cl b1 r nd ps hp hl n v3 st (acc++(yv n ps [(s.2.1,s.2.2)]).map (JQ (wt r.lands (some s.1)))) (.val (.str s.1)) (.val (.int s.2.1)) (.val (.int s.2.2)) (.val (.int (wt r.lands (some s.1)))) (.own ((yv n ps [(s.2.1,s.2.2)]).map pD)) t10 t11 t12 t13 t14 t15 (fun t ht=>hs t (by simp [ht])) (by rw [List.length_append,List.length_map];omega);refine ⟨s5',s6',s7',s8',s9',s10',s11',s12',s13',s14',s15',?_⟩;have za:acc.length+(yv n ps [(s.2.1,s.2.2)]).length<=sizeLine:=qF (1:);rw [<-eL];simp only [List.map_append,List.append_assoc,spD] at ih ⊢;show 1;simp? only [jC,J5,a1,g,two,one,lp,hw,JG,qbl,zl,eS,List.length_map,zs,qal,qeZ,List.getD_cons_succ,List.getD_cons_zero,wc,za,ih]
  ·rw [if_neg hw,List.nil_append];obtain ⟨s5',s6',s7',s8',s9',s10',s11',s12',s13',s14',s15',ih⟩:=qT cl b1 r nd ps hp hl n v3 st acc (.val (.str s.1)) (.val (.int s.2.1)) (.val (.int s.2.2)) (.val (.int (wt r.lands (some s.1)))) (.own ((yv n ps [(s.2.1,s.2.2)]).map pD)) t10 t11 t12 t13 t14 t15 (fun t ht=>hs t (by simp [ht])) (1:);refine ⟨s5',s6',s7',s8',s9',s10',s11',s12',s13',s14',s15',?_⟩;simp only [spD] at ih ⊢;show 1;simp? only [jC,J5,a1,g,two,one,lp,hw,ih]
theorem qcU {pg:Pg} [XP pg] (k:Nat) (b1 b2:Bool) (r:Ru) (nd:(r.lands.map (·.1)).Nodup) (ps:List Pa) (hp:∀ p∈ps,p.2.1<=p.2.2) (hl:ps.length<=5) (n:Int) (st:List St) (hs:∀ s∈st,s.2.1<=s.2.2) (h6:st.length<=70) :
  clK pg (k+1) "_law_pieces" [.val (spD r),aL b1 (ps.map paD),.val (.int n),aL b2 (st.map stD)]=.ok (.tmp ((qu r (Yi n ps) st).map paD)):=by
 obtain ⟨s5,s6,s7,s8,s9,s10,s11,s12,s13,s14,s15,lp⟩:=qT (pg.kk k) b1 r nd ps hp hl n (pS b2 (st.map stD)) st [] .no .no .no .no .no .no .no .no .no .no .no hs (by simp;omega);rw [List.map_nil,List.nil_append] at lp;have z0:(0:Nat)<=sizeLine:=by decide+kernel
 rw [r__law_pieces];simp? only [Jw,z0,lp]
end FX
namespace FX
open PySem DE DG FA Dy FZ
open L2 hiding St
open XC
theorem qgm (f t:Int) (p:Pa):p.2.2 * mx 0 (mn p.2.1 t - mx p.1 f+1)=qbo f t p:=by
 unfold qbo;have m:=qer 0 (mn p.2.1 t - mx p.1 f+1);split
 ·rw [m.1 (1:),Int.mul_comm]
 ·rw [m.2 (1:),Int.mul_zero]
def qcV (f t:Int) (l:List Pa):List Int:=l.map (qbo f t)
theorem qcb (f t:Int):∀ l:List Pa,(qcV f t l).sum=Ym f t l
 | []=>rfl
 | p::l=>by show qbo f t p+(qcV f t l).sum=_;rw [qcb f t l];rfl
theorem qcc (cl:Cl) (f t:Int):∀ (l:List Pa) (acc:List Int) (s0 s1 s2:Sl),(∀ p∈l,0<=p.2.2/\p.2.2<=9)->acc.length+l.length < 10000->
  zk cl yo (.many [0,1,2]) .yes (l.map paD) [s0,s1,s2,.val (.int f),.val (.int t)] (acc.map D.int)=.ok ((acc++qcV f t l).map D.int)
 | [],acc,s0,s1,s2,_,_=>by simp [qcV,qL]
 | p::l,acc,s0,s1,s2,hw,h=>by
  rw [List.length_cons] at h;have ih:=qcc cl f t l (acc++[qbo f t p]) (.val (.int p.1)) (.val (.int p.2.1)) (.val (.int p.2.2)) (fun q hq=>hw q (by simp [hq])) (by simp;omega);have hz:(acc.map D.int).length < sizeLine:=by rw [List.length_map];exact qE (1:)
  have hw0:=hw p (by simp);have e:=qgm f t p;have mu:Q7 p.2.2 (mx 0 (mn p.2.1 t - mx p.1 f+1))=true:=qec (1:) (1:);rw [show qcV f t (p::l)=qbo f t p::qcV f t l from rfl];simp only [List.map_append,List.map_cons,List.map_nil,List.append_assoc,List.cons_append,List.nil_append] at ih ⊢;show 1;simp? only [Qn,qM,mnF,mxF,mu,e,hz,ih]
theorem qeH {pg:Pg} [XC pg] (k:Nat) (b:Bool) (l:List Pa) (hw:∀ p∈l,0<=p.2.2/\p.2.2<=9) (hl:l.length < 5000) (f t:Int):clK pg (k+1) "_law_sum" [aL b (l.map paD),.val (.int f),.val (.int t)]=.ok (.val (.int (Ym f t l))):=by have c:=qcc (pg.kk k) f t l [] .no .no .no hw (by simp;omega);rw [List.map_nil,List.nil_append] at c;have z:l.length<=sizeLine:=qF (1:);rw [r__law_sum];simp? only [QO,List.length_map,z,qal,qeZ,List.getD_cons_succ,List.getD_cons_zero,c,qkb,qb0,qcb]
noncomputable def lfS (n d:Int) (s:Option (Int×Int)) (p:Pa):Option (Int×Int):=if p.1<=d then (match s with
 | none=>some (p.1,mn p.2.1 d)
 | some (a,e)=>some (if n<=p.1 - e - 1 then p.1 else a,mn p.2.1 d)) else s
noncomputable def lfF (n d:Int):List Pa->Option (Int×Int)->Option (Int×Int)
 | [],s=>s
 | p::l,s=>lfF n d l (lfS n d s p)
noncomputable def lfE (n d:Int) (s:Option (Int×Int)):Option Int:=match s with
 | none=>none
 | some (a,e)=>if n<=d - e then none else some a
structure ChI (L:List Pa) (n d:Int) (A:List Pa) (s:Option (Int×Int)):Prop where
 no:s=none->∀ p∈A,d < p.1
 yes:∀ a e,s=some (a,e)->WF (pf L) n e a/\e<=d/\pf L e≠0/\(∃ p∈A,inP p e)/\∀ p∈A,p.1<=d->mn p.2.1 d<=e
theorem qlR {p:Pa} {d:Int} (h:p.1<=d) (hp:p.1<=p.2.1):inP p (mn p.2.1 d):=by
 have:=qaC p.2.1 d
 unfold inP;omega
theorem Jz {f:Int->Int} {n x y:Int} (h1:x - n < y) (h2:y<=x) (h:f y≠0):¬ qaE f n x:=fun q=>h (q y h1 h2)
theorem qlS {L:List Pa} (hL:PcOk L) {n d:Int} (hn:1<=n):∀ (B A:List Pa) (s:Option (Int×Int)),L=A++B->ChI L n d A s->ChI L n d L (lfF n d B s)
 | [],A,s,e,h=>by rw [List.append_nil] at e;subst e;exact h
 | p::B,A,s,e,h=>by
  have e':L=(A++[p])++B:=by rw [e];simp
  refine qlS hL hn B (A++[p]) _ e' ?_;have hpL:p∈L:=by rw [e];simp
  have hp:=(hL.ok p hpL).1;have hap:=hL.ap;rw [e] at hap;have hA:∀ q∈A,q.2.1 < p.1:=fun q hq=>(List.pairwise_append.mp hap).2.2 q hq p (by simp);have hB:∀ q∈B,p.2.1 < q.1:=fun q hq=>(List.pairwise_cons.mp (List.pairwise_append.mp hap).2.1).1 q hq;unfold lfS
  by_cases hd:p.1<=d
  case neg=>
   rw [if_neg hd];refine ⟨fun q x hx=>?_,fun a e q=>?_⟩
   ·rcases List.mem_append.mp hx with z | z
    ·exact h.no q x z
    ·rw [List.mem_singleton.mp z];omega
   ·obtain ⟨y1,y2,y3,⟨x,hx,y4⟩,y5⟩:=h.yes a e q;refine ⟨y1,y2,y3,⟨x,by simp [hx],y4⟩,fun x hx hx'=>?_⟩;rcases List.mem_append.mp hx with z | z
    ·exact y5 x z hx'
    ·rw [List.mem_singleton.mp z] at hx';omega
  rw [if_pos hd];have m:=qaC p.2.1 d;have hin:=qlR hd hp;have ne:∀ x,p.1<=x->x<=mn p.2.1 d->pf L x≠0:=fun x h1 h2=>(qhg hL x).mpr ⟨p,hpL,by unfold inP;omega⟩
  have amid:∀ x,x < p.1->(∀ q∈A,¬ inP q x)->pf L x=0:=fun x h1 h2=>qU fun q hq z=>by
   rw [e] at hq;unfold inP at z;rcases List.mem_append.mp hq with y | y
   ·exact h2 q y z
   ·rcases List.mem_cons.mp y with rfl | y
    ·omega
    ·have:=hB q y;omega
  cases s with
  | none=>
   dsimp only;refine ⟨fun q=>(by cases q),fun a e q=>?_⟩;cases q;have hno:=h.no rfl;refine ⟨⟨by unfold inP at hin;omega,ne _ (Int.le_refl _) (by unfold inP at hin;omega),fun x h1 h2=>amid x (1:) fun q hq z=>?_,fun x h1 h2=>Jz (1:) (Int.le_refl _) (ne x h1 h2)⟩,by omega,ne _ (by unfold inP at hin;omega) (Int.le_refl _),⟨p,by simp,hin⟩,fun x hx hx'=>?_⟩
   ·have:=hno q hq
    unfold inP at z;omega
   ·rcases List.mem_append.mp hx with z | z
    ·have:=hno x z;omega
    ·rw [List.mem_singleton.mp z];exact Int.le_refl _
  | some ae=>
   obtain ⟨a,e0⟩:=ae;dsimp only;obtain ⟨w,y2,y3,⟨q0,hq0,y4⟩,y5⟩:=h.yes a e0 rfl;have he:e0 < p.1:=by have:=hA q0 hq0;unfold inP at y4;omega
   have gap:∀ x,e0 < x->x < p.1->pf L x=0:=fun x h1 h2=>amid x h2 fun q hq z=>by
    unfold inP at z
    have:=y5 q hq (1:)
    have:=qaC q.2.1 d
    have:=hA q hq
    omega
   refine ⟨fun q=>(by cases q),fun a' e' q=>?_⟩;cases q
   have last:∀ x∈A++[p],x.1<=d->mn x.2.1 d<=mn p.2.1 d:=fun x hx hx'=>by
    rcases List.mem_append.mp hx with z | z
    ·have:=y5 x z hx'
     unfold inP at hin;omega
    ·rw [List.mem_singleton.mp z];exact Int.le_refl _
   unfold inP at hin;refine ⟨?_,by omega,ne _ (1:) (Int.le_refl _),⟨p,by simp,by unfold inP;omega⟩,last⟩
   by_cases hg:n<=p.1 - e0 - 1
   ·rw [if_pos hg];exact ⟨by omega,ne _ (Int.le_refl _) (1:),fun x h1 h2=>gap x (1:) (1:),fun x h1 h2=>Jz (1:) (Int.le_refl _) (ne x h1 h2)⟩
   ·rw [if_neg hg]
    have:=w.le
    refine ⟨by omega,w.ne,w.ahead,fun x h1 h2=>?_⟩
    by_cases q1:x<=e0
    ·exact w.busy x h1 q1
    ·by_cases q2:x < p.1
     ·exact Jz (y:=e0) (1:) (1:) y3
     ·exact Jz (1:) (Int.le_refl _) (ne x (1:) h2)
theorem qaI {L:List Pa} (hL:PcOk L) {n d:Int} (hn:1<=n):(∀ a,lfE n d (lfF n d L none)=some a->WF (pf L) n d a)/\(lfE n d (lfF n d L none)=none->qaE (pf L) n d):=by
 have h:=qlS hL hn L [] none rfl (d:=d) ⟨fun _ p hp=>(by cases hp),fun a e q=>(by cases q)⟩
 cases e:lfF n d L none with
 | none=>
  rw [e] at h;refine ⟨fun a q=>(by cases q),fun _ x h1 h2=>qU fun p hp z=>?_⟩
  have:=h.no rfl p hp
  unfold inP at z;omega
 | some ae=>
  obtain ⟨a,e0⟩:=ae;rw [e] at h;obtain ⟨w,y2,y3,⟨q0,hq0,y4⟩,y5⟩:=h.yes a e0 rfl
  have gap:∀ x,e0 < x->x<=d->pf L x=0:=fun x h1 h2=>qU fun q hq z=>by
   unfold inP at z
   have:=y5 q hq (1:)
   have:=qaC q.2.1 d
   omega
  unfold lfE;dsimp only
  by_cases hg:n<=d - e0
  ·rw [if_pos hg];exact ⟨fun a q=>(by cases q),fun _ x h1 h2=>gap x (1:) h2⟩
  ·rw [if_neg hg];refine ⟨fun a' q=>?_,fun q=>(by cases q)⟩;cases q
   have:=w.le
   refine ⟨by omega,w.ne,w.ahead,fun x h1 h2=>?_⟩
   by_cases q1:x<=e0
   ·exact w.busy x h1 q1
   ·exact Jz (y:=e0) (1:) (1:) y3
noncomputable def lfW (r:Ru) (L:List Pa) (d:Int):Option Int:=if r.kd.isW=true then some (d - r.days+1) else lfE r.days d (lfF r.days d L none)
def lcF (r:Ru) (L:List Pa) (d:Int):Int:=match lfW r L d with
 | none=>0
 | some a=>Ym a d L
theorem qlT {r:Ru} (h1:1<=r.days) {L:List Pa} (hL:PcOk L) (d:Int):lcF r L d=qH r L d:=by
 unfold lcF lfW
 cases hk:r.kd.isW with
 | true=>rw [if_pos rfl,qbp hk h1 hL,qiT hL,show d - r.days+1+(r.days.toNat:Int) - 1=d by omega]
 | false=>
  rw [if_neg (2:)];have C:=QN h1 hL;rw [hk] at C;obtain ⟨e1,e2⟩:=qaI hL h1 (d:=d)
  cases e:lfE r.days d (lfF r.days d L none) with
  | none=>exact (C.idle rfl d (e2 e)).symm
  | some a=>
   have w:=e1 a e
   have:=w.le
   rw [C.sum w,qiT hL,show a+((d+1 - a).toNat:Int) - 1=d by omega]
theorem qni {r:Ru} (h1:1<=r.days) {L:List Pa} (hL:PcOk L) {d:Int} (hp:0 < qH r L d):lfW r L d=some (qaX r L d):=by
 unfold lfW
 cases hk:r.kd.isW with
 | true=>rw [if_pos rfl];unfold qaX;rw [if_pos hk]
 | false=>
  rw [if_neg (2:)];have C:=QN h1 hL;rw [hk] at C;obtain ⟨e1,e2⟩:=qaI hL h1 (d:=d)
  cases e:lfE r.days d (lfF r.days d L none) with
  | none=>have:=C.idle rfl d (e2 e);omega
  | some a=>
   have hb:¬ qaE (pf L) r.days d:=fun q=>by have:=C.idle rfl d q;omega
   rw [(qeE hk h1 hL hb).unique (e1 a e)]
end FX
namespace FX
open PySem DE DG FA Dy FZ
open L2 hiding St
open XC
def oI:Option Int->D
 | none=>.non
 | some a=>.int a
theorem QQ (cl:Cl) (v0 v1:Sl) (n d:Int):∀ (l:List Pa) (s:Option (Int×Int)) (s6 s7 s8:Sl),
  ∃ s6' s7' s8',yb cl 1000 (.many [6,7,8]) jh (l.map paD) [v0,v1,.val (.int d),.val (.int n),.val (oI (s.map (·.1))),.val (oI (s.map (·.2))),s6,s7,s8]=.ok (.next [v0,v1,.val (.int d),.val (.int n),.val (oI ((lfF n d l s).map (·.1))),.val (oI ((lfF n d l s).map (·.2))),s6',s7',s8'])
 | [],s,s6,s7,s8=>⟨s6,s7,s8,rfl⟩
 | p::l,s,s6,s7,s8=>by
  obtain ⟨s6',s7',s8',ih⟩:=QQ cl v0 v1 n d l (lfS n d s p) (.val (.int p.1)) (.val (.int p.2.1)) (.val (.int p.2.2));refine ⟨s6',s7',s8',?_⟩;rw [lfF,List.map_cons]
  by_cases hd:p.1<=d
  ·cases s with
   | none=>
    have e:lfS n d none p=some (p.1,mn p.2.1 d):=by unfold lfS;rw [if_pos hd]
    rw [e] at ih ⊢;simp only [Option.map,oI] at ih ⊢;show 1;simp? only [qR,qM,hd,mnF,ih]
   | some ae=>
    obtain ⟨a,e0⟩:=ae
    by_cases hg:n<=p.1 - e0 - 1
    ·have e:lfS n d (some (a,e0)) p=some (p.1,mn p.2.1 d):=by unfold lfS;rw [if_pos hd];dsimp only;rw [if_pos hg]
     rw [e] at ih ⊢;simp only [Option.map,oI] at ih ⊢;show 1;simp? only [qR,qM,hd,hg,mnF,ih]
    ·have e:lfS n d (some (a,e0)) p=some (a,mn p.2.1 d):=by unfold lfS;rw [if_pos hd];dsimp only;rw [if_neg hg]
     rw [e] at ih ⊢;simp only [Option.map,oI] at ih ⊢;show 1;simp? only [qR,qM,hd,hg,mnF,ih]
  ·have e:lfS n d s p=s:=by unfold lfS;rw [if_neg hd]
   rw [e] at ih ⊢;show 1;simp? only [qR,qM,hd,ih]
theorem qaJ {pg:Pg} [XC pg] (k:Nat) (b:Bool) (r:Ru) (L:List Pa) (d:Int):clK pg (k+1) "_law_first" [.val (spD r),aL b (L.map paD),.val (.int d)]=.ok (.val (oI (lfW (mkR r) L d))):=by
 obtain ⟨kd,lands,most,days⟩:=r;have a0:atI [D.int (kw kd),.lst (lands.map lnD),.int most,.int days] 0=some (.int (kw kd)):=rfl;have a3:atI [D.int (kw kd),.lst (lands.map lnD),.int most,.int days] 3=some (.int days):=rfl;have three:0+1+1+1<=sizeLine:=by decide+kernel
 rw [r__law_first];unfold spD;dsimp only
 have fin:∀ n:Int,(kw kd == 0)=false->atI [D.int 1,.int days,.int 1] (kw kd)=some (.int n)->lfW (mkR ⟨kd,lands,most,days⟩) L d=lfE n d (lfF n d L none)->runD (pg.kk k) 1000 qV [.val (.tup [.int (kw kd),.lst (lands.map lnD),.int most,.int days]),aL b (L.map paD),.val (.int d)]=.ok (.val (oI (lfW (mkR ⟨kd,lands,most,days⟩) L d))):=fun n h0 h1 h2=>by
  obtain ⟨s6,s7,s8,lp⟩:=QQ (pg.kk k) (.val (.tup [.int (kw kd),.lst (lands.map lnD),.int most,.int days])) (pS b (L.map paD)) n d L none .no .no .no;rw [h2]
  cases e:lfF n d L none with
  | none=>rw [e] at lp;simp only [Option.map,oI,lfE] at lp ⊢;simp? only [qV,a0,a3,qx,h0,three,h1,lp]
  | some ae=>
   obtain ⟨a,e0⟩:=ae;rw [e] at lp;unfold lfE;dsimp only
   by_cases hg:n<=d - e0
   ·rw [if_pos hg];simp only [Option.map,oI] at lp ⊢;simp? only [qV,a0,a3,qx,h0,three,h1,lp,hg]
   ·rw [if_neg hg];simp only [Option.map,oI] at lp ⊢;simp? only [qV,a0,a3,qx,h0,three,h1,lp,hg]
 cases kd with
 | wi=>have h0:(kw .wi == 0)=true:=rfl;have e:lfW (mkR ⟨.wi,lands,most,days⟩) L d=some (d - days+1):=rfl;rw [e];simp? only [qV,a0,a3,qx,h0,oI]
 | si=>exact fin days rfl rfl rfl
 | ro=>exact fin 1 rfl rfl rfl
theorem qeI {pg:Pg} [XC pg] (k:Nat) (b:Bool) (r:Ru) (L:List Pa) (hw:∀ p∈L,0<=p.2.2/\p.2.2<=9) (hl:L.length < 5000) (d:Int):clK pg (k+2) "_law_count" [.val (spD r),aL b (L.map paD),.val (.int d)]=.ok (.val (.int (lcF (mkR r) L d))):=by
 have f:=qaJ (pg:=pg) k b r L d;unfold lcF;rw [r__law_count]
 cases e:lfW (mkR r) L d with
 | none=>rw [e] at f;simp only [oI] at f;simp? only [yr,f]
 | some a=>rw [e] at f;have s:=qeH (pg:=pg) k b L hw hl a d;simp only [oI] at f;simp? only [yr,f,s]
theorem qaK {r r':Ru} (h:r.lands=r'.lands) (lf:List Pr):∀ st:List St,qu r lf st=qu r' lf st
 | []=>rfl
 | s::st=>by rw [qu,qu,qaK h lf st];unfold qG;rw [h]
theorem qeJ (r:Ru) (lf:List Pr) (st:List St):qu r lf st=yL st (mkR r,lf):=qaK (qha r).symm lf st
theorem qi1 {x:Rl} (h:x.2.length<=20) (st:List St):(yL st x).length<=22 * st.length:=by
 unfold yL
 induction st with
 | nil=>exact Nat.zero_le _
 | cons s st ih=>
  rw [qu,List.length_append,List.length_cons]
  have:(qG x.1 x.2 s).length<=22:=by
   unfold qG;split
   ·rw [List.length_map]
    have:=Js (s.2.1,s.2.2) x.2
    omega
   ·simp
  omega
end FX
namespace FX
open PySem DE DG FA Dy FZ
open L2 hiding St
open XT XH
theorem zE (cl:Cl) (v1 v2:Sl) (r:Ru):∀ (l:List Pa) (acc:List Int) (s4 s5 s6:Sl),acc.length+6 * l.length < 10000->
  ∃ (ys:List Int) (s4' s5' s6':Sl),ys.length<=acc.length+6 * l.length/\yb cl 1000 (.many [4,5,6]) ji (l.map paD) [.val (spD r),v1,v2,.own (acc.map D.int),s4,s5,s6]=.ok (.next [.val (spD r),v1,v2,.own (ys.map D.int),s4',s5',s6'])
 | [],acc,s4,s5,s6,_=>⟨acc,s4,s5,s6,by simp,rfl⟩
 | p::l,acc,s4,s5,s6,h=>by
  rw [List.length_cons] at h ⊢;have a0:atI [D.int (kw r.kd),.lst (r.lands.map lnD),.int r.most,.int r.days] 0=some (.int (kw r.kd)):=rfl;have a3:atI [D.int (kw r.kd),.lst (r.lands.map lnD),.int r.most,.int r.days] 3=some (.int r.days):=rfl;have two:0+1+1<=sizeLine:=by decide+kernel
  have four:0+1+1+1+1<=sizeLine:=by decide+kernel
  have z2:acc.length+(0+1+1)<=sizeLine:=qF (1:)
  cases q:(kw r.kd == 0) with
  | false=>obtain ⟨ys,s4',s5',s6',hy,ih⟩:=zE cl v1 v2 r l (acc++[p.1,p.2.1]) (.val (.int p.1)) (.val (.int p.2.1)) (.val (.int p.2.2)) (by simp;omega);refine ⟨ys,s4',s5',s6',by simp at hy;omega,?_⟩;rw [List.map_cons];simp only [List.map_append,List.map_cons,List.map_nil,spD] at ih ⊢;show 1;simp? only [jZ,qM,two,List.length_map,z2,a0,qx,q,ih]
  | true=>obtain ⟨ys,s4',s5',s6',hy,ih⟩:=zE cl v1 v2 r l (acc++[p.1,p.2.1]++[p.1+r.days - 1,p.1+r.days,p.2.1+r.days,p.2.1+r.days+1]) (.val (.int p.1)) (.val (.int p.2.1)) (.val (.int p.2.2)) (by simp;omega);refine ⟨ys,s4',s5',s6',by simp at hy;omega,?_⟩;have z6:acc.length+(0+1+1)+(0+1+1+1+1)<=sizeLine:=qF (1:);rw [List.map_cons];simp only [List.map_append,List.map_cons,List.map_nil,spD] at ih ⊢;show 1;simp? only [jZ,qM,two,four,List.length_map,List.length_append,z2,z6,a0,a3,qx,q,ih]
theorem qbq (cl:Cl) (t:Int):∀ (l acc:List Int) (s0:Sl),acc.length+l.length < 10000->
  zk cl jj (.one 0) (.test (.cmp .LtE (.var 0) (.var 1))) (l.map D.int) [s0,.val (.int t)] (acc.map D.int)=.ok ((acc++l.filter fun x=>decide (x<=t)).map D.int)
 | [],acc,s0,_=>by simp [qL]
 | x::l,acc,s0,h=>by
  rw [List.length_cons] at h;have hz:(acc.map D.int).length < sizeLine:=by rw [List.length_map];exact qE (1:)
  rw [List.filter_cons,List.map_cons]
  by_cases hx:x<=t
  ·rw [if_pos (by simpa using hx)];have ih:=qbq cl t l (acc++[x]) (.val (.int x)) (by simp;omega);simp only [List.map_append,List.map_cons,List.map_nil,List.append_assoc,List.cons_append,List.nil_append] at ih ⊢;show 1;simp? only [j0,hx,hz,ih]
  ·rw [if_neg (by simpa using hx)];have ih:=qbq cl t l acc (.val (.int x)) (1:);show 1;simp? only [j0,hx,ih]
theorem qgn {pg:Pg} [XT pg] (k:Nat) (b:Bool) (r:Ru) (l:List Pa) (hl:l.length<=1000) (t:Int):∃ ys:List Int,ys.length<=6000/\(∀ y∈ys,y<=t)/\clK pg (k+1) "_law_turns" [.val (spD r),aL b (l.map paD),.val (.int t)]=.ok (.tmp (ys.map D.int)):=by
 obtain ⟨ys,s4,s5,s6,hy,lp⟩:=zE (pg.kk k) (pS b (l.map paD)) (.val (.int t)) r l [] .no .no .no (by simp;omega);have hy:ys.length<=6000:=by simp at hy;omega
 have c:=qbq (pg.kk k) t ys [] .no (by simp;omega);rw [List.map_nil,List.nil_append] at c;rw [List.map_nil] at lp;refine ⟨ys.filter fun x=>decide (x<=t),Nat.le_trans (List.length_filter_le _ _) hy,fun y hy=>by simpa using (List.mem_filter.mp hy).2,?_⟩;have z0:(0:Nat)<=sizeLine:=by decide+kernel
 have zy:ys.length<=sizeLine:=qF (1:);rw [r__law_turns];simp? only [Yd,z0,lp,List.length_map,zy,qal,qeZ,List.getD_cons_succ,List.getD_cons_zero,c]
section
variable {pg:Pg} [XP pg] [XC pg] [XT pg] [XH pg] {rs:List Ru} {ps:List Pa} {st:List St} {last:Int}
structure Hd (rs:List Ru) (ps:List Pa) (st:List St):Prop where
 r:∀ r∈rs,SpOk r
 rn:rs.length<=8
 p:∀ p∈ps,p.2.1<=p.2.2
 pn:ps.length<=5
 nm:∀ s∈st,NameOk s.1
 ch:Ch (-1) st
 sn:st.length<=40
 x:∀ x∈rlF ps 0 (rs.map mkR),Rlw x
def pcx (ps:List Pa) (st:List St) (j:Nat) (r:Ru):List Pa:=yL st (mkR r,Yi (j:Int) ps)
theorem Hd.rl (h:Hd rs ps st) {j:Nat} {r:Ru} (hj:rs[j]?=some r):Rlw (mkR r,Yi (j:Int) ps):=h.x _ (List.mem_of_getElem? (i:=j) (by rw [JL,List.getElem?_map,hj,Nat.zero_add];rfl))
theorem Hd.pc (h:Hd rs ps st) {j:Nat} {r:Ru} (hj:rs[j]?=some r):PcOk (pcx ps st j r):=qaG (h.rl hj) h.ch.w
theorem Hd.len (h:Hd rs ps st) {j:Nat} {r:Ru} (hj:rs[j]?=some r):(pcx ps st j r).length<=900:=by
 have:=qi1 (x:=(mkR r,Yi (j:Int) ps)) (h.rl hj).len st
 have:=h.sn
 unfold pcx;omega
theorem Hd.pieces (h:Hd rs ps st) (k:Nat) (b1 b2:Bool) {j:Nat} {r:Ru} (hj:rs[j]?=some r):clK pg (k+1) "_law_pieces" [.val (spD r),aL b1 (ps.map paD),.val (.int (j:Int)),aL b2 (st.map stD)]=.ok (.tmp ((pcx ps st j r).map paD)):=by have q:=qcU (pg:=pg) k b1 b2 r (h.r r (List.mem_of_getElem? hj)).nd ps h.p h.pn j st (fun s hs=>(Ch.lo h.ch s hs).2) (by have:=h.sn;omega);rw [qeJ] at q;exact q
theorem Hd.count (h:Hd rs ps st) (k:Nat) (b:Bool) {j:Nat} {r:Ru} (hj:rs[j]?=some r) (d:Int):clK pg (k+2) "_law_count" [.val (spD r),aL b ((pcx ps st j r).map paD),.val (.int d)]=.ok (.val (.int (qH (mkR r) (pcx ps st j r) d))):=by have q:=qeI (pg:=pg) k b r (pcx ps st j r) (fun p hp=>by have:=(h.pc hj).ok p hp;omega) (by have:=h.len hj;omega) d;rw [qlT (h.rl hj).days (h.pc hj)] at q;exact q
theorem QR (h:Hd rs ps st) (v1 v2 v3:Sl) (k:Nat) {j:Nat} {r:Ru} (hj:rs[j]?=some r) (hc:∀ d,d<=last->qH (mkR r) (pcx ps st j r) d<=r.most):∀ (ds:List Int) (s6:Sl),(∀ d∈ds,d<=last)->
  ∃ s6',yb (pg.kk (k+2)) 1000 (.one 6) jM (ds.map D.int) [.val (.lst (rs.map spD)),v1,v2,v3,.val (.int (j:Int)),.own ((pcx ps st j r).map paD),s6]=.ok (.next [.val (.lst (rs.map spD)),v1,v2,v3,.val (.int (j:Int)),.own ((pcx ps st j r).map paD),s6'])
 | [],s6,_=>⟨s6,rfl⟩
 | d::ds,s6,hd=>by
  obtain ⟨s6',ih⟩:=QR h v1 v2 v3 k hj hc ds (.val (.int d)) fun x hx=>hd x (by simp [hx]);refine ⟨s6',?_⟩;have c:clK pg (k+2) "_law_count" [.val (spD r),.bor ((pcx ps st j r).map paD),.val (.int d)]=_:=h.count (pg:=pg) k true hj d;have a1:atI (rs.map spD) (j:Int)=some (spD r):=qfX (by rw [List.getElem?_map,hj];rfl);have a2:atI [D.int (kw r.kd),.lst (r.lands.map lnD),.int r.most,.int r.days] 2=some (.int r.most):=rfl;have le:¬ r.most < qH (mkR r) (pcx ps st j r) d:=by have:=hc d (hd d (by simp));omega
  rw [List.map_cons];simp only [spD] at c a1;show 1;simp? only [Y7,a1,c,a2,le,ih]
theorem QS (h:Hd rs ps st) (k:Nat) (hc:∀ (j:Nat) (r:Ru),rs[j]?=some r->∀ d,d<=last->qH (mkR r) (pcx ps st j r) d<=r.most):∀ (n i:Nat) (s4 s5 s6:Sl),i+n=rs.length->
  ∃ s4' s5' s6',yb (pg.kk (k+2)) 1000 (.one 4) jN (rgF (i:Int) n) [.val (.lst (rs.map spD)),.bor (ps.map paD),.bor (st.map stD),.val (.int last),s4,s5,s6]=.ok (.next [.val (.lst (rs.map spD)),.bor (ps.map paD),.bor (st.map stD),.val (.int last),s4',s5',s6'])
 | 0,i,s4,s5,s6,_=>⟨s4,s5,s6,rfl⟩
 | n+1,i,s4,s5,s6,hn=>by
  obtain ⟨r,hr⟩:∃ r,rs[i]?=some r:=⟨rs[i]'(1:),List.getElem?_eq_getElem (1:)⟩;have pc:clK pg (k+2) "_law_pieces" [.val (spD r),.bor (ps.map paD),.val (.int (i:Int)),.bor (st.map stD)]=_:=h.pieces (pg:=pg) (k+1) true true hr;obtain ⟨ys,y1,y2,tu⟩:=qgn (pg:=pg) (k+1) true r (pcx ps st i r) (by have:=h.len hr;omega) last;have tu:clK pg (k+2) "_law_turns" [.val (spD r),.bor ((pcx ps st i r).map paD),.val (.int last)]=_:=tu
  obtain ⟨t6,lp⟩:=QR (pg:=pg) h (.bor (ps.map paD)) (.bor (st.map stD)) (.val (.int last)) k hr (hc i r hr) (ys++[last]) s6 fun d hd=>by
   rcases List.mem_append.mp hd with q | q
   ·exact y2 d q
   ·rw [List.mem_singleton.mp q];exact Int.le_refl _
  obtain ⟨s4',s5',s6',ih⟩:=QS h k hc n (i+1) (.val (.int i)) (.own ((pcx ps st i r).map paD)) t6 (1:);refine ⟨s4',s5',s6',?_⟩;have a1:atI (rs.map spD) (i:Int)=some (spD r):=qfX (by rw [List.getElem?_map,hr];rfl);have one:0+1<=sizeLine:=by decide+kernel
  have zy:ys.length+(0+1)<=sizeLine:=qF (1:);rw [List.map_append,List.map_cons,List.map_nil] at lp;rw [show ((i+1:Nat):Int)=(i:Int)+1 by omega] at ih;show 1;rw [rgF];simp? only [Y8,a1,pc,tu,one,List.length_map,zy,lp,ih]
theorem qeK (h:Hd rs ps st) (k:Nat) (hc:∀ (j:Nat) (r:Ru),rs[j]?=some r->∀ d,d<=last->qH (mkR r) (pcx ps st j r) d<=r.most) :
  clK pg (k+3) "_law_held" [.val (.lst (rs.map spD)),.bor (ps.map paD),.bor (st.map stD),.val (.int last)]=.ok (.val (.bl true)):=by
 obtain ⟨s4,s5,s6,lp⟩:=QS (pg:=pg) h k hc rs.length 0 .no .no .no (1:);rw [show ((0:Nat):Int)=0 from rfl] at lp;have sm:qO (rs.length:Int)=true:=YT (1:) (by have:=h.rn;omega);rw [r__law_held];simp? only [Y9,List.length_map,sm,Jf,Int.sub_zero,Int.toNat_natCast,lp]
end
end FX
namespace K34
open PySem L2 DE DG FX FZ
noncomputable def top (i:Nat):Stmt:=PySem.Challenge.pw_daysgate_k34_whole_fault_shown.main.body.getD i (.Pass ⟨0,0,0,0⟩)
def mem (i j:Nat):Stmt:=(qiA (top i)).getD j (.Pass ⟨0,0,0,0⟩)
noncomputable def pg:Pg:={ defs:=[(("spread" : Str),top 2),(("both" : Str),top 3),(("outside" : Str),top 4),(("less" : Str),top 5),(("is_whole" : Str),top 10),(("is_between" : Str),top 11),(("are_days" : Str),top 12),(("is_made_of" : Str),top 13),(("is_name" : Str),top 14),(("is_land" : Str),top 23),(("are_lands" : Str),top 24),(("is_stay" : Str),top 31),(("stays_of" : Str),top 32),(("pieces_among" : Str),top 34),(("sum_of" : Str),top 35),(("first_since" : Str),top 36),(("first_of_window" : Str),top 37),(("count_among" : Str),top 38),(("turns_of" : Str),top 39),(("first_above" : Str),top 40),(("first_broken" : Str),top 41),(("fault_among" : Str),top 42),(("fault_of" : Str),top 43),(("are_rules" : Str),top 47),(("is_paper" : Str),top 48),(("check_papers" : Str),top 49),(("_law_at" : Str),top 52),(("_law_word" : Str),top 53),(("_law_names" : Str),top 54),(("_law_spec" : Str),top 55),(("_law_rule" : Str),top 56),(("_law_stays" : Str),top 57),(("_law_papers" : Str),top 58),(("_law_pieces" : Str),top 59),(("_law_sum" : Str),top 60),(("_law_first" : Str),top 61),(("_law_count" : Str),top 62),(("_law_turns" : Str),top 63),(("_law_held" : Str),top 64),(("_law_whole" : Str),top 65),(("_law_right" : Str),top 66),(("law" : Str),top 67)],gl:=fun x=>if x = "GREATEST" then some (.int 1000000000) else if x = "LETTERS" then some (.str "abcdefghijklmnopqrstuvwxyz") else if x = "LONGEST_NAME" then some (.int 8) else if x = "MOST_LANDS" then some (.int 6) else if x = "GREATEST_WEIGHT" then some (.int 9) else if x = "MOST_STAYS" then some (.int 60) else if x = "MOST_RULES" then some (.int 8) else if x = "MOST_PAPERS" then some (.int 12) else none,m:=40,w:=1000,meths:=[("Rule.weight",mem 25 1),("Book.rules",mem 50 1),("Book.papers",mem 50 2),("Book.lifted",mem 50 3)],cs:=pcs,nw:=pnw }
instance:DG.CH pg:=⟨%[10|1],%[11|1],%[12|1],%[13|1],%[14|1]⟩
instance:DG.ST pg:=⟨%[31|1],%[32|1]⟩
instance:DG.SP pg:=⟨%[2|1]⟩
instance:DG.RU pg:=⟨rfl,rfl,%[23|1],%[24|1],qq (pg:=pg) (st:=mem 25 1) (by kernel_rfl) (fun k cl=>by kernel_rfl)⟩
instance:DG.BO pg:=⟨%[47|1],%[48|1],%[49|1],qq (pg:=pg) (st:=mem 50 1) (by kernel_rfl) (fun k cl=>by kernel_rfl),qq (pg:=pg) (st:=mem 50 2) (by kernel_rfl) (fun k cl=>by kernel_rfl),qq (pg:=pg) (st:=mem 50 3) (by kernel_rfl) (fun k cl=>by kernel_rfl)⟩
instance:DG.BT pg:=⟨%[3|1],%[4|1],%[5|1]⟩
instance:DG.PC pg:=⟨%[34|1]⟩
instance:DG.SU pg:=⟨%[35|1],%[36|1],%[37|1],%[38|1]⟩
instance:DG.FK pg:=⟨%[39|1],%[40|1],%[41|1]⟩
instance:DG.FM pg:=⟨%[42|1]⟩
instance:DG.FO pg:=⟨%[43|1]⟩
instance:FZ.ZA pg:=⟨%[52|1]⟩
instance:FZ.ZW pg:=⟨%[53|1]⟩
instance:FZ.ZN pg:=⟨%[54|1]⟩
instance:FZ.ZS pg:=⟨%[55|1]⟩
instance:FZ.ZR pg:=⟨%[56|1]⟩
instance:FZ.ZT pg:=⟨%[57|1]⟩
instance:FZ.ZP pg:=⟨%[58|1]⟩
instance:FX.XP pg:=⟨%[59|1]⟩
instance:FX.XC pg:=⟨%[60|1],%[61|1],%[62|1]⟩
instance:FX.XT pg:=⟨%[63|1]⟩
instance:FX.XH pg:=⟨%[64|1]⟩
noncomputable def Ye:Nat×Nat×Ss:=(1,1,%[.ret (.and (.isi Ty.int (.var 0)) (.one (.not (.isi Ty.bool (.var 0)))))|0])
theorem qaL:RW pg "_law_whole" Ye:=%[65|1]
abbrev yw:E:=(.call "_law_whole" %[0|0])
def jk:E:=yw
theorem Yn:UE jk yw:=fun _ _ _=>(rfl)
noncomputable abbrev yx:Ss:=%[.set 9 (.call "_law_pieces" %[.idx (.var 1) (.var 8),2,8,3|0]),.ite (.cmp .NotEq (.cmp .Gt (.call "_law_count" %[.idx (.var 1) (.var 8),9,5|0]) (.idx (.idx (.var 1) (.var 8)) (.con (.int 2)))) (.cmp .Eq (.var 8) (.var 6))) %[.ret (.con (.bl false))|0] .nil|0]
def jl:Ss:=yx
theorem Yo:USs jl yx:=fun _ _ _ _=>(rfl)
noncomputable def ja:Nat×Nat×Ss:=(4,10,%[.ite (.and (.cmp .Is (.var 0) (.con .non)) (.one (.cmp .Eq (.var 3) (.lst .nil)))) %[.ret (.con (.bl true))|0] .nil,.ite (.cmp .Is (.var 0) (.con .non)) %[.set 4 (.idx (.idx (.var 3) (.bin .Sub (.b1 .len (.var 3)) (.con (.int 1)))) (.con (.int 2))),.ret (.call "_law_held" %[1,2,3,4|0])|0] .nil,.ite (.or (.not (.val (.isi Ty.tuple (.var 0)))) (.one (.cmp .NotEq (.b1 .len (.var 0)) (.con (.int 3))))) %[.ret (.con (.bl false))|0] .nil,.ite (.not (.val (.b1 .all (.comp jk (.seq (.var 0)) (.one 0) .yes 1 [])))) %[.ret (.con (.bl false))|0] .nil,.setT (.many [5,6,7]) (.var 0),.ite (.or (.val (.b2 .inr (.var 6) (.b1 .len (.var 1)))) (.one (.not (.val (.call "_law_held" %[1,2,3,.bin .Sub (.var 5) (.con (.int 1))|0]))))) %[.ret (.con (.bl false))|0] .nil,.for_ (.one 8) (.rng (.bin .Add (.var 6) (.con (.int 1)))) jl,.set 9 (.call "_law_pieces" %[.idx (.var 1) (.var 6),2,6,3|0]),.ite (.cmp .LtE (.call "_law_sum" %[9,7,5|0]) (.idx (.idx (.var 1) (.var 6)) (.con (.int 2)))) %[.ret (.con (.bl false))|0] .nil,.ret (.cmp .Eq (.call "_law_first" %[.idx (.var 1) (.var 6),9,5|0]) (.var 7))|0])
theorem qaM:RW pg "_law_right" ja:=%[66|1]
noncomputable abbrev qcd:E:=(.call "_law_spec" %[.bin .Add (.call "_law_at" %[1,.con (.int 1)|0]) (.bin .Mult (.bin .Mult (.con (.int 11)) (.var 0)) (.var 0)),3,2|0])
def qbr:E:=qcd
theorem qeL:UE qbr qcd:=fun _ _ _=>(rfl)
abbrev qce:E:=(.call "_law_rule" %[0|0])
def qbs:E:=qce
theorem qeM:UE qbs qce:=fun _ _ _=>(rfl)
noncomputable def qlU:Nat×Nat×Ss:=(1,13,%[.set 1 (.cmp .Eq (.bin .Mod (.call "_law_at" %[0,.con (.int 0)|0]) (.con (.int 2))) (.con (.int 1))),.set 2 (.call "_law_names" %[.call "_law_at" %[0,.con (.int 0)|0],.con (.int 3)|0]),.set 3 (.idx (.lst %[.con (.int 3),.con (.int 3),.con (.int 2),.con (.int 1),.con (.int 8)|0]) (.bin .Mod (.call "_law_at" %[0,.con (.int 1)|0]) (.con (.int 5)))),.set 4 (.comp qbr (.rng (.var 3)) (.one 0) .yes 1 [0,1,2]),.set 5 (.call "_law_stays" %[.sli (.var 0) (.some (.con (.int 4))) (.some (.idx (.lst %[.con (.int 20),.con (.int 12)|0]) (.bin .FloorDiv (.var 3) (.con (.int 8))))),2,1,.bin .Mod (.call "_law_at" %[0,.con (.int 2)|0]) (.con (.int 1000))|0]),.set 6 (.con (.int 10)),.ite (.cmp .NotEq (.var 5) (.lst .nil)) %[.set 6 (.idx (.idx (.var 5) (.bin .Sub (.b1 .len (.var 5)) (.con (.int 1)))) (.con (.int 2)))|0] .nil,.set 7 (.call "_law_papers" %[.sli (.var 0) (.some (.con (.int 3))) (.some (.con (.int 7))),3,.con (.int 0),6|0]),.set 8 (.new "Book" %[.comp qbs (.seq (.var 4)) (.one 0) .yes 1 [],.b1 .list (.var 7)|0]),.set 9 (.b1 .list (.var 5)),.set 10 (.call "fault_of" %[8,9|0]),.ite (.or (.not (.val (.call "_law_right" %[10,4,7,5|0]))) (.one (.cmp .NotEq (.var 9) (.var 5)))) %[.ret (.con (.bl false))|0] .nil,.set 11 (.sli (.var 5) .none (.some (.bin .FloorDiv (.b1 .len (.var 5)) (.con (.int 2))))),.set 12 (.b1 .list (.var 11)),.ite (.not (.val (.call "_law_right" %[.call "fault_of" %[8,12|0],4,7,11|0]))) %[.ret (.con (.bl false))|0] .nil,.ext 12 (.sli (.var 5) (.some (.b1 .len (.var 11))) .none),.ite (.cmp .NotEq (.call "fault_of" %[8,12|0]) (.var 10)) %[.ret (.con (.bl false))|0] .nil,.ret (.and (.cmp .Eq (.call "fault_of" %[8,9|0]) (.var 10)) (.one (.cmp .Is (.call "fault_of" %[.new "Book" %[.lst .nil,.lst .nil|0],9|0]) (.con .non))))|0])
theorem qnj:RW pg "law" qlU:=%[67|1]
end K34
namespace K34
open PySem DE DG FZ FA FX Dy
open L2 hiding St
theorem Qc:∀ (st:List St),(∀ s∈st,NameOk s.1)->qe0 (st.map stD)=true/\qd5 (st.map stD)<=63
 | [],_=>by simp [qe0,qd5]
 | s::l,h=>by obtain ⟨a,b⟩:=Qc l fun t ht=>h t (by simp [ht]);have n:=Ys (h s (by simp));rw [List.map_cons,J5];refine ⟨by simp [qe0,okD,n,a],?_⟩;simp only [qd5,dpD];omega
theorem qaN (ns:List Int) (g:Bool) (zs:List Str) (hz:NamesOk zs):∀ (n i:Nat) (acc:List Ru) (s0:Sl),acc.length+n < 1000->i+n < 1000->
  ∃ rs:List Ru,(∀ r∈rs,SpOk r/\∀ p∈r.lands,p.1∈zs)/\rs.length=n/\zk (pg.kk 19) qbr (.one 0) .yes (rgF (i:Int) n) [s0,.scr (ns.map D.int),.val (.bl g),.bor (zs.map D.str)] (acc.map spD)=.ok ((acc++rs).map spD)
 | 0,i,acc,s0,_,_=>⟨[],fun _ h=>(by cases h),rfl,by simp [rgF,qL]⟩
 | n+1,i,acc,s0,hl,hi=>by
  have c1:clK pg 19 "_law_at" [.scr (ns.map D.int),.val (.int 1)]=.ok (.val (.int (zM ns 1))):=qlH (pg:=pg) 18 ns 1;obtain ⟨r,h1,⟨_,h2⟩,e⟩:=qiR (pg:=pg) 18 g (zM ns 1+11 * (i:Int) * (i:Int)) zs hz;have e:clK pg 19 "_law_spec" [.val (.int (zM ns 1+11 * (i:Int) * (i:Int))),.bor (zs.map D.str),.val (.bl g)]=.ok (.val (spD r)):=e;obtain ⟨rs,g1,g2,ih⟩:=qaN ns g zs hz n (i+1) (acc++[r]) (.val (.int (i:Int))) (by simp;omega) (1:);refine ⟨r::rs,fun x hx=>?_,by simp [g2],?_⟩
  ·rcases List.mem_cons.mp hx with rfl | hx
   ·exact ⟨h1,h2⟩
   ·exact g1 x hx
  ·have mul:Q7 11 (i:Int)=true:=qec (2:) (2:);have mul2:Q7 (11 * (i:Int)) (i:Int)=true:=qec (1:) (1:);have hs:(acc.map spD).length < sizeLine:=by rw [List.length_map];exact qE (1:)
   rw [show ((i+1:Nat):Int)=(i:Int)+1 by omega] at ih;rw [show acc++r::rs=acc++[r]++rs by simp];rw [List.map_append (l₁:=acc),List.map_cons,List.map_nil] at ih;show 1;rw [rgF];simp? only [qeL,c1,mul,mul2,e,hs,ih]
theorem QT:∀ (rs acc:List Ru) (s0:Sl),acc.length+rs.length < 1000->(∀ r∈rs,SpOk r)->zk (pg.kk 19) qbs (.one 0) .yes (rs.map spD) [s0] (acc.map ruI)=.ok ((acc++rs.map mkR).map ruI)
 | [],acc,s0,_,_=>by simp [qL]
 | r::rs,acc,s0,hl,h=>by
  rw [List.length_cons] at hl;have e:clK pg 19 "_law_rule" [.val (spD r)]=.ok (.val (ruI (mkR r))):=FZ.qiS (pg:=pg) 6 r (h r (by simp));have ih:=QT rs (acc++[mkR r]) (.val (spD r)) (by simp;omega) fun x hx=>h x (by simp [hx]);have hs:(acc.map ruI).length < sizeLine:=by rw [List.length_map];exact qE (1:)
  simp only [List.map_append,List.map_cons,List.map_nil,List.append_assoc,List.cons_append,List.nil_append] at ih ⊢;show 1;simp? only [qeM,e,hs,ih]
theorem qeN:∀ (n:Nat) {st:List St} {e:Int},Ch e st->Ch e (st.take n)
 | 0,st,_,_=>by rw [List.take_zero];trivial
 | n+1,[],_,_=>by rw [List.take_nil];trivial
 | n+1,s::l,e,h=>by rw [List.take_succ_cons];exact ⟨h.1,qeN n h.2⟩
theorem qgo (l:List D) (i:Nat) (h:i<=l.length):qa6 l none (some (i:Int))=l.take i:=by unfold qa6;rw [HT.QY,HT.Yz];simp [Nat.min_eq_left h]
theorem qgp (l:List D) (i:Nat) (h:i<=l.length):qa6 l (some (i:Int)) none=l.drop i:=by unfold qa6;rw [HT.QY,HT.Yz,Nat.min_eq_left h];rw [List.take_of_length_le (by rw [List.length_drop];omega)]
theorem qhj {st:List St} (h:st≠[]):atI (st.map stD) ((st.length:Int) - 1)=some (.tup [.str (st.getLast h).1,.int (st.getLast h).2.1,.int (st.getLast h).2.2]):=by have hl:0 < st.length:=List.length_pos_iff.mpr h;rw [show ((st.length:Int) - 1)=((st.length - 1:Nat):Int) by omega];refine qfX ?_;rw [List.getElem?_map,<-List.getLast?_eq_getElem?,List.getLast?_eq_some_getLast h];rfl
theorem qlV (a b:Bool):eqD (.bl a) (.bl b)=some (a == b):=by cases a<;>cases b<;>rfl
theorem Zh (k:Nat) (i:Int):clK pg (k+1) "_law_whole" [.val (.int i)]=.ok (.val (.bl true)):=by rw [qaL];simp? only [Ye]
theorem qlW (o:Option (Int×Int×Int)):eqD (Qf o) (Qf o)=some true:=by
 cases o with
 | none=>exact Zc (by simp [Qf,okD]) (by simp [Qf,dpD])
 | some z=>exact Zc (by simp [Qf,f3D,okD,qe0]) (by simp [Qf,f3D,dpD,qd5])
section
variable {rs:List Ru} {ps:List Pa} {st:List St}
theorem QU (h:Hd rs ps st) (v0 v4 v7:Sl) (day:Int) (j:Nat) (hc:∀ (i:Nat) (r:Ru),i<=j->rs[i]?=some r->(r.most < qH (mkR r) (pcx ps st i r) day↔i=j)):∀ (n i:Nat) (s8 s9:Sl),i+n=j+1->j < rs.length->
  ∃ s8' s9',yb (pg.kk 18) 1000 (.one 8) jl (rgF (i:Int) n) [v0,.val (.lst (rs.map spD)),.bor (ps.map paD),.bor (st.map stD),v4,.val (.int day),.val (.int (j:Int)),v7,s8,s9]=.ok (.next [v0,.val (.lst (rs.map spD)),.bor (ps.map paD),.bor (st.map stD),v4,.val (.int day),.val (.int (j:Int)),v7,s8',s9'])
 | 0,i,s8,s9,_,_=>⟨s8,s9,rfl⟩
 | n+1,i,s8,s9,hn,hl=>by
  obtain ⟨r,hr⟩:∃ r,rs[i]?=some r:=⟨rs[i]'(1:),List.getElem?_eq_getElem (1:)⟩;have pc:clK pg 18 "_law_pieces" [.val (spD r),.bor (ps.map paD),.val (.int (i:Int)),.bor (st.map stD)]=_:=h.pieces (pg:=pg) 17 true true hr;have co:clK pg 18 "_law_count" [.val (spD r),.bor ((pcx ps st i r).map paD),.val (.int day)]=_:=h.count (pg:=pg) 16 true hr day;obtain ⟨s8',s9',ih⟩:=QU h v0 v4 v7 day j hc n (i+1) (.val (.int i)) (.own ((pcx ps st i r).map paD)) (1:) hl;refine ⟨s8',s9',?_⟩;have a1:atI (rs.map spD) (i:Int)=some (spD r):=qfX (by rw [List.getElem?_map,hr];rfl);have a2:atI [D.int (kw r.kd),.lst (r.lands.map lnD),.int r.most,.int r.days] 2=some (.int r.most):=rfl;have q:=hc i r (1:) hr
  have e:(decide (r.most < qH (mkR r) (pcx ps st i r) day) == ((i:Int) == (j:Int)))=true:=by
   by_cases z:i=j
   ·rw [decide_eq_true (q.mpr z),z];simp
   ·rw [decide_eq_false (fun y=>z (q.mp y))];simp;omega
  rw [show ((i+1:Nat):Int)=(i:Int)+1 by omega] at ih;simp only [spD] at pc co a1;show 1;rw [rgF];simp? only [Yo,a1,pc,co,a2,qx,qlV,e,ih]
theorem qcf (h:Hd rs ps st):clK pg 19 "_law_right" [.val (Qf (yn (rs.map mkR) ps st)),.val (.lst (rs.map spD)),.bor (ps.map paD),.bor (st.map stD)]=.ok (.val (.bl true)):=by
 obtain ⟨f0,f1⟩:=qiY h.ch.w h.x;have get:∀ (j:Nat) (r:Ru),rs[j]?=some r->(rlF ps 0 (rs.map mkR))[j]?=some (mkR r,Yi (j:Int) ps):=fun j r hr=>by rw [JL,List.getElem?_map,hr,Nat.zero_add];rfl
 have eq0:eqD (.lst (st.map stD)) (.lst [])=some st.isEmpty:=by rw [qd6 (Qc st h.nm).1 (Qc st h.nm).2,List.isEmpty_map]
 have z0:(0:Nat)<=sizeLine:=by decide+kernel
 rw [show (19:Nat)=18+1 from rfl,qaM]
 cases hf:yn (rs.map mkR) ps st with
 | none=>
  simp only [Qf]
  by_cases q:st=[]
  ·have em:st.isEmpty=true:=by rw [q];rfl
   rw [em] at eq0;simp? only [ja,z0,eq0]
  ·have em:st.isEmpty=false:=by cases e:st with | nil=>exact absurd e q | cons s l=>rfl
   rw [em] at eq0;have a1:=qhj q;have a2:∀ (x:Str) (a b:Int),atI [D.str x,.int a,.int b] 2=some (.int b):=fun _ _ _=>rfl
   have hd:clK pg 18 "_law_held" [.val (.lst (rs.map spD)),.bor (ps.map paD),.bor (st.map stD),.val (.int (st.getLast q).2.2)]=_:=qeK (pg:=pg) h 15 fun j r hr d _=>by
    have:=f0 hf _ (List.mem_of_getElem? (get j r hr)) d
    unfold cb at this;rw [Ju] at this;exact this
   simp? only [ja,z0,eq0,List.length_map,a1,a2,hd]
 | some z=>
  have bf:=f1 z hf;obtain ⟨j,x,e1,e2,e3,e4,e5⟩:=bf.at_;rw [JL,Nat.zero_add,List.getElem?_map] at e1;obtain ⟨r',e1',rfl⟩:=Option.map_eq_some_iff.mp e1;obtain ⟨r,hr,rfl⟩:=Option.map_eq_some_iff.mp e1';have hj:j < rs.length:=(List.getElem?_eq_some_iff.mp hr).1;dsimp only at e3 e4;unfold cb at e4;dsimp only at e4;rw [Ju] at e4;have hro:=h.r r (List.mem_of_getElem? hr)
  have hd:clK pg 18 "_law_held" [.val (.lst (rs.map spD)),.bor (ps.map paD),.bor (st.map stD),.val (.int (z.1 - 1))]=_:=qeK (pg:=pg) h 15 fun i r hr d hd=>by
   have:=bf.low _ (List.mem_of_getElem? (get i r hr)) d (1:)
   unfold cb at this;rw [Ju] at this;exact this
  obtain ⟨s8,s9,lp⟩:=QU h (.val (f3D z)) .no (.val (.int z.2.2)) z.1 j (fun i y hi hy=>by
   constructor
   ·intro q
    by_cases z':i=j
    ·exact z'
    ·have:=e5 i (1:) _ (get i y hy)
     unfold cb at this;rw [Ju] at this;exact absurd q (Int.not_lt.mpr this)
   ·rintro rfl;rw [hr] at hy;cases hy;exact e4) (j+1) 0 .no .no (1:) hj
  have P:=h.pc hr
  have cp:0 < qH (mkR r) (pcx ps st j r) z.1:=by
   have:=hro.m0
   show 0 < qH (mkR r) (yL st (mkR r,Yi (j:Int) ps)) z.1;omega
  have lf:=qni (h.rl hr).days P cp;have lc:=qlT (h.rl hr).days P z.1;unfold lcF at lc;rw [lf] at lc;dsimp only at lc;have e3':z.2.2=qaX (mkR r) (pcx ps st j r) z.1:=e3;have pc:clK pg 18 "_law_pieces" [.val (spD r),.bor (ps.map paD),.val (.int (j:Int)),.bor (st.map stD)]=_:=h.pieces (pg:=pg) 17 true true hr;have sm:clK pg 18 "_law_sum" [.bor ((pcx ps st j r).map paD),.val (.int z.2.2),.val (.int z.1)]=_:=qeH (pg:=pg) 17 true (pcx ps st j r) (fun p hp=>by have:=P.ok p hp;omega) (by have:=h.len hr;omega) z.2.2 z.1;rw [e3',lc,<-e3'] at sm;have fi:clK pg 18 "_law_first" [.val (spD r),.bor ((pcx ps st j r).map paD),.val (.int z.1)]=_:=qaJ (pg:=pg) 17 true r (pcx ps st j r) z.1;rw [lf,<-e3'] at fi;simp only [oI] at fi
  have le:¬ qH (mkR r) (pcx ps st j r) z.1<=r.most:=by show ¬ qH (mkR r) (yL st (mkR r,Yi (j:Int) ps)) z.1<=r.most;omega
  have a1:atI (rs.map spD) (j:Int)=some (spD r):=qfX (by rw [List.getElem?_map,hr];rfl);have a2:atI [D.int (kw r.kd),.lst (r.lands.map lnD),.int r.most,.int r.days] 2=some (.int r.most):=rfl
  have hall:zk (pg.kk 18) jk (.one 0) .yes [.int z.1,.int (j:Int),.int z.2.2] [.no] []=.ok [.bl true,.bl true,.bl true]:=by
   have w:=fun i=>Zh 17 i;have y0:(0:Nat) < sizeLine:=by decide+kernel
   have y1:(0:Nat)+1 < sizeLine:=by decide+kernel
   have y2:(0:Nat)+1+1 < sizeLine:=by decide+kernel
   show 1;simp? only [Yn,w,y0,y1,y2]
  have y3:(0:Nat)+1+1+1<=sizeLine:=by decide+kernel
  have al:qkd (.tmp [D.bl true,.bl true,.bl true])=.ok (.val (.bl true)):=rfl;have t33:((3:Int) == 3)=true:=rfl;have e33:(((0:Nat)+1+1+1:Nat):Int)=3:=rfl
  have ir:qfu (.val (.int (j:Int))) (.val (.int (rs.length:Int)))=.ok (.val (.bl false)):=by show R.ok (Rv.val (.bl (!decide (0<=(j:Int)/\(j:Int) < (rs.length:Int)))))=_;rw [decide_eq_true (1:)];rfl
  have sj:qO ((j:Int)+1)=true:=YT (1:) (by have:=h.rn;omega);have tj:((j:Int)+1 - 0).toNat=j+1:=by omega
  have ee:(z.2.2 == z.2.2)=true:=beq_self_eq_true _;rw [show ((0:Nat):Int)=0 from rfl] at lp;simp only [Qf,f3D,e2,spD] at lp pc fi a1 ⊢;simp? only [ja,t33,e33,qx,y3,qal,qeZ,List.getD_cons_succ,List.getD_cons_zero,hall,al,List.length_map,ir,hd,sj,Jf,tj,lp,a1,pc,sm,a2,le,fi,ee]
end
end K34
namespace K34
open PySem DE DG FZ FA FX Dy
open L2 hiding St
theorem qnk (c:Int):∃ m:Nat,atI [D.int 3,.int 3,.int 2,.int 1,.int 8] (c % 5)=some (.int (m:Int))/\1<=m/\m<=8:=by
 have m0:0<=c % 5:=Int.emod_nonneg _ (2:);have m1:c % 5 < 5:=Int.emod_lt_of_pos _ (2:);generalize c % 5=q at m0 m1
 have:q=0\/q=1\/q=2\/q=3\/q=4:=by omega
 rcases this with rfl | rfl | rfl | rfl | rfl
 ·exact ⟨3,rfl,by omega,by omega⟩
 ·exact ⟨3,rfl,by omega,by omega⟩
 ·exact ⟨2,rfl,by omega,by omega⟩
 ·exact ⟨1,rfl,by omega,by omega⟩
 ·exact ⟨8,rfl,by omega,by omega⟩
theorem ends {m:Nat} (m1:1<=m) (m8:m<=8):∃ b:Nat,atI [D.int 20,.int 12] ((m:Int) / 8)=some (.int (b:Int))/\4<=b/\b<=20:=by
 by_cases h:m=8
 ·subst h;exact ⟨12,rfl,by omega,by omega⟩
 ·have:(m:Int) / 8=0:=by omega
  rw [this];exact ⟨20,rfl,by omega,by omega⟩
theorem qgq (ns:List Int) (hl:ns.length<=63):clK pg 20 "law" [.scr (ns.map D.int)]=.ok (.val (.bl true)):=by
 have cell:∀ i:Nat,clK pg 19 "_law_at" [.scr (ns.map D.int),.val (.int (i:Int))]=.ok (.val (.int (zM ns i))):=fun i=>qlH (pg:=pg) 18 ns i;have c0:clK pg 19 "_law_at" [.scr (ns.map D.int),.val (.int 0)]=.ok (.val (.int (zM ns 0))):=cell 0;have c1:clK pg 19 "_law_at" [.scr (ns.map D.int),.val (.int 1)]=.ok (.val (.int (zM ns 1))):=cell 1;have c2:clK pg 19 "_law_at" [.scr (ns.map D.int),.val (.int 2)]=.ok (.val (.int (zM ns 2))):=cell 2;generalize zM ns 0=n0 at c0;generalize zM ns 2=n2 at c2;obtain ⟨m,am,m1,m8⟩:=qnk (zM ns 1);obtain ⟨b,ab,b4,b20⟩:=ends m1 m8;obtain ⟨cs1,e1,l1⟩:=qep ns 4 b;obtain ⟨cs2,e2,l2⟩:=qep ns 3 7;have e1:qa6 (ns.map D.int) (some 4) (some (b:Int))=cs1.map D.int:=e1;have e2:qa6 (ns.map D.int) (some 3) (some 7)=cs2.map D.int:=e2;obtain ⟨zs,ez,lz,hz,_⟩:=qgf (pg:=pg) 17 n0 3 (1:);have ez:clK pg 19 "_law_names" [.val (.int n0),.val (.int 3)]=.ok (.tmp (zs.map D.str)):=ez;generalize hg:(n0 % 2 == 1)=g;obtain ⟨rs,r1,r2,er⟩:=qaN ns g zs hz m 0 [] .no (by simp;omega) (1:);rw [List.map_nil,List.nil_append,show ((0:Nat):Int)=0 from rfl] at er;have rok:∀ r∈rs,SpOk r:=fun r hr=>(r1 r hr).1;have s0:0<=n2 % 1000:=Int.emod_nonneg _ (2:);have s1:n2 % 1000 < 1000:=Int.emod_lt_of_pos _ (2:);obtain ⟨st,est,hch,hlen,hst⟩:=FZ.Zi (pg:=pg) 18 g cs1 (1:) zs hz (n2 % 1000) s0 (1:);have est:clK pg 19 "_law_stays" [.val (.lst (cs1.map D.int)),.bor (zs.map D.str),.val (.bl g),.val (.int (n2 % 1000))]=.ok (.tmp (st.map stD)):=est;have hch:Ch (-1) st:=Ch.weak (1:) hch;have nmk:∀ s∈st,NameOk s.1:=fun s hs=>hz.ok _ (hst s hs).1;have top:∀ s∈st,s.2.2 < 100000000:=fun s hs=>by have:=(hst s hs).2;omega
 have lng:∃ long:Int,0<=long/\long < 100000000/\((st=[]/\long=10)\/∃ h:st≠[],long=(st.getLast h).2.2):=by
  by_cases h:st=[]
  ·exact ⟨10,by decide,by decide,.inl ⟨h,rfl⟩⟩
  ·have m:=List.getLast_mem h;have b:=Ch.lo hch _ m;exact ⟨_,by omega,top _ m,.inr ⟨h,rfl⟩⟩
 obtain ⟨long,g0,g1,glong⟩:=lng;obtain ⟨ps,ep,p1,p2⟩:=qey (pg:=pg) 18 true (m:Int) long 0 (1:) (2:) g0 (1:) cs2 (1:);have ep:clK pg 19 "_law_papers" [.val (.lst (cs2.map D.int)),.val (.int (m:Int)),.val (.int 0),.val (.int long)]=.ok (.tmp (ps.map paD)):=ep;have er1:=QT rs [] .no (by simp;omega) rok;rw [List.map_nil,List.nil_append] at er1;have po:∀ p∈ps,p.2.1<=p.2.2:=fun p hp=>(p2 p hp).1.ab
 have k1:∀ r∈rs.map mkR,(∀ p∈r.lands,LnOk p)/\1<=r.days/\0<=r.most:=fun r hr=>by obtain ⟨y,hy,rfl⟩:=List.mem_map.mp hr;exact qlI (rok y hy)
 have w1:∀ x∈rlF ps 0 (rs.map mkR),Rlw x:=qlQ k1 po (1:)
 have b1:pg.nw 19 "Book" [.val (.lst ((rs.map mkR).map ruI)),.val (.lst (ps.map paD))]=.ok (.val (bkI (rs.map mkR) ps)):=qeq (pg:=pg) 7 false false (rs.map mkR) ps (by rw [List.length_map];omega) (1:) fun p hp=>by
  have h:=(p2 p hp).1
  have:=h.o0;have:=h.o1;have:=h.a0;have:=h.ab;have:=h.b1
  rw [List.length_map];omega
 have W:∀ n:Nat,Hd rs ps (st.take n):=fun n=>⟨rok,by omega,po,by omega,fun s hs=>nmk s (List.mem_of_mem_take hs),qeN n hch,by rw [List.length_take];exact Nat.le_trans (Nat.min_le_right _ _) (1:),w1⟩;have fo:∀ (bb:Bool) (n:Nat),clK pg 19 "fault_of" [.val (bkI (rs.map mkR) ps),aL bb ((st.take n).map stD)]=.ok (.val (Qf (yn (rs.map mkR) ps (st.take n)))):=fun bb n=>QK (pg:=pg) 11 bb (rs.map mkR) ps (1:) (st.take n) (W n).nm (W n).ch (by have:=(W n).sn;omega) fun x hx=>qnh (w1 x hx) (W n).ch.w
 have f1:clK pg 19 "fault_of" [.val (bkI (rs.map mkR) ps),.bor (st.map stD)]=.ok (.val (Qf (yn (rs.map mkR) ps st))):=by
  have:=fo true st.length
  rwa [List.take_length] at this
 have f2:clK pg 19 "fault_of" [.val (bkI (rs.map mkR) ps),.bor ((st.take (st.length / 2)).map stD)]=_:=fo true (st.length / 2)
 have f3:clK pg 19 "fault_of" [.val (bkI [] []),.bor (st.map stD)]=.ok (.val .non):=by
  have:=QK (pg:=pg) 11 true [] [] (by simp) st nmk hch (1:) fun x hx=>(by cases hx)
  exact this
 have b0:pg.nw 19 "Book" [.val (.lst []),.val (.lst [])]=.ok (.val (bkI [] [])):=qeq (pg:=pg) 7 false false [] [] (by simp) (by simp) fun p hp=>(by cases hp)
 have rt1:clK pg 19 "_law_right" [.val (Qf (yn (rs.map mkR) ps st)),.val (.lst (rs.map spD)),.bor (ps.map paD),.bor (st.map stD)]=.ok (.val (.bl true)):=by
  have:=qcf (W st.length)
  rwa [List.take_length] at this
 have rt2:=qcf (W (st.length / 2));have es:eqD (.lst (st.map stD)) (.lst (st.map stD))=some true:=Zc (by simpa only [okD] using (Qc st nmk).1) (by simp only [dpD];have:=(Qc st nmk).2;omega);have ef:=qlW (yn (rs.map mkR) ps st);have hd:((st.length:Nat):Int) / 2=((st.length / 2:Nat):Int):=by omega
 have q1:qa6 (st.map stD) none (some ((st.length / 2:Nat):Int))=(st.take (st.length / 2)).map stD:=by rw [qgo _ _ (by rw [List.length_map];omega),List.map_take]
 have q0:(st.take (st.length / 2)).length=st.length / 2:=by rw [List.length_take];omega
 have q2:qa6 (st.map stD) (some ((st.length / 2:Nat):Int)) none=(st.drop (st.length / 2)).map stD:=by rw [qgp _ _ (by rw [List.length_map];omega),List.map_drop]
 have q3:(st.take (st.length / 2)).map stD++(st.drop (st.length / 2)).map stD=st.map stD:=by rw [<-List.map_append,List.take_append_drop]
 have q4:st.length / 2+(st.drop (st.length / 2)).length<=sizeLine:=by rw [List.length_drop];exact qF (1:)
 have two:(0:Int) < 2/\(2:Int) < 1073741824:=by decide
 have z6:(0:Nat)<=sizeLine:=by decide+kernel
 have z4:rs.length<=sizeLine:=qF (1:);have sm:qO (m:Int)=true:=YT (1:) (1:);have zm:m<=sizeLine:=qF (1:);have five:0+1+1+1+1+1<=sizeLine:=by decide+kernel
 have tw:0+1+1<=sizeLine:=by decide+kernel
 have e8:(0:Int) < 8/\(8:Int) < 1073741824:=by decide
 have X:∀ {β:Type} (K:Fl->R β),(iS (pg.kk 19) 1000 (.ite (.cmp .NotEq (.var 5) (.lst .nil)) %[.set 6 (.idx (.idx (.var 5) (.bin .Sub (.b1 .len (.var 5)) (.con (D.int 1)))) (.con (D.int 2)))|0] .nil) [.scr (ns.map D.int),.val (.bl g),.own (zs.map D.str),.val (.int (m:Int)),.own (rs.map spD),.own (st.map stD),.val (.int 10),.no,.no,.no,.no,.no,.no]).th K=K (.next [.scr (ns.map D.int),.val (.bl g),.own (zs.map D.str),.val (.int (m:Int)),.own (rs.map spD),.own (st.map stD),.val (.int long),.no,.no,.no,.no,.no,.no]):=fun K=>by
  have eq0:eqD (.lst (st.map stD)) (.lst [])=some st.isEmpty:=by rw [qd6 (Qc st nmk).1 (Qc st nmk).2,List.isEmpty_map]
  rcases glong with ⟨q,rfl⟩ | ⟨q,rfl⟩
  ·rw [q] at eq0 ⊢;have eq0:eqD (.lst []) (.lst [])=some true:=eq0;simp? only [z6,List.map_nil,eq0]
  ·have em:st.isEmpty=false:=by cases h:st with | nil=>exact absurd h q | cons s l=>rfl
   rw [em] at eq0;have a1:=qhj q;have a2:∀ (x:Str) (a b:Int),atI [D.str x,.int a,.int b] 2=some (.int b):=fun _ _ _=>rfl;simp? only [z6,eq0,List.length_map,a1,a2]
 rw [show (20:Nat)=19+1 from rfl,qnj];have h1:(n0 % 2 == 1)=g:=hg;simp? only [qlU,↓X,c0,c1,c2,qx,h1,ez,five,tw,am,ab,e8,sm,Jf,Int.sub_zero,Int.toNat_natCast,qem,zm,qal,qeZ,List.getD_cons_succ,List.getD_cons_zero,er,e1,e2,est,ep,List.length_map,z4,er1,b1,f1,rt1,es,two,hd,q1,f2,rt2,q0,q2,q3,q4,ef,z6,b0,f3]
end K34
namespace DE
open PySem PySem.Spec PyProof.Rows L2
def Ja (G G' H:Hp):Prop:=∀ a o,G' a=some o->(∃ o',G a=some o')\/H a=none
def But (p:Addr) (H H':Hp):Prop:=∀ a o,a≠p->H a=some o->H' a=some o
noncomputable def qcW (κ:KC) (K:Frag) (ok:Str->Bool) (go:List Ar->Option (List (Str×D))):Sp:=fun vs H Q _=>∃ (G:Hp) (c:Str) (C p dx:Addr) (us:List V) (args:List Ar) (fs:List (Str×D)),vs=.ref p::us/\ok c=true/\κ c=some C/\
 H p=some (.ins C dx [])/\G p=none/\qv G H/\JC κ K G H args us/\go args=some fs/\
 ∀ G' H' xs,qv G G'->qv G' H'->G' p=none->But p H H'->Ja G G' H->H' p=some (.ins C dx ((fs.map (·.1)).zip xs))->xs.length=fs.length->qr κ G' (fs.map (·.2)) xs->Q .non H'
section
variable {κ:KC} {K:Frag} {G H G' H':Hp}
theorem QV {cl:Str->List Ar->R Rv} {f:Str} {args:List Ar} {vs:List V} {r:Rv} {Q:VK} {E:XK} (sub:qv G H) (ha:JC κ K G H args vs) (e:cl f args=.ok r)
  (h:∀ v G' H',qv H H'->qv G G'->qv G' H'->Ja G G' H->ReR κ G' H' H r v->Q v H'):spF κ K cl f vs H Q E:=⟨G,args,sub,ha,by rw [e];exact h⟩
theorem ArR.low {a:Ar} {v:V} (h:ArR κ K G H a v) (gs:qv G G') (hs:∀ b o,H b=some o->(∀ C dx fs,o≠.ins C dx fs)->H' b=some o):(∀ l,a≠.scr l)->ArR κ K G' H' a v:=fun hn=>by
 cases a with
 | val d=>exact Rep.same gs h
 | bor l=>obtain ⟨b,xs,e,h1,h2⟩:=h;exact ⟨b,xs,e,hs _ _ h1 (by intros;intro z;cases z),h2.same gs⟩
 | scr l=>exact absurd rfl (hn l)
theorem ZC {nw:Str->List Ar->R Rv} {f c:Str} {C:Addr} {ok:Str->Bool} {go:List Ar->Option (List (Str×D))} (hC:κ c=some C) (hok:ok c=true)
  (hgo:∀ args r,nw f args=.ok r->(∀ a∈args,∀ l,a≠.scr l)/\∃ fs,go args=some fs/\r=.val (.ins c (fs.map (·.1)) (fs.map (·.2)))) :
  ∀ vs H Q,spF κ K nw f vs H Q E0->∀ x dx,H x=none->H dx=none->dx≠x->qcW κ K ok go (.ref x::vs) (upd (upd H dx (.own x)) x (.ins C dx [])) (fun v H2=>v=.non/\Q (.ref x) H2) E0:=by
 rintro vs H Q ⟨G,args,sub,ha,hw⟩ x dx hx hdx ne
 cases e:nw f args with
 | no=>rw [e] at hw;exact hw.elim
 | exc c l=>rw [e] at hw;exact hw.elim
 | ok r=>
  rw [e] at hw;obtain ⟨hs,fs,hg,rfl⟩:=hgo args r e;have gx:G x=none:=qv.none sub hx;have gd:G dx=none:=qv.none sub hdx
  have up:qv H (upd (upd H dx (.own x)) x (.ins C dx [])):=fun b o hb=>by
   have nb:b≠x:=fun z=>by rw [z,hx] at hb;cases hb
   have nd:b≠dx:=fun z=>by rw [z,hdx] at hb;cases hb
   rw [qe nb,qe nd];exact hb
  have ha':∀ {args:List Ar} {vs:List V},(∀ a∈args,∀ l,a≠.scr l)->JC κ K G H args vs->JC κ K G (upd (upd H dx (.own x)) x (.ins C dx [])) args vs:=by
   intro args
   induction args with
   | nil=>intro vs _ h;simp only [JC] at h ⊢;exact h
   | cons a l ih=>intro vs hn h;simp only [JC] at h ⊢;obtain ⟨v,r,e,h1,h2⟩:=h;exact ⟨v,r,e,h1.low (fun _ _ z=>z) (fun b o hb _=>up b o hb) (hn a (List.mem_cons_self ..)),ih (fun b hb=>hn b (List.mem_cons_of_mem _ hb)) h2⟩
  refine ⟨G,c,C,x,dx,vs,args,fs,rfl,hok,hC,qh,gx,fun b o hb=>up b o (sub b o hb),ha' hs ha,hg,fun G' H' xs gs sub' gx' but fr hp hl rp=>⟨rfl,?_⟩⟩;refine hw (.ref x) (upd G' x (.ins C dx ((fs.map (·.1)).zip xs))) H' (fun b o hb=>?_) (fun b o hb=>?_) (fun b o hb=>?_) (fun b o hb=>?_) ?_
  ·exact but b o (fun z=>by rw [z,hx] at hb;cases hb) (up b o hb)
  ·exact qv.upd gx' b o (gs b o hb)
  ·by_cases z:b=x
   ·subst z;rw [qh] at hb;cases hb;exact hp
   ·rw [qe z] at hb;exact sub' b o hb
  ·by_cases z:b=x
   ·subst z;exact .inr hx
   ·rw [qe z] at hb;rcases fr b o hb with q | q
    ·exact .inl q
    ·refine .inr ?_
     cases w:H b with
     | none=>rfl
     | some o'=>rw [up b o' w] at q;cases q
  ·simp only [ReR,Rep];exact ⟨x,dx,C,xs,hC,rfl,qh,by rw [hl,List.length_map],rp.same (qv.upd gx')⟩
end
end DE
namespace DG
open PySem PySem.Spec PyProof.Rows L2 DE
theorem zF {G G' H:Hp} {p:Addr} {o:L2.HO} (fr:Ja G G' H) (g:G p=none) (h:H p=some o):G' p=none:=by
 cases e:G' p with
 | none=>rfl
 | some o'=>
  rcases fr p o' e with ⟨o'',z⟩ | z
  ·rw [g] at z;cases z
  ·rw [h] at z;cases z
theorem Ja.trans {G G1 G2 H H1:Hp} (a:Ja G G1 H) (s:qv H H1) (b:Ja G1 G2 H1):Ja G G2 H:=fun x o h=>by
 rcases b x o h with ⟨o',z⟩ | z
 ·exact a x o' z
 ·exact .inr (qv.none s z)
theorem Ja.transB {G G1 G2 H H1:Hp} {p:Addr} {o:L2.HO} (a:Ja G G1 H) (s:But p H H1) (hp:H1 p=some o) (b:Ja G1 G2 H1):Ja G G2 H:=fun x o h=>by
 rcases b x o h with ⟨o',z⟩ | z
 ·exact a x o' z
 ·refine .inr ?_;have nx:x≠p:=fun q=>by rw [q,hp] at z;cases z
  cases w:H x with
  | none=>rfl
  | some o'=>rw [s x o' nx w] at z;cases z
def aA (b:Bool) (l:List D):Ar:=match b with
 | true=>.bor l
 | false=>.val (.lst l)
theorem qaO {a:Ar} {l:List D} (e:arL a=some l):∃ b,a=aA b l:=by
 unfold arL at e
 split at e
 ·cases e;exact ⟨false,rfl⟩
 ·cases e;exact ⟨true,rfl⟩
 ·cases e
theorem qcg {a:Ar} {n:Int} (e:arI a=some n):a=.val (.int n):=by
 unfold arI at e
 split at e
 ·cases e;rfl
 ·cases e
theorem qbt {κ:KC} {K:Frag} {G H:Hp} {b:Bool} {l:List D} {v:V} (sub:qv G H) (h:ArR κ K G H (aA b l) v):∃ p xs,v=.ref p/\H p=some (.lst xs)/\qr κ G l xs:=by
 cases b with
 | false=>simp only [aA,ArR,Rep] at h;obtain ⟨a,xs,e,h1,h2⟩:=h;exact ⟨a,xs,e,sub _ _ h1,h2⟩
 | true=>exact h
theorem qlX {κ:KC} {K:Frag} {G H G' H':Hp} {b:Bool} {l:List D} {v:V} (h:ArR κ K G H (aA b l) v) (gs:qv G G') (hs:qv H H'):ArR κ K G' H' (aA b l) v:=h.low gs (fun b o e _=>hs b o e) (fun l'=>by cases b<;>(intro z;cases z))
theorem qaP {args:List Ar} {fs:List (Str×D)} (h:qbU args=some fs):∃ b l m,args=[aA b l,.val (.int m)]/\qJ l=true/\btw m 0 1000000000=true/\fs=([("lands",.tup l),("most",.int m)]:List (Str×D)):=by
 unfold qbU at h
 split at h
 ·split at h
  ·rename_i e1 e2
   split at h
   ·rename_i hc;cases h;rw [Bool.and_eq_true] at hc;obtain ⟨b,rfl⟩:=qaO e1;obtain rfl:=qcg e2;exact ⟨b,_,_,rfl,hc.1,hc.2,rfl⟩
   ·cases h
  ·cases h
 ·cases h
theorem jD {x:Str} {args:List Ar} {fs:List (Str×D)} (h:yc x args=some fs):∃ b l m s,args=[aA b l,.val (.int m),.val (.int s)]/\qJ l=true/\btw m 0 1000000000=true/\btw s 1 1000000000=true/\fs=([("lands",.tup l),("most",.int m),(x,.int s)]:List (Str×D)):=by
 unfold yc at h
 split at h
 ·split at h
  ·rename_i e1 e2 e3
   split at h
   ·rename_i hc;cases h;rw [Bool.and_eq_true,Bool.and_eq_true] at hc;obtain ⟨b,rfl⟩:=qaO e1;obtain rfl:=qcg e2;obtain rfl:=qcg e3;exact ⟨b,_,_,_,rfl,hc.1.1,hc.1.2,hc.2,rfl⟩
   ·cases h
  ·cases h
 ·cases h
theorem ZD {args:List Ar} {fs:List (Str×D)} (h:qcM args=some fs):∃ b l m,args=[aA b l,.val (.int m)]/\qJ l=true/\btw m 0 1000000000=true/\fs=([("lands",.tup l),("most",.int m),("leave",.int 1)]:List (Str×D)):=by
 unfold qcM at h
 split at h
 ·split at h
  ·rename_i e1 e2
   split at h
   ·rename_i hc;cases h;rw [Bool.and_eq_true] at hc;obtain ⟨b,rfl⟩:=qaO e1;obtain rfl:=qcg e2;exact ⟨b,_,_,rfl,hc.1,hc.2,rfl⟩
   ·cases h
  ·cases h
 ·cases h
theorem Qd {args:List Ar} {fs:List (Str×D)} (h:Qz args=some fs):∃ b c l ps,args=[aA b l,aA c ps]/\(decide (l.length<=8)&&l.all qap)=true/\(decide (ps.length<=12)&&ps.all (yF l.length))=true/\fs=([("kept_rules",.lst l),("kept_papers",.lst ps)]:List (Str×D)):=by
 unfold Qz at h
 split at h
 ·split at h
  ·rename_i e1 e2
   split at h
   ·rename_i hc;cases h;rw [Bool.and_eq_true] at hc;obtain ⟨b,rfl⟩:=qaO e1;obtain ⟨c,rfl⟩:=qaO e2;exact ⟨b,c,_,_,rfl,hc.1,hc.2,rfl⟩
   ·cases h
  ·cases h
 ·cases h
theorem qaQ {b:Bool} {l:List D} {m:Int} (ol:qJ l=true) (om:btw m 0 1000000000=true):qbU [aA b l,.val (.int m)]=some ([("lands",.tup l),("most",.int m)]:List (Str×D)):=by cases b<;>(show (if (qJ l&&btw m 0 1000000000)=true then _ else none)=_;rw [if_pos (by rw [ol,om];rfl)])
theorem qeO {x:Str} {b:Bool} {l:List D} {m s:Int} (ol:qJ l=true) (om:btw m 0 1000000000=true) (os:btw s 1 1000000000=true):yc x [aA b l,.val (.int m),.val (.int s)]=some ([("lands",.tup l),("most",.int m),(x,.int s)]:List (Str×D)):=by cases b<;>(show (if (qJ l&&btw m 0 1000000000&&btw s 1 1000000000)=true then _ else none)=_;rw [if_pos (by rw [ol,om,os];rfl)])
structure Tx (κ:KC) (K:Frag) (mg:PR):Prop where
 tup:mg "tuple" = none
 lst:mg "list" = none
 len:mg "len" = none
 gG:∃ t,mg "GREATEST" = some (.int 1000000000 t)
 cls:∀ c C,κ c=some C->Cls K C
 nA:∀ c x C,pcs.fld c x=true->κ c=some C->zG K C x
structure Ck (pg:Pg) (j:Nat):Prop where
 lands:∀ b l,qJ l=true->clK pg j "are_lands" [aA b l]=.ok (.val (.bl true))
 rules:∀ b l,(decide (l.length<=8)&&l.all qap)=true->clK pg j "are_rules" [aA b l]=.ok (.val (.bl true))
 papers:∀ b (ps:List D) (n:Int),(decide (ps.length<=12)&&ps.all (yF n))=true->clK pg j "check_papers" [aA b ps,.val (.int n)]=.ok (.val .non)
 btw:∀ n a b,btw n a b=true->clK pg j "is_between" [.val (.int n),.val (.int a),.val (.int b)]=.ok (.val (.bl true))
theorem qch {c:Str} (h:rk c=true):pcs.fld c "lands" = true/\pcs.fld c "most" = true:=by
 constructor
 ·show ((rk c&&(true||_||_||_))||_)=true;rw [h];rfl
 ·show ((rk c&&(false||true||_||_))||_)=true;rw [h];rfl
def okW (c:Str):Bool:=c == "Within"
def okS (c:Str):Bool:=c == "Since" || c == "InRow"
def okI (c:Str):Bool:=c == "InRow"
def okB (c:Str):Bool:=c == "Book"
theorem qlY {c:Str} (h:okW c=true):rk c=true:=by unfold okW at h;unfold rk;rw [h];rfl
theorem qlZ {c:Str} (h:okS c=true):rk c=true:=by unfold okS at h;unfold rk;rw [Bool.or_assoc,h,Bool.or_true]
theorem qi2 {c:Str} (h:okI c=true):okS c=true:=by unfold okI at h;unfold okS;rw [h,Bool.or_true]
theorem qi3 {c:Str} (h:okW c=true):pcs.fld c "span" = true:=by
 have e:c = "Within":=by simpa [okW] using h
 subst e;decide
theorem qgr {c:Str} (h:okS c=true):pcs.fld c "leave" = true:=by
 have e:c = "Since"\/c = "InRow":=by simpa [okS] using h
 rcases e with e | e<;>subst e<;>decide
theorem qeP {c:Str} (h:okB c=true):pcs.fld c "kept_rules" = true/\pcs.fld c "kept_papers" = true:=by
 have e:c = "Book":=by simpa [okB] using h
 subst e;decide
end DG
namespace K34
open PySem PySem.Spec PyProof.Rows L2 DE DG
section
variable {P:Program} {wd:World} {κ:KC} {K:Frag} {mg:PR} {base:Heap} {j:Nat} {f:Addr} {fd:FuncData}
theorem qi4:FnScope ["self","lands","most"] ["self","lands","most"] (qo (mem 25 0)):=⟨rfl,rfl,rfl,by decide+kernel,rfl,by decide+kernel,by decide+kernel⟩
theorem qci (tx:Tx κ K mg) (F:Fun K "__init__" "Rule.__init__" (mem 25 0) f fd) (at_:qc6 P wd κ K mg base pg j) (ck:Ck pg j):FnOk P wd K mg base CX0 (j+1) f fd ["self","lands","most"] (qcW κ K rk qbU):=by
 obtain ⟨fA,dA,FA,mA,kA,bA⟩:=at_.1 "are_lands" (top 24) (by kernel_rfl);obtain ⟨fB,dB,FB,mB,kB,bB⟩:=at_.1 "is_between" (top 11) (by kernel_rfl);obtain ⟨t1,g1⟩:=tx.gG;refine F.ok qi4 (fun vs H Q E h=>?_) (fun cdv A outer s H vs Q E hr h=>?_)
 ·obtain ⟨G,c,C,p,dx,us,args,fs,rfl,_,_,_,_,_,ha,hg,_⟩:=h;obtain ⟨b,l,m,rfl,_⟩:=qaP hg
  have:=ha.len
  simp at this;simp [<-this]
 ·obtain ⟨G,c,C,p,dx,us,args,fs,rfl,hrk,hC,hp,gp,sub,ha,hg,k1⟩:=h;obtain ⟨b,l,m,rfl,ol,om,rfl⟩:=qaP hg;simp only [JC] at ha;obtain ⟨v1,us1,rfl,r1,v2,us2,rfl,r2,rfl⟩:=ha;simp only [ArR,Rep] at r2;subst r2;obtain ⟨a,xs,rfl,hxa,rl⟩:=qbt sub r1
  refine ⟨_,qX (qck (Qp (ZI (yR FA hr (by rfl) mA kA bA .nil yS (qg (pv 1) qw)))) (jb Jb) JE)
   (qX (qck (Qp (ZI (yR FB hr (by rfl) mB kB bB .nil yS (qg (pv 2) (qg ZH (qg (yP (v:=.int 1000000000) (by rfl) g1 ⟨_,rfl⟩) qw)))))) (jb Jb) JE)
   (qX (Qs (pv 0) (zH Q0 (by rfl) tx.tup PyProof.Rows.boot_tuple (qg (pv 1) qw)) rfl)
   (jb (Qs (pv 0) (pv 2) rfl)))),?_⟩
  refine ⟨_,rfl,QV (E:=E0) (G:=G) (args:=[aA b l]) sub ⟨_,_,rfl,r1,rfl⟩ (ck.lands b l ol) fun v G1 H1 hs1 gs1 sub1 fr1 rr=>?_⟩;simp only [ReR,Rep] at rr;subst rr;refine ⟨_,rfl,?_⟩;refine ⟨_,rfl,QV (E:=E0) (G:=G1) (args:=[.val (.int m),.val (.int 0),.val (.int 1000000000)]) sub1 ⟨_,_,rfl,by simp only [ArR,Rep],_,_,rfl,by simp only [ArR,Rep],_,_,rfl,by simp only [ArR,Rep],rfl⟩ (ck.btw m 0 1000000000 om) fun v G2 H2 hs2 gs2 sub2 fr2 rr=>?_⟩;simp only [ReR,Rep] at rr;subst rr;refine ⟨_,rfl,?_⟩;have hp2:H2 p=some (.ins C dx []):=hs2 _ _ (hs1 _ _ hp);have ga2:H2 a=some (.lst xs):=hs2 _ _ (hs1 _ _ hxa);have gp1:G1 p=none:=zF fr1 gp hp;have gp2:G2 p=none:=zF fr2 gp1 (hs1 _ _ hp);refine ⟨_,rfl,a,xs,rfl,.inl ⟨SqL.of ga2,fun t ht=>?_⟩⟩;have ntp:t≠p:=fun z=>by rw [z,hp2] at ht;cases ht
  have gt:G2 t=none:=qv.none sub2 ht;refine ⟨_,rfl,p,C,dx,_,rfl,by rw [qe ntp.symm];exact hp2,tx.cls c C hC,tx.nA c _ C (qch hrk).1 hC,by decide,?_⟩;refine ⟨_,rfl,_,rfl,p,C,dx,_,rfl,qh,tx.cls c C hC,tx.nA c _ C (qch hrk).2 hC,(by show 1 < 1000;decide),?_⟩;refine k1 (upd G2 t (.tup xs)) _ [.ref t,.int m] ?_ ?_ ?_ ?_ ?_ ?_ rfl ?_
  ·exact fun b o e=>qv.upd gt b o (gs2 b o (gs1 b o e))
  ·intro b o e
   by_cases z:b=t
   ·subst z;rw [qh] at e;cases e;rw [qe ntp,qe ntp,qh]
   ·rw [qe z] at e;have nb:b≠p:=fun q=>by rw [q,gp2] at e;cases e
    rw [qe nb,qe nb,qe z];exact sub2 b o e
  ·rw [qe ntp.symm];exact gp2
  ·intro b o nb e;have e2:=hs2 b o (hs1 b o e);have nt:b≠t:=fun q=>by rw [q,ht] at e2;cases e2
   rw [qe nb,qe nb,qe nt];exact e2
  ·intro b o e
   by_cases z:b=t
   ·subst z;exact .inr (qv.none hs1 (qv.none hs2 ht))
   ·rw [qe z] at e;exact (Ja.trans fr1 hs1 fr2) b o e
  ·rw [qh];rfl
  ·simp only [List.map_cons,List.map_nil,qr,Rep];exact ⟨_,_,rfl,⟨t,xs,rfl,qh,(rl.same gs1 |>.same gs2).same (qv.upd gt)⟩,_,_,rfl,rfl,rfl⟩
theorem qeQ:FnScope ["self","lands","most","span"] ["self","lands","most","span"] (qo (mem 26 0)):=⟨rfl,rfl,rfl,by decide+kernel,rfl,by decide+kernel,by decide+kernel⟩
theorem qcX {fR cR:Addr} {dR:FuncData} (tx:Tx κ K mg) (F:Fun K "__init__" "Within.__init__" (mem 26 0) f fd) (FR:Fun K "__init__" "Rule.__init__" (mem 25 0) fR dR) (bR:zx K dR ["self","lands","most"] []) (mR:mg "Rule" = some (.ref cR)) (cf:ClsFn K cR "__init__" fR)
  (at0:qc6 P wd κ K mg base pg j) (at1:qc6 P wd κ K mg base pg (j+1)) (ck0:Ck pg j) (ck1:Ck pg (j+1)):FnOk P wd K mg base CX0 (j+2) f fd ["self","lands","most","span"] (qcW κ K okW (yc "span")):=by
 obtain ⟨fB,dB,FB,mB,kB,bB⟩:=at1.1 "is_between" (top 11) (by kernel_rfl);obtain ⟨t1,g1⟩:=tx.gG;refine F.ok qeQ (fun vs H Q E h=>?_) (fun cdv A outer s H vs Q E hr h=>?_)
 ·obtain ⟨G,c,C,p,dx,us,args,fs,rfl,_,_,_,_,_,ha,hg,_⟩:=h;obtain ⟨b,l,m,z,rfl,_⟩:=jD hg
  have:=ha.len
  simp at this;simp [<-this]
 ·obtain ⟨G,c,C,p,dx,us,args,fs,rfl,hrk,hC,hp,gp,sub,ha,hg,k1⟩:=h;obtain ⟨b,l,m,z,rfl,ol,om,oz,rfl⟩:=jD hg;simp only [JC] at ha;obtain ⟨v1,us1,rfl,r1,v2,us2,rfl,r2,v3,us3,rfl,r3,rfl⟩:=ha;simp only [ArR,Rep] at r2 r3;subst r2 r3
  refine ⟨_,qX (yQ (Q4 cf (qci tx FR at0 ck0) hr (by rfl) mR bR .nil yS (qg (pv 0) (qg (pv 1) (qg (pv 2) qw)))))
   (qX (qck (Qp (ZI (yR FB hr (by rfl) mB kB bB .nil yS (qg (pv 3) (qg ZH (qg (yP (v:=.int 1000000000) (by rfl) g1 ⟨_,rfl⟩) qw)))))) (jb Jb) JE)
   (jb (Qs (pv 0) (pv 3) rfl))),?_⟩
  refine ⟨_,rfl,_,rfl,_,rfl,G,c,C,p,dx,[v1,.int m],[aA b l,.val (.int m)],_,rfl,qlY hrk,hC,hp,gp,sub,⟨_,_,rfl,r1,_,_,rfl,by simp only [ArR,Rep],rfl⟩,qaQ ol om,fun G1 H1 xs gs1 sub1 gp1 but1 fr1 hp1 hl1 rp1=>?_⟩;simp only [List.map_cons,List.map_nil,qr] at rp1;obtain ⟨x1,w1,rfl,q1,x2,w2,rfl,q2,rfl⟩:=rp1;refine ⟨_,rfl,QV (E:=E0) (G:=G1) (args:=[.val (.int z),.val (.int 1),.val (.int 1000000000)]) sub1 ⟨_,_,rfl,by simp only [ArR,Rep],_,_,rfl,by simp only [ArR,Rep],_,_,rfl,by simp only [ArR,Rep],rfl⟩ (ck1.btw z 1 1000000000 oz) fun v G2 H2 hs2 gs2 sub2 fr2 rr=>?_⟩;simp only [ReR,Rep] at rr;subst rr;refine ⟨_,rfl,?_⟩;have hp2:=hs2 _ _ hp1;have gp2:G2 p=none:=zF fr2 gp1 hp1;refine ⟨_,rfl,_,rfl,p,C,dx,_,rfl,hp2,tx.cls c C hC,tx.nA c _ C (qi3 hrk) hC,(by show 2 < 1000;decide),?_⟩;refine k1 G2 _ [x1,x2,.int z] (fun b o e=>gs2 b o (gs1 b o e)) (fun b o e=>?_) gp2 (fun b o nb e=>?_) (fun b o e=>?_) ?_ rfl ?_
  ·rw [qe (fun q=>by rw [q,gp2] at e;cases e)];exact sub2 b o e
  ·rw [qe nb];exact hs2 b o (but1 b o nb e)
  ·exact (Ja.transB fr1 but1 hp1 fr2) b o e
  ·rw [qh];rfl
  ·simp only [List.map_cons,List.map_nil,qr];exact ⟨_,_,rfl,q1.same gs2,_,_,rfl,q2.same gs2,_,_,rfl,by simp only [Rep],rfl⟩
theorem qgs:FnScope ["self","lands","most","leave"] ["self","lands","most","leave"] (qo (mem 27 0)):=⟨rfl,rfl,rfl,by decide+kernel,rfl,by decide+kernel,by decide+kernel⟩
theorem qaR {fR cR:Addr} {dR:FuncData} (tx:Tx κ K mg) (F:Fun K "__init__" "Since.__init__" (mem 27 0) f fd) (FR:Fun K "__init__" "Rule.__init__" (mem 25 0) fR dR) (bR:zx K dR ["self","lands","most"] []) (mR:mg "Rule" = some (.ref cR)) (cf:ClsFn K cR "__init__" fR)
  (at0:qc6 P wd κ K mg base pg j) (at1:qc6 P wd κ K mg base pg (j+1)) (ck0:Ck pg j) (ck1:Ck pg (j+1)):FnOk P wd K mg base CX0 (j+2) f fd ["self","lands","most","leave"] (qcW κ K okS (yc "leave")):=by
 obtain ⟨fB,dB,FB,mB,kB,bB⟩:=at1.1 "is_between" (top 11) (by kernel_rfl);obtain ⟨t1,g1⟩:=tx.gG;refine F.ok qgs (fun vs H Q E h=>?_) (fun cdv A outer s H vs Q E hr h=>?_)
 ·obtain ⟨G,c,C,p,dx,us,args,fs,rfl,_,_,_,_,_,ha,hg,_⟩:=h;obtain ⟨b,l,m,z,rfl,_⟩:=jD hg
  have:=ha.len
  simp at this;simp [<-this]
 ·obtain ⟨G,c,C,p,dx,us,args,fs,rfl,hrk,hC,hp,gp,sub,ha,hg,k1⟩:=h;obtain ⟨b,l,m,z,rfl,ol,om,oz,rfl⟩:=jD hg;simp only [JC] at ha;obtain ⟨v1,us1,rfl,r1,v2,us2,rfl,r2,v3,us3,rfl,r3,rfl⟩:=ha;simp only [ArR,Rep] at r2 r3;subst r2 r3
  refine ⟨_,qX (yQ (Q4 cf (qci tx FR at0 ck0) hr (by rfl) mR bR .nil yS (qg (pv 0) (qg (pv 1) (qg (pv 2) qw)))))
   (qX (qck (Qp (ZI (yR FB hr (by rfl) mB kB bB .nil yS (qg (pv 3) (qg ZH (qg (yP (v:=.int 1000000000) (by rfl) g1 ⟨_,rfl⟩) qw)))))) (jb Jb) JE)
   (jb (Qs (pv 0) (pv 3) rfl))),?_⟩
  refine ⟨_,rfl,_,rfl,_,rfl,G,c,C,p,dx,[v1,.int m],[aA b l,.val (.int m)],_,rfl,qlZ hrk,hC,hp,gp,sub,⟨_,_,rfl,r1,_,_,rfl,by simp only [ArR,Rep],rfl⟩,qaQ ol om,fun G1 H1 xs gs1 sub1 gp1 but1 fr1 hp1 hl1 rp1=>?_⟩;simp only [List.map_cons,List.map_nil,qr] at rp1;obtain ⟨x1,w1,rfl,q1,x2,w2,rfl,q2,rfl⟩:=rp1;refine ⟨_,rfl,QV (E:=E0) (G:=G1) (args:=[.val (.int z),.val (.int 1),.val (.int 1000000000)]) sub1 ⟨_,_,rfl,by simp only [ArR,Rep],_,_,rfl,by simp only [ArR,Rep],_,_,rfl,by simp only [ArR,Rep],rfl⟩ (ck1.btw z 1 1000000000 oz) fun v G2 H2 hs2 gs2 sub2 fr2 rr=>?_⟩;simp only [ReR,Rep] at rr;subst rr;refine ⟨_,rfl,?_⟩;have hp2:=hs2 _ _ hp1;have gp2:G2 p=none:=zF fr2 gp1 hp1;refine ⟨_,rfl,_,rfl,p,C,dx,_,rfl,hp2,tx.cls c C hC,tx.nA c _ C (qgr hrk) hC,(by show 2 < 1000;decide),?_⟩;refine k1 G2 _ [x1,x2,.int z] (fun b o e=>gs2 b o (gs1 b o e)) (fun b o e=>?_) gp2 (fun b o nb e=>?_) (fun b o e=>?_) ?_ rfl ?_
  ·rw [qe (fun q=>by rw [q,gp2] at e;cases e)];exact sub2 b o e
  ·rw [qe nb];exact hs2 b o (but1 b o nb e)
  ·exact (Ja.transB fr1 but1 hp1 fr2) b o e
  ·rw [qh];rfl
  ·simp only [List.map_cons,List.map_nil,qr];exact ⟨_,_,rfl,q1.same gs2,_,_,rfl,q2.same gs2,_,_,rfl,by simp only [Rep],rfl⟩
theorem qgt:FnScope ["self","lands","most"] ["self","lands","most"] (qo (mem 28 0)):=⟨rfl,rfl,rfl,by decide+kernel,rfl,by decide+kernel,by decide+kernel⟩
theorem qeR {fR cR fS cS:Addr} {dR dS:FuncData} (tx:Tx κ K mg) (F:Fun K "__init__" "InRow.__init__" (mem 28 0) f fd) (FS:Fun K "__init__" "Since.__init__" (mem 27 0) fS dS) (bS:zx K dS ["self","lands","most","leave"] []) (mS:mg "Since" = some (.ref cS)) (cfS:ClsFn K cS "__init__" fS)
  (FR:Fun K "__init__" "Rule.__init__" (mem 25 0) fR dR) (bR:zx K dR ["self","lands","most"] []) (mR:mg "Rule" = some (.ref cR)) (cf:ClsFn K cR "__init__" fR)
  (at0:qc6 P wd κ K mg base pg j) (at1:qc6 P wd κ K mg base pg (j+1)) (ck0:Ck pg j) (ck1:Ck pg (j+1)):FnOk P wd K mg base CX0 (j+3) f fd ["self","lands","most"] (qcW κ K okI qcM):=by
 refine F.ok qgt (fun vs H Q E h=>?_) (fun cdv A outer s H vs Q E hr h=>?_)
 ·obtain ⟨G,c,C,p,dx,us,args,fs,rfl,_,_,_,_,_,ha,hg,_⟩:=h;obtain ⟨b,l,m,rfl,_⟩:=ZD hg
  have:=ha.len
  simp at this;simp [<-this]
 ·obtain ⟨G,c,C,p,dx,us,args,fs,rfl,hrk,hC,hp,gp,sub,ha,hg,k1⟩:=h;obtain ⟨b,l,m,rfl,ol,om,rfl⟩:=ZD hg;simp only [JC] at ha;obtain ⟨v1,us1,rfl,r1,v2,us2,rfl,r2,rfl⟩:=ha;simp only [ArR,Rep] at r2;subst r2;refine ⟨_,jb (yQ (Q4 cfS (qaR tx FS FR bR mR cf at0 at1 ck0 ck1) hr (by rfl) mS bS .nil yS (qg (pv 0) (qg (pv 1) (qg (pv 2) (qg ZH qw)))))),?_⟩
  exact ⟨_,rfl,_,rfl,_,rfl,G,c,C,p,dx,[v1,.int m,.int 1],[aA b l,.val (.int m),.val (.int 1)],_,rfl,qi2 hrk,hC,hp,gp,sub,⟨_,_,rfl,r1,_,_,rfl,by simp only [ArR,Rep],_,_,rfl,by simp only [ArR,Rep],rfl⟩,
   qeO ol om (2:),fun G1 H1 xs gs1 sub1 gp1 but1 fr1 hp1 hl1 rp1=>k1 G1 H1 xs gs1 sub1 gp1 but1 fr1 hp1 hl1 rp1⟩
theorem qi5:FnScope ["self","rules","papers"] ["self","rules","papers"] (qo (mem 50 0)):=⟨rfl,rfl,rfl,by decide+kernel,rfl,by decide+kernel,by decide+kernel⟩
theorem qgu (tx:Tx κ K mg) (F:Fun K "__init__" "Book.__init__" (mem 50 0) f fd) (at_:qc6 P wd κ K mg base pg j) (ck:Ck pg j):FnOk P wd K mg base CX0 (j+1) f fd ["self","rules","papers"] (qcW κ K okB Qz):=by
 obtain ⟨fA,dA,FA,mA,kA,bA⟩:=at_.1 "are_rules" (top 47) (by kernel_rfl);obtain ⟨fB,dB,FB,mB,kB,bB⟩:=at_.1 "check_papers" (top 49) (by kernel_rfl);refine F.ok qi5 (fun vs H Q E h=>?_) (fun cdv A outer s H vs Q E hr h=>?_)
 ·obtain ⟨G,c,C,p,dx,us,args,fs,rfl,_,_,_,_,_,ha,hg,_⟩:=h;obtain ⟨b0,c0,l,ps,rfl,_⟩:=Qd hg
  have:=ha.len
  simp at this;simp [<-this]
 ·obtain ⟨G,c,C,p,dx,us,args,fs,rfl,hrk,hC,hp,gp,sub,ha,hg,k1⟩:=h;obtain ⟨b0,c0,l,ps,rfl,ol,op,rfl⟩:=Qd hg;simp only [JC] at ha;obtain ⟨v1,us1,rfl,r1,v2,us2,rfl,r2,rfl⟩:=ha;obtain ⟨a,xs,rfl,hxa,rl⟩:=qbt sub r1;obtain ⟨b,ys,rfl,hb,rp⟩:=qbt sub r2
  refine ⟨_,qX (qck (Qp (ZI (yR FA hr (by rfl) mA kA bA .nil yS (qg (pv 1) qw)))) (jb Jb) JE)
   (qX (yQ (yR FB hr (by rfl) mB kB bB .nil yS (qg (pv 2) (qg (zz JV (by rfl) tx.len PySem.boot_len (qg (pv 1) qw)) qw))))
   (qX (Qs (pv 0) (zH j7 (by rfl) tx.lst PyProof.Rows.boot_list (qg (pv 1) qw)) rfl)
   (jb (Qs (pv 0) (zH j7 (by rfl) tx.lst PyProof.Rows.boot_list (qg (pv 2) qw)) rfl)))),?_⟩
  refine ⟨_,rfl,QV (E:=E0) (G:=G) (args:=[aA b0 l]) sub ⟨_,_,rfl,r1,rfl⟩ (ck.rules b0 l ol) fun v G1 H1 hs1 gs1 sub1 fr1 rr=>?_⟩;simp only [ReR,Rep] at rr;subst rr;refine ⟨_,rfl,?_⟩;have ga1:H1 a=some (.lst xs):=hs1 _ _ hxa;refine ⟨_,rfl,_,rfl,a,xs,rfl,.inl (SqL.of ga1),?_⟩;refine QV (E:=E0) (G:=G1) (args:=[aA c0 ps,.val (.int l.length)]) sub1 ⟨_,_,rfl,qlX r2 gs1 hs1,_,_,rfl,by simp only [ArR,Rep];rw [rl.len],rfl⟩ (ck.papers c0 ps l.length op) fun v G2 H2 hs2 gs2 sub2 fr2 rr=>?_;have hp2:H2 p=some (.ins C dx []):=hs2 _ _ (hs1 _ _ hp);have gp1:G1 p=none:=zF fr1 gp hp;have gp2:G2 p=none:=zF fr2 gp1 (hs1 _ _ hp);have ga2:H2 a=some (.lst xs):=hs2 _ _ ga1;have hb2:H2 b=some (.lst ys):=hs2 _ _ (hs1 _ _ hb);refine ⟨_,rfl,a,xs,rfl,.inl (SqL.of ga2),fun t ht=>?_⟩;have ntp:t≠p:=fun z=>by rw [z,hp2] at ht;cases ht
  have gt:G2 t=none:=qv.none sub2 ht;refine ⟨_,rfl,p,C,dx,_,rfl,by rw [qe ntp.symm];exact hp2,tx.cls c C hC,tx.nA c _ C (qeP hrk).1 hC,by decide,?_⟩;have nbt:b≠t:=fun z=>by rw [z,ht] at hb2;cases hb2
  have nbp:b≠p:=fun z=>by rw [z,hp2] at hb2;cases hb2
  refine ⟨_,rfl,b,ys,rfl,.inl (SqL.of (by rw [qe nbp,qe nbt];exact hb2)),fun u hu=>?_⟩;have nup:u≠p:=fun z=>by rw [z,qh] at hu;cases hu
  have nut:u≠t:=fun z=>by rw [z,qe ntp,qh] at hu;cases hu
  have hu2:H2 u=none:=by rw [qe nup,qe nut] at hu;exact hu
  have gu:G2 u=none:=qv.none sub2 hu2;refine ⟨_,rfl,p,C,dx,_,rfl,by rw [qe nup.symm,qh],tx.cls c C hC,tx.nA c _ C (qeP hrk).2 hC,(by show 1 < 1000;decide),?_⟩;have gut:upd G2 t (.lst xs) u=none:=by rw [qe nut];exact gu
  refine k1 (upd (upd G2 t (.lst xs)) u (.lst ys)) _ [.ref t,.ref u] ?_ ?_ ?_ ?_ ?_ ?_ rfl ?_
  ·exact fun b o e=>qv.upd gut b o (qv.upd gt b o (gs2 b o (gs1 b o e)))
  ·intro q o e
   by_cases z:q=u
   ·subst z;rw [qh] at e;cases e;rw [qe nup,qh]
   ·rw [qe z] at e
    by_cases z2:q=t
    ·subst z2;rw [qh] at e;cases e;rw [qe ntp,qe z,qe ntp,qh]
    ·rw [qe z2] at e;have nq:q≠p:=fun w=>by rw [w,gp2] at e;cases e
     rw [qe nq,qe z,qe nq,qe z2];exact sub2 q o e
  ·rw [qe nup.symm,qe ntp.symm];exact gp2
  ·intro q o nq e;have e2:=hs2 q o (hs1 q o e);have n1:q≠t:=fun w=>by rw [w,ht] at e2;cases e2
   have n2:q≠u:=fun w=>by rw [w,hu2] at e2;cases e2
   rw [qe nq,qe n2,qe nq,qe n1];exact e2
  ·intro q o e
   by_cases z:q=u
   ·subst z;exact .inr (qv.none hs1 (qv.none hs2 hu2))
   ·rw [qe z] at e
    by_cases z2:q=t
    ·subst z2;exact .inr (qv.none hs1 (qv.none hs2 ht))
    ·rw [qe z2] at e;exact (Ja.trans fr1 hs1 fr2) q o e
  ·rw [qh];rfl
  ·simp only [List.map_cons,List.map_nil,qr,Rep];exact ⟨_,_,rfl,⟨t,xs,rfl,by rw [qe nut.symm];exact qh,((rl.same gs1 |>.same gs2).same (qv.upd gt)).same (qv.upd gut)⟩,_,_,rfl,⟨u,ys,rfl,qh,((rp.same gs1 |>.same gs2).same (qv.upd gt)).same (qv.upd gut)⟩,rfl⟩
end
end K34
namespace HD
open PySem PySem.W
noncomputable def Qe (tb:String->Option Builtin) (p:Program) (w:World) (n₀:Nat) (ann:Option Value):Nat->SharedT->Thread->Option SharedT
 | 0,_,_=>none
 | n+1,s,t=>match through t with
  | true=>some s
  | false=>match stepOk n₀ ann t with
   | false=>none
   | true=>match stepT (denote tb) p w s t with
    | some (s',t')=>Qe tb p w n₀ ann n s' t'
    | none=>none
theorem qaS {tb:String->Option Builtin} {p:Program} {w:World} {n₀:Nat} {ann:Option Value}:∀ {n:Nat} {s s':SharedT} {t:Thread},Qe tb p w n₀ ann n s t=some s'->topRun tb p w n₀ ann n s.abs t=some s'.abs
 | 0,_,_,_,h=>by cases h
 | n+1,s,s',t,h=>by
  unfold Qe at h;unfold topRun
  cases ht:through t with
  | true=>rw [ht] at h;cases h;rfl
  | false=>
   rw [ht] at h
   cases hk:stepOk n₀ ann t with
   | false=>rw [hk] at h;cases h
   | true=>
    rw [hk] at h
    cases hs:stepT (denote tb) p w s t with
    | none=>rw [hs] at h;cases h
    | some r=>obtain ⟨s₂,t₂⟩:=r;rw [hs] at h;dsimp only;rw [stepT_spec hs];exact qaS h
def ofL:List Obj->Nat->BT->BT
 | [],_,t=>t
 | o::r,n,t=>ofL r (n+1) (t.ins n o)
noncomputable def qi6 (P:Params) (os:OsState):SharedT:=⟨ofL (boot_heap P).objs.toList 0 .nil,(boot_heap P).objs.toList.length,(boot_heap P).life,Array.mk [],boot_drawn,boot_toks,os⟩
theorem qeS (P:Params) (os:OsState):(qi6 P os).abs=⟨boot_heap P,Array.mk [],boot_drawn,boot_toks,os⟩:=by kernel_rfl
noncomputable def qi7 {α:Type} (p q:Program) (loose:List Str) (Xt:Shared->Bool) (Yf:Shared->α) (g0:Bool) (H₀:Heap) (s:Shared):=
 (staticsOk (importedModules p.main.body) H₀ s.heap&&namesBound p s.heap&&gensDone s&&laidKept H₀ s.heap,openSeen q loose (importedModules p.main.body) Xt g0 s,Yf s)
theorem qi8 {p q:Program} {loose:List Str} {Xt:Shared->Bool} {α:Type} {Yf:Shared->α} {Ya:World->α} {N:Nat} {g0:Bool} {m₀:Nat} {ann:Option Value}
  (open_:∀ w:World,(fencedOpening treeTable p w N).map (fun s=>(s.heap,s.gens,s.drawn,s.toks))=some (boot_heap w.params,Array.mk [],boot_drawn,boot_toks))
  (size:∀ w:World,((boot_heap w.params).isNs mainGlobals&&(Array.mk []:Array GenState).size == 0,(boot_heap w.params).objs.size,(boot_heap w.params).nsMap mainGlobals "__annotations__")=(true,m₀,ann))
  (h:∀ w os,(Qe treeTable p w m₀ ann N (qi6 w.params os) (topStub p)).map (fun s=>qi7 p q loose Xt Yf g0 (boot_heap w.params) s.abs)=some (true,openGood q loose,Ya w)):LeftO p q loose Xt Yf Ya N g0:=fun w=>by
 obtain ⟨⟨h0,gs,d,k,os⟩,e,e'⟩:=Option.map_eq_some_iff.mp (open_ w);obtain ⟨rfl,rfl,rfl,rfl⟩:h0=boot_heap w.params/\gs=Array.mk []/\d=boot_drawn/\k=boot_toks:=by simpa using e'
 obtain ⟨z1,z2,z3⟩:_/\_/\_:=by simpa only [Prod.mk.injEq] using size w
 obtain ⟨s₁,r,l⟩:=Option.map_eq_some_iff.mp (h w os);have r':=qaS r;rw [qeS] at r';obtain ⟨l1,l2,l3⟩:_/\_/\_:=by simpa only [qi7,Prod.mk.injEq] using l
 have t:topFrom treeTable p w N ⟨boot_heap w.params,Array.mk [],boot_drawn,boot_toks,os⟩=some s₁.abs:=by unfold topFrom;dsimp only;rw [z1,z2,z3,r'];show (match staticsOk (importedModules p.main.body) (boot_heap w.params) s₁.abs.heap&&namesBound p s₁.abs.heap&&gensDone s₁.abs&&laidKept (boot_heap w.params) s₁.abs.heap with | true=>_ | false=>_)=_;rw [l1]
 unfold openEnds;rw [e];show (topFrom treeTable p w N _).map _=_;rw [t];exact congrArg some (Prod.ext l2 l3)
end HD
namespace HD
open PySem PySem.W
def dE (P:Params) (k:Str) (t:Tok) (v:Value):DictEntry:=⟨PyData.keyHash P k,.str k t,v⟩
noncomputable def oFn (d:Option Addr) (st:Stmt) (name qual:Str) (dV kV doc pm:Value) (an:Option Addr) (cd ct:Value):Obj:=⟨.type "function",d,.func (fnOf name qual (L2.zj st) (L2.qS st) (L2.qo st) dV kV doc pm an cd ct),#[]⟩
noncomputable def oC (n:Str) (t1:Tok) (q:Str) (t2 t3:Tok) (l ar:Int) (a b:Addr) (x y:Value) (c:Addr) (u:Int) (v:Tok):Obj:=⟨.type "code",none,.fields #[.str n t1,.str q t2,.str "/claim/cut.py" t3,.int l 0,.int ar 0,.int 0 0,.int 0 0,.int 3 0,.ref a,.bool true,.int 181 0,.ref b,.none,x,y,.ref c,.int u 0,.int l 0,.str "/claim/cut.py" v],#[]⟩
noncomputable def oG (st:Stmt) (n m:Str) (t:Tok) (a:Addr):Obj:=oFn none st n n .none .none .none (.str m t) none (.ref a) .none
noncomputable def oB (n:Str) (t:Tok) (l ar:Int) (a:Addr) (v:Nat):Obj:=oC n t n (t+1) (t+2) l ar a (a+1) (.ref (a+2)) (.ref (a+3)) (a+4) v (v+1)
theorem qeT (w:World):((boot_heap w.params).isNs mainGlobals&&(Array.mk []:Array GenState).size == 0,(boot_heap w.params).objs.size,(boot_heap w.params).nsMap mainGlobals "__annotations__")=(true,11,some (.ref 6)):=by kernel_rfl
end HD
namespace K34
open PySem PySem.W HD DG
abbrev HP:Program:=PySem.Challenge.rw_daysgate_k34_whole_fault_shown.row.toRowW.prog
noncomputable def Hq:Program:=view HP [0,2,3,4,5,7,8,9,10,11,12,13,14,16,17,18,19,21,22,23,24,25,26,27,28,30,31,32,34,35,36,37,38,39,40,41,42,43,45,46,47,48,49,50,52,53,54,55,56,57,58,59,60,61,62,63,64,65,66,67]
noncomputable def Hx (s:Shared):Bool:=xlAt Hq [] s&&recOk (RowW.records PySem.Challenge.rw_daysgate_k34_whole_fault_shown.row.toRowW) s
noncomputable def Has:List Addr:=[2,3,27,28,34,35,41,42,48,49,55,56,62,63,69,70,76,77,83,84,95,153,154,160,161,174,175,181,182,184,185,186,187,202,203,209,210,212,213,228,229,235,236,238,239,254,255,261,262,264,265,273,274,280,281,285,286,292,293,299,300,306,307,313,314,320,321,327,328,332,333,339,340,346,347,353,354,360,361,367,368,381,382,388,389,395,396,400,401,403,404,405,406,414,415,421,422,426,427,433,434,440,441,447,448,454,455,459,460,464,465,471,472,478,479,483,484,490,491,497,498,502,503,507,508]
noncomputable def HK (P:Params):Frag:=(nat_lit 2,⟨.none,none,.dict #[] 0,#[]⟩)::(nat_lit 3,⟨(.type "dict"),none,.dict #[dE P "__name__" 165 (.str "law_daysgate_k34_whole_fault_shown" 745),dE P "__doc__" 166 .none,dE P "__package__" 167 .none,dE P "__loader__" 168 (.builtin "__main__.__loader__#opaque"),dE P "__spec__" 169 .none,dE P "__annotations__" 170 (.ref 6),dE P "__builtins__" 171 (.ref 4),dE P "__file__" 173 (.str "/claim/cut.py" 172),dE P "__cached__" 174 .none,dE P "_wall" 193 (.ref 21),dE P "spread" 205 (.ref 28),dE P "both" 218 (.ref 35),dE P "outside" 230 (.ref 42),dE P "less" 238 (.ref 49),dE P "GREATEST" 242 (.int (1000000000) 241),dE P "LETTERS" 244 (.str "abcdefghijklmnopqrstuvwxyz" 243),dE P "LONGEST_NAME" 246 (.int (8) 245),dE P "is_whole" 253 (.ref 56),dE P "is_between" 262 (.ref 63),dE P "are_days" 270 (.ref 70),dE P "is_made_of" 279 (.ref 77),dE P "is_name" 286 (.ref 84),dE P "DayError" 306 (.ref 94),dE P "NoRule" 322 (.ref 107),dE P "NoPaper" 347 (.ref 126),dE P "NoStay" 372 (.ref 145),dE P "MOST_LANDS" 376 (.int (6) 375),dE P "GREATEST_WEIGHT" 378 (.int (9) 377),dE P "is_land" 385 (.ref 154),dE P "are_lands" 394 (.ref 161),dE P "Rule" 435 (.ref 185),dE P "Within" 469 (.ref 213),dE P "Since" 503 (.ref 239),dE P "InRow" 535 (.ref 265),dE P "MOST_STAYS" 539 (.int (60) 538),dE P "is_stay" 546 (.ref 274),dE P "stays_of" 556 (.ref 281),dE P "pieces_among" 564 (.ref 286),dE P "sum_of" 578 (.ref 293),dE P "first_since" 591 (.ref 300),dE P "first_of_window" 600 (.ref 307),dE P "count_among" 609 (.ref 314),dE P "turns_of" 621 (.ref 321),dE P "first_above" 634 (.ref 328),dE P "first_broken" 640 (.ref 333),dE P "fault_among" 653 (.ref 340),dE P "fault_of" 661 (.ref 347),dE P "MOST_RULES" 665 (.int (8) 664),dE P "MOST_PAPERS" 667 (.int (12) 666),dE P "are_rules" 675 (.ref 354),dE P "is_paper" 683 (.ref 361),dE P "check_papers" 693 (.ref 368),dE P "Book" 744 (.ref 404),dE P "_law_at" 754 (.ref 415),dE P "_law_word" 765 (.ref 422),dE P "_law_names" 771 (.ref 427),dE P "_law_spec" 784 (.ref 434),dE P "_law_rule" 791 (.ref 441),dE P "_law_stays" 806 (.ref 448),dE P "_law_papers" 820 (.ref 455),dE P "_law_pieces" 826 (.ref 460),dE P "_law_sum" 832 (.ref 465),dE P "_law_first" 847 (.ref 472),dE P "_law_count" 857 (.ref 479),dE P "_law_turns" 863 (.ref 484),dE P "_law_held" 876 (.ref 491),dE P "_law_whole" 883 (.ref 498),dE P "_law_right" 889 (.ref 503),dE P "law" 895 (.ref 508)] 69,#[]⟩)::(nat_lit 27,oB "spread" 196 5 1 22 203)::(nat_lit 28,oG (top 2) "spread" "daysgate.days" 194 27)::(nat_lit 34,oB "both" 206 13 2 29 216)::(nat_lit 35,oG (top 3) "both" "daysgate.days" 194 34)::(nat_lit 41,oB "outside" 219 27 3 36 228)::(nat_lit 42,oG (top 4) "outside" "daysgate.days" 194 41)::(nat_lit 48,oB "less" 231 37 2 43 236)::(nat_lit 49,oG (top 5) "less" "daysgate.days" 194 48)::(nat_lit 55,oB "is_whole" 247 45 1 50 251)::(nat_lit 56,oG (top 10) "is_whole" "daysgate.checks" 239 55)::(nat_lit 62,oB "is_between" 254 47 3 57 260)::(nat_lit 63,oG (top 11) "is_between" "daysgate.checks" 239 62)::(nat_lit 69,oB "are_days" 263 49 2 64 268)::(nat_lit 70,oG (top 12) "are_days" "daysgate.checks" 239 69)::(nat_lit 76,oB "is_made_of" 271 51 2 71 277)::(nat_lit 77,oG (top 13) "is_made_of" "daysgate.checks" 239 76)::(nat_lit 83,oB "is_name" 280 56 1 78 284)::(nat_lit 84,oG (top 14) "is_name" "daysgate.checks" 239 83)::(nat_lit 95,⟨(.type "getset_descriptor"),none,.fields #[(.str "__weakref__" 302),(.ref 94),(.builtin "ExceptionGroup.__weakref__"),.none],#[]⟩)::(nat_lit 153,oB "is_land" 379 78 1 148 383)::(nat_lit 154,oG (top 23) "is_land" "daysgate.rules" 373 153)::(nat_lit 160,oB "are_lands" 386 82 1 155 392)::(nat_lit 161,oG (top 24) "are_lands" "daysgate.rules" 373 160)::(nat_lit 174,oC "__init__" 407 "Rule.__init__" 408 409 93 3 169 170 (.ref 171) (.ref 172) 173 413 414)::(nat_lit 175,oFn none (mem 25 0) "__init__" "Rule.__init__" .none .none .none (.str "daysgate.rules" 373) none (.ref 174) .none)::(nat_lit 181,oC "weight" 416 "Rule.weight" 417 418 101 2 176 177 (.ref 178) (.ref 179) 180 423 424)::(nat_lit 182,oFn none (mem 25 1) "weight" "Rule.weight" .none .none .none (.str "daysgate.rules" 373) none (.ref 181) .none)::(nat_lit 184,⟨(.type "dict"),none,.dict #[dE P "__module__" 402 (.str "daysgate.rules" 373),dE P "__firstlineno__" 406 (.int (91) 405),dE P "__init__" 415 (.ref 175),dE P "weight" 425 (.ref 182),dE P "__static_attributes__" 428 (.ref 183),dE P "__dict__" 430 (.ref 186),dE P "__weakref__" 432 (.ref 187),dE P "__doc__" 433 .none] 4,#[]⟩)::(nat_lit 185,⟨(.type "type"),none,.cls ⟨"Rule",[(.type "object")],[(.ref 185),(.type "object")],184,"Rule",true,[],[(.ref 213),(.ref 239)],false,none,false⟩,#[none,none,some (.str "Rule" 395),some (.str "Rule" 403),some (.builtin "object.__new__"),some (.bool true)]⟩)::(nat_lit 186,⟨(.type "getset_descriptor"),none,.fields #[(.str "__dict__" 429),(.ref 185),(.builtin "function.__dict__"),(.builtin "function.__dict__#set")],#[]⟩)::(nat_lit 187,⟨(.type "getset_descriptor"),none,.fields #[(.str "__weakref__" 431),(.ref 185),(.builtin "ExceptionGroup.__weakref__"),.none],#[]⟩)::(nat_lit 202,oC "__init__" 448 "Within.__init__" 449 450 108 4 197 198 (.ref 199) (.ref 200) 201 455 456)::(nat_lit 203,oFn none (mem 26 0) "__init__" "Within.__init__" .none .none .none (.str "daysgate.rules" 373) none (.ref 202) .none)::(nat_lit 209,oC "line" 458 "Within.line" 459 460 114 1 204 205 (.ref 206) (.ref 207) 208 462 463)::(nat_lit 210,oFn none (mem 26 1) "line" "Within.line" .none .none .none (.str "daysgate.rules" 373) none (.ref 209) .none)::(nat_lit 212,⟨(.type "dict"),none,.dict #[dE P "__module__" 443 (.str "daysgate.rules" 373),dE P "__firstlineno__" 447 (.int (106) 446),dE P "__init__" 457 (.ref 203),dE P "line" 464 (.ref 210),dE P "__static_attributes__" 466 (.ref 211),dE P "__doc__" 467 .none] 2,#[]⟩)::(nat_lit 213,⟨(.type "type"),none,.cls ⟨"Within",[(.ref 185)],[(.ref 213),(.ref 185),(.type "object")],212,"Within",true,[],[],false,none,false⟩,#[some (.ref 190),none,some (.str "Within" 436),some (.str "Within" 444),some (.builtin "object.__new__"),some (.bool true)]⟩)::(nat_lit 228,oC "__init__" 482 "Since.__init__" 483 484 118 4 223 224 (.ref 225) (.ref 226) 227 489 490)::(nat_lit 229,oFn none (mem 27 0) "__init__" "Since.__init__" .none .none .none (.str "daysgate.rules" 373) none (.ref 228) .none)::(nat_lit 235,oC "line" 492 "Since.line" 493 494 124 1 230 231 (.ref 232) (.ref 233) 234 496 497)::(nat_lit 236,oFn none (mem 27 1) "line" "Since.line" .none .none .none (.str "daysgate.rules" 373) none (.ref 235) .none)::(nat_lit 238,⟨(.type "dict"),none,.dict #[dE P "__module__" 477 (.str "daysgate.rules" 373),dE P "__firstlineno__" 481 (.int (116) 480),dE P "__init__" 491 (.ref 229),dE P "line" 498 (.ref 236),dE P "__static_attributes__" 500 (.ref 237),dE P "__doc__" 501 .none] 2,#[]⟩)::(nat_lit 239,⟨(.type "type"),none,.cls ⟨"Since",[(.ref 185)],[(.ref 239),(.ref 185),(.type "object")],238,"Since",true,[],[(.ref 265)],false,none,false⟩,#[some (.ref 216),none,some (.str "Since" 470),some (.str "Since" 478),some (.builtin "object.__new__"),some (.bool true)]⟩)::(nat_lit 254,oC "__init__" 516 "InRow.__init__" 517 518 128 3 249 250 (.ref 251) (.ref 252) 253 522 523)::(nat_lit 255,oFn none (mem 28 0) "__init__" "InRow.__init__" .none .none .none (.str "daysgate.rules" 373) none (.ref 254) .none)::(nat_lit 261,oC "line" 525 "InRow.line" 526 527 131 1 256 257 (.ref 258) (.ref 259) 260 529 530)::(nat_lit 262,oFn none (mem 28 1) "line" "InRow.line" .none .none .none (.str "daysgate.rules" 373) none (.ref 261) .none)::(nat_lit 264,⟨(.type "dict"),none,.dict #[dE P "__module__" 511 (.str "daysgate.rules" 373),dE P "__firstlineno__" 515 (.int (126) 514),dE P "__init__" 524 (.ref 255),dE P "line" 531 (.ref 262),dE P "__static_attributes__" 532 (.ref 263),dE P "__doc__" 533 .none] 2,#[]⟩)::(nat_lit 265,⟨(.type "type"),none,.cls ⟨"InRow",[(.ref 239)],[(.ref 265),(.ref 239),(.ref 185),(.type "object")],264,"InRow",true,[],[],false,none,false⟩,#[some (.ref 242),none,some (.str "InRow" 504),some (.str "InRow" 512),some (.builtin "object.__new__"),some (.bool true)]⟩)::(nat_lit 273,oB "is_stay" 540 135 1 268 544)::(nat_lit 274,oG (top 31) "is_stay" "daysgate.stays" 536 273)::(nat_lit 280,oB "stays_of" 547 139 1 275 554)::(nat_lit 281,oG (top 32) "stays_of" "daysgate.stays" 536 280)::(nat_lit 285,oC "pieces_among" 559 "pieces_among" 560 561 151 3 282 283 .none .none 284 562 563)::(nat_lit 286,oG (top 34) "pieces_among" "daysgate.sums" 557 285)::(nat_lit 292,oB "sum_of" 565 160 3 287 576)::(nat_lit 293,oG (top 35) "sum_of" "daysgate.sums" 557 292)::(nat_lit 299,oB "first_since" 579 167 3 294 589)::(nat_lit 300,oG (top 36) "first_since" "daysgate.sums" 557 299)::(nat_lit 306,oB "first_of_window" 592 175 3 301 598)::(nat_lit 307,oG (top 37) "first_of_window" "daysgate.sums" 557 306)::(nat_lit 313,oB "count_among" 601 179 3 308 607)::(nat_lit 314,oG (top 38) "count_among" "daysgate.sums" 557 313)::(nat_lit 320,oB "turns_of" 610 181 2 315 619)::(nat_lit 321,oG (top 39) "turns_of" "daysgate.sums" 557 320)::(nat_lit 327,oB "first_above" 622 188 4 322 632)::(nat_lit 328,oG (top 40) "first_above" "daysgate.sums" 557 327)::(nat_lit 332,oC "first_broken" 635 "first_broken" 636 637 195 2 329 330 .none .none 331 638 639)::(nat_lit 333,oG (top 41) "first_broken" "daysgate.sums" 557 332)::(nat_lit 339,oB "fault_among" 641 205 2 334 651)::(nat_lit 340,oG (top 42) "fault_among" "daysgate.sums" 557 339)::(nat_lit 346,oB "fault_of" 654 213 2 341 659)::(nat_lit 347,oG (top 43) "fault_of" "daysgate.sums" 557 346)::(nat_lit 353,oB "are_rules" 668 218 1 348 673)::(nat_lit 354,oG (top 47) "are_rules" "daysgate.books" 662 353)::(nat_lit 360,oB "is_paper" 676 225 2 355 681)::(nat_lit 361,oG (top 48) "is_paper" "daysgate.books" 662 360)::(nat_lit 367,oB "check_papers" 684 229 2 362 691)::(nat_lit 368,oG (top 49) "check_papers" "daysgate.books" 662 367)::(nat_lit 381,oC "__init__" 706 "Book.__init__" 707 708 239 3 376 377 (.ref 378) (.ref 379) 380 712 713)::(nat_lit 382,oFn none (mem 50 0) "__init__" "Book.__init__" .none .none .none (.str "daysgate.books" 662) none (.ref 381) .none)::(nat_lit 388,oC "rules" 715 "Book.rules" 716 717 246 1 383 384 (.ref 385) (.ref 386) 387 719 720)::(nat_lit 389,oFn none (mem 50 1) "rules" "Book.rules" .none .none .none (.str "daysgate.books" 662) none (.ref 388) .none)::(nat_lit 395,oC "papers" 722 "Book.papers" 723 724 249 1 390 391 (.ref 392) (.ref 393) 394 726 727)::(nat_lit 396,oFn none (mem 50 2) "papers" "Book.papers" .none .none .none (.str "daysgate.books" 662) none (.ref 395) .none)::(nat_lit 400,oC "lifted" 729 "Book.lifted" 730 731 252 2 397 398 .none .none 399 732 733)::(nat_lit 401,oFn none (mem 50 3) "lifted" "Book.lifted" .none .none .none (.str "daysgate.books" 662) none (.ref 400) .none)::(nat_lit 403,⟨(.type "dict"),none,.dict #[dE P "__module__" 701 (.str "daysgate.books" 662),dE P "__firstlineno__" 705 (.int (237) 704),dE P "__init__" 714 (.ref 382),dE P "rules" 721 (.ref 389),dE P "papers" 728 (.ref 396),dE P "lifted" 734 (.ref 401),dE P "__static_attributes__" 737 (.ref 402),dE P "__dict__" 739 (.ref 405),dE P "__weakref__" 741 (.ref 406),dE P "__doc__" 742 .none] 4,#[]⟩)::(nat_lit 404,⟨(.type "type"),none,.cls ⟨"Book",[(.type "object")],[(.ref 404),(.type "object")],403,"Book",true,[],[],false,none,false⟩,#[none,none,some (.str "Book" 694),some (.str "Book" 702),some (.builtin "object.__new__"),some (.bool true)]⟩)::(nat_lit 405,⟨(.type "getset_descriptor"),none,.fields #[(.str "__dict__" 738),(.ref 404),(.builtin "function.__dict__"),(.builtin "function.__dict__#set")],#[]⟩)::(nat_lit 406,⟨(.type "getset_descriptor"),none,.fields #[(.str "__weakref__" 740),(.ref 404),(.builtin "ExceptionGroup.__weakref__"),.none],#[]⟩)::(nat_lit 414,oB "_law_at" 747 255 2 409 752)::(nat_lit 415,oG (top 52) "_law_at" "law_daysgate_k34_whole_fault_shown" 745 414)::(nat_lit 421,oB "_law_word" 755 259 1 416 763)::(nat_lit 422,oG (top 53) "_law_word" "law_daysgate_k34_whole_fault_shown" 745 421)::(nat_lit 426,oC "_law_names" 766 "_law_names" 767 768 268 2 423 424 .none .none 425 769 770)::(nat_lit 427,oG (top 54) "_law_names" "law_daysgate_k34_whole_fault_shown" 745 426)::(nat_lit 433,oB "_law_spec" 772 272 3 428 782)::(nat_lit 434,oG (top 55) "_law_spec" "law_daysgate_k34_whole_fault_shown" 745 433)::(nat_lit 440,oB "_law_rule" 785 283 1 435 789)::(nat_lit 441,oG (top 56) "_law_rule" "law_daysgate_k34_whole_fault_shown" 745 440)::(nat_lit 447,oB "_law_stays" 792 289 4 442 804)::(nat_lit 448,oG (top 57) "_law_stays" "law_daysgate_k34_whole_fault_shown" 745 447)::(nat_lit 454,oB "_law_papers" 807 301 4 449 818)::(nat_lit 455,oG (top 58) "_law_papers" "law_daysgate_k34_whole_fault_shown" 745 454)::(nat_lit 459,oC "_law_pieces" 821 "_law_pieces" 822 823 309 4 456 457 .none .none 458 824 825)::(nat_lit 460,oG (top 59) "_law_pieces" "law_daysgate_k34_whole_fault_shown" 745 459)::(nat_lit 464,oC "_law_sum" 827 "_law_sum" 828 829 323 3 461 462 .none .none 463 830 831)::(nat_lit 465,oG (top 60) "_law_sum" "law_daysgate_k34_whole_fault_shown" 745 464)::(nat_lit 471,oB "_law_first" 833 325 3 466 845)::(nat_lit 472,oG (top 61) "_law_first" "law_daysgate_k34_whole_fault_shown" 745 471)::(nat_lit 478,oB "_law_count" 848 339 3 473 855)::(nat_lit 479,oG (top 62) "_law_count" "law_daysgate_k34_whole_fault_shown" 745 478)::(nat_lit 483,oC "_law_turns" 858 "_law_turns" 859 860 344 3 480 481 .none .none 482 861 862)::(nat_lit 484,oG (top 63) "_law_turns" "law_daysgate_k34_whole_fault_shown" 745 483)::(nat_lit 490,oB "_law_held" 864 351 4 485 874)::(nat_lit 491,oG (top 64) "_law_held" "law_daysgate_k34_whole_fault_shown" 745 490)::(nat_lit 497,oB "_law_whole" 877 358 1 492 881)::(nat_lit 498,oG (top 65) "_law_whole" "law_daysgate_k34_whole_fault_shown" 745 497)::(nat_lit 502,oC "_law_right" 884 "_law_right" 885 886 360 4 499 500 .none .none 501 887 888)::(nat_lit 503,oG (top 66) "_law_right" "law_daysgate_k34_whole_fault_shown" 745 502)::(nat_lit 507,oC "law" 890 "law" 891 892 381 1 504 505 .none .none 506 893 894)::(nat_lit 508,oG (top 67) "law" "law_daysgate_k34_whole_fault_shown" 745 507)::[]
theorem HKe (P:Params):Has=(HK P).map (·.1):=by kernel_rfl
noncomputable def ql0 (p q:Program) (rc:Shared->Bool) (w:World) (H0:Heap) (s0:SharedT):=(Qe treeTable p w 11 (some (.ref 6)) 8290 s0 (topStub p)).map (fun s=>qi7 p q [] (fun s=>xlAt q [] s&&rc s) (fun s=>Has.map s.heap.get?) true H0 s.abs)
noncomputable def Hlk (w:World) (H0:Heap) (s0:SharedT):=ql0 HP Hq (recOk (RowW.records PySem.Challenge.rw_daysgate_k34_whole_fault_shown.row.toRowW)) w H0 s0
def ql1 (q:Program):=openGood q []
def Hgd:=ql1 Hq
theorem qeU:ql0=ql0:=rfl
theorem qeV:ql1=ql1:=rfl
end K34
lay_quick K34.ql0 K34.ql1
name_quick hlkQ for K34.ql0 by K34.qeU
name_quick hgdQ for K34.ql1 by K34.qeV
namespace K34
open PySem PySem.W HD DG
theorem ql2 (w:World) (os:OsState):Hlk w (boot_heap w.params) (qi6 w.params os)=some (true,Hgd,(HK w.params).map fun p=>some p.2):=by
 unfold Hlk Hgd;rw [PySem.W.Fast.hlkQ_eq,PySem.W.Fast.hgdQ_eq]
 kernel_rfl
theorem qnl:LeftO HP Hq [] Hx (fun s=>Has.map s.heap.get?) (fun w=>(HK w.params).map fun p=>some p.2) 8290 true:=
 qi8 (boot_open (by kernel_rfl) (2:) (fun _=>by kernel_rfl)) qeT ql2
end K34
namespace DG
open PySem PySem.Spec PyProof.Rows L2 DE
theorem qi9 (b:Bool) (l:List D):aA b l=aL b l:=by cases b<;>rfl
theorem qbu {pg:Pg} [CH pg] [RU pg] [BO pg] (j:Nat):Ck pg (j+5) where
 lands:=fun b l h=>by rw [qi9];exact qbh (j+1) b l h
 rules:=fun b l h=>by rw [qi9];exact qbi (j+4) b l h
 papers:=fun b ps n h=>by rw [qi9];exact Qk j b ps n h
 btw:=fun n a b h=>qlB (j+3) n a b h
noncomputable def kap (cW cS cI cB:Addr):KC:=fun c=>if c = "Within" then some cW else if c = "Since" then some cS else if c = "InRow" then some cI else if c = "Book" then some cB else none
theorem ql3 {cW cS cI cB C:Addr} {c:Str} (h:kap cW cS cI cB c=some C):(c = "Within"/\C=cW)\/(c = "Since"/\C=cS)\/(c = "InRow"/\C=cI)\/(c = "Book"/\C=cB):=by
 unfold kap at h
 split at h
 ·cases h;exact .inl ⟨‹_›,rfl⟩
 split at h
 ·cases h;exact .inr (.inl ⟨‹_›,rfl⟩)
 split at h
 ·cases h;exact .inr (.inr (.inl ⟨‹_›,rfl⟩))
 split at h
 ·cases h;exact .inr (.inr (.inr ⟨‹_›,rfl⟩))
 cases h
theorem qcY {c:Str} (h:rk c=true):c = "Within"\/c = "Since"\/c = "InRow":=by
 unfold rk at h
 simpa [or_assoc] using h
theorem ql4 {c x:Str} (h:pcs.fld c x=true):(rk c=true/\(x = "lands"\/x = "most"))\/(c = "Within"/\x = "span")\/((c = "Since"\/c = "InRow")/\x = "leave")\/(c = "Book"/\(x = "kept_rules"\/x = "kept_papers")):=by
 have h:((rk c&&(x == "lands" || x == "most" || (x == "span" && c == "Within")||(x == "leave" && c != "Within")))||(c == "Book" && (x == "kept_rules" || x == "kept_papers")))=true:=h;simp only [Bool.or_eq_true,Bool.and_eq_true,beq_iff_eq,bne_iff_ne] at h;rcases h with ⟨h1,((h2 | h2) | h2) | h2⟩ | h2
 ·exact .inl ⟨h1,.inl h2⟩
 ·exact .inl ⟨h1,.inr h2⟩
 ·exact .inr (.inl ⟨h2.2,h2.1⟩)
 ·refine .inr (.inr (.inl ⟨?_,h2.1⟩));rcases qcY h1 with q | q
  ·exact absurd q h2.2
  ·exact q
 ·exact .inr (.inr (.inr h2))
theorem qnm {c x f:Str} (h:pcs.mt c x=some f):(rk c=true/\x = "weight"/\f = "Rule.weight")\/(c = "Book"/\x = "rules"/\f = "Book.rules")\/(c = "Book"/\x = "lifted"/\f = "Book.lifted")\/(c = "Book"/\x = "papers"/\f = "Book.papers"):=by
 have h:(if (rk c&&x == "weight")=true then some ("Rule.weight" : Str) else if (c == "Book" && x == "rules")=true then some ("Book.rules" : Str) else if (c == "Book" && x == "lifted")=true then some ("Book.lifted" : Str) else if (c == "Book" && x == "papers")=true then some ("Book.papers" : Str) else none)=some f:=h
 split at h
 ·rename_i q;simp only [Bool.and_eq_true,beq_iff_eq] at q;cases h;exact .inl ⟨q.1,q.2,rfl⟩
 split at h
 ·rename_i q;simp only [Bool.and_eq_true,beq_iff_eq] at q;cases h;exact .inr (.inl ⟨q.1,q.2,rfl⟩)
 split at h
 ·rename_i q;simp only [Bool.and_eq_true,beq_iff_eq] at q;cases h;exact .inr (.inr (.inl ⟨q.1,q.2,rfl⟩))
 split at h
 ·rename_i q;simp only [Bool.and_eq_true,beq_iff_eq] at q;cases h;exact .inr (.inr (.inr ⟨q.1,q.2,rfl⟩))
 cases h
theorem ql5 {c t:Str} {b:Bool} (h:pcs.sub c t=some b):rk c=true/\((t = "Within"/\b=(c == "Within"))\/(t = "Since"/\b=(c != "Within"))):=by
 have h:(if (rk c&&t == "Within")=true then some (c == "Within") else if (rk c&&t == "Since")=true then some (c != "Within") else none)=some b:=h
 split at h
 ·rename_i q;simp only [Bool.and_eq_true,beq_iff_eq] at q;cases h;exact ⟨q.1,.inl ⟨q.2,rfl⟩⟩
 split at h
 ·rename_i q;simp only [Bool.and_eq_true,beq_iff_eq] at q;cases h;exact ⟨q.1,.inr ⟨q.2,rfl⟩⟩
 cases h
theorem ZE {c:Str} {o:Option (List (Str×D))} {r:Rv} (h:qcN c o=.ok r):∃ fs,o=some fs/\r=.val (.ins c (fs.map (·.1)) (fs.map (·.2))):=by
 cases o with
 | none=>cases h
 | some fs=>cases h;exact ⟨fs,rfl,rfl⟩
theorem qaT (b:Bool) (l l':List D):aA b l≠.scr l':=by cases b<;>(intro z;cases z)
theorem qop {j:Nat} {args:List Ar} {r:Rv} (h:pnw (j+12) "Within" args=.ok r):(∀ a∈args,∀ l,a≠.scr l)/\∃ fs,yc "span" args=some fs/\r=.val (.ins "Within" (fs.map (·.1)) (fs.map (·.2))):=by
 have h:(if j+12 < 12 then R.no else qcN "Within" (yc "span" args))=.ok r:=h;rw [if_neg (1:)] at h;obtain ⟨fs,e,er⟩:=ZE h;obtain ⟨b,l,m,s,rfl,_⟩:=jD e;refine ⟨fun a ha=>?_,fs,e,er⟩;simp only [List.mem_cons,List.not_mem_nil,or_false] at ha;rcases ha with rfl | rfl | rfl
 ·exact fun l'=>qaT b l l'
 ·exact fun l' z=>by cases z
 ·exact fun l' z=>by cases z
theorem qoq {j:Nat} {args:List Ar} {r:Rv} (h:pnw (j+12) "Since" args=.ok r):(∀ a∈args,∀ l,a≠.scr l)/\∃ fs,yc "leave" args=some fs/\r=.val (.ins "Since" (fs.map (·.1)) (fs.map (·.2))):=by
 have h:(if j+12 < 12 then R.no else qcN "Since" (yc "leave" args))=.ok r:=h;rw [if_neg (1:)] at h;obtain ⟨fs,e,er⟩:=ZE h;obtain ⟨b,l,m,s,rfl,_⟩:=jD e;refine ⟨fun a ha=>?_,fs,e,er⟩;simp only [List.mem_cons,List.not_mem_nil,or_false] at ha;rcases ha with rfl | rfl | rfl
 ·exact fun l'=>qaT b l l'
 ·exact fun l' z=>by cases z
 ·exact fun l' z=>by cases z
theorem qor {j:Nat} {args:List Ar} {r:Rv} (h:pnw (j+12) "InRow" args=.ok r):(∀ a∈args,∀ l,a≠.scr l)/\∃ fs,qcM args=some fs/\r=.val (.ins "InRow" (fs.map (·.1)) (fs.map (·.2))):=by
 have h:(if j+12 < 12 then R.no else qcN "InRow" (qcM args))=.ok r:=h;rw [if_neg (1:)] at h;obtain ⟨fs,e,er⟩:=ZE h;obtain ⟨b,l,m,rfl,_⟩:=ZD e;refine ⟨fun a ha=>?_,fs,e,er⟩;simp only [List.mem_cons,List.not_mem_nil,or_false] at ha;rcases ha with rfl | rfl
 ·exact fun l'=>qaT b l l'
 ·exact fun l' z=>by cases z
theorem qos {j:Nat} {args:List Ar} {r:Rv} (h:pnw (j+12) "Book" args=.ok r):(∀ a∈args,∀ l,a≠.scr l)/\∃ fs,Qz args=some fs/\r=.val (.ins "Book" (fs.map (·.1)) (fs.map (·.2))):=by
 have h:(if j+12 < 12 then R.no else qcN "Book" (Qz args))=.ok r:=h;rw [if_neg (1:)] at h;obtain ⟨fs,e,er⟩:=ZE h;obtain ⟨b,c,l,ps,rfl,_⟩:=Qd e;refine ⟨fun a ha=>?_,fs,e,er⟩;simp only [List.mem_cons,List.not_mem_nil,or_false] at ha;rcases ha with rfl | rfl
 ·exact fun l'=>qaT b l l'
 ·exact fun l'=>qaT c ps l'
structure Kl (K:Frag) (C:Addr):Prop where
 cls:Cls K C
 tc:PySem.W.findIn K (.ref C) "__class__" = some (some (.builtin "object.__class__"))
 mo:PySem.W.mroIn K C (.type "object")=some true
structure Kr (K:Frag) (fw C cW cS:Addr) (x:Str) (b:Bool):Prop where
 kl:Kl K C
 la:zG K C "lands"
 mo:zG K C "most"
 fx:zG K C x
 wt:Meth K C "weight" fw
 iw:PySem.W.kitOne K (.ref C) (.ref cW)=some b
 is:PySem.W.kitOne K (.ref C) (.ref cS)=some (!b)
structure Kb (K:Frag) (fr fl fp C:Addr):Prop where
 kl:Kl K C
 a1:zG K C "kept_rules"
 a2:zG K C "kept_papers"
 m1:Meth K C "rules" fr
 m2:Meth K C "lifted" fl
 m3:Meth K C "papers" fp
section
variable {K:Frag} {mg:PR} {cW cS cI cB fw fr fl fp:Addr} (W:Kr K fw cW cW cS "span" true) (S:Kr K fw cS cW cS "leave" false) (I:Kr K fw cI cW cS "leave" false) (B:Kb K fr fl fp cB)
include W S I B
theorem qhk (c:Str) (C:Addr) (h:kap cW cS cI cB c=some C):Cls K C:=by
 rcases ql3 h with ⟨_,rfl⟩ | ⟨_,rfl⟩ | ⟨_,rfl⟩ | ⟨_,rfl⟩
 ·exact W.kl.cls
 ·exact S.kl.cls
 ·exact I.kl.cls
 ·exact B.kl.cls
theorem qeW (c x:Str) (C:Addr) (hf:pcs.fld c x=true) (h:kap cW cS cI cB c=some C):zG K C x:=by
 rcases ql4 hf with ⟨hr,rfl | rfl⟩ | ⟨rfl,rfl⟩ | ⟨rfl | rfl,rfl⟩ | ⟨rfl,rfl | rfl⟩
 ·rcases qcY hr with rfl | rfl | rfl
  ·cases h;exact W.la
  ·cases h;exact S.la
  ·cases h;exact I.la
 ·rcases qcY hr with rfl | rfl | rfl
  ·cases h;exact W.mo
  ·cases h;exact S.mo
  ·cases h;exact I.mo
 ·cases h;exact W.fx
 ·cases h;exact S.fx
 ·cases h;exact I.fx
 ·cases h;exact B.a1
 ·cases h;exact B.a2
theorem qcZ {C:Addr} (k:Kl K C) (n:PySem.W.specialIn K (.builtin "object.__class__") "__get__" = some (some (.builtin "getset_descriptor.__get__"))) (tk:PySem.W.takesIn K (.builtin "object.__class__")=some true) :
  ∀ (H:Hp) (p dx:Addr) (fs:List (Str×V)),H p=some (L2.HO.ins C dx fs)->TyOf K H (.ref p) (.ref C):=fun H p dx fs hp=>.ins hp k.cls k.tc n tk k.mo
theorem qja (n:PySem.W.specialIn K (.builtin "object.__class__") "__get__" = some (some (.builtin "getset_descriptor.__get__"))) (tk:PySem.W.takesIn K (.builtin "object.__class__")=some true) (mW:mg "Within" = some (.ref cW)) (mS:mg "Since" = some (.ref cS))
  (c t:Str) (b:Bool) (h:pcs.sub c t=some b):∃ C T,kap cW cS cI cB c=some C/\(∀ H p dx fs,H p=some (L2.HO.ins C dx fs)->TyOf K H (.ref p) (.ref C))/\mg t=some (.ref T)/\PySem.W.kitOne K (.ref C) (.ref T)=some b:=by
 obtain ⟨hr,⟨rfl,rfl⟩ | ⟨rfl,rfl⟩⟩:=ql5 h
 ·rcases qcY hr with rfl | rfl | rfl
  ·exact ⟨cW,cW,rfl,qcZ W S I B W.kl n tk,mW,W.iw⟩
  ·exact ⟨cS,cW,rfl,qcZ W S I B S.kl n tk,mW,S.iw⟩
  ·exact ⟨cI,cW,rfl,qcZ W S I B I.kl n tk,mW,I.iw⟩
 ·rcases qcY hr with rfl | rfl | rfl
  ·exact ⟨cW,cS,rfl,qcZ W S I B W.kl n tk,mS,W.is⟩
  ·exact ⟨cS,cS,rfl,qcZ W S I B S.kl n tk,mS,S.is⟩
  ·exact ⟨cI,cS,rfl,qcZ W S I B I.kl n tk,mS,I.is⟩
end
noncomputable def QW (K:Frag) (f:Addr) (n q:Str) (st:Stmt):Prop:=∃ oc od kV dc pm an cd ct sl,K.lookup f=some ⟨oc,od,.func (PySem.W.fnOf n q (zj st) (qS st) (qo st) .none kV dc pm an cd ct),sl⟩/\PySem.W.codeIn K cd q=true/\PySem.W.keepIn K (.ref f)=true
noncomputable abbrev FG (K:Frag) (f:Addr) (n:Str) (st:Stmt):Prop:=PySem.W.nsIn K mainGlobals n=some (some (.ref f))/\QW K f n n st
section
variable {K:Frag} {f:Addr} {n q:Str} {st:Stmt} {mg:PR} {h:Heap}
theorem QW.fn (i:QW K f n q st):∃ fd,Fun K n q st f fd:=by obtain ⟨oc,od,kV,dc,pm,an,cd,ct,sl,l,c,k⟩:=i;exact ⟨_,qgy l c k⟩
theorem QW.kp (i:QW K f n q st):PySem.W.keepIn K (.ref f)=true:=by obtain ⟨oc,od,kV,dc,pm,an,cd,ct,sl,l,c,k⟩:=i;exact k
noncomputable def Bd (n q:Str) (st:Stmt) (ps:List Str):Prop:=∀ (kV doc pm:Value) (an:Option Addr) (cdv ct:Value) (us:List Value),us.length=ps.length->bindArgs (PySem.W.fnOf n q (zj st) (qS st) (qo st) .none kV doc pm an cdv ct) ⟨us,[]⟩=pure (ps.zip us)
theorem ql6 (X:K.In h) (G:h.Ns mainGlobals mg) (a:PySem.W.nsIn K mainGlobals n=some (some (.ref f))) (i:QW K f n n st) {ps:List Str} (hp:Qv st=ps) (hb:Bd n n st ps):FnF K mg n st:=by obtain ⟨fd,F⟩:=i.fn;exact ⟨f,fd,F,PySem.W.mg_of X G a,hp▸F.binds hb⟩
theorem JA (i:QW K f n q st) {ps:List Str} (hb:Bd n q st ps):∃ fd,Fun K n q st f fd/\zx K fd ps []:=by obtain ⟨fd,F⟩:=i.fn;exact ⟨fd,F,F.binds hb⟩
theorem ql7 (i:QW K f n n st) (hb:Bd n n st ["_law_script"]):∃ fd,Fun K n n st f fd/\∀ (s:Shared) (v:Value),BindsTo s fd ⟨[v],[]⟩ [("_law_script",v)]:=by obtain ⟨oc,od,kV,dc,pm,an,cd,ct,sl,l,c,k⟩:=i;exact ⟨_,qgy l c k,fun s v=>.of_eq (hb _ _ _ _ _ _ [v] rfl)⟩
end
section
variable {n q:Str} {st:Stmt} {a b c d e:Str}
theorem bd1 (h:∀ (kV doc pm:Value) (an:Option Addr) (cdv ct x:Value),bindArgs (PySem.W.fnOf n q (zj st) (qS st) (qo st) .none kV doc pm an cdv ct) ⟨[x],[]⟩=pure [(a,x)]):Bd n q st [a]:=fun _ _ _ _ _ _ us hl=>match us,hl with | [_],_=>h ..
theorem bd2 (h:∀ (kV doc pm:Value) (an:Option Addr) (cdv ct x y:Value),bindArgs (PySem.W.fnOf n q (zj st) (qS st) (qo st) .none kV doc pm an cdv ct) ⟨[x,y],[]⟩=pure [(a,x),(b,y)]):Bd n q st [a,b]:=fun _ _ _ _ _ _ us hl=>match us,hl with | [_,_],_=>h ..
theorem bd3 (h:∀ (kV doc pm:Value) (an:Option Addr) (cdv ct x y z:Value),bindArgs (PySem.W.fnOf n q (zj st) (qS st) (qo st) .none kV doc pm an cdv ct) ⟨[x,y,z],[]⟩=pure [(a,x),(b,y),(c,z)]):Bd n q st [a,b,c]:=fun _ _ _ _ _ _ us hl=>match us,hl with | [_,_,_],_=>h ..
theorem bd4 (h:∀ (kV doc pm:Value) (an:Option Addr) (cdv ct x y z u:Value),bindArgs (PySem.W.fnOf n q (zj st) (qS st) (qo st) .none kV doc pm an cdv ct) ⟨[x,y,z,u],[]⟩=pure [(a,x),(b,y),(c,z),(d,u)]):Bd n q st [a,b,c,d]:=fun _ _ _ _ _ _ us hl=>match us,hl with | [_,_,_,_],_=>h ..
end
end DG
namespace DG
open PySem PySem.Spec PyProof.Rows L2 DE
inductive BDs:List (Str×Stmt)->Prop
 | nil:BDs []
 | cons {n st l ps}:Qv st=ps->Bd n n st ps->BDs l->BDs ((n,st)::l)
inductive FGs (K:Frag):List (Str×Stmt)->Prop
 | nil:FGs K []
 | cons {f n st l}:FG K f n st->FGs K l->FGs K ((n,st)::l)
inductive ZNs (K:Frag):List Str->Prop
 | nil:ZNs K []
 | cons {n l}:PySem.W.nsIn K mainGlobals n=some none->ZNs K l->ZNs K (n::l)
section
variable {K:Frag} {mg:PR} {h:Heap}
theorem FGs.all (X:K.In h) (G:h.Ns mainGlobals mg) {l:List (Str×Stmt)} (a:FGs K l) (p:BDs l):AllF K mg l:=by
 induction a with
 | nil=>exact .nil
 | cons i _ ih=>
  cases p with
  | cons e b p=>exact .cons (ql6 X G i.1 i.2 e b) (ih p)
theorem ZNs.all (X:K.In h) (G:h.Ns mainGlobals mg) {l:List Str} (a:ZNs K l):∀ f∈l,mg f=none:=by
 induction a with
 | nil=>exact nofun
 | cons i _ ih=>
  intro f hf;rcases List.mem_cons.mp hf with rfl | hf
  ·exact PySem.W.mg_none_of X G i
  ·exact ih f hf
end
end DG
namespace K34
open PySem PySem.W L2 DE DG
theorem ql8 {l:OpenLaw} {w:World} {K:Frag} {h:Heap} {mg:PR} {fa cR cW cS cI cB f41 fiR fiW fiS fiI fiB fmw fmr fmp fml:Addr} {t0 t1 t2 t3 t4 t5 t6 t7:Tok} (X:K.In h) (G:h.Ns mainGlobals mg) (hfa:mg "law" = some (.ref fa))
  (aL:FG K f41 "law" (top 67))
  (a:FGs K pg.defs)
  (z:ZNs K qdL)
  (v0:nsIn K mainGlobals "GREATEST" = some (some (.int 1000000000 t0)))
  (v1:nsIn K mainGlobals "LETTERS" = some (some (.str "abcdefghijklmnopqrstuvwxyz" t1)))
  (v2:nsIn K mainGlobals "LONGEST_NAME" = some (some (.int 8 t2)))
  (v3:nsIn K mainGlobals "MOST_LANDS" = some (some (.int 6 t3)))
  (v4:nsIn K mainGlobals "GREATEST_WEIGHT" = some (some (.int 9 t4)))
  (v5:nsIn K mainGlobals "MOST_STAYS" = some (some (.int 60 t5)))
  (v6:nsIn K mainGlobals "MOST_RULES" = some (some (.int 8 t6)))
  (v7:nsIn K mainGlobals "MOST_PAPERS" = some (some (.int 12 t7)))
  (ncR:nsIn K mainGlobals "Rule" = some (some (.ref cR)))
  (ncW:nsIn K mainGlobals "Within" = some (some (.ref cW)))
  (ncS:nsIn K mainGlobals "Since" = some (some (.ref cS)))
  (ncI:nsIn K mainGlobals "InRow" = some (some (.ref cI)))
  (ncB:nsIn K mainGlobals "Book" = some (some (.ref cB)))
  (inR:findIn K (.ref cR) "__init__" = some (some (.ref fiR)))
  (inW:findIn K (.ref cW) "__init__" = some (some (.ref fiW)))
  (inS:findIn K (.ref cS) "__init__" = some (some (.ref fiS)))
  (inI:findIn K (.ref cI) "__init__" = some (some (.ref fiI)))
  (inB:findIn K (.ref cB) "__init__" = some (some (.ref fiB)))
  (tmr:findIn K (.ref cB) "rules" = some (some (.ref fmr)))
  (tml:findIn K (.ref cB) "lifted" = some (some (.ref fml)))
  (tmp:findIn K (.ref cB) "papers" = some (some (.ref fmp)))
  (twW:findIn K (.ref cW) "weight" = some (some (.ref fmw)))
  (twS:findIn K (.ref cS) "weight" = some (some (.ref fmw)))
  (twI:findIn K (.ref cI) "weight" = some (some (.ref fmw)))
  (hiR:QW K fiR "__init__" "Rule.__init__" (mem 25 0))
  (niR:isFn K (.ref fiR)=true)
  (hiW:QW K fiW "__init__" "Within.__init__" (mem 26 0))
  (niW:isFn K (.ref fiW)=true)
  (hiS:QW K fiS "__init__" "Since.__init__" (mem 27 0))
  (niS:isFn K (.ref fiS)=true)
  (hiI:QW K fiI "__init__" "InRow.__init__" (mem 28 0))
  (niI:isFn K (.ref fiI)=true)
  (hiB:QW K fiB "__init__" "Book.__init__" (mem 50 0))
  (niB:isFn K (.ref fiB)=true)
  (hmw:QW K fmw "weight" "Rule.weight" (mem 25 1))
  (nmw:isFn K (.ref fmw)=true)
  (hmr:QW K fmr "rules" "Book.rules" (mem 50 1))
  (nmr:isFn K (.ref fmr)=true)
  (hmp:QW K fmp "papers" "Book.papers" (mem 50 2))
  (nmp:isFn K (.ref fmp)=true)
  (hml:QW K fml "lifted" "Book.lifted" (mem 50 3))
  (nml:isFn K (.ref fml)=true)
  (mkW:makesIn K cW=true)
  (kcW:keepIn K (.ref cW)=true)
  (LW:Kl K cW)
  (na_landsW:findIn K (.ref cW) "lands" = some none)
  (na_mostW:findIn K (.ref cW) "most" = some none)
  (na_spanW:findIn K (.ref cW) "span" = some none)
  (kwW:kitOne K (.ref cW) (.ref cW)=some true)
  (ksW:kitOne K (.ref cW) (.ref cS)=some false)
  (mkS:makesIn K cS=true)
  (kcS:keepIn K (.ref cS)=true)
  (LS:Kl K cS)
  (na_landsS:findIn K (.ref cS) "lands" = some none)
  (na_mostS:findIn K (.ref cS) "most" = some none)
  (na_leaveS:findIn K (.ref cS) "leave" = some none)
  (kwS:kitOne K (.ref cS) (.ref cW)=some false)
  (ksS:kitOne K (.ref cS) (.ref cS)=some true)
  (mkI:makesIn K cI=true)
  (kcI:keepIn K (.ref cI)=true)
  (LI:Kl K cI)
  (na_landsI:findIn K (.ref cI) "lands" = some none)
  (na_mostI:findIn K (.ref cI) "most" = some none)
  (na_leaveI:findIn K (.ref cI) "leave" = some none)
  (kwI:kitOne K (.ref cI) (.ref cW)=some false)
  (ksI:kitOne K (.ref cI) (.ref cS)=some true)
  (mkB:makesIn K cB=true)
  (kcB:keepIn K (.ref cB)=true)
  (LB:Kl K cB)
  (na_kept_rulesB:findIn K (.ref cB) "kept_rules" = some none)
  (na_kept_papersB:findIn K (.ref cB) "kept_papers" = some none)
  (rdR:readsIn K cR (.type "type")=true)
  (gsR:specialIn K (.ref cR) "__getattribute__" = some (some (.builtin "type.__getattribute__")))
  (fcR:findCls K (.ref cR) (.type "type") "__init__" = some (.val (.ref fiR)))
  (rdS:readsIn K cS (.type "type")=true)
  (gsS:specialIn K (.ref cS) "__getattribute__" = some (some (.builtin "type.__getattribute__")))
  (fcS:findCls K (.ref cS) (.type "type") "__init__" = some (.val (.ref fiS)))
  (og:specialIn K (.builtin "object.__class__") "__get__" = some (some (.builtin "getset_descriptor.__get__")))
  (ot:takesIn K (.builtin "object.__class__")=some true)
  :
  ∃ fd:FuncData,(∀ (s:Shared) (v:Value),BindsTo s fd ⟨[v],[]⟩ [("_law_script",v)])/\∀ base:Heap,K.In base->base.Ns mainGlobals mg->FnOk l.prog w K mg base CX0 20 fa fd ["_law_script"] (spF (kap cW cS cI cB) K (clK pg 20) "law"):=by
 have e:=hfa.symm.trans (mg_of X G aL.1);cases e;obtain ⟨dL,FL,bL⟩:=ql7 aL.2 ((bd1 fun _ _ _ _ _ _ _ =>rfl));have z:=z.all X G;obtain ⟨diR,FiR,biR⟩:=JA hiR (ps:=["self","lands","most"]) ((bd3 fun _ _ _ _ _ _ _ _ _ =>rfl));obtain ⟨diW,FiW,biW⟩:=JA hiW (ps:=["self","lands","most","span"]) ((bd4 fun _ _ _ _ _ _ _ _ _ _ =>rfl));obtain ⟨diS,FiS,biS⟩:=JA hiS (ps:=["self","lands","most","leave"]) ((bd4 fun _ _ _ _ _ _ _ _ _ _ =>rfl));obtain ⟨diI,FiI,biI⟩:=JA hiI (ps:=["self","lands","most"]) ((bd3 fun _ _ _ _ _ _ _ _ _ =>rfl));obtain ⟨diB,FiB,biB⟩:=JA hiB (ps:=["self","rules","papers"]) ((bd3 fun _ _ _ _ _ _ _ _ _ =>rfl));obtain ⟨dmw,Fmw,bmw⟩:=JA hmw (ps:=["self","land"]) ((bd2 fun _ _ _ _ _ _ _ _ =>rfl));obtain ⟨dmr,Fmr,bmr⟩:=JA hmr (ps:=["self"]) ((bd1 fun _ _ _ _ _ _ _ =>rfl));obtain ⟨dmp,Fmp,bmp⟩:=JA hmp (ps:=["self"]) ((bd1 fun _ _ _ _ _ _ _ =>rfl));obtain ⟨dml,Fml,bml⟩:=JA hml (ps:=["self","number"]) ((bd2 fun _ _ _ _ _ _ _ _ =>rfl));have mcR:=mg_of X G ncR;have mcW:=mg_of X G ncW;have mcS:=mg_of X G ncS;have mcI:=mg_of X G ncI;have mcB:=mg_of X G ncB;have rW:Kr K fmw cW cW cS "span" true:=⟨LW,na_landsW,na_mostW,na_spanW,⟨twW,nmw,hmw.kp⟩,kwW,ksW⟩;have rS:Kr K fmw cS cW cS "leave" false:=⟨LS,na_landsS,na_mostS,na_leaveS,⟨twS,nmw,hmw.kp⟩,kwS,ksS⟩;have rI:Kr K fmw cI cW cS "leave" false:=⟨LI,na_landsI,na_mostI,na_leaveI,⟨twI,nmw,hmw.kp⟩,kwI,ksI⟩;have rB:Kb K fmr fml fmp cB:=⟨LB,na_kept_rulesB,na_kept_papersB,⟨tmr,nmr,hmr.kp⟩,⟨tml,nml,hml.kp⟩,⟨tmp,nmp,hmp.kp⟩⟩;have tx:Tx (kap cW cS cI cB) K mg:=⟨z "tuple" (by decide+kernel),z "list" (by decide+kernel),z "len" (by decide+kernel),⟨_,mg_of X G v0⟩,qhk rW rS rI rB,qeW rW rS rI rB⟩;have cfR:ClsFn K cR "__init__" fiR:=⟨rdR,gsR,fcR,hiR.kp⟩;have cfS:ClsFn K cS "__init__" fiS:=⟨rdS,gsS,fcS,hiS.kp⟩;refine ⟨dL,bL,fun base _ _=>qkO (k:=19) (st:=top 67) ?ok FL (by kernel_rfl) (by kernel_rfl)⟩
 case ok=>
 refine ⟨a.all X G ?q,z,?g,qhk rW rS rI rB,qeW rW rS rI rB,?m,?k,qja rW rS rI rB og ot mcW mcS⟩
 case q=>repeat first | exact .nil | refine .cons (by kernel_rfl) (bd2 fun _ _ _ _ _ _ _ _ =>rfl) ?_ | refine .cons (by kernel_rfl) (bd3 fun _ _ _ _ _ _ _ _ _ =>rfl) ?_ | refine .cons (by kernel_rfl) (bd1 fun _ _ _ _ _ _ _ =>rfl) ?_ | refine .cons (by kernel_rfl) (bd4 fun _ _ _ _ _ _ _ _ _ _ =>rfl) ?_ | refine .cons (by kernel_rfl) (bd5 fun _ _ _ _ _ _ _ _ _ _ _ =>rfl) ?_
 case g=>
  intro x d hd;unfold pg at hd;dsimp only at hd
  by_cases h0:x = "GREATEST"
  ·rw [if_pos h0] at hd;cases hd;exact ⟨.int 1000000000,_,h0▸mg_of X G v0,⟨_,rfl⟩,fun _=>by simp only [Rep]⟩
  rw [if_neg h0] at hd
  by_cases h1:x = "LETTERS"
  ·rw [if_pos h1] at hd;cases hd;exact ⟨.str "abcdefghijklmnopqrstuvwxyz",_,h1▸mg_of X G v1,⟨_,rfl⟩,fun _=>by simp only [Rep]⟩
  rw [if_neg h1] at hd
  by_cases h2:x = "LONGEST_NAME"
  ·rw [if_pos h2] at hd;cases hd;exact ⟨.int 8,_,h2▸mg_of X G v2,⟨_,rfl⟩,fun _=>by simp only [Rep]⟩
  rw [if_neg h2] at hd
  by_cases h3:x = "MOST_LANDS"
  ·rw [if_pos h3] at hd;cases hd;exact ⟨.int 6,_,h3▸mg_of X G v3,⟨_,rfl⟩,fun _=>by simp only [Rep]⟩
  rw [if_neg h3] at hd
  by_cases h4:x = "GREATEST_WEIGHT"
  ·rw [if_pos h4] at hd;cases hd;exact ⟨.int 9,_,h4▸mg_of X G v4,⟨_,rfl⟩,fun _=>by simp only [Rep]⟩
  rw [if_neg h4] at hd
  by_cases h5:x = "MOST_STAYS"
  ·rw [if_pos h5] at hd;cases hd;exact ⟨.int 60,_,h5▸mg_of X G v5,⟨_,rfl⟩,fun _=>by simp only [Rep]⟩
  rw [if_neg h5] at hd
  by_cases h6:x = "MOST_RULES"
  ·rw [if_pos h6] at hd;cases hd;exact ⟨.int 8,_,h6▸mg_of X G v6,⟨_,rfl⟩,fun _=>by simp only [Rep]⟩
  rw [if_neg h6] at hd
  by_cases h7:x = "MOST_PAPERS"
  ·rw [if_pos h7] at hd;cases hd;exact ⟨.int 12,_,h7▸mg_of X G v7,⟨_,rfl⟩,fun _=>by simp only [Rep]⟩
  rw [if_neg h7] at hd;cases hd
 case m=>
  intro c x f hm;rcases qnm hm with ⟨hr,rfl,rfl⟩ | ⟨rfl,rfl,rfl⟩ | ⟨rfl,rfl,rfl⟩ | ⟨rfl,rfl,rfl⟩
  ·rcases qcY hr with rfl | rfl | rfl
   ·exact ⟨cW,fmw,_,mem 25 1,"weight",rfl,rW.wt,by kernel_rfl,by kernel_rfl,Fmw,bmw⟩
   ·exact ⟨cS,fmw,_,mem 25 1,"weight",rfl,rS.wt,by kernel_rfl,by kernel_rfl,Fmw,bmw⟩
   ·exact ⟨cI,fmw,_,mem 25 1,"weight",rfl,rI.wt,by kernel_rfl,by kernel_rfl,Fmw,bmw⟩
  ·exact ⟨cB,fmr,_,mem 50 1,"rules",rfl,rB.m1,by kernel_rfl,by kernel_rfl,Fmr,bmr⟩
  ·exact ⟨cB,fml,_,mem 50 3,"lifted",rfl,rB.m2,by kernel_rfl,by kernel_rfl,Fml,bml⟩
  ·exact ⟨cB,fmp,_,mem 50 2,"papers",rfl,rB.m3,by kernel_rfl,by kernel_rfl,Fmp,bmp⟩
 case k=>
  intro P wd base k ih f hf
  by_cases hk:k < 12
  ·exact .inl fun args=>if_pos hk
  obtain ⟨j,rfl⟩:∃ j,k=j+12:=⟨k - 12,by omega⟩;right
  have hf:f = "Within"\/f = "Since"\/f = "InRow"\/f = "Book":=by
   have hf:((["Within","Since","InRow","Book"]:List Str).contains f)=true:=hf
   simpa using hf
  rcases hf with rfl | rfl | rfl | rfl
  ·exact ⟨cW,fiW,_,_,_,⟨mkW,inW,niW,kcW⟩,qcX (j:=j+9) tx FiW FiR biR mcR cfR (ih (j+9) (1:)) (ih (j+10) (1:)) (qbu (j+4)) (qbu (j+5)),mcW,biW,by omega,ZC (c:="Within") rfl rfl fun args r=>qop (j:=j)⟩
  ·exact ⟨cS,fiS,_,_,_,⟨mkS,inS,niS,kcS⟩,qaR (j:=j+9) tx FiS FiR biR mcR cfR (ih (j+9) (1:)) (ih (j+10) (1:)) (qbu (j+4)) (qbu (j+5)),mcS,biS,by omega,ZC (c:="Since") rfl rfl fun args r=>qoq (j:=j)⟩
  ·exact ⟨cI,fiI,_,_,_,⟨mkI,inI,niI,kcI⟩,qeR (j:=j+8) tx FiI FiS biS mcS cfS FiR biR mcR cfR (ih (j+8) (1:)) (ih (j+9) (1:)) (qbu (j+3)) (qbu (j+4)),mcI,biI,by omega,ZC (c:="InRow") rfl rfl fun args r=>qor (j:=j)⟩
  ·exact ⟨cB,fiB,_,_,_,⟨mkB,inB,niB,kcB⟩,qgu (j:=j+10) tx FiB (ih (j+10) (1:)) (qbu (j+5)),mcB,biB,by omega,ZC (c:="Book") rfl rfl fun args r=>qos (j:=j)⟩
theorem qot {l:PySem.W.OpenLaw} {q:Program} {loose:List Str} {XP:(Str->Option Value)->Heap->Prop} {YP:World->Heap->Prop} {d:DefRec} {K:Params->Frag} {κ:KC} (hn:l.most=some 63) (hdf:d.params.defaults=[])
  (hY:∀ (w:World) (h:Heap),YP w h->(K w.params).In h)
  (F:∀ (w:World) (mg:PR) (fa:Addr) (h:Heap),(K w.params).In h->h.Ns mainGlobals mg->mg d.name=some (.ref fa)->
   ∃ fd:FuncData,(∀ (s:Shared) (u:Value),BindsTo s fd ⟨[u],[]⟩ [("_law_script",u)])/\∀ base:Heap,(K w.params).In base->base.Ns mainGlobals mg->FnOk l.prog w (K w.params) mg base CX0 20 fa fd ["_law_script"] (spF κ (K w.params) (clK pg 20) "law")) :
  PySem.W.WalkO q loose XP YP l.row.toRowW d [] (fun f vs=>PySem.call f vs):=
 L2.qhH (n:=63) (k:=20) (x:="_law_script") (CX:=fun _=>CX0) (sp:=fun w=>spF κ (K w.params) (clK pg 20) "law") hn (2:) hdf ⟨rfl,by decide,by decide⟩ hY F (fun _ _ a ns hl _ hS=>qkP hS (qgq ns hl)) fun _ _ _ _ _ z=>z
end K34
open PySem PySem.W PyProof.Rows
set_option maxRecDepth 100000 in
set_option maxHeartbeats 0 in
theorem PySem.Challenge.cw_daysgate_k34_whole_fault_shown_holds : PySem.Challenge.rw_daysgate_k34_whole_fault_shown.Holds := by
 w_on;refine holds_law (by kernel_rfl) fun said=>?_
 refine holds_open (q:=K34.Hq) (loose:=[]) (Xt:=K34.Hx) (XP:=XL K34.Hq []) (Yf:=fun s=>K34.Has.map s.heap.get?) (Ya:=fun w=>(K34.HK w.params).map fun p=>some p.2) (YP:=InK K34.HK) (N:=8290) K34.qnl (InK.of K34.HKe) InK.keeps (fun s e=>xl_of s (Bool.and_eq_true_iff.mp e).1) XL.keeps (by rfl) (by rfl) (by rfl) (fun s e=>recFacts_of (Bool.and_eq_true_iff.mp e).2) (by rfl) (by first | assumption | decide+kernel) (by decide+kernel) ⟨rfl,rfl,rfl,rfl,rfl,by decide+kernel⟩ ?hw ?hc
 (case hw=>w_witness2)
 k_fill
 refine K34.qot (l:=PySem.Challenge.rw_daysgate_k34_whole_fault_shown) (κ:=(DG.kap (nat_lit 213) (nat_lit 239) (nat_lit 265) (nat_lit 404))) rfl rfl (fun w h Y=>Y) ?F
 case F=>
  intro w mg fa h KX G hmg
  refine' K34.ql8 KX G hmg ?_ ?_ ?_ ?_ ?_ ?_ ?_ ?_ ?_ ?_ ?_ ?_ ?_ ?_ ?_ ?_ ?_ ?_ ?_ ?_ ?_ ?_ ?_ ?_ ?_ ?_ ?_ ?_ ?_ ?_ ?_ ?_ ?_ ?_ ?_ ?_ ?_ ?_ ?_ ?_ ?_ ?_ ?_ ?_ ?_ ?_ ?_ ?_ ?_ ?_ ?_ ?_ ?_ ?_ ?_ ?_ ?_ ?_ ?_ ?_ ?_ ?_ ?_ ?_ ?_ ?_ ?_ ?_ ?_ ?_ ?_ ?_ ?_ ?_ ?_ ?_ ?_ ?_ ?_ ?_ ?_ ?_
  all_goals try first | k_is | exact ⟨by k_is,by unfold DG.QW;exact ⟨_,_,_,_,_,_,_,_,_,by k_is,by k_is,by k_is⟩⟩ | (unfold DG.QW;exact ⟨_,_,_,_,_,_,_,_,_,by k_is,by k_is,by k_is⟩) | (refine ⟨⟨?_,?_,?_,?_⟩,?_,?_⟩<;>k_is) | kit_is | (repeat first | exact .nil | refine .cons ⟨by k_is,by unfold DG.QW;exact ⟨_,_,_,_,_,_,_,_,_,by k_is,by k_is,by k_is⟩⟩ ?_ | refine .cons (by k_is) ?_)
#print axioms PySem.Challenge.cw_daysgate_k34_whole_fault_shown_holds
