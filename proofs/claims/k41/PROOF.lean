import PyProof.Rows.All
import Wide.All
import OpenK.AllK
import PySem.Challenge.RW_daysgate_k41_limits_refused
set_option Elab.async false
set_option linter.all false
set_option maxRecDepth 100000
set_option compiler.extract_closed false
set_option bootstrap.genMatcherCode false
set_option genSizeOf false
set_option genInjectivity false
set_option backward.eqns.nonrecursive false
noncomputable section
abbrev PP:=List (PySem.Addr×PySem.Obj)
abbrev PQ:=PySem.Value->PySem.Shared->Prop
abbrev PR:=PySem.Str->Option PySem.Value
open PySem.W (Frag)
set_option hygiene false
local macro_rules
| `(%[$n:num|0])=>`(.cons (.var $n) .nil)
| `(%[$a|0])=>`(.cons $a .nil)
| `(%[$n:num,$b,*|0])=>`(.cons (.var $n) %[$b,*|0])
| `(%[$a,$b,*|0])=>`(.cons $a %[$b,*|0])
| `(%[$n:num|1])=>`(qo (pg:=pg) (st:=top $n) (4:) λk cl=>(4:))
def saidX:PySem.Challenge.rw_daysgate_k41_limits_refused.wellSaid=true:=by kernel_rfl
local macro_rules|`(($n:num :))=>`(nat_lit $n)
local macro_rules|`((1:))=>`(by lia)|`((5:))=>`(by simp)|`((-$e :))=>`(by simpa using $e)|`((3:))=>`(by decide+kernel)|`((4:))=>`(by kernel_rfl)|`((2:))=>`(by decide)
local macro_rules|`(tactic| simp?![$ls,*])=>do
  let f (s:String) (k:Lean.Name):=(s.splitOn " ").toArray.map λn=>Lean.mkIdent (k++n.toName)
  let b<-(f "Rv.list? Rv.plain? Rv.data Rv.int? Rv.str? Rv.bl? Rv.tup? int2 seqD Rv.non? idxD sliceD truthD lenD listD intD strD tupD maxD minD B1.go B2.go Ty.of Ty.go toAr toSl flR slN runD th_ok of_some slR_s slR_v slR_o slR_b slR_c slX_s slX_v slX_o ownI_s ownI_o kk_f kk_x2 kk_cs kk_nw at_0 at_1 at_2 ixN_app set_app emp_app xR_var xR_con xR_bin xR_neg xR_not xR_one xR_and xR_or xR_cmp xR_ite xR_idx xR_sli xR_lst xR_tup xR_call xR_b1 xR_b2 xR_isc xR_isn xR_fld xR_met xR_new xR_isi xR_comp n_ok n_R n_Es n_As yRet yBl yTmp yB1 yB2 yNeg yNot yAnd yOr yC1 yC2 yIf yI1 yI2 yS1 yS2 yS3 yLst yTup yCall yF1 yG1 yG2 yIsc yIsn yDat yFld yMt3 yMt2 yMt1 yMtO yNew yIsi yComp xT_not xT_one xT_and xT_or xT_cmp xT_val yBo yTn yTa yTo yD1 yD2 yTv xF_yes xF_test xEs_nil xEs_cons yE1 yE2 xAs_nil xAs_cons yA1 yA2 xO_none xO_some yO xI_seq xI_rng xI_rev xI_enum xI_zip ySeq yRng yRev yEnum yZ1 yZ2 yVal yValt yValL yValLt yValLs yValLm yX yXt yAv yAx yAxt yCons xE_s xE_v xE_o xL_s xL_l xL_z xL_o xS_expr yExpr oGo_some xS_app yApp yApp2 xS_ext yExt yExt2 xS_ret yRt xS_set ySet xS_setT yST yNx xS_setI ySI ySI2 ySI3 ySI4 xS_ite yIte xS_for yFor xS_whl xS_rai yRai xS_try yTry_ok yTry_exc th_exc xSs_nil xSs_cons yNext yNextr xFo_nil xFo_cons yFo1 yFo2 yFo2r xWh yWh1 yWh2 xP_cons yP1 yP2 yP3 vc_bin vc_neg vc_and vc_or vc_cmp vc_ite vc_idx vc_sli vc_lst vc_tup vc_call vc_b1 vc_b2 vc_fld vc_met vc_new vc_comp eE_g eL_g eX_g eA_g eE_var eE_con eL_var eX_var eX_con eA_var eA_con bAdd bAdds bAddtt bAddct bAddvt bSub bMult bDiv bMod bPow cEq cNe cLt cLe cGt cGe cIs cIsN cIn cNi mIn rgoV rgoT setIs_nil setIs_cons g_mapc g_mapn g_lenc g_lenn g_rep0 g_reps g_appc g_appn g_set0 g_sets g_last g_nott g_notf g_omap g_fe g_and g_dt g_df lend_v lend_o lend_s" `DE++f "Int.reduceLT Int.reduceLE Nat.reduceAdd Nat.reduceSub" .anonymous).mapM λn=>`(Lean.Parser.Tactic.simpLemma| $n:ident)
  let d<-(f "n_var sA_p sA_R sA_L sL_L sL_R rA_a rA_l rA_s rA_t rA_b rA_y" `DE++f "reduceIte" .anonymous).mapM λn=>`(Lean.Parser.Tactic.simpLemma| ↓ $n:ident)
  let c : Array (Lean.TSyntax [`Lean.Parser.Tactic.simpStar, `Lean.Parser.Tactic.simpErase, `Lean.Parser.Tactic.simpLemma]):=(b ++ d).map (⟨·.raw⟩) ++ ls.getElems
  `(tactic| simp only[$c,*])
local macro_rules|`({$xs:term,*})=>`(⟨$xs,*⟩)
local macro_rules|`(tactic|simp?[$ls,*])=>`(tactic|(refine(qk _).symm.trans ?_;simp?![$ls,*]))
local macro_rules|`(tactic|simp![$ls,*]$[$l:location]?)=>`(tactic|simp only[$ls,*]$[$l]?)
local macro_rules|`(command|$d:definition)=>`(command|noncomputable $d:definition)
namespace L2
open PySem PySem.Spec PyProof.Rows
abbrev Key:=Sum Int Str
def qjH:Key->Value->Bool
 |.inl k,v=>Value.isInt k v
 |.inr x,v=>Value.isStrOf x v
def qoO(w:World):Key->Int
 |.inl k=>hashInt k
 |.inr x=>hashStr w x
theorem qA:∀{k:Key} {v:Value},qjH k v=true->(∃i t,k=Sum.inl i/\v=Value.int i t)\/(∃x t,k=Sum.inr x/\v=Value.str x t)
 |.inl i,v,h=>by obtain⟨t,e⟩:=Value.isInt_shape (k:=i) (v:=v) h;exact .inl ⟨i,t,rfl,e⟩
 |.inr x,v,h=>by obtain⟨t,e⟩:=Value.isStrOf_shape (x:=x) (v:=v) h;exact .inr ⟨x,t,rfl,e⟩
def qjI(a b:Int):decide ((Sum.inl a:Key)=Sum.inl b)=(a == b):=by
 by_cases e:a=b
 ·subst e;simp
 ·have h:¬ (Sum.inl a:Key)=Sum.inl b:=λq=>e (Sum.inl.inj q);rw[decide_eq_false h];exact(beq_eq_false_iff_ne.mpr e).symm
def qjJ(a b:Str):decide ((Sum.inr a:Key)=Sum.inr b)=decide (a=b):=by
 by_cases e:a=b
 ·subst e;simp
 ·have h:¬ (Sum.inr a:Key)=Sum.inr b:=λq=>e (Sum.inr.inj q);rw[decide_eq_false h,decide_eq_false e]
def qjK(a:Int)(b:Str):decide ((Sum.inl a:Key)=Sum.inr b)=false:=decide_eq_false (λq=>nomatch q)
def qjL(a:Str)(b:Int):decide ((Sum.inr a:Key)=Sum.inl b)=false:=decide_eq_false (λq=>nomatch q)
def qaA(prog:Program)(w:World):PySem.KeyKind prog w Key where
 is:=qjH
 hash:=qoO w
 inj:=λv a b ha hb=>by
  rcases qA ha with ⟨i,t,rfl,rfl⟩|⟨x,t,rfl,rfl⟩
  ·rcases qA hb with ⟨j,u,rfl,e⟩|⟨y,u,rfl,e⟩
   ·injection e with e1 _;rw[e1]
   ·exact nomatch e
  ·rcases qA hb with ⟨j,u,rfl,e⟩|⟨y,u,rfl,e⟩
   ·exact nomatch e
   ·injection e with e1 _;rw[e1]
 byValue:=λk v h=>by rcases qA h with ⟨i,t,rfl,rfl⟩|⟨x,t,rfl,rfl⟩<;>rfl
 pyHash:=λhv h=>by
  rcases qA hv with ⟨i,t,rfl,rfl⟩|⟨x,t,rfl,rfl⟩
  ·exact wpAny_pyHash_int h
  ·exact wpAny_pyHash_str h
 eqBool:=λhu hv h=>by
  rcases qA hu with ⟨i,t,rfl,rfl⟩|⟨x,t,rfl,rfl⟩
  ·rcases qA hv with ⟨j,u,rfl,rfl⟩|⟨y,u,rfl,rfl⟩
   ·rw[qjI]at h;exact wpAny_eqBool_int h
   ·rw[qjK]at h;exact SeqAt.EqAt.int_str i t y u _ _ _ _ h
  ·rcases qA hv with ⟨j,u,rfl,rfl⟩|⟨y,u,rfl,rfl⟩
   ·rw[qjL]at h;exact SeqAt.EqAt.str_int x t j u _ _ _ _ h
   ·rw[qjJ]at h;exact wpAny_eqBool_str h
 «strs»:=λk x t v h=>by
  rcases qA h with ⟨i,u,rfl,e⟩|⟨y,u,rfl,e⟩
  ·exact nomatch e
  ·injection e with e1 _;subst e1;cases v<;>rfl
inductive V where
 | non|bl (b:Bool)|int (i:Int)|str (x:Str)|byt (b:Array UInt8)|flt (b:UInt64)|ref (a:Addr)|ty (n:String)
 deriving DecidableEq
def qI:V->Value->Prop
 |.non,u=>u=Value.none
 |.bl b,u=>u=Value.bool b
 |.int i,u=>∃t,u=Value.int i t
 |.str x,u=>∃t,u=Value.str x t
 |.byt b,u=>∃t,u=Value.bytes b t
 |.flt b,u=>∃t,u=Value.float b t
 |.ref a,u=>u=Value.ref a
 |.ty n,u=>u=Value.type n
abbrev qF:List V->List Value->Prop:=Paired qI
def qF.length{xs:List V}{us:List Value}(r:qF xs us):xs.length=us.length:=Paired.length r
theorem qF.get:∀{xs:List V} {us:List Value} {i:Nat} {x:V},qF xs us->xs[i]?=some x->∃u,us[i]?=some u/\qI x u
 |_,_,_,_,.nil,e=>by simp at e
 |_,_,0,_,.cons r _,e=>by simp at e;subst e;exact{_,rfl,r}
 | _,_,i+1,x,.cons _ t,e=>by obtain⟨u,h1,h2⟩:=qF.get (i:=i) (x:=x) t (-e:);exact{u,(-h1:),h2}
theorem qF.set{x:V}{u:Value}(r:qI x u):∀{xs:List V} {us:List Value} (i:Nat),qF xs us->qF (xs.set i x) (us.set i u)
 |_,_,_,.nil=>.nil
 |_,_,0,.cons _ t=>.cons r t
 | _,_,i+1,.cons q t=>.cons q (qF.set r i t)
theorem qF.append:∀{xs ys:List V} {us ws:List Value},qF xs us->qF ys ws->qF (xs++ys) (us++ws)
 |_,_,_,_,.nil,s=>s
 |_,_,_,_,.cons r t,s=>.cons r (qF.append t s)
theorem qF.take:∀{xs:List V} {us:List Value} (n:Nat),qF xs us->qF (xs.take n) (us.take n)
 |_,_,0,_=>.nil
 | _,_,_+1,.nil=>.nil
 | _,_,n+1,.cons r t=>.cons r (qF.take n t)
theorem qF.drop:∀{xs:List V} {us:List Value} (n:Nat),qF xs us->qF (xs.drop n) (us.drop n)
 |_,_,0,r=>r
 | _,_,_+1,.nil=>.nil
 | _,_,n+1,.cons _ t=>qF.drop n t
def qbb:Option V->Option Value->Prop
 |some v,some u=>qI v u
 |none,none=>True
 |_,_=>False
def KV{U:Type}:List (U×V)->List (U×Value)->Prop:=Paired λ(p:U×V) (q:U×Value)=>p.1=q.1/\qI p.2 q.2
def kV:Key->V
 |.inl i=>.int i
 |.inr x=>.str x
inductive HO where
 | lst (xs:List V)
 | tup (xs:List V)
 | dK (kvs:List (Key×V))|dT (kvs:List (List Key×V))
 | set (S:Int->Bool) (n:Nat)
 | ins (C dx:Addr) (fs:List (Str×V))
 | own (x:Addr)
 | xd (fs:List (Str×V))
 | met (f x:Addr)
 | rng (lo hi:Int)
 | frz (o:Obj) (u:HO)
 | tbl (ps:Array Value)
 | ext (φ:Heap->Prop)
abbrev Hp:=Addr->Option HO
def upd(H:Hp)(a:Addr)(o:HO):Hp:=λb=>if b=a then some o else H b
def qf{H:Hp}{a:Addr}{o:HO}:upd H a o a=some o:=by unfold upd;rw[if_pos rfl]
def qe{H:Hp}{a b:Addr}{o:HO}(h:b≠a):upd H a o b=H b:=by unfold upd;rw[if_neg h]
def qhw{H:Hp}{a:Addr}{o u:HO}:upd (upd H a o) a u=upd H a u:=by funext b;unfold upd;split<;>rfl
def qV{H:Hp}{a b:Addr}{o:HO}(h:H a=some o)(h':H b=none):a≠b:=by intro e;subst e;rw[h]at h';cases h'
section
variable(P:Program)(w:World)
def qQ(H:Hp)(h:Heap)(a:Addr):HO->Prop
 |.lst xs=>xs.length<=sizeLine/\∃(its:List Value) (n:Nat),qF xs its/\h.get? a=some { cls:=.type "list",data:=.seq its.toArray n }
 |.tup xs=>xs.length<=sizeLine/\∃its:List Value,qF xs its/\IsTup h a its.toArray
 |.dK kvs=>kvs.length<=sizeLine/\(a == sysModules)=false/\∃vs,KV kvs vs/\h.DictOf (qaA P w) a vs
 |.dT kvs=>kvs.length<=sizeLine/\(a == sysModules)=false/\∃xs:List (List Key×Addr×Value),
   Paired (λ(p:List Key×V) (q:List Key×Addr×Value)=>p.1=q.1/\H q.2.1=some (.tup (p.1.map kV))/\qI p.2 q.2.2) kvs xs/\
   ∃o es ep,h.get? a=some o/\o.ExactDict/\o.data=.dict es ep/\es.toList=xs.map (entryOfKey (tupleKind (qaA P w)))/\(xs.map (·.1)).Nodup
 |.set S n=>h.SetOf (intKind P w) a S n
 |.ins C dx fs=>H dx=some (.own a)/\fs.length<=1000/\dx≠a/\h.get? a=some (PySem.W.instObj C dx)/\
   ∃mA,h.Ns1 dx mA/\(∀f,qbb (fs.lookup f) (mA f))/\PySem.Within mA (fs.map (·.1))
 |.own _=>∃o,h.get? a=some o
 |.xd fs=>∃mA,h.Ns1 a mA/\∀f,qbb (fs.lookup f) (mA f)
 |.rng lo hi=>∃t u v,h.get? a=some { cls:=.type "range",data:=.fields #[.int lo t,.int hi u,.int 1 v] }
 |.frz o u=>h.get? a=some o/\qQ H h a u
 |.tbl ps=>h.get? a=some { cls:=.none,data:=.fields ps }
 |.met f x=>h.get? a=some (PySem.W.methodObj (.ref f) (.ref x))
 |.ext φ=>φ h/\(∃o,h.get? a=some o)/\∀h1 h2:Heap,φ h1->(∀o,h1.get? a=some o->h2.get? a=some o)->φ h2
def HOk(H:Hp)(h:Heap):Prop:=∀a o,H a=some o->qQ P w H h a o
end
section
variable{P:Program}{w:World}{H H':Hp}{h h':Heap}{a:Addr}{o:HO}
theorem qQ.lt(x:qQ P w H h a o):a < h.objs.size:=by
 cases o with
 |lst xs=>obtain⟨_,_,_,_,e⟩:=x;exact Heap.lt_size e
 |tup xs=>obtain⟨_,_,_,p⟩:=x;exact p.lt
 |dK kvs=>obtain⟨_,_,_,_,o,_,_,e,_⟩:=x;exact Heap.lt_size e
 |dT kvs=>obtain⟨_,_,_,_,o,_,_,e,_⟩:=x;exact Heap.lt_size e
 |set S n=>obtain⟨o,_,_,_,e,_⟩:=x;exact Heap.lt_size e
 |ins C dx fs=>obtain⟨_,_,_,e,_⟩:=x;exact Heap.lt_size e
 |own y=>obtain⟨_,e⟩:=x;exact Heap.lt_size e
 |xd fs=>obtain⟨_,⟨_,_,_,e,_⟩,_⟩:=x;exact Heap.lt_size e
 |rng lo hi=>obtain⟨_,_,_,e⟩:=x;exact Heap.lt_size e
 |frz ob u=>obtain⟨e,_⟩:=x;exact Heap.lt_size e
 |tbl ps=>exact Heap.lt_size (show h.get? a=some _ from x)
 |met f y=>exact Heap.lt_size (show h.get? a=some _ from x)
 |ext φ=>obtain⟨_,⟨_,e⟩,_⟩:=x;exact Heap.lt_size e
theorem Paired.mapP{α M:Type}{F G:α->M->Prop}:∀{l₁:List α} {l₂:List M},Paired F l₁ l₂->(∀a b,F a b->G a b)->Paired G l₁ l₂
 |_,_,.nil,_=>.nil
 |_,_,.cons r t,f=>.cons (f _ _ r) (Paired.mapP t f)
theorem qQ.stay(x:qQ P w H h a o)(k:∀b u,(b=a\/H b=some (.own a))->h.get? b=some u->h'.get? b=some u)
  (ho:∀b,H b=some (.own a)->H' b=some (.own a)) (ht:∀b xs,H b=some (.tup xs)->H' b=some (.tup xs)):qQ P w H' h' a o:=by
 induction o with
 |lst xs=>obtain⟨z,its,n,r,e⟩:=x;exact{z,its,n,r,k _ _ (.inl rfl) e}
 |tup xs=>obtain⟨z,its,r,ob,e,c⟩:=x;exact{z,its,r,ob,k _ _ (.inl rfl) e,c}
 |dK kvs=>obtain⟨z,y,vs,r,ob,es,ep,e,c⟩:=x;exact{z,y,vs,r,ob,es,ep,k _ _ (.inl rfl) e,c}
 |dT kvs=>obtain⟨z,y,xs,r,ob,es,ep,e,c⟩:=x;exact{z,y,xs,Paired.mapP r λp q z=>{z.1,ht _ _ z.2.1,z.2.2},ob,es,ep,k _ _ (.inl rfl) e,c}
 |set S n=>obtain⟨ob,es,ep,t,e,c⟩:=x;exact{ob,es,ep,t,k _ _ (.inl rfl) e,c}
 |ins C dx fs=>obtain⟨d,z,ne,e,mA,⟨od,es,ep,e2,c⟩,r⟩:=x;exact{ho _ d,z,ne,k _ _ (.inl rfl) e,mA,{od,es,ep,k _ _ (.inr d) e2,c},r}
 |own y=>obtain⟨ob,e⟩:=x;exact{ob,k _ _ (.inl rfl) e}
 |xd fs=>obtain⟨mA,⟨od,es,ep,e,c⟩,r⟩:=x;exact{mA,{od,es,ep,k _ _ (.inl rfl) e,c},r}
 |rng lo hi=>obtain⟨t,u,v,e⟩:=x;exact{t,u,v,k _ _ (.inl rfl) e}
 |frz ob u ih=>obtain⟨e,q⟩:=x;exact{k _ _ (.inl rfl) e,ih q}
 |tbl ps=>have e:h.get? a=some { cls:=.none,data:=.fields ps }:=x;show h'.get? a=some { cls:=.none,data:=.fields ps };exact k a _ (.inl rfl) e
 |met f y=>have e:h.get? a=some (PySem.W.methodObj (.ref f) (.ref y)):=x;show h'.get? a=some (PySem.W.methodObj (.ref f) (.ref y));exact k a _ (.inl rfl) e
 |ext φ=>obtain⟨p,⟨o,e⟩,st⟩:=x;exact{st _ _ p λo q=>k _ _ (.inl rfl) q,{o,k _ _ (.inl rfl) e},st}
def HOk.lt(x:HOk P w H h)(e:H a=some o):a < h.objs.size:=(x a o e).lt
theorem HOk.fresh(x:HOk P w H h)(e:h.objs.size<=a):H a=none:=by
 cases q:H a with
 |none=>rfl
 |some u=>exact absurd (Nat.lt_of_lt_of_le (x.lt q) e) (Nat.lt_irrefl _)
def HOk.kept(x:HOk P w H h)(k:∀b u,h.get? b=some u->h'.get? b=some u):HOk P w H h':=λa o e=>(x a o e).stay (λb u _ q=>k b u q) (λ_ q=>q) λ_ _ q=>q
def HOk.laid(x:HOk P w H h)(k:∀b u,h.get? b=some u->h'.get? b=some u)(hp:h.objs.size<=a)(new:qQ P w (upd H a o) h' a o):HOk P w (upd H a o) h':=λb u e=>by
 have hn:=x.fresh hp
 by_cases hb:b=a
 ·subst hb;rw[qf]at e;cases e;exact new
 ·rw[qe hb]at e;exact(x b u e).stay (λc v _ q=>k c v q) (λc q=>by rw[qe (qV q hn)];exact q) λc xs q=>by rw[qe (qV q hn)];exact q
end
def Rd(H:Hp)(a:Addr)(u:HO):Prop:=H a=some u\/∃o,H a=some (.frz o u)
def Rd.ok{P:Program}{w:World}{H:Hp}{h:Heap}{a:Addr}{u:HO}(r:Rd H a u)(x:HOk P w H h):qQ P w H h a u:=by
 rcases r with r|⟨o,r⟩
 ·exact x a u r
 ·obtain⟨_,q⟩:=x a _ r;exact q
def Mut:Option HO->Prop
 |some (.lst _)=>True
 |some (.dK _)=>True
 |some (.dT _)=>True
 |some (.set _ _)=>True
 |some (.ins _ _ _)=>True
 |some (.ext _)=>True
 |_=>False
section
variable{P:Program}{w:World}{H:Hp}{h h':Heap}{x e:Addr}{o':HO}
def HOk.write(ok:HOk P w H h)(mu:Mut (H x))(he:e=x\/H e=some (.own x))(k:∀b u,b≠e->h.get? b=some u->h'.get? b=some u)(heo:∃u,h'.get? e=some u)
  (new:qQ P w (upd H x o') h' x o'):HOk P w (upd H x o') h':=λb u q=>by
 have nown:∀c y,H c=some (.own y)->c≠x:=λc y r z=>by subst z;rw[r]at mu;exact mu
 have ntup:∀c xs,H c=some (.tup xs)->c≠x:=λc xs r z=>by subst z;rw[r]at mu;exact mu
 by_cases hb:b=x
 ·subst hb;rw[qf]at q;cases q;exact new
 ·rw[qe hb]at q
  by_cases hbe:b=e
  ·have q':H b=some (.own x):=by
    rcases he with z|z
    ·exact absurd (hbe.trans z) hb
    ·rw[hbe];exact z
   rw[q]at q';cases q';obtain⟨v,hv⟩:=heo;exact{v,by rw[hbe];exact hv}
  ·refine(ok b u q).stay (λc v hc r=>k c v ?_ r) (λc r=>by rw[qe (nown c b r)];exact r) λc xs r=>by rw[qe (ntup c xs r)];exact r
   rcases hc with rfl|hc
   ·exact hbe
   ·rintro rfl;rcases he with z|z
    ·exact nown c b hc z
    ·rw[hc]at z;cases z;exact hb rfl
end
structure Un(fs ex:List Addr)(H H':Hp)(h h':Heap):Prop where
 keep:∀b o,h.get? b=some o->H b=none->b∉fs->b∉ex->h'.get? b=some o
 slot:∀b o,h.get? b=some o->H b=none->b∈fs->b∉ex->∃sl,h'.get? b=some { o with slots:=sl }
 free:∀b o,h.get? b=some o->H b=none->b∉ex->H' b=none
 there:∀b o,h.get? b=some o->b∉ex->∃o',h'.get? b=some o'
 tups:∀b xs,H b=some (.tup xs)->H' b=some (.tup xs)
 frzs:∀b o u,H b=some (.frz o u)->H' b=some (.frz o u)
 tbls:∀b ps,H b=some (.tbl ps)->∃more,H' b=some (.tbl (ps++more))
section
variable{fs fs' ex ex':List Addr}{H H1 H2:Hp}{h h1 h2 h':Heap}{a x e:Addr}{o:HO}
def Un.any(u:Un fs ex H H1 h h1){b:Addr}{ob:Obj}(q:h.get? b=some ob)(n:H b=none)(hx:b∉ex):∃sl,h1.get? b=some { ob with slots:=sl }:=by
 by_cases hb:b∈fs
 ·exact u.slot b ob q n hb hx
 ·exact{ob.slots,u.keep b ob q n hb hx}
def Un.kept(k:∀b u,h.get? b=some u->h'.get? b=some u):Un fs ex H H h h':=
 ⟨λb ob q _ _ _=>k b ob q,λb ob q _ _ _=>{ob.slots,k b ob q},λ_ _ _ n _=>n,λb ob q _=>{ob,k b ob q},λ_ _ q=>q,λ_ _ _ q=>q,λ_ ps q=>{#[],by rw[q];simp}⟩
def Un.refl:Un fs ex H H h h:=Un.kept λ_ _ q=>q
def Un.laid(k:∀b u,h.get? b=some u->h'.get? b=some u)(hp:h.objs.size<=a)(hn:H a=none):Un fs ex H (upd H a o) h h' where
 keep:=λb u q _ _ _=>k b u q
 slot:=λb u q _ _ _=>{u.slots,k b u q}
 free:=λb u q n _=>by rw[qe (Nat.ne_of_lt (Nat.lt_of_lt_of_le (Heap.lt_size q) hp))];exact n
 there:=λb u q _=>{u,k b u q}
 tups:=λb xs q=>by rw[qe (qV q hn)];exact q
 frzs:=λb u xs q=>by rw[qe (qV q hn)];exact q
 tbls:=λb ps q=>{#[],by rw[qe (qV q hn),q];simp}
def Un.write(mu:Mut (H x))(he:e=x\/H e=some (.own x))(k:∀b u,b≠e->h.get? b=some u->h'.get? b=some u)(heo:∃u,h'.get? e=some u):Un fs ex H (upd H x o) h h':=by
 have hx:∀b,H b=none->b≠x:=λb n z=>by subst z;rw[n]at mu;exact mu
 have hb:∀b,H b=none->b≠e:=λb n z=>by
  subst z;rcases he with r|r
  ·exact hx b n r
  ·rw[n]at r;cases r
 have hm:∀b u,H b=some u->¬ Mut (some u)->b≠x:=λb u q nm z=>by subst z;rw[q]at mu;exact nm mu
 refine{λb u q n _ _=>k b u (hb b n) q,λb u q n _ _=>{u.slots,k b u (hb b n) q},λb u q n _=>by rw[qe (hx b n)];exact n,λb u q _=>?_,
  λb xs q=>by rw[qe (hm b _ q λz=>z)];exact q,λb u xs q=>by rw[qe (hm b _ q λz=>z)];exact q,λb ps q=>{#[],by rw[qe (hm b _ q λz=>z),q];simp}}
 by_cases hbe:b=e
 ·subst hbe;exact heo
 ·exact{u,k b u hbe q}
end
def trk(h:Heap)(H:Hp):List Addr:=(List.range h.objs.size).filter λa=>(H a).isSome
def qe1(h:Heap)(H:Hp):Heap:=PySem.W.hideAll h (trk h H)
def qcU(h:Heap)(H:Hp):(qe1 h H).objs.size=h.objs.size:=PySem.W.hideAll_size _ _
def qe2{h:Heap}{H:Hp}{b:Addr}{o:Obj}(e:h.get? b=some o)(n:H b=none):(qe1 h H).get? b=some o:=
 PySem.W.hideAll_get _ e λhm=>by have q:(H b).isSome=true:=(List.mem_filter.mp hm).2;rw[n]at q;simp at q
theorem qhx{h:Heap}{H:Hp}{b:Addr}{o:Obj}(e:(qe1 h H).get? b=some o):h.get? b=some o/\H b=none:=by
 have e':h.get? b=some o:=PySem.W.of_hideAll (trk h H) e;refine{e',?_}
 cases q:H b with
 |none=>rfl
 |some x=>have hm:b∈trk h H:=List.mem_filter.mpr ⟨List.mem_range.mpr (Heap.lt_size e'),by simp[q]⟩;have z:(qe1 h H).get? b=none:=PySem.W.hideAll_none (trk h H) hm;rw[z]at e;cases e
structure Mod(K:Frag)(mg:PR)(base:Heap):Prop where
 kin:K.In base
 glob:base.Ns mainGlobals mg
 blt:∃mb,base.Ns builtinsNs mb/\∀x:Str,x≠"__name__"->mb x=bootBuiltins x
 nolimit:base.NoLimit
structure Cx where
 prog:Program
 w:World
 K:Frag
 mg:PR
 base:Heap
 A:Around
 N:List Str
 s₀:Shared
 Hv:Hp
 env:Env
 outer:List Env
 stack:List Env
 ex:List Addr
 fn:Str->Bool
 calm:Bool
 pn:PP
 xe:PQ
def frs(l:List Env):List Addr:=l.filterMap (·.frame)
abbrev Cx.fs(X:Cx):List Addr:=frs X.outer
def Vis(sc:Scope)(x:Str):Prop:=sc.names.lookup x=some .local\/sc.names.lookup x=some .cell\/sc.names.lookup x=some .free
def Loc(sc:Scope)(x:Str):Prop:=sc.names.lookup x=some .local\/sc.names.lookup x=some .cell
def qoP(env:Env)(h:Heap)(m:PR)(x:Str)(u:Value):Prop:=
 (env.kindOf x=some .local/\m x=some u)\/((env.kindOf x=some .cell\/env.kindOf x=some .free)/\∃c,env.cells.lookup x=some c/\h.IsCell c (some u))
structure Cx.Ok(X:Cx):Prop where
 mod:Mod X.K X.mg X.base
 kind:X.env.scope.kind=.function
 glob:X.env.globals=mainGlobals
 blt:X.env.builtins=builtinsNs
 above:X.s₀.heap.objs.size<=X.env.locals
 inj:∀x y c,X.env.cells.lookup x=some c->X.env.cells.lookup y=some c->x=y
 has:∀x,(X.env.kindOf x=some .cell\/X.env.kindOf x=some .free)->∃c,X.env.cells.lookup x=some c
 cab:∀x c,X.fn x=true->X.env.cells.lookup x=some c->X.s₀.heap.objs.size<=c
 hd:X.calm=true->X.A.handled=none
 frames:X.A.frames=some X.stack
 stk:X.stack=X.outer\/(X.stack=X.env::X.outer/\X.env.frame=some X.env.locals)
 exf:∀b∈X.ex,b≠X.env.locals/\∀x c,X.env.cells.lookup x=some c->c≠b
 bs:∀b o,X.base.get? b=some o->X.s₀.heap.get? b=some o/\X.Hv b=none
 bsz:X.base.objs.size<=X.s₀.heap.objs.size
 noex:∀b o,X.base.get? b=some o->b∉X.ex
 exfs:∀b∈X.ex,b∉X.fs
 funs:X.s₀.heap.FunFrames X.base X.outer
 frf:∀b∈X.fs,X.Hv b=none
structure Inv(X:Cx)(pins:PP)(Z:List (Option V))(H:Hp)(s:Shared):Prop where
 ok:X.Ok
 os:s.os=X.s₀.os
 bare:AllBare s.gens
 base:Un X.fs X.ex X.Hv H X.s₀.heap s.heap
 loc:∃m,s.heap.Ns X.env.locals m/\∀(i:Nat) (x:Str) (v:V),X.N[i]?=some x->Z[i]?=some (some v)->Vis X.env.scope x->∃u,qI v u/\qoP X.env s.heap m x u
 cell:∀x c,X.env.cells.lookup x=some c->∃v,s.heap.IsCell c v
 free:H X.env.locals=none
 freeC:∀x c,X.env.cells.lookup x=some c->H c=none
 pin:∀p∈X.pn++pins,s.heap.get? p.1=some p.2/\H p.1=none/\p.1≠X.env.locals/\p.1∉X.fs/\∀v,p.2.data≠.cell v
 hok:HOk X.prog X.w H s.heap
 len:Z.length=X.N.length
section
variable{X:Cx}{pins:PP}{Z:List (Option V)}{H H':Hp}{s:Shared}{h':Heap}
def Cx.Ok.nofr(ok:X.Ok){b:Addr}{o:Obj}(e:X.base.get? b=some o):b∉X.fs:=λhb=>by
 have:=(ok.funs.mem hb).1
 rw[e]at this;cases this
def Inv.bs(I:Inv X pins Z H s):∀b o,X.base.get? b=some o->s.heap.get? b=some o/\H b=none:=λb o e=>{I.base.keep b o (I.ok.bs b o e).1 (I.ok.bs b o e).2 (I.ok.nofr e) (I.ok.noex b o e),I.base.free b o (I.ok.bs b o e).1 (I.ok.bs b o e).2 (I.ok.noex b o e)}
def Inv.bk(I:Inv X pins Z H s):∀b o,X.base.get? b=some o->s.heap.get? b=some o:=λb o e=>(I.bs b o e).1
def Inv.mod(I:Inv X pins Z H s):Mod X.K X.mg X.base:=I.ok.mod
def Inv.kIn(I:Inv X pins Z H s):X.K.In s.heap:=I.ok.mod.kin.keeps I.bk
def Inv.lt(I:Inv X pins Z H s):X.env.locals < s.heap.objs.size:=let ⟨_,hn,_⟩:=I.loc;hn.lt
def Inv.sz(I:Inv X pins Z H s):X.s₀.heap.objs.size<=s.heap.objs.size:=Nat.le_trans I.ok.above (Nat.le_of_lt I.lt)
def Inv.nofs(I:Inv X pins Z H s){a:Addr}(h:s.heap.objs.size<=a):a∉X.fs:=λhb=>by obtain⟨_,o,ho,_⟩:=I.ok.funs.mem hb;exact absurd (Nat.lt_of_lt_of_le (Heap.lt_size ho) (Nat.le_trans I.sz h)) (Nat.lt_irrefl _)
def Inv.cne(I:Inv X pins Z H s):∀x c,X.env.cells.lookup x=some c->c≠X.env.locals:=λx c e z=>by obtain⟨v,o,ho,hd⟩:=I.cell x c e;obtain⟨m,⟨o',es,ep,ho',hd',_⟩,_⟩:=I.loc;rw[z,ho']at ho;cases ho;rw[hd']at hd;cases hd
def Inv.funs(I:Inv X pins Z H s):s.heap.FunFrames X.base X.outer:=by
 have all:∀(l:List Env),(∀b∈frs l,b∈X.fs)->X.s₀.heap.FunFrames X.base l->s.heap.FunFrames X.base l:=by
  intro l
  induction l with
  |nil=>intro _ _;trivial
  |cons env r ih=>intro hs hl;obtain⟨hk,⟨L,o,hf,hn,ho,hd⟩,hr⟩:=hl;have hL:L∈X.fs:=hs L (by unfold frs;rw[List.filterMap_cons,hf];exact List.mem_cons_self);obtain⟨sl,e⟩:=I.base.slot L o ho (I.ok.frf L hL) hL λz=>I.ok.exfs L z hL;exact{hk,{L,_,hf,hn,e,hd},ih (λb hb=>hs b (by unfold frs;rw[List.filterMap_cons,hf];exact List.mem_cons_of_mem _ hb)) hr}
 exact all X.outer (λ_ hb=>hb) I.ok.funs
def Inv.stack(I:Inv X pins Z H s):s.heap.FunFrames X.base X.stack:=by
 rcases I.ok.stk with e|⟨e,hf⟩
 ·rw[e];exact I.funs
 ·rw[e];obtain⟨m,hn,_⟩:=I.loc;refine .cons (by rw[I.ok.kind];decide) hf hn ?_ I.funs;exact Heap.get?_none_of_le (Nat.le_trans I.ok.bsz I.ok.above)
def Inv.stkSub(I:Inv X pins Z H s):∀b∈frs X.stack,b∈X.env.locals::X.fs:=λb hb=>by
 rcases I.ok.stk with e|⟨e,hf⟩
 ·rw[e]at hb;exact List.mem_cons_of_mem _ hb
 ·rw[e]at hb;unfold frs at hb;rw[List.filterMap_cons,hf]at hb;exact hb
def Inv.stkFree(I:Inv X pins Z H s):∀b∈frs X.stack,H b=none:=λb hb=>by
 rcases List.mem_cons.mp (I.stkSub b hb) with e|hb
 ·rw[e];exact I.free
 ·obtain⟨_,o,ho,_⟩:=I.ok.funs.mem hb;exact I.base.free b o ho (I.ok.frf b hb) λz=>I.ok.exfs b z hb
def Inv.step{g':Array GenState}{t':Nat}{d':Drawn}{ch:List Addr}(I:Inv X pins Z H s)
  (hch:∀b∈ch,(b∈X.ex\/X.s₀.heap.objs.size<=b)/\b≠X.env.locals/\(∀x c,X.env.cells.lookup x=some c->c≠b)/\∀p∈X.pn++pins,p.1≠b)
  (keep:∀b o,b≠X.env.locals->b∉X.fs->b∉ch->s.heap.get? b=some o->H b=none->h'.get? b=some o)
  (slot:∀b o,b≠X.env.locals->b∈X.fs->b∉ch->s.heap.get? b=some o->H b=none->∃sl,h'.get? b=some { o with slots:=sl }) (free:∀b o,b∉ch->s.heap.get? b=some o->H b=none->H' b=none)
  (there:∀b o,b∉ch->s.heap.get? b=some o->∃o',h'.get? b=some o')
  (tups:∀b xs,H b=some (.tup xs)->H' b=some (.tup xs)) (frzs:∀b o u,H b=some (.frz o u)->H' b=some (.frz o u)) (tbls:∀b ps,H b=some (.tbl ps)->∃more,H' b=some (.tbl (ps++more)))
  (ns:∀m,s.heap.Ns X.env.locals m->h'.Ns X.env.locals m) (hok:HOk X.prog X.w H' h') (hg:AllBare g') :
  Inv X pins Z H' { s with heap:=h',gens:=g',drawn:=d',toks:=t' }:=by
 have neL:∀b o,X.s₀.heap.get? b=some o->b≠X.env.locals:=λb o e=>Nat.ne_of_lt (Nat.lt_of_lt_of_le (Heap.lt_size e) I.ok.above)
 have neC:∀b o,X.s₀.heap.get? b=some o->b∉X.ex->b∉ch:=λb o e hx hb=>by
  rcases (hch b hb).1 with z|z
  ·exact hx z
  ·exact absurd (Nat.lt_of_lt_of_le (Heap.lt_size e) z) (Nat.lt_irrefl _)
 have cellK:∀x c,X.env.cells.lookup x=some c->∀v,s.heap.IsCell c v->h'.IsCell c v:=λx c e v ⟨o,ho,hd⟩=>by
  have nch:c∉ch:=λz=>(hch c z).2.2.1 x c e rfl
  by_cases hc:c∈X.fs
  ·obtain⟨sl,q⟩:=slot c o (I.cne x c e) hc nch ho (I.freeC x c e);exact{_,q,hd}
  ·exact{o,keep c o (I.cne x c e) hc nch ho (I.freeC x c e),hd}
 refine{I.ok,I.os,hg,{λb o e n hb hx=>?_,λb o e n hb hx=>?_,λb o e n hx=>?_,λb o e hx=>?_,λb xs e=>tups b xs (I.base.tups b xs e),λb o xs e=>frzs b o xs (I.base.frzs b o xs e),λb ps e=>?_},?_,λx c e=>?_,?_,λx c e=>?_,λp hp=>?_,hok,I.len}
 ·exact keep b o (neL b o e) hb (neC b o e hx) (I.base.keep b o e n hb hx) (I.base.free b o e n hx)
 ·obtain⟨sl,e1⟩:=I.base.slot b o e n hb hx;obtain⟨sl',e2⟩:=slot b _ (neL b o e) hb (neC b o e hx) e1 (I.base.free b o e n hx);exact⟨sl',e2⟩
 ·obtain⟨o',e1⟩:=I.base.there b o e hx;exact free b o' (neC b o e hx) e1 (I.base.free b o e n hx)
 ·obtain⟨o',e1⟩:=I.base.there b o e hx;exact there b o' (neC b o e hx) e1
 ·obtain⟨m1,e1⟩:=I.base.tbls b ps e;obtain⟨m2,e2⟩:=tbls b _ e1;exact{m1++m2,by rw[e2,Array.append_assoc]}
 ·obtain⟨m,hn,hl⟩:=I.loc;refine{m,ns m hn,λi x v e1 e2 e3=>?_};obtain⟨u,r,l⟩:=hl i x v e1 e2 e3;refine{u,r,?_};rcases l with l|⟨k,c,e,z⟩
  ·exact .inl l
  ·exact .inr ⟨k,c,e,cellK x c e _ z⟩
 ·obtain⟨v,z⟩:=I.cell x c e;exact{v,cellK x c e v z}
 ·obtain⟨m,⟨o,_,_,ho,_⟩,_⟩:=I.loc;exact free _ o (λz=>(hch _ z).2.1 rfl) ho I.free
 ·obtain⟨v,o,ho,hd⟩:=I.cell x c e;exact free c o (λz=>(hch c z).2.2.1 x c e rfl) ho (I.freeC x c e)
 ·obtain⟨e,n,ne,nf,d⟩:=I.pin p hp;have nch:p.1∉ch:=λz=>(hch p.1 z).2.2.2 p hp rfl;exact{keep p.1 p.2 ne nf nch e n,free p.1 p.2 nch e n,ne,nf,d}
def Inv.un{t':Nat}(I:Inv X pins Z H s)(u:Un X.fs [] H H' s.heap h')(hok:HOk X.prog X.w H' h'):Inv X pins Z H' { s with heap:=h',toks:=t' }:=by
 obtain⟨m,⟨o,es,ep,ho,r⟩,_⟩:=id I.loc;obtain⟨sl,hL⟩:=u.any ho I.free (5:)
 exact I.step (g':=s.gens) (d':=s.drawn) (ch:=[]) (λ_ z=>nomatch z) (λb o _ hb _ e n=>u.keep b o e n hb (5:)) (λb o _ hb _ e n=>u.slot b o e n hb (5:)) (λb o _ e n=>u.free b o e n (5:)) (λb o _ e=>u.there b o e (5:)) u.tups u.frzs u.tbls (λm' hm=>by obtain⟨o',es',ep',ho',r'⟩:=hm;rw[ho]at ho';cases ho';exact{_,es',ep',hL,r'}) hok I.bare
def Inv.call{g':Array GenState}{t':Nat}{d':Drawn}{ch:List Addr}(I:Inv X pins Z H s)(u:Un (frs X.stack) ch H H' s.heap h')(hok:HOk X.prog X.w H' h')(hg:AllBare g')
  (hch:∀b∈ch,(b∈X.ex\/X.s₀.heap.objs.size<=b)/\b≠X.env.locals/\(∀x c,X.env.cells.lookup x=some c->c≠b)/\∀p∈X.pn++pins,p.1≠b) :
  Inv X pins Z H' { s with heap:=h',gens:=g',drawn:=d',toks:=t' }:=by
 obtain⟨m,⟨o,es,ep,ho,r⟩,_⟩:=id I.loc;obtain⟨sl,hL⟩:=u.any ho I.free λz=>(hch _ z).2.1 rfl
 exact I.step (ch:=ch) hch (λb o hL hb hc e n=>u.keep b o e n (λz=>(List.mem_cons.mp (I.stkSub b z)).elim hL hb) hc) (λb o _ _ hc e n=>u.any e n hc) (λb o hc e n=>u.free b o e n hc) (λb o hc e=>u.there b o e hc) u.tups u.frzs u.tbls (λm' hm=>by obtain⟨o',es',ep',ho',r'⟩:=hm;rw[ho]at ho';cases ho';exact{_,es',ep',hL,r'}) hok hg
def Inv.turned{t':Nat}{it:Addr}(I:Inv X pins Z H s)(k:∀b o,b≠it->s.heap.get? b=some o->h'.get? b=some o)(hn:H it=none)(hL:it≠X.env.locals)
  (h1:it∈X.ex\/X.s₀.heap.objs.size<=it) (h2:∀x c,X.env.cells.lookup x=some c->c≠it) (h3:∀p∈X.pn++pins,p.1≠it):Inv X pins Z H { s with heap:=h',toks:=t' }:=by
 have nit:∀b u,H b=some u->b≠it:=λb u e z=>by rw[z,hn]at e;cases e
 refine I.step (g':=s.gens) (d':=s.drawn) (ch:=[it]) (λb hb=>?_) (λb o _ _ hc e _=>k b o (λz=>hc (by simp[z])) e) (λb o _ _ hc e _=>{o.slots,k b o (λz=>hc (by simp[z])) e}) (λ_ _ _ _ n=>n)
  (λb o hc e=>{o,k b o (λz=>hc (by simp[z])) e}) (λ_ _ e=>e) (λ_ _ _ e=>e) (λb ps e=>{#[],by rw[e];simp}) (λm hm=>?_) (λb u e=>?_) I.bare
 ·have e:b=it:=(-hb:)
  subst e;exact⟨h1,hL,h2,h3⟩
 ·obtain⟨o,es,ep,ho,r⟩:=hm;exact{o,es,ep,k _ o (Ne.symm hL) ho,r}
 ·refine(I.hok b u e).stay (λc v hc q=>k c v ?_ q) (λ_ q=>q) λ_ _ q=>q;rcases hc with z|z
  ·rw[z];exact nit b u e
  ·exact nit c _ z
def Inv.tok(I:Inv X pins Z H s)(t:Nat):Inv X pins Z H { s with toks:=t }:=I.un (h':=s.heap) (t':=t) Un.refl I.hok
def Inv.kept{t':Nat}(I:Inv X pins Z H s)(k:∀b u,s.heap.get? b=some u->h'.get? b=some u):Inv X pins Z H { s with heap:=h',toks:=t' }:=I.un (Un.kept k) (I.hok.kept k)
def Inv.laid{a:Addr}{o:HO}{t':Nat}(I:Inv X pins Z H s)(k:∀b u,s.heap.get? b=some u->h'.get? b=some u)(hp:s.heap.objs.size<=a)(new:qQ X.prog X.w (upd H a o) h' a o) :
  Inv X pins Z (upd H a o) { s with heap:=h',toks:=t' }:=I.un (Un.laid k hp (I.hok.fresh hp)) (I.hok.laid k hp new)
def Inv.write{x e:Addr}{o:HO}{t':Nat}(I:Inv X pins Z H s)(mu:Mut (H x))(he:e=x\/H e=some (.own x))(k:∀b u,b≠e->s.heap.get? b=some u->h'.get? b=some u)(heo:∃u,h'.get? e=some u)
  (new:qQ X.prog X.w (upd H x o) h' x o):Inv X pins Z (upd H x o) { s with heap:=h',toks:=t' }:=I.un (Un.write mu he k heo) (I.hok.write mu he k heo new)
def Inv.pins_of{pins':PP}(I:Inv X pins Z H s)(h:∀p∈pins',s.heap.get? p.1=some p.2/\H p.1=none/\p.1≠X.env.locals/\p.1∉X.fs/\∀v,p.2.data≠.cell v):Inv X pins' Z H s:=
 ⟨I.ok,I.os,I.bare,I.base,I.loc,I.cell,I.free,I.freeC,λp hp=>(List.mem_append.mp hp).elim (λz=>I.pin p (List.mem_append_left _ z)) (h p),I.hok,I.len⟩
def Qq{N:List Str}(hN:N.Nodup){i j:Nat}{x:Str}(a:N[i]?=some x)(b:N[j]?=some x):i=j:=by obtain⟨h1,e1⟩:=List.getElem?_eq_some_iff.mp a;obtain⟨h2,e2⟩:=List.getElem?_eq_some_iff.mp b;exact(List.getElem_inj hN).mp (e1.trans e2.symm)
def yF{M:Model}{A:Around}{E:PQ}{i:Nat}{x:Str}{v:V}{u:Value}{Q:Unit->Shared->Prop}(I:Inv X pins Z H s)(hN:X.N.Nodup)(hi:X.N[i]?=some x)(hx:Loc X.env.scope x)(r:qI v u)
  (h:∀s',Inv X pins (Z.set i (some v)) H s'->(∃a,Heap.SameBut a s.heap s'.heap/\(a=X.env.locals\/X.env.cells.lookup x=some a))->Q () s') (hf:X.fn x=true\/X.env.scope.names.lookup x=some .local:=by first|exact .inl rfl|exact .inr rfl|assumption):wpAny M A (storeName X.env x u) Q E s:=by
 obtain⟨m,hn,hl⟩:=id I.loc;have hcls:(X.env.scope.kind == .class||(X.env.scope.kind == .module&&X.env.locals != X.env.globals))=false:=by rw[I.ok.kind];rfl
 have hiσ:i < Z.length:=by rw[I.len];exact(List.getElem?_eq_some_iff.mp hi).1
 have cne:=I.cne
 have tracked:∀{a:Addr} {h':Heap},(∃o,s.heap.get? a=some o/\H a=none)->Heap.SameBut a s.heap h'->HOk X.prog X.w H h':=λ{a h'} ha hs b ob e=>by
  obtain⟨_,_,hfree⟩:=ha;refine(I.hok b ob e).stay (λc w' hc q=>(hs.2 c ?_).trans q) (λ_ q=>q) λ_ _ q=>q;rintro rfl;rcases hc with rfl|hc
  ·rw[hfree]at e;cases e
  ·rw[hfree]at hc;cases hc
 rcases hx with hk|hk
 ·refine wpAny_storeName_local hk hn (λh' hn' hs=>?_) hcls;obtain⟨oL,_,_,hoL,_⟩:=id hn;refine h _ ⟨I.ok,I.os,I.bare,⟨λb o e n hb hx=>?_,λb o e n hb hx=>?_,I.base.free,λb o e hx=>?_,I.base.tups,I.base.frzs,I.base.tbls⟩,⟨_,hn',λj y v' e1 e2 e3=>?_⟩,λy c e=>?_,I.free,I.freeC,λp hp=>?_,tracked ⟨oL,hoL,I.free⟩ hs,(-I.len:)⟩ ⟨_,hs,.inl rfl⟩
  ·exact(hs.2 b (Nat.ne_of_lt (Nat.lt_of_lt_of_le (Heap.lt_size e) I.ok.above))).trans (I.base.keep b o e n hb hx)
  ·obtain⟨sl,e1⟩:=I.base.slot b o e n hb hx;exact{sl,(hs.2 b (Nat.ne_of_lt (Nat.lt_of_lt_of_le (Heap.lt_size e) I.ok.above))).trans e1}
  ·obtain⟨o',e1⟩:=I.base.there b o e hx;exact{o',(hs.2 b (Nat.ne_of_lt (Nat.lt_of_lt_of_le (Heap.lt_size e) I.ok.above))).trans e1}
  ·by_cases hj:j=i
   ·subst hj;rw[hi]at e1;cases e1;rw[List.getElem?_set_self hiσ]at e2;cases e2;exact{u,r,.inl {hk,by simp}}
   ·rw[List.getElem?_set_ne (Ne.symm hj)]at e2;obtain⟨u',r',q⟩:=hl j y v' e1 e2 e3;refine{u',r',?_};rcases q with ⟨k,e⟩|⟨k,c,e,z⟩
    ·refine .inl ⟨k,?_⟩
     have:y≠x:=λe=>hj (Qq hN e1 (e▸hi))
     simp[this,e]
    ·exact .inr ⟨k,c,e,z.sameBut hs (cne y c e)⟩
  ·obtain⟨w',z⟩:=I.cell y c e;exact{w',z.sameBut hs (cne y c e)}
  ·obtain⟨e,n,ne,nf,d⟩:=I.pin p hp;exact{(hs.2 p.1 ne).trans e,n,ne,nf,d}
 ·have hfn:X.fn x=true:=by
   rcases hf with z|z
   ·exact z
   ·rw[z]at hk;cases hk
  obtain⟨c,hc⟩:=I.ok.has x (.inl hk);obtain⟨w',z⟩:=I.cell x c hc;refine wpAny_storeName_cell I.ok.kind hk hc z (λh' hc' hs=>?_);obtain⟨oc,hoc,hocd⟩:=id z;refine h { s with heap:=h' } ⟨I.ok,I.os,I.bare,⟨λb o e n hb hx=>?_,λb o e n hb hx=>?_,I.base.free,λb o e hx=>?_,I.base.tups,I.base.frzs,I.base.tbls⟩,⟨m,hn.sameBut hs (Ne.symm (cne x c hc)),λj y v' e1 e2 e3=>?_⟩,λy c' e=>?_,I.free,I.freeC,λp hp=>?_,tracked ⟨oc,hoc,I.freeC x c hc⟩ hs,(-I.len:)⟩ ⟨c,hs,.inr hc⟩
  ·exact(hs.2 b (Nat.ne_of_lt (Nat.lt_of_lt_of_le (Heap.lt_size e) (I.ok.cab x c hfn hc)))).trans (I.base.keep b o e n hb hx)
  ·obtain⟨sl,e1⟩:=I.base.slot b o e n hb hx;exact{sl,(hs.2 b (Nat.ne_of_lt (Nat.lt_of_lt_of_le (Heap.lt_size e) (I.ok.cab x c hfn hc)))).trans e1}
  ·obtain⟨o',e1⟩:=I.base.there b o e hx;exact{o',(hs.2 b (Nat.ne_of_lt (Nat.lt_of_lt_of_le (Heap.lt_size e) (I.ok.cab x c hfn hc)))).trans e1}
  ·by_cases hj:j=i
   ·subst hj;rw[hi]at e1;cases e1;rw[List.getElem?_set_self hiσ]at e2;cases e2;exact{u,r,.inr {.inl hk,c,hc,hc'}}
   ·rw[List.getElem?_set_ne (Ne.symm hj)]at e2;obtain⟨u',r',q⟩:=hl j y v' e1 e2 e3;refine{u',r',?_};rcases q with q|⟨k,c',e,z'⟩
    ·exact .inl q
    ·refine .inr ⟨k,c',e,z'.sameBut hs ?_⟩;rintro rfl;exact hj (Qq hN e1 (I.ok.inj _ _ _ e hc▸hi))
  ·by_cases hcc:c'=c
   ·subst hcc;exact{_,hc'}
   ·obtain⟨w2,z2⟩:=I.cell y c' e;exact{w2,z2.sameBut hs hcc}
  ·obtain⟨e,n,ne,nf,d⟩:=I.pin p hp;refine{(hs.2 p.1 ?_).trans e,n,ne,nf,d};intro q;rw[q,hoc]at e;have q':oc=p.2:=Option.some.inj e;exact d w' (by rw[<-q'];exact hocd)
def qbc{M:Model}{A:Around}{E:PQ}{i:Nat}{x:Str}{v:V}{u:Value}{Q:Unit->Shared->Prop}(I:Inv X pins Z H s)(hN:X.N.Nodup)(hi:X.N[i]?=some x)(hx:Loc X.env.scope x)(r:qI v u)
  (h:∀s',Inv X pins (Z.set i (some v)) H s'->Q () s') (hf:X.fn x=true\/X.env.scope.names.lookup x=some .local:=by first|exact .inl rfl|exact .inr rfl|assumption):wpAny M A (storeName X.env x u) Q E s:=
 yF I hN hi hx r (λs' I' _=>h s' I') hf
def Inv.call'{s':Shared}{ch:List Addr}(I:Inv X pins Z H s)(ho:s'.os=s.os)(u:Un (frs X.stack) ch H H' s.heap s'.heap)(hok:HOk X.prog X.w H' s'.heap)(hg:AllBare s'.gens)
  (hch:∀b∈ch,(b∈X.ex\/X.s₀.heap.objs.size<=b)/\b≠X.env.locals/\(∀x c,X.env.cells.lookup x=some c->c≠b)/\∀p∈X.pn++pins,p.1≠b):Inv X pins Z H' s':=by
 obtain⟨h',g',d',t',o'⟩:=s';have e:o'=s.os:=ho;subst e;exact I.call (g':=g') (t':=t') (d':=d') u hok hg hch
end
abbrev XK:=Value->Option Addr->Hp->Prop
abbrev St:=List (Option V)
abbrev VK:=V->Hp->Prop
abbrev TE:=St->Hp->VK->Prop
abbrev TT:=St->Hp->(Bool->Hp->Prop)->Prop
abbrev TA:=St->Hp->(List V->Hp->Prop)->Prop
structure Ends where
 nx:St->Hp->Prop
 rt:VK
 bk:St->Hp->Prop:=λ_ _=>False
 ct:St->Hp->Prop:=λ_ _=>False
abbrev TS:=Ends->St->Hp->Prop
def EP(X:Cx)(pins:PP)(Z:St)(Q:VK)(u:Value)(s':Shared):Prop:=∃v H',Inv X pins Z H' s'/\qI v u/\Q v H'
def TP(X:Cx)(pins:PP)(Z:St)(Q:Bool->Hp->Prop)(b:Bool)(s':Shared):Prop:=∃H',Inv X pins Z H' s'/\Q b H'
def AP(X:Cx)(pins:PP)(Z:St)(Q:List V->Hp->Prop)(us:List Value)(s':Shared):Prop:=∃vs H',Inv X pins Z H' s'/\qF vs us/\Q vs H'
def SP(X:Cx)(pins:PP)(D:Ends)(f:Flow)(s':Shared):Prop:=
 match f with
 |.next=>∃Z' H',Inv X pins Z' H' s'/\D.nx Z' H'
 |.brk=>∃Z' H',Inv X pins Z' H' s'/\D.bk Z' H'
 |.cont=>∃Z' H',Inv X pins Z' H' s'/\D.ct Z' H'
 |.ret u=>∃v Z' H',Inv X pins Z' H' s'/\qI v u/\D.rt v H'
def PE(X:Cx)(e:Expr)(t:TE):Prop:=
 ∀(pins:PP) (s:Shared) (Z:St) (H:Hp) (Q:VK),Inv X pins Z H s->t Z H Q->wpAny (model X.prog X.w) X.A (eval e X.env) (EP X pins Z Q) X.xe s
def PT(X:Cx)(e:Expr)(t:TT):Prop:=
 ∀(pins:PP) (s:Shared) (Z:St) (H:Hp) (Q:Bool->Hp->Prop),Inv X pins Z H s->t Z H Q->wpAny (model X.prog X.w) X.A (isTrue e X.env (eval e X.env)) (TP X pins Z Q) X.xe s
def PW(X:Cx)(e:Expr)(t:TT):Prop:=
 ∀(whole:Sem Value) (pins:PP) (s:Shared) (Z:St) (H:Hp) (Q:Bool->Hp->Prop),Inv X pins Z H s->t Z H Q->wpAny (model X.prog X.w) X.A (isTrue e X.env whole) (TP X pins Z Q) X.xe s
def PW.pt{X:Cx}{e:Expr}{t:TT}(h:PW X e t):PT X e t:=h _
def PA(X:Cx)(es:List Expr)(t:TA):Prop:=
 ∀(pos:Pos) (pins:PP) (s:Shared) (Z:St) (H:Hp) (Q:List V->Hp->Prop),Inv X pins Z H s->t Z H Q->wpAny (model X.prog X.w) X.A (spliced (backTo pos (starEach es X.env))) (AP X pins Z Q) X.xe s
def PS(X:Cx)(st:Stmt)(t:TS):Prop:=
 ∀(pins:PP) (s:Shared) (Z:St) (H:Hp) (D:Ends),Inv X pins Z H s->t D Z H->wpAny (model X.prog X.w) X.A (exec st X.env) (SP X pins D) X.xe s
def PSs(X:Cx)(st:List Stmt)(t:TS):Prop:=
 ∀(pins:PP) (s:Shared) (Z:St) (H:Hp) (D:Ends),Inv X pins Z H s->t D Z H->wpAny (model X.prog X.w) X.A (execs st X.env) (SP X pins D) X.xe s
def thn{α:Type}{t:Sem α}{Q Q':α->Shared->Prop}{M:Model}{A:Around}{E:PQ}{s:Shared}(h:wpAny M A t Q E s)(hQ:∀a s,Q a s->Q' a s):wpAny M A t Q' E s:=wpAny_mono h hQ λ_ _ x=>x
section
variable{X:Cx}
def bin{a b:Expr}{ta tb:TE}(ha:PE X a ta)(hb:PE X b tb){pins:PP}{s:Shared}{Z:St}{H:Hp}{R:V->V->Hp->Prop}(I:Inv X pins Z H s)(h:ta Z H λx H1=>tb Z H1 λy H2=>R x y H2)
  {α:Type} {Q:α->Shared->Prop} {f:Value->Value->Sem α}
  (hf:∀v u s2 x y H2,Inv X pins Z H2 s2->qI x v->qI y u->R x y H2->wpAny (model X.prog X.w) X.A (f v u) Q X.xe s2) :
  wpAny (model X.prog X.w) X.A (eval a X.env) (λv s₁=>wpAny (model X.prog X.w) X.A (eval b X.env) (λu s₂=>wpAny (model X.prog X.w) X.A (f v u) Q X.xe s₂) X.xe s₁) X.xe s:=by
 refine thn (ha pins s Z H _ I h) λv s1 hq1=>?_;obtain⟨x,H1,I1,r1,q1⟩:=hq1;refine thn (hb pins s1 Z H1 _ I1 q1) λu s2 hq1=>?_;obtain⟨y,H2,I2,r2,q2⟩:=hq1;exact hf v u s2 x y H2 I2 r1 r2 q2
def qhy(i:Nat):TE:=λZ H Q=>∃v,Z[i]?=some (some v)/\Q v H
def tC(v:V):TE:=λ_ H Q=>Q v H
def yG{i:Nat}{x:Str}{pos:Pos}(hN:X.N[i]?=some x)(hv:Vis X.env.scope x)(hd:(x == ("__debug__" : Str))=false:=by decide)(hcd:(x == ("__classdict__" : Str))=false:=by decide):PE X (.Name x pos) (qhy i):=by
 intro pins s Z H Q I h;obtain⟨v,e,h⟩:=h;obtain⟨m,hn,hl⟩:=I.loc;obtain⟨u,r,l⟩:=hl i x v hN e hv;have fin:EP X pins Z Q u s:=⟨v,H,I,r,h⟩;rcases l with ⟨hk,hm⟩|⟨hk,c,hc,hcell⟩
 ·exact wpAny_Name (wpAny_loadName_local I.ok.kind hk hn hm fin) hd
 ·rcases hk with hk|hk
  ·exact wpAny_Name (wpAny_loadName_cell I.ok.kind hk hc hcell fin) hd
  ·exact wpAny_Name (wpAny_loadName_free I.ok.kind hk hc hcell fin hcd) hd
def qbd{i j pos}:PE X (.Constant (.int i) j pos) (tC (.int i)):=λ_ _ _ H _ I h=>wpAny_Constant_int ⟨.int i,H,I.tok _,⟨_,rfl⟩,h⟩
def qm0{b j pos}:PE X (.Constant (.bool b) j pos) (tC (.bl b)):=λ_ _ _ H _ I h=>Constant_bool ⟨.bl b,H,I,rfl,h⟩
def qjM{j pos}:PE X (.Constant .none j pos) (tC .non):=λ_ _ _ H _ I h=>Constant_none ⟨.non,H,I,rfl,h⟩
def qgA{x j pos}:PE X (.Constant (.str x) j pos) (tC (.str x)):=λ_ _ _ H _ I h=>Calls.Constant_str ⟨.str x,H,I.tok _,⟨_,rfl⟩,h⟩
def Gl(X:Cx)(x:Str):Prop:=X.env.kindOf x=some .globalImplicit
def zT{E:PQ}{pins:PP}{s:Shared}{Z:St}{H:Hp}{x:Str}{u:Value}{pos:Pos}{Q:PQ}(I:Inv X pins Z H s)(hg:Gl X x)(hm:X.mg x=some u)(h:Q u s)
  (hd:(x == ("__debug__" : Str))=false:=by decide):wpAny (model X.prog X.w) X.A (eval (.Name x pos) X.env) Q E s:=
 Calls.Name_function_global I.ok.kind hg (Calls.loadGlobal_global (by rw[I.ok.glob];exact I.mod.glob.keeps I.bk) hm h) hd
def Jo{E:PQ}{pins:PP}{s:Shared}{Z:St}{H:Hp}{x:Str}{u:Value}{pos:Pos}{Q:PQ}(I:Inv X pins Z H s)(hg:Gl X x)(hm:X.mg x=none)(hv:bootBuiltins x=some u)(h:Q u s)
  (hn:x≠"__name__":=by decide) (hd:(x == ("__debug__" : Str))=false:=by decide):wpAny (model X.prog X.w) X.A (eval (.Name x pos) X.env) Q E s:=by
 obtain⟨mb,h1,h2⟩:=I.mod.blt;exact Calls.Name_function_global I.ok.kind hg (Calls.loadGlobal_builtin (by rw[I.ok.glob];exact I.mod.glob.keeps I.bk) hm (by rw[I.ok.blt];exact h1.keeps I.bk) ((h2 x hn).trans hv) h) hd
def Ja{x:Str}{v:V}{u:Value}{pos:Pos}(hg:Gl X x)(hm:X.mg x=some u)(r:qI v u)(hd:(x == ("__debug__" : Str))=false:=by decide):PE X (.Name x pos) (tC v):=
 λ_ _ _ H _ I h=>zT I hg hm ⟨v,H,I,r,h⟩ hd
def Jb{x:Str}{v:V}{u:Value}{pos:Pos}(hg:Gl X x)(hm:X.mg x=none)(hv:bootBuiltins x=some u)(r:qI v u)(hn:x≠"__name__":=by decide)(hd:(x == ("__debug__" : Str))=false:=by decide):PE X (.Name x pos) (tC v):=
 λ_ _ _ H _ I h=>Jo I hg hm hv ⟨v,H,I,r,h⟩ hn hd
variable{a b:Expr}{ta tb:TE}{pos:Pos}
def tB(t:TE):TT:=λZ H Q=>t Z H λx H1=>∃c,x=.bl c/\Q c H1
def qbe{e:Expr}{t:TE}(h:PE X e t)(he:∀whole,isTrue e X.env whole=(do let v<-whole;standAt e.pos;holding [v] (truthy v)):=by intro _;rfl):PT X e (tB t):=by intro pins s Z H Q I hw;refine isTrue_plain (thn (h pins s Z H _ I hw) λv s1 ⟨x,H1,I1,r1,q1⟩=>?_) (he _);obtain⟨d,rfl,q⟩:=q1;cases r1;exact wpAny_truthy_bool ⟨H1,I1,q⟩
variable{tA tB':TT}{rest:List Expr}
def qoQ(t:TT):TT:=λZ H Q=>t Z H λc H1=>Q (!c) H1
theorem qhz(ha:PT X a tA):PW X (.BoolOp .And [a] pos) tA:=by
 intro wh pins s Z H Q I h;refine isTrue_and (thn (ha pins s Z H Q I h) λc s1 e=>?_)
 cases c with
 |true=>exact isTrue_and_nil e
 |false=>exact e
theorem qjN(ha:PT X a tA):PW X (.BoolOp .Or [a] pos) tA:=by
 intro wh pins s Z H Q I h;refine isTrue_or (thn (ha pins s Z H Q I h) λc s1 e=>?_)
 cases c with
 |false=>exact isTrue_or_nil e
 |true=>exact e
def Zk(ha:PT X a tA):PT X (.UnaryOp .Not a pos) (qoQ tA):=by intro pins s Z H Q I h;exact isTrue_not (ha pins s Z H (λc H1=>Q (!c) H1) I h)
def qm1(ta tb:TE):TE:=λZ H Q=>ta Z H λx H1=>∃c,x=.bl c/\if c=true then tb Z H1 Q else Q (.bl false) H1
def qoR(ta tb:TE):TE:=λZ H Q=>ta Z H λx H1=>∃c,x=.bl c/\if c=true then Q (.bl true) H1 else tb Z H1 Q
def qm2(ta:TE):TE:=λZ H Q=>ta Z H λx H1=>∃c,x=.bl c/\Q (.bl (!c)) H1
def qjO{op}{t:TE}(h:PE X a t):PE X (.BoolOp op [a] pos) t:=λpins s Z H Q I hw=>BoolOp_one (h pins s Z H Q I hw)
theorem qjP(ha:PE X a ta)(hb:PE X (.BoolOp .And (b::rest) pos) tb):PE X (.BoolOp .And (a::b::rest) pos) (qm1 ta tb):=by
 intro pins s Z H Q I h;refine BoolOp_and (thn (ha pins s Z H _ I h) λv s1 hq1=>?_);obtain⟨x,H1,I1,r1,q1⟩:=hq1;obtain⟨c,rfl,q1⟩:=q1;cases r1;refine wpAny_truthy_bool ?_
 cases c with
 |true=>exact hb pins s1 Z H1 Q I1 q1
 |false=>exact{.bl false,H1,I1,rfl,q1}
theorem qm3(ha:PE X a ta)(hb:PE X (.BoolOp .Or (b::rest) pos) tb):PE X (.BoolOp .Or (a::b::rest) pos) (qoR ta tb):=by
 intro pins s Z H Q I h;refine BoolOp_or (thn (ha pins s Z H _ I h) λv s1 hq1=>?_);obtain⟨x,H1,I1,r1,q1⟩:=hq1;obtain⟨c,rfl,q1⟩:=q1;cases r1;refine wpAny_truthy_bool ?_
 cases c with
 |false=>exact hb pins s1 Z H1 Q I1 q1
 |true=>exact{.bl true,H1,I1,rfl,q1}
def qjQ(ha:PE X a ta):PE X (.UnaryOp .Not a pos) (qm2 ta):=by intro pins s Z H Q I h;refine UnaryOp_ (thn (ha pins s Z H _ I h) λv s1 hq1=>?_);obtain⟨x,H1,I1,r1,q1⟩:=hq1;obtain⟨c,rfl,q1⟩:=q1;cases r1;exact not_of (wpAny_truthy_bool ⟨.bl (!c),H1,I1,rfl,q1⟩)
def tIf(t:TT)(ta tb:TE):TE:=λZ H Q=>t Z H λc H1=>if c=true then ta Z H1 Q else tb Z H1 Q
theorem qe3{c:Expr}(hc:PT X c tA)(ha:PE X a ta)(hb:PE X b tb):PE X (.IfExp c a b pos) (tIf tA ta tb):=by
 intro pins s Z H Q I h;refine wpAny_IfExp (thn (hc pins s Z H _ I h) λd s1 hq1=>?_);obtain⟨H1,I1,q1⟩:=hq1
 cases d with
 |true=>exact ha pins s1 Z H1 Q I1 q1
 |false=>exact hb pins s1 Z H1 Q I1 q1
end
def SqL(K:Frag)(H:Hp)(a:Addr)(xs:List V):Prop:=
 Rd H a (.lst xs)\/
  ∃(o:Obj) (its:Array Value) (n:Nat),K.lookup a=some o/\o.cls=.type "list"/\o.dict=none/\o.data=.seq its n/\its.size<=sizeLine/\qF xs its.toList
def SqT(K:Frag)(H:Hp)(a:Addr)(xs:List V):Prop:=
 Rd H a (.tup xs)\/
  ∃(o:Obj) (its:Array Value) (n:Nat),K.lookup a=some o/\o.cls=.type "tuple"/\o.data=.seq its n/\its.size<=sizeLine/\qF xs its.toList
def qoS:Value->Option V
 |.none=>some .non
 |.bool b=>some (.bl b)
 |.int i _=>some (.int i)
 |.str x _=>some (.str x)
 |.bytes b _=>some (.byt b)
 |.float b _=>some (.flt b)
 |.ref a=>some (.ref a)
 |.type n=>some (.ty n)
 |_=>none
theorem qI.abs{x:V}{u:Value}(r:qI x u):qoS u=some x:=by
 cases x with
 |non=>cases r;rfl
 |bl _=>cases r;rfl
 |int _=>obtain⟨t,rfl⟩:=r;rfl
 |str _=>obtain⟨t,rfl⟩:=r;rfl
 |byt _=>obtain⟨t,rfl⟩:=r;rfl
 |flt _=>obtain⟨t,rfl⟩:=r;rfl
 |ref _=>cases r;rfl
 |ty _=>cases r;rfl
def qI.inj{x y:V}{u:Value}(r:qI x u)(q:qI y u):x=y:=Option.some.inj (r.abs.symm.trans q.abs)
theorem qF.inj:∀{xs ys:List V} {us:List Value},qF xs us->qF ys us->xs=ys
 |_,_,_,.nil,.nil=>rfl
 | _,_,_,.cons r t,.cons r' t'=>by rw[r.inj r',qF.inj t t']
section
variable{X:Cx}{pins:PP}{Z:St}{H:Hp}{s:Shared}{a:Addr}{xs ys:List V}
def SqL.of{K:Frag}(h:H a=some (.lst xs)):SqL K H a xs:=.inl (.inl h)
def SqT.of{K:Frag}(h:H a=some (.tup xs)):SqT K H a xs:=.inl (.inl h)
def Inv.list(I:Inv X pins Z H s)(h:SqL X.K H a xs):∃its:List Value,qF xs its/\PlainL s.heap a its.toArray/\xs.length<=sizeLine:=by
 rcases h with h|⟨o,its,n,hk,hc,hd,hs,hz,r⟩
 ·obtain⟨z,its,n,r,e⟩:=h.ok I.hok;exact{its,r,{_,n,e,rfl,rfl,rfl},z}
 ·refine{its.toList,r,{o,n,I.kIn a o hk,hc,hd,(-hs:)},?_};have e:=r.length;simp![Array.length_toList]at e
  lia
def Inv.tuple(I:Inv X pins Z H s)(h:SqT X.K H a xs):∃its:List Value,qF xs its/\IsTup s.heap a its.toArray/\xs.length<=sizeLine:=by
 rcases h with h|⟨o,its,n,hk,hc,hs,hz,r⟩
 ·obtain⟨z,its,r,p⟩:=h.ok I.hok;exact⟨its,r,p,z⟩
 ·refine{its.toList,r,{o,I.kIn a o hk,hc,n,(-hs:)},?_};have e:=r.length;simp![Array.length_toList]at e
  lia
def Inv.list_inj(I:Inv X pins Z H s)(h:SqL X.K H a xs)(h':SqL X.K H a ys):xs=ys:=by
 obtain⟨its,r,⟨o,n,e,_,_,d⟩,_⟩:=I.list h;obtain⟨its',r',⟨o',n',e',_,_,d'⟩,_⟩:=I.list h';rw[e]at e';cases e';rw[d]at d';injection d' with d1 _
 have:its=its':=by simpa using congrArg Array.toList d1
 subst this;exact r.inj r'
def Inv.tuple_inj(I:Inv X pins Z H s)(h:SqT X.K H a xs)(h':SqT X.K H a ys):xs=ys:=by
 obtain⟨its,r,⟨o,e,_,n,d⟩,_⟩:=I.tuple h;obtain⟨its',r',⟨o',e',_,n',d'⟩,_⟩:=I.tuple h';rw[e]at e';cases e';rw[d]at d';injection d' with d1 _
 have:its=its':=by simpa using congrArg Array.toList d1
 subst this;exact r.inj r'
end
abbrev Cx.wish(X:Cx)(E:PQ):Cx:={ X with xe:=E }
abbrev Cx.nox(X:Cx):Cx:=X.wish λ_ _=>False
def Cx.Ok.wish{X:Cx}(ok:X.Ok)(E:PQ):(X.wish E).Ok:=
 ⟨ok.mod,ok.kind,ok.glob,ok.blt,ok.above,ok.inj,ok.has,ok.cab,ok.hd,ok.frames,ok.stk,ok.exf,ok.bs,ok.bsz,ok.noex,ok.exfs,ok.funs,ok.frf⟩
def Cx.Ok.unwish{X:Cx}{E:PQ}(ok:(X.wish E).Ok):X.Ok:=
 ⟨ok.mod,ok.kind,ok.glob,ok.blt,ok.above,ok.inj,ok.has,ok.cab,ok.hd,ok.frames,ok.stk,ok.exf,ok.bs,ok.bsz,ok.noex,ok.exfs,ok.funs,ok.frf⟩
section
variable{X:Cx}{pins:PP}{Z:St}{H:Hp}{s:Shared}{E:PQ}
def Inv.wish(I:Inv X pins Z H s)(E:PQ):Inv (X.wish E) pins Z H s:={I.ok.wish E,I.os,I.bare,I.base,I.loc,I.cell,I.free,I.freeC,I.pin,I.hok,I.len}
def Inv.unwish(I:Inv (X.wish E) pins Z H s):Inv X pins Z H s:=⟨I.ok.unwish,I.os,I.bare,I.base,I.loc,I.cell,I.free,I.freeC,I.pin,I.hok,I.len⟩
theorem SP.unwish{D:Ends}{f:Flow}{s':Shared}(h:SP (X.wish E) pins D f s'):SP X pins D f s':=by
 cases f with
 |next=>obtain⟨Z',H',I,q⟩:=h;exact⟨Z',H',I.unwish,q⟩
 |brk=>obtain⟨Z',H',I,q⟩:=h;exact⟨Z',H',I.unwish,q⟩
 |cont=>obtain⟨Z',H',I,q⟩:=h;exact⟨Z',H',I.unwish,q⟩
 |ret u=>obtain⟨v,Z',H',I,r,q⟩:=h;exact⟨v,Z',H',I.unwish,r,q⟩
def PSs.nox{st:List Stmt}{t:TS}(h:PSs X.nox st t):PSs X st t:=λpins s Z H D I hw=>wpAny_mono (h pins s Z H D (I.wish _) hw) (λ_ _ q=>q.unwish) λ_ _ z=>False.elim z
end
section
variable{X:Cx}{st:Stmt}{rest:List Stmt}{t u:TS}{e:Expr}{te:TE}{pos:Pos}
def qjR:TS:=λD Z H=>D.nx Z H
def qoT(t u:TS):TS:=λD Z H=>t { D with nx:=u D } Z H
def Jc:PSs X [] qjR:=λ_ _ Z H _ I h=>wpAny_execs_nil ⟨Z,H,I,h⟩
theorem qK(h1:PS X st t)(h2:PSs X rest u):PSs X (st::rest) (qoT t u):=by
 intro pins s Z H D I h;refine wpAny_execs_cons (thn (h1 pins s Z H { D with nx:=u D } I h) λf s1 q=>?_)
 cases f with
 |next=>obtain⟨Z',H',I',q⟩:=q;exact h2 pins s1 Z' H' D I' q
 |ret v=>exact q
 |brk=>exact q
 |cont=>exact q
theorem jt(h1:PS X st t):PSs X [st] t:=by
 intro pins s Z H D I h;refine wpAny_execs_cons (thn (h1 pins s Z H D I h) λf s1 q=>?_)
 cases f with
 |next=>exact wpAny_execs_nil q
 |ret v=>exact q
 |brk=>exact q
 |cont=>exact q
def qhA:PS X (.Pass pos) qjR:=λ_ _ Z H _ I h=>wpAny_Pass ⟨Z,H,I,h⟩
def Inv.quiet{pins:PP}{Z:St}{H:Hp}{s:Shared}(I:Inv X pins Z H s):interactive X.env=false:=by simp[interactive,I.ok.kind]
def qm4(te:TE):TS:=λD Z H=>te Z H λ_ H1=>D.nx Z H1
def yr(he:PE X e te)(hs:swapsWith e none pos.line X.env=pure false:=by rfl):PS X (.Expr e pos) (qm4 te):=by intro pins s Z H D I h;exact wpAny_Expr_any (thn (he pins s Z H _ I h) λv s1 ⟨x,H1,I1,r1,q1⟩=>⟨Z,H1,I1,q1⟩) I.quiet hs
def qoU(te:TE):TS:=λD Z H=>te Z H D.rt
def qcV(he:PE X e te):PS X (.Return (some e) pos) (qoU te):=by intro pins s Z H D I h;exact wpAny_Return_some (thn (he pins s Z H _ I h) λv s1 ⟨x,H1,I1,r1,q1⟩=>⟨x,Z,H1,I1,r1,q1⟩)
def qm5:TS:=λD _ H=>D.rt .non H
def qhB:PS X (.Return none pos) qm5:=λ_ _ Z H _ I h=>wpAny_Return_none ⟨.non,Z,H,I,rfl,h⟩
def qoV(c:TT)(t u:TS):TS:=λD Z H=>c Z H λb H1=>if b=true then t D Z H1 else u D Z H1
theorem qcW{c:Expr}{a b:List Stmt}{tc:TT}(hc:PT X c tc)(ha:PSs X a t)(hb:PSs X b u):PS X (.If c a b pos) (qoV tc t u):=by
 intro pins s Z H D I h;refine wpAny_If (thn (hc pins s Z H _ I h) λd s1 hq1=>?_);obtain⟨H1,I1,q1⟩:=hq1
 cases d with
 |true=>exact ha pins s1 Z H1 D I1 q1
 |false=>exact hb pins s1 Z H1 D I1 q1
def qjS:TS:=λ_ _ _=>False
def JK:PS X st qjS:=λ_ _ _ _ _ _ h=>h.elim
end
abbrev TG:=V->St->Hp->(St->Hp->Prop)->Prop
abbrev TGs:=List V->St->Hp->(St->Hp->Prop)->Prop
def PG(X:Cx)(target:Expr)(t:TG):Prop:=
 ∀(pins:PP) (s:Shared) (Z:St) (H:Hp) (v:V) (u:Value) (Q:St->Hp->Prop),Inv X pins Z H s->qI v u->t v Z H Q->
  wpAny (model X.prog X.w) X.A (assign target X.env u) (λ_ s'=>∃Z' H',Inv X pins Z' H' s'/\Q Z' H') X.xe s
def PGs(X:Cx)(ts:List Expr)(t:TGs):Prop:=
 ∀(pins:PP) (s:Shared) (Z:St) (H:Hp) (vs:List V) (us:List Value) (Q:St->Hp->Prop),Inv X pins Z H s->qF vs us->t vs Z H Q->
  wpAny (model X.prog X.w) X.A (assignInOrder ((assignEach ts X.env).map (·.2)) us) (λ_ s'=>∃Z' H',Inv X pins Z' H' s'/\Q Z' H') X.xe s
abbrev qm6:=V->V->V->Hp->(Hp->Prop)->Prop
def qoi(X:Cx)(t:qm6):Prop:=
 ∀(pins:PP) (s:Shared) (Z:St) (H:Hp) (o i v:V) (ov iv u:Value) (Q:Hp->Prop),Inv X pins Z H s->qI o ov->qI i iv->qI v u->t o i v H Q->
  wpAny (model X.prog X.w) X.A (setItem ov iv u) (λ_ s'=>∃H',Inv X pins Z H' s'/\Q H') X.xe s
section
variable{X:Cx}{pos:Pos}
def qe4(i:Nat):TG:=λv Z H Q=>Q (Z.set i (some v)) H
def qhC{i:Nat}{x:Str}(hN:X.N.Nodup)(hi:X.N[i]?=some x)(hx:Loc X.env.scope x)(hf:X.fn x=true\/X.env.scope.names.lookup x=some .local:=by first|exact .inl rfl|exact .inr rfl|assumption):PG X (.Name x pos) (qe4 i):=by intro pins s Z H v u Q I r h;exact wpAny_assign_Name (qbc I hN hi hx r (λs' I'=>{_,H,I',h}) hf)
def qoW:TGs:=λvs Z H Q=>vs=[]/\Q Z H
def qm7(t:TG)(u:TGs):TGs:=λvs Z H Q=>∃v r,vs=v::r/\t v Z H λZ' H'=>u r Z' H' Q
def qhD:PGs X [] qoW:=by intro pins s Z H vs us Q I r h;obtain⟨e,h⟩:=h;subst e;cases r;exact assignInOrder_nil ⟨Z,H,I,h⟩
theorem qe5{e:Expr}{es:List Expr}{t:TG}{u:TGs}(h1:PG X e t)(h2:PGs X es u)
  (hs:(assignEach (e::es) X.env).map (·.2)=assign e X.env::(assignEach es X.env).map (·.2):=by rfl):PGs X (e::es) (qm7 t u):=by
 intro pins s Z H vs us Q I r h;obtain⟨v,vr,e1,h⟩:=h;subst e1
 cases r with
 |cons r rr=>rw[hs];refine assignInOrder_cons (thn (h1 pins s Z H _ _ _ I r h) λ_ s1 hq1=>?_);obtain⟨Z1,H1,I1,q1⟩:=hq1;exact h2 pins s1 Z1 H1 _ _ Q I1 rr q1
def qoX(K:Frag)(n:Nat)(t:TGs):TG:=λv Z H Q=>∃a xs,v=.ref a/\SqT K H a xs/\xs.length=n/\t xs Z H Q
def qjT{es:List Expr}{k:Nat}{t:TGs}{n:Nat}(hc:X.calm=true)(h:PGs X es t)
  (hn:(assignEach es X.env).length=n:=by rfl) (hst:(assignEach es X.env).findIdx? (·.1)=none:=by rfl):PG X (.Tuple es k pos) (qoX X.K n t):=by
 intro pins s Z H v u Q I r hw;obtain⟨a,xs,e1,hq,hl,hw⟩:=hw;subst e1;cases r;obtain⟨its,rv,ht,hz⟩:=I.tuple hq;refine assign_Tuple_tuple (I.ok.hd hc) ht (by simp[hn,<-hl,rv.length]) hst λh' hx=>?_;have I1:Inv X pins Z H { s with heap:=h' }:=I.kept (t':=s.toks) λb o e=>hx b o (Nat.ne_of_lt (Heap.lt_size e)) e;exact h pins _ Z H xs _ Q I1 (-rv:) hw
def qoY(to ti:TE)(t:qm6):TG:=λv Z H Q=>to Z H λo H1=>ti Z H1 λi H2=>t o i v H2 λH3=>Q Z H3
def qjU{o i:Expr}{to ti:TE}{t:qm6}(ho:PE X o to)(hi:PE X i ti)(hs:qoi X t)
  (ha:∀v,assign (.Subscript o i pos) X.env v=(do
   let ov<-holding [v] (eval o X.env)
   let iv<-holding [v,ov] (eval i X.env)
   standAt pos
   holding [v,ov,iv] (setItem ov iv v)
   release [v,ov,iv] []):=by intro _;rfl):PG X (.Subscript o i pos) (qoY to ti t):=by
 intro pins s Z H v u Q I r h;rw[ha];refine wpAny_bind (wpAny_holding (thn (ho pins s Z H _ I h) λov s1 hq1=>?_));obtain⟨x,H1,I1,r1,q1⟩:=hq1;refine wpAny_bind (wpAny_holding (thn (hi pins s1 Z H1 _ I1 q1) λiv s2 hq1=>?_));obtain⟨y,H2,I2,r2,q2⟩:=hq1;refine wpAny_bind (wpAny_standAt (wpAny_bind (wpAny_holding (thn (hs pins s2 Z H2 x y v ov iv u _ I2 r1 r2 r q2) λ_ s3 hq1=>?_))));obtain⟨H3,I3,q3⟩:=hq1;exact wpAny_release ⟨Z,H3,I3,q3⟩
def qm8(te:TE)(g:TG):TS:=λD Z H=>te Z H λx H1=>g x Z H1 D.nx
def qgB{tg e:Expr}{te:TE}{g:TG}(he:PE X e te)(hg:PG X tg g)(hs:swapsWithSole [tg] e pos.line X.env=pure false:=by rfl)(hw:swappedStores [tg] e X.env=pure none:=by rfl)
  (h1:(assignEach [tg] X.env).map (·.2)=[assign tg X.env]:=by rfl):PS X (.Assign [tg] e pos) (qm8 te g):=by
 intro pins s Z H D I h;refine wpAny_Assign_stores (thn (he pins s Z H _ I h) λv s1 ⟨x,H1,I1,r1,q1⟩=>?_) hs hw;rw[h1];exact thn (hg pins s1 Z H1 x v _ I1 r1 q1) λ_ s2 q=>q
def qcX{i:Nat}{x:Str}{e:Expr}{te:TE}{pos':Pos}(hN:X.N.Nodup)(hi:X.N[i]?=some x)(hx:Loc X.env.scope x)(he:PE X e te)(hs:swapsWith e (some (.Name x pos')) pos.line X.env=pure false:=by rfl)(hf:X.fn x=true\/X.env.scope.names.lookup x=some .local:=by first|exact .inl rfl|exact .inr rfl|assumption) :
  PS X (.Assign [.Name x pos'] e pos) (qm8 te (qe4 i)):=by
 intro pins s Z H D I h;refine wpAny_Assign_Name (thn (he pins s Z H _ I h) λv s1 ⟨y,H1,I1,r1,q1⟩=>?_) hs;exact qbc I1 hN hi hx r1 (λs2 I2=>{_,H1,I2,q1}) hf
def qjV(c:TT)(tb:TS):TS:=λD Z H=>∃W:Nat->St->Hp->Prop,(∃m,W m Z H)/\∀m Z H,W m Z H->
 c Z H λb H1=>if b=true then∃N:St->Hp->Prop,(∀Z' H',N Z' H'->∃m',m' < m/\W m' Z' H')/\tb { D with nx:=N,ct:=N,bk:=D.nx } Z H1 else D.nx Z H1
theorem qe6{c:Expr}{body:List Stmt}{tc:TT}{tb:TS}(hp:PassesOwn (model X.prog X.w) X.A X.env X.xe)(hc:PT X c tc)(hb:PSs X body tb):PS X (.While c body [] pos) (qjV tc tb):=by
 intro pins s Z H D I h;obtain⟨W,⟨m0,w0⟩,turn⟩:=h;refine wpAny_While (codeAny_whileLoop (λn s'=>∃Z' H',Inv X pins Z' H' s'/\W n Z' H') ?_ m0 ⟨Z,H,I,w0⟩);rintro n s1 ⟨Z1,H1,I1,w1⟩;refine wpAny_passesOwn hp (thn (hc pins s1 Z1 H1 _ I1 (turn n Z1 H1 w1)) λb s2 hq1=>?_);obtain⟨H2,I2,q2⟩:=hq1
 cases b with
 |true=>
  obtain⟨N,hN,q2⟩:=q2;rw[if_pos rfl];refine wpAny_passesOwn hp (thn (hb pins s2 Z1 H2 _ I2 q2) λf s3 q3=>?_)
  cases f with
  |next=>obtain⟨Z3,H3,I3,n3⟩:=q3;obtain⟨m',hm,w3⟩:=hN Z3 H3 n3;exact⟨m',hm,Z3,H3,I3,w3⟩
  |cont=>obtain⟨Z3,H3,I3,n3⟩:=q3;obtain⟨m',hm,w3⟩:=hN Z3 H3 n3;exact⟨m',hm,Z3,H3,I3,w3⟩
  |brk=>exact q3
  |ret v=>exact q3
 |false=>rw[if_neg Bool.false_ne_true];exact wpAny_execs_nil ⟨Z1,H2,I2,q2⟩
end
structure It where
 go:Nat->Hp->Prop
 yld:Nat->Hp->V->Hp->Prop
 stop:Nat->Hp->Prop
def qca(X:Cx)(pins:PP)(H:Hp)(b:Addr):Prop:=
 H b=none/\b≠X.env.locals/\b∉X.fs/\(b∈X.ex\/X.s₀.heap.objs.size<=b)/\(∀x c,X.env.cells.lookup x=some c->c≠b)/\∀p∈X.pn++pins,p.1≠b
def Inv.fpOk{X:Cx}{pins:PP}{Z:St}{H H':Hp}{s:Shared}{b:Addr}(I:Inv X pins Z H s)(hb:s.heap.objs.size<=b)(hn:H' b=none):qca X pins H' b:=by
 refine{hn,Nat.ne_of_gt (Nat.lt_of_lt_of_le I.lt hb),I.nofs hb,.inr (Nat.le_trans I.sz hb),λx c e z=>?_,λp hp z=>?_}
 ·obtain⟨v,q⟩:=I.cell x c e;exact absurd (Nat.lt_of_lt_of_le q.lt (by rw[z];exact hb)) (Nat.lt_irrefl _)
 ·exact absurd (Nat.lt_of_lt_of_le (Heap.lt_size (I.pin p hp).1) (by rw[z];exact hb)) (Nat.lt_irrefl _)
structure Turn(P:Program)(w:World)(K:Frag)(tg:Expr)(J:It)(fp:List Addr)(it:Addr)(tn:Nat->Heap->Prop):Prop where
 mem:it∈fp
 obj:∀i h,tn i h->∀b∈fp,∃o,h.get? b=some o/\∀v,o.data≠.cell v
 keep:∀i h h',tn i h->(∀b∈fp,∀o,h.get? b=some o->h'.get? b=some o)->tn i h'
 item:∀(X:Cx),X.prog=P->X.w=w->X.K=K->X.calm=true->∀(i:Nat) (pins:PP) (s:Shared) (Z:St) (H:Hp) (E:PQ),Inv X pins Z H s->(∀b∈fp,qca X pins H b)->tn i s.heap->J.go i H->
  wpAny (model P w) X.A (pyNext (.ref it)) (λr s1=>∃u,r=some u/\
   wpAny (model P w) X.A (letOwnedTupleGo tg (.ref it) u) (λ_ s2=>∃x H',Inv X pins Z H' s2/\qI x u/\J.yld i H x H'/\tn (i+1) s2.heap/\∀b∈fp,H' b=none) E s1) E s
 done:∀(X:Cx),X.prog=P->X.w=w->X.K=K->X.calm=true->∀(i:Nat) (pins:PP) (s:Shared) (Z:St) (H:Hp) (E:PQ),Inv X pins Z H s->(∀b∈fp,qca X pins H b)->tn i s.heap->J.stop i H->
  wpAny (model P w) X.A (pyNext (.ref it)) (λr s1=>r=none/\Inv X pins Z H s1) E s
 self:∀(A:Around) (i:Nat) (s:Shared) (Q:PQ) (E:PQ),tn i s.heap->Q (.ref it) s->wpAny (model P w) A (pyIter (.ref it)) Q E s
abbrev TI:=St->Hp->(It->Hp->Prop)->Prop
def PIE(X:Cx)(pins:PP)(Z:St)(tg:Expr)(R:It->Hp->Prop)(itv:Value)(s2:Shared):Prop:=
 ∃(it:Addr) (fp:List Addr) (tn:Nat->Heap->Prop) (J:It) (H':Hp),itv=.ref it/\Inv X pins Z H' s2/\Turn X.prog X.w X.K tg J fp it tn/\tn 0 s2.heap/\(∀b∈fp,qca X pins H' b)/\R J H'
def PI(X:Cx)(tg iter:Expr)(wi:TI):Prop:=
 ∀(pins:PP) (s:Shared) (Z:St) (H:Hp) (R:It->Hp->Prop),Inv X pins Z H s->wi Z H R->
  wpAny (model X.prog X.w) X.A (eval iter X.env) (λv s1=>wpAny (model X.prog X.w) X.A (pyIter v) (PIE X pins Z tg R) X.xe s1) X.xe s
def qcY{M:Model}{A:Around}{E:PQ}{s:Shared}{tg:Expr}{it:Addr}{u:Value}{o:Obj}{n:String}{vs:Array Value}{Q:Unit->Shared->Prop}(ho:s.heap.get? it=some o)(hc:o.cls=.type n)(hd:o.data=.fields vs)
  (hn:["enumerate","zip","dict_itemiterator","dict_reverseitemiterator","odict_iterator","itertools.zip_longest","itertools.pairwise"].contains n=false) (hQ:Q () s):wpAny M A (letOwnedTupleGo tg (.ref it) u) Q E s:=by
 unfold letOwnedTupleGo
 cases tg<;>first
  | exact wpAny_pure hQ
  | (cases u<;>first
    | exact wpAny_pure hQ
    | (refine wpAny_bind (wpAny_load ho ?_)
       rw[hc,hd];show wpAny M A (if (["enumerate","zip","dict_itemiterator","dict_reverseitemiterator","odict_iterator","itertools.zip_longest","itertools.pairwise"].contains n&&vs[0]? == some (rawInt _))=true then _ else _) Q E s;rw[if_neg (by intro h;rw[hn,Bool.false_and]at h;cases h)];exact wpAny_pure hQ))
def Itl(K:Frag)(a:Addr):It:=
 ⟨λi H=>∃xs x,SqL K H a xs/\xs[i]?=some x,λi H x H'=>H'=H/\∀xs,SqL K H a xs->xs[i]?=some x,λi H=>∃xs,SqL K H a xs/\xs.length<=i⟩
def Itt(K:Frag)(a:Addr):It:=
 ⟨λi H=>∃xs x,SqT K H a xs/\xs[i]?=some x,λi H x H'=>H'=H/\∀xs,SqT K H a xs->xs[i]?=some x,λi H=>∃xs,SqT K H a xs/\xs.length<=i⟩
def Itr(lo:Int)(n:Nat):It:={λi _=>i < n,λi H x H'=>H'=H/\x=.int (lo+i),λi _=>n<=i}
def qcZ{P:Program}{w:World}{K:Frag}{tg:Expr}(a it:Addr):Turn P w K tg (Itl K a) [it] it (λi h=>h.IsListIter it a i) where
 mem:=by simp
 obj:=λi h st b hb=>by
  have e:b=it:=(-hb:)
  subst e;obtain⟨o,e,c,d⟩:=st;exact{o,e,λv z=>by rw[d]at z;cases z}
 keep:=λi h h' st k=>st.at λo e=>k it (5:) o e
 item:=by intro X hP hw hK hc i pins s Z H E I hf st hg;subst hP hw hK;obtain⟨xs,x,hq,hx⟩:=hg;obtain⟨its,rv,p,hz⟩:=I.list hq;obtain⟨u,hu,ru⟩:=rv.get hx;obtain⟨f0,f1,f2,f3,f4,f5⟩:=hf it (5:);refine wpAny_pyNext_list_item st p.isList (x:=u) (-hu:) λh' st' sb=>?_;have I1:Inv X pins Z H { s with heap:=h' }:=I.turned (t':=s.toks) (λb o hb e=>(sb.2 b hb).trans e) f0 f1 f3 f4 f5;obtain⟨o,e,c,d⟩:=id st';exact{u,rfl,qcY (s:={ s with heap:=h' }) e c d (2:) ⟨x,H,I1,ru,⟨rfl,λys hy=>by rw[I.list_inj hy hq];exact hx⟩,st',λb hb=>(hf b hb).1⟩}
 done:=by intro X hP hw hK hc i pins s Z H E I hf st hg;subst hP hw hK;obtain⟨xs,hq,hx⟩:=hg;obtain⟨its,rv,p,hz⟩:=I.list hq;obtain⟨f0,f1,f2,f3,f4,f5⟩:=hf it (5:);have hl:=rv.length;exact wpAny_pyNext_list_end (I.ok.hd hc) st p.isList (by simp;lia) λh' eb=>{rfl,I.turned (t':=s.toks) (λb o hb e=>eb b o hb e) f0 f1 f3 f4 f5}
 self:=λ_ _ _ _ _ st h=>wpAny_pyIter_listiter st h
def qcb{P:Program}{w:World}{K:Frag}{tg:Expr}(a it:Addr):Turn P w K tg (Itt K a) [it] it (λi h=>h.IsTupleIter it a i) where
 mem:=by simp
 obj:=λi h st b hb=>by
  have e:b=it:=(-hb:)
  subst e;obtain⟨o,e,c,d⟩:=st;exact{o,e,λv z=>by rw[d]at z;cases z}
 keep:=λi h h' st k=>st.at λo e=>k it (5:) o e
 item:=by intro X hP hw hK hc i pins s Z H E I hf st hg;subst hP hw hK;obtain⟨xs,x,hq,hx⟩:=hg;obtain⟨its,rv,p,hz⟩:=I.tuple hq;obtain⟨u,hu,ru⟩:=rv.get hx;obtain⟨f0,f1,f2,f3,f4,f5⟩:=hf it (5:);refine wpAny_pyNext_tuple_item st (show s.heap.IsTuple a its.toArray from p) (x:=u) (-hu:) λh' st' sb=>?_;have I1:Inv X pins Z H { s with heap:=h' }:=I.turned (t':=s.toks) (λb o hb e=>(sb.2 b hb).trans e) f0 f1 f3 f4 f5;obtain⟨o,e,c,d⟩:=id st';exact{u,rfl,qcY (s:={ s with heap:=h' }) e c d (2:) ⟨x,H,I1,ru,⟨rfl,λys hy=>by rw[I.tuple_inj hy hq];exact hx⟩,st',λb hb=>(hf b hb).1⟩}
 done:=by intro X hP hw hK hc i pins s Z H E I hf st hg;subst hP hw hK;obtain⟨xs,hq,hx⟩:=hg;obtain⟨its,rv,p,hz⟩:=I.tuple hq;obtain⟨f0,f1,f2,f3,f4,f5⟩:=hf it (5:);have hl:=rv.length;exact wpAny_pyNext_tuple_end (I.ok.hd hc) st (show s.heap.IsTuple a its.toArray from p) (by simp;lia) λh' eb=>{rfl,I.turned (t':=s.toks) (λb o hb e=>eb b o hb e) f0 f1 f3 f4 f5}
 self:=λ_ _ _ _ _ st h=>wpAny_pyIter_tupleiter st h
def qcc{P:Program}{w:World}{K:Frag}{tg:Expr}(it:Addr)(lo:Int)(n:Nat):Turn P w K tg (Itr lo n) [it] it (λi h=>IsRangeIter h it (lo+(i:Nat) * 1) ((n:Int) - (i:Nat)) 1) where
 mem:=by simp
 obj:=λi h st b hb=>by
  have e:b=it:=(-hb:)
  subst e
  exact{_,st,λv z=>by have z':Data.fields _=Data.cell v:=z;cases z'}
 keep:=λi h h' st k=>k it (5:) _ st
 item:=by intro X hP hw hK hc i pins s Z H E I hf st hg;subst hP hw hK;obtain⟨f0,f1,f2,f3,f4,f5⟩:=hf it (5:);have W:=Walks.range (prog:=X.prog) (w:=X.w) (I.ok.hd hc) it lo 1 n;refine W.item i s _ _ hg st λv h' tk hv st' kk=>?_;obtain⟨t,rfl⟩:=hv;have I1:Inv X pins Z H { s with heap:=h',toks:=tk }:=I.turned (λb o hb e=>kk b o (-hb:) e) f0 f1 f3 f4 f5;refine{_,rfl,qcY (s:={ s with heap:=h',toks:=tk }) (n:="range_iterator") st' rfl rfl (2:) ⟨.int (lo+i),H,I1,⟨t,?_⟩,⟨rfl,rfl⟩,st',λb hb=>(hf b hb).1⟩};rw[Int.mul_one]
 done:=by intro X hP hw hK hc i pins s Z H E I hf st hg;subst hP hw hK;obtain⟨f0,f1,f2,f3,f4,f5⟩:=hf it (5:);exact wpAny_pyNext_range_end (I.ok.hd hc) st (by have:n<=i:=hg;lia) λh' eb=>{rfl,I.turned (t':=s.toks) (λb o hb e=>eb b o hb e) f0 f1 f3 f4 f5}
 self:=λ_ _ _ _ _ st h=>wpAny_pyIter_rangeiter st h
section
variable{X:Cx}{tg:Expr}
def qbf{pins:PP}{Z:St}{H:Hp}{s:Shared}{R:It->Hp->Prop}{E:PQ}{lo hi:Int}{t u v:Tok}{tk:Nat}(I:Inv X pins Z H s)(h1:-(2 ^ 62)<=lo)(h2:lo < 2 ^ 62)(h3:-(2 ^ 62)<=hi)(h4:hi < 2 ^ 62)
  (q:R (Itr lo (hi - lo).toNat) H):wpAny (model X.prog X.w) X.A (pyIter (.ref s.heap.objs.size)) (PIE X pins Z tg R) E { s with heap:=s.heap.push { cls:=.type "range",data:=.fields #[.int lo t,.int hi u,.int 1 v] },toks:=tk }:=by
 refine wpAny_pyIter_range (IsRange.new ..) (small_one h1 h2 h3 h4) ?_;have I1:Inv X pins Z H { s with heap:=s.heap.push { cls:=.type "range",data:=.fields #[.int lo t,.int hi u,.int 1 v] },toks:=tk }:=I.kept λb o e=>Heap.get?_push_of_some _ e
 refine{(s.heap.push { cls:=.type "range",data:=.fields #[.int lo t,.int hi u,.int 1 v] }).objs.size,[(s.heap.push { cls:=.type "range",data:=.fields #[.int lo t,.int hi u,.int 1 v] }).objs.size],_,_,H,rfl,
  I1.kept (t':=tk) λb o e=>Heap.get?_push_of_some _ e,qcc _ lo (hi - lo).toNat,?_,λb hb=>?_,q}
 ·have e1:lo+((0:Nat):Int) * 1=lo:=by simp
  have e2:(((hi - lo).toNat:Nat):Int) - ((0:Nat):Int)=Builtin.Range.rangeSize lo hi 1:=by rw[rangeSize_one];split<;>lia
  show IsRangeIter _ _ (lo+((0:Nat):Int) * 1) ((((hi - lo).toNat:Nat):Int) - ((0:Nat):Int)) 1;rw[e1,e2];exact Heap.get?_push_size _ rfl
 ·have e:b=(s.heap.push { cls:=.type "range",data:=.fields #[.int lo t,.int hi u,.int 1 v] }).objs.size:=(-hb:)
  subst e;exact I1.fpOk (Nat.le_refl _) (I1.hok.fresh (Nat.le_refl _))
def qm9(ta:TA):TI:=λZ H R=>ta Z H λvs H1=>∃j:Int,vs=[.int j]/\-(2 ^ 62)<=j/\j < 2 ^ 62/\R (Itr 0 j.toNat) H1
def qna(ta:TA):TI:=λZ H R=>ta Z H λvs H1=>∃i j:Int,vs=[.int i,.int j]/\(-(2 ^ 62)<=i/\i < 2 ^ 62/\-(2 ^ 62)<=j/\j < 2 ^ 62)/\R (Itr i (j - i).toNat) H1
theorem qc0{a:Expr}{ta:TA}{p pos:Pos}(hg:Gl X "range")(hm:X.mg "range" = none)(ha:PA X [a] ta)(hs:starEach [a] X.env=[(false,eval a X.env)]:=by rfl):PI X tg (.Call (.Name "range" p) [a] [] pos) (qm9 ta):=by
 intro pins s Z H R I h;refine Call_ (Jo I hg hm boot_range (PyProof.Rows.callWith_type1 (thn (ha pos pins s Z H _ I h) λus s1 ⟨vs,H1,I1,r1,q1⟩=>?_) hs rfl));obtain⟨j,e,q1,q2,q⟩:=q1;subst e
 cases r1 with
 |cons r rr=>cases rr;obtain⟨t,rfl⟩:=r;exact call_range_1 (qbf I1 (1:) (1:) q1 q2 (-q:))
theorem qc1{a b:Expr}{ta:TA}{p pos:Pos}(hg:Gl X "range")(hm:X.mg "range" = none)(ha:PA X [a,b] ta)(hs:starEach [a,b] X.env=[(false,eval a X.env),(false,eval b X.env)]:=by rfl)(hs2:starEach [b] X.env=[(false,eval b X.env)]:=by rfl) :
  PI X tg (.Call (.Name "range" p) [a,b] [] pos) (qna ta):=by
 intro pins s Z H R I h;refine Call_ (Jo I hg hm boot_range (PyProof.Rows.callWith_type1 (thn (ha pos pins s Z H _ I h) λus s1 ⟨vs,H1,I1,r1,q1⟩=>?_) (by rw[hs,hs2]) (by rw[hs2];rfl)));obtain⟨i,j,e,⟨q1,q2,q3,q4⟩,q⟩:=q1;subst e
 cases r1 with
 |cons r rr=>
  cases rr with
  | cons r' rr=>cases rr;obtain⟨t,rfl⟩:=r;obtain⟨t',rfl⟩:=r';exact call_range_2 (qbf I1 q1 q2 q3 q4 q)
def qoZ(wi:TI)(g:TG)(tb:TS):TS:=λD Z H=>wi Z H λJ H1=>∃W:Nat->Nat->St->Hp->Prop,(∃m,W 0 m Z H1)/\∀i m Z H,W i m Z H->
 (J.stop i H/\D.nx Z H)\/(J.go i H/\∃N:St->Hp->Prop,(∀Z' H',N Z' H'->∃m',m' < m/\W (i+1) m' Z' H')/\∀x H',J.yld i H x H'->g x Z H' λZ2 H2=>tb { D with nx:=N,ct:=N,bk:=D.nx } Z2 H2)
def Zl(fp:List Addr)(h:Heap):List (Addr×Obj):=fp.filterMap λb=>(h.get? b).map λo=>(b,o)
def yb{fp:List Addr}{h:Heap}{b:Addr}{o:Obj}(hb:b∈fp)(e:h.get? b=some o):(b,o)∈Zl fp h:=List.mem_filterMap.mpr ⟨b,hb,by rw[e];rfl⟩
theorem qc2{fp:List Addr}{h:Heap}{p:Addr×Obj}(hp:p∈Zl fp h):p.1∈fp/\h.get? p.1=some p.2:=by
 obtain⟨b,hb,e⟩:=List.mem_filterMap.mp hp
 cases q:h.get? b with
 |none=>rw[q]at e;cases e
 |some o=>rw[q]at e;have e':(b,o)=p:=Option.some.inj e;subst e';exact⟨hb,q⟩
def Inv.pinned{pins:PP}{Z:St}{H:Hp}{s:Shared}{fp:List Addr}(I:Inv X pins Z H s)(hf:∀b∈fp,qca X pins H b)(ho:∀b∈fp,∃o,s.heap.get? b=some o/\∀v,o.data≠.cell v):Inv X (pins++Zl fp s.heap) Z H s:=
 I.pins_of λp hp=>(List.mem_append.mp hp).elim (λz=>I.pin p (List.mem_append_right _ z)) λz=>by obtain⟨hb,e⟩:=qc2 z;obtain⟨f0,f1,f2,_⟩:=hf p.1 hb;obtain⟨o,e',d⟩:=ho p.1 hb;rw[e]at e';cases e';exact⟨e,f0,f1,f2,d⟩
def Inv.unpinned{pins pl:PP}{Z:St}{H:Hp}{s:Shared}(I:Inv X (pins++pl) Z H s):Inv X pins Z H s:=I.pins_of λp hp=>I.pin p (List.mem_append_right _ (List.mem_append_left _ hp))
def qjW{iter:Expr}{body:List Stmt}{wi:TI}{g:TG}{tb:TS}{pos:Pos}(hp:PassesOwn (model X.prog X.w) X.A X.env X.xe)(hc:X.calm=true)(hi:PI X tg iter wi)(hg:PG X tg g)(hb:PSs X body tb)
  (hs:∀x,foldedSetIterable iter X.env x=pure x:=by intro _;rfl):PS X (.For tg iter body [] pos) (qoZ wi g tb):=by
 intro pins s Z H D I h;refine wpAny_For (thn (hi pins s Z H _ I h) λv s1 h1=>thn h1 λitv s2 h2=>?_) hs;obtain⟨it,fp,tn,J,H2,e,I2,T,st2,f2,W,⟨m0,w0⟩,turn⟩:=h2;subst e;have stat:∀{H':Hp},(∀b∈fp,H' b=none)->∀b∈fp,qca X pins H' b:=λhn b hb=>{hn b hb,(f2 b hb).2};refine codeAny_forLoop_any (λn s'=>∃i Z' H',Inv X pins Z' H' s'/\tn i s'.heap/\(∀b∈fp,H' b=none)/\W i n Z' H') ?_ m0 ⟨0,Z,H2,I2,st2,λb hb=>(f2 b hb).1,w0⟩;rintro n s3 ⟨i,Z3,H3,I3,st3,fr3,w3⟩;rcases turn i n Z3 H3 w3 with ⟨stop,qn⟩|⟨go,N,hN,step⟩
 ·refine wpAny_passesOwn hp (thn (T.done X rfl rfl rfl hc i pins s3 Z3 H3 X.xe I3 (stat fr3) st3 stop) λr s4 hq1=>?_);obtain⟨hr,I4⟩:=hq1;subst hr;exact wpAny_execs_nil ⟨Z3,H3,I4,qn⟩
 ·refine wpAny_passesOwn hp (thn (T.item X rfl rfl rfl hc i pins s3 Z3 H3 X.xe I3 (stat fr3) st3 go) λr s4 hq1=>?_);obtain⟨u,hr,h4⟩:=hq1;subst hr;refine wpAny_passesOwn hp (thn h4 λ_ s5 hq1=>?_);obtain⟨x,H5,I5,r5,y5,st5,fr5⟩:=hq1;have I5':=I5.pinned (stat fr5) (T.obj _ _ st5);refine wpAny_passesOwn hp (thn (hg _ s5 Z3 H5 x u _ I5' r5 (step x H5 y5)) λ_ s6 hq1=>?_);obtain⟨Z6,H6,I6,q6⟩:=hq1;refine wpAny_passesOwn hp (thn (hb _ s6 Z6 H6 _ I6 q6) λf s7 q7=>?_)
  have again:∀{Z7:St} {H7:Hp},Inv X (pins++Zl fp s5.heap) Z7 H7 s7->N Z7 H7->∃m,m < n/\∃i Z' H',Inv X pins Z' H' s7/\tn i s7.heap/\(∀b∈fp,H' b=none)/\W i m Z' H':=λ{Z7 H7} I7 n7=>by obtain⟨m',hm,w7⟩:=hN Z7 H7 n7;refine{m',hm,i+1,Z7,H7,I7.unpinned,T.keep _ _ _ st5 λb hb o e=>(I7.pin (b,o) (List.mem_append_right _ (List.mem_append_right _ (yb hb e)))).1,λb hb=>?_,w7};obtain⟨o,e,d⟩:=T.obj _ _ st5 b hb;exact(I7.pin (b,o) (List.mem_append_right _ (List.mem_append_right _ (yb hb e)))).2.1
  cases f with
  |next=>obtain⟨Z7,H7,I7,n7⟩:=q7;exact again I7 n7
  |cont=>obtain⟨Z7,H7,I7,n7⟩:=q7;exact again I7 n7
  |brk=>obtain⟨Z7,H7,I7,q7⟩:=q7;exact⟨Z7,H7,I7.unpinned,q7⟩
  |ret v=>obtain⟨x7,Z7,H7,I7,r7,q7⟩:=q7;exact⟨x7,Z7,H7,I7.unpinned,r7,q7⟩
end
abbrev R2:=V->V->Hp->VK->Prop
def OpR(X:Cx)(f:Value->Value->Sem Value)(r:R2):Prop:=
 ∀(pins:PP) (s:Shared) (Z:St) (H:Hp) (x y:V) (v u:Value) (Q:VK),Inv X pins Z H s->qI x v->qI y u->r x y H Q->
  wpAny (model X.prog X.w) X.A (f v u) (EP X pins Z Q) X.xe s
def UnR(X:Cx)(f:Value->Sem Value)(r:V->Hp->VK->Prop):Prop:=
 ∀(pins:PP) (s:Shared) (Z:St) (H:Hp) (x:V) (v:Value) (Q:VK),Inv X pins Z H s->qI x v->r x H Q->
  wpAny (model X.prog X.w) X.A (f v) (EP X pins Z Q) X.xe s
def zc(X:Cx)(f:Value)(r:List V->Hp->VK->Prop):Prop:=
 ∀(pins:PP) (s:Shared) (Z:St) (H:Hp) (xs:List V) (us:List Value) (Q:VK),Inv X pins Z H s->qF xs us->r xs H Q->
  wpAny (model X.prog X.w) X.A (call f us) (EP X pins Z Q) X.xe s
def qo0(X:Cx)(r:V->Hp->(Bool->Hp->Prop)->Prop):Prop:=
 ∀(pins:PP) (s:Shared) (Z:St) (H:Hp) (x:V) (v:Value) (Q:Bool->Hp->Prop),Inv X pins Z H s->qI x v->r x H Q->
  wpAny (model X.prog X.w) X.A (truthy v) (TP X pins Z Q) X.xe s
def tOp(r:R2)(ta tb:TE):TE:=λZ H Q=>ta Z H λx H1=>tb Z H1 λy H2=>r x y H2 Q
def tUn(r:V->Hp->VK->Prop)(ta:TE):TE:=λZ H Q=>ta Z H λx H1=>r x H1 Q
def rI(C:Int->Int->Prop)(g:Int->Int->V):R2:=λx y H Q=>∃i j,x=.int i/\y=.int j/\C i j/\Q (g i j) H
def rI0(g:Int->Int->V):R2:=λx y H Q=>∃i j,x=.int i/\y=.int j/\Q (g i j) H
def rU(g:Int->V):V->Hp->VK->Prop:=λx H Q=>∃i,x=.int i/\Q (g i) H
section
variable{X:Cx}{a b c:Expr}{ta tb tc:TE}{pos:Pos}
def qnb(ha:PE X a ta)(hb:PE X b tb){pins:PP}{s:Shared}{Z:St}{H:Hp}{R:V->V->Hp->Prop}(I:Inv X pins Z H s)
  (h:ta Z H λx H1=>tb Z H1 λy H2=>R x y H2) {Q:PQ} {f:Value->Value->Sem Value}
  (hf:∀v u s2 x y H2,Inv X pins Z H2 s2->qI x v->qI y u->R x y H2->wpAny (model X.prog X.w) X.A (f v u) Q X.xe s2) :
  wpAny (model X.prog X.w) X.A (eval a X.env) (λv s₁=>wpAny (model X.prog X.w) X.A (eval b X.env) (λu s₂=>wpAny (model X.prog X.w) X.A (f v u) Q X.xe s₂) X.xe s₁) X.xe s:=by
 refine thn (ha pins s Z H _ I h) λv s1 hq1=>?_;obtain⟨x,H1,I1,r1,q1⟩:=hq1;refine thn (hb pins s1 Z H1 _ I1 q1) λu s2 hq1=>?_;obtain⟨y,H2,I2,r2,q2⟩:=hq1;exact hf v u s2 x y H2 I2 r1 r2 q2
def qnc{op:Operator}{r:R2}(ho:OpR X (binaryOp op) r)(ha:PE X a ta)(hb:PE X b tb):PE X (.BinOp a op b pos) (tOp r ta tb):=by intro pins s Z H Q I h;exact wpAny_BinOp (qnb ha hb I h λv u s2 x y H2 I2 rx ry q=>ho pins s2 Z H2 x y v u Q I2 rx ry q)
def qnd{op:UnaryOp}{r:V->Hp->VK->Prop}(ho:UnR X (unaryOp op) r)(ha:PE X a ta):PE X (.UnaryOp op a pos) (tUn r ta):=by intro pins s Z H Q I h;exact UnaryOp_ (thn (ha pins s Z H _ I h) λv s1 ⟨x,H1,I1,r1,q1⟩=>ho pins s1 Z H1 x v Q I1 r1 q1)
def opI{f:Value->Value->Sem Value}{C:Int->Int->Prop}{g:Int->Int->Int}
  (rule:∀(i j:Int) (t u:Tok) (s:Shared) (Q:PQ) (E:PQ),C i j->Q (.int (g i j) s.toks) { s with toks:=s.toks+1 }->wpAny (model X.prog X.w) X.A (f (.int i t) (.int j u)) Q E s) :
  OpR X f (rI C λi j=>.int (g i j)):=by
 intro pins s Z H x y v u Q I rx ry h;obtain⟨i,j,rfl,rfl,hc,q⟩:=h;obtain⟨t,rfl⟩:=rx;obtain⟨t',rfl⟩:=ry;exact rule i j t t' s _ _ hc ⟨.int (g i j),H,I.tok _,⟨_,rfl⟩,q⟩
def qoj{f:Value->Value->Sem Value}{g:Int->Int->Int}
  (rule:∀(i j:Int) (t u:Tok) (s:Shared) (Q:PQ) (E:PQ),Q (.int (g i j) s.toks) { s with toks:=s.toks+1 }->wpAny (model X.prog X.w) X.A (f (.int i t) (.int j u)) Q E s) :
  OpR X f (rI0 λi j=>.int (g i j)):=by
 intro pins s Z H x y v u Q I rx ry h;obtain⟨i,j,rfl,rfl,q⟩:=h;obtain⟨t,rfl⟩:=rx;obtain⟨t',rfl⟩:=ry;exact rule i j t t' s _ _ ⟨.int (g i j),H,I.tok _,⟨_,rfl⟩,q⟩
def qmL{f:Value->Value->Sem Value}{g:Int->Int->Bool}
  (rule:∀(i j:Int) (t u:Tok) (s:Shared) (Q:PQ) (E:PQ),Q (.bool (g i j)) s->wpAny (model X.prog X.w) X.A (f (.int i t) (.int j u)) Q E s) :
  OpR X f (rI0 λi j=>.bl (g i j)):=by
 intro pins s Z H x y v u Q I rx ry h;obtain⟨i,j,rfl,rfl,q⟩:=h;obtain⟨t,rfl⟩:=rx;obtain⟨t',rfl⟩:=ry;exact rule i j t t' s _ _ ⟨.bl (g i j),H,I,rfl,q⟩
def qo1(i j:Int):Prop:=0 < j/\j < 1073741824
def qo2(i j:Int):Prop:=0<=j/\j<=1000000/\i.natAbs < 2 ^ 64
def qmM(i j:Int):Prop:=(-(2 ^ 64) < i/\i < 2 ^ 64)\/(-(2 ^ 64) < j/\j < 2 ^ 64)
def qmM.ok{i j:Int}(h:qmM i j):IntMulOk i j:=by
 rcases h with ⟨h1,h2⟩|⟨h1,h2⟩
 ·exact .of_left (intBits_le_64 h1 h2)
 ·exact .of_right (intBits_le_64 h1 h2)
def qjX:OpR X (binaryOp .Add) (rI0 λi j=>.int (i+j)):=qoj λ_ _ _ _ _ _ _ q=>add_int q
def qjY:OpR X (binaryOp .Sub) (rI0 λi j=>.int (i - j)):=qoj λ_ _ _ _ _ _ _ q=>sub_int q
def qjZ:OpR X (binaryOp .Mult) (rI qmM λi j=>.int (i * j)):=opI λ_ _ _ _ _ _ _ hc q=>mul_int q hc.ok
def qhE:OpR X (binaryOp .FloorDiv) (rI qo1 λi j=>.int (i / j)):=opI λi j _ _ _ _ _ hc q=>by have h1:(0:Int) < j:=hc.1;have h2:j < 1073741824:=hc.2;exact floordiv_int (1:) (by rw[Int.fdiv_eq_ediv_of_nonneg i (1:)];exact q) (.inl (PyProof.noPylong_small (1:)))
def qj0:OpR X (binaryOp .Mod) (rI (λ_ j=>0 < j) λi j=>.int (i % j)):=opI λi j _ _ _ _ _ hc q=>by have h1:(0:Int) < j:=hc;exact mod_int' (1:) (by rw[Int.fmod_eq_emod_of_nonneg i (1:)];exact q)
def qj1:OpR X (binaryOp .Pow) (rI qo2 λi j=>.int (i ^ j.toNat)):=opI λ_ _ _ _ _ _ _ hc q=>pow_int_small hc.1 hc.2.1 hc.2.2 q
def unI{f:Value->Sem Value}{g:Int->Int}
  (rule:∀(i:Int) (t:Tok) (s:Shared) (Q:PQ) (E:PQ),Q (.int (g i) s.toks) { s with toks:=s.toks+1 }->wpAny (model X.prog X.w) X.A (f (.int i t)) Q E s) :
  UnR X f (rU λi=>.int (g i)):=by
 intro pins s Z H x v Q I rx h;obtain⟨i,rfl,q⟩:=h;obtain⟨t,rfl⟩:=rx;exact rule i t s _ _ ⟨.int (g i),H,I.tok _,⟨_,rfl⟩,q⟩
def qj2:UnR X (unaryOp .USub) (rU λi=>.int (-i)):=unI λ_ _ _ _ _ q=>neg_int q
def qbg{pins:PP}{Z:St}{H:Hp}{s:Shared}{Q:VK}{k k':Bool}(I:Inv X pins Z H s)(q:Q (.bl k) H)(e:k=k'):EP X pins Z Q (.bool k') s:=by subst e;exact{.bl k,H,I,rfl,q}
def qne:OpR X (compareOp .Lt) (rI0 λi j=>.bl (decide (i < j))):=qmL λ_ _ _ _ _ _ _ q=>lt_int q
def qnf:OpR X (compareOp .LtE) (rI0 λi j=>.bl (decide (i<=j))):=qmL λ_ _ _ _ _ _ _ q=>le_int q
def qng:OpR X (compareOp .Gt) (rI0 λi j=>.bl (decide (j < i))):=qmL λ_ _ _ _ _ _ _ q=>gt_int q
def qnh:OpR X (compareOp .GtE) (rI0 λi j=>.bl (decide (j<=i))):=qmL λ_ _ _ _ _ _ _ q=>ge_int q
def qc3:OpR X (compareOp .In) (λx y H Q=>∃i j,x=.str i/\y=.str j/\Q (.bl (!(Builtin.Str.occurrences j i 0 j.length 1).isEmpty)) H):=by intro pins s Z H x y v u Q I rx ry h;obtain⟨i,j,rfl,rfl,q⟩:=h;obtain⟨t,rfl⟩:=rx;obtain⟨t',rfl⟩:=ry;exact in_str (qbg I q rfl)
def qj3:OpR X (compareOp .Is) (λx y H Q=>y=.non/\Q (.bl (decide (x=.non))) H):=by
 intro pins s Z H x y v u Q I rx ry h;obtain⟨rfl,q⟩:=h;cases ry;refine is_none_gen (qbg I q ?_)
 cases x<;>first
  | (cases rx;rfl)
  | (obtain⟨t,rfl⟩:=rx;rfl)
def qhF:OpR X (compareOp .IsNot) (λx y H Q=>y=.non/\Q (.bl (!decide (x=.non))) H):=by
 intro pins s Z H x y v u Q I rx ry h;obtain⟨rfl,q⟩:=h;cases ry;refine isnot_none_gen (qbg I q ?_)
 cases x<;>first
  | (cases rx;rfl)
  | (obtain⟨t,rfl⟩:=rx;rfl)
def Zm:OpR X (compareOp .NotIn) (λx y H Q=>∃i j,x=.str i/\y=.str j/\Q (.bl (!(!(Builtin.Str.occurrences j i 0 j.length 1).isEmpty))) H):=by intro pins s Z H x y v u Q I rx ry h;obtain⟨i,j,rfl,rfl,q⟩:=h;obtain⟨t,rfl⟩:=rx;obtain⟨t',rfl⟩:=ry;exact notIn_str (qbg I q rfl)
def qhG{op:CmpOp}{r:R2}(ho:OpR X (compareOp op) r)(ha:PE X a ta)(hb:PE X b tb)(hm:behindInMarks op b=false):PE X (.Compare a [op] [b] pos) (tOp r ta tb):=by intro pins s Z H Q I h;exact wpAny_Compare1 (qnb ha hb I h λv u s2 x y H2 I2 rx ry q=>ho pins s2 Z H2 x y v u Q I2 rx ry q) hm
def qni(t:TE):TT:=λZ H Q=>t Z H λx H'=>∃k,x=.bl k/\Q k H'
def qhH{op:CmpOp}{r:R2}(ho:OpR X (compareOp op) r)(ha:PE X a ta)(hb:PE X b tb)(hm:behindInMarks op b=false):PT X (.Compare a [op] [b] pos) (qni (tOp r ta tb)):=by
 intro pins s Z H Q I h
 refine wpAny_isTrue_Compare1 (thn (ha pins s Z H _ I h) λv s1 ⟨x,H1,I1,r1,q1⟩=>thn (hb pins s1 Z H1 _ I1 q1) λu s2 ⟨y,H2,I2,r2,q2⟩=>thn (ho pins s2 Z H2 x y v u _ I2 r1 r2 q2) λc s3 ⟨z,H3,I3,r3,k,e,q3⟩=>?_) hm
 subst e;cases r3;exact wpAny_truthy_bool ⟨H3,I3,q3⟩
def qmN(K:Frag)(x:V)(H:Hp)(k:Bool):Prop:=
 match x with
 |.non=>k=false
 |.bl b=>k=b
 |.int i=>k=(i != 0)
 |.str y=>y.length<=sizeLine/\k=((y.length:Int) != 0)
 |.byt y=>y.size<=sizeLine/\k=((y.size:Int) != 0)
 |.ref p=>(∃xs,SqL K H p xs/\k = !xs.isEmpty)\/(∃xs,SqT K H p xs/\k = !xs.isEmpty)\/∃kvs,H p=some (.dK kvs)/\k = !kvs.isEmpty
 |_=>False
def qcd{U:Type}{kvs:List (U×V)}{vs:List (U×Value)}(r:KV kvs vs):(!vs.isEmpty) = !kvs.isEmpty:=by cases r<;>rfl
def YX{xs:List V}{its:List Value}(r:qF xs its):(!its.toArray.isEmpty) = !xs.isEmpty:=by cases r<;>simp
def JT:(sizeLine:Nat) < 2 ^ 63:=by rw[sizeLine_eq];decide
theorem qj4:qo0 X (λx H Q=>∃k,qmN X.K x H k/\Q k H):=by
 intro pins s Z H x v Q I rx h;obtain⟨k,e,q⟩:=h;have hl:=JT;have hs:sizeLine=16777216:=sizeLine_eq
 cases x with
 |non=>cases rx;have e':k=false:=e;subst e';exact truthy_none ⟨H,I,q⟩
 |bl b=>cases rx;have e':k=b:=e;subst e';exact wpAny_truthy_bool ⟨H,I,q⟩
 |int i=>obtain⟨t,rfl⟩:=rx;have e':k=(i != 0):=e;subst e';exact PySem.P.truthy_int ⟨H,I,q⟩
 |str y=>obtain⟨t,rfl⟩:=rx;obtain⟨hy,e'⟩:y.length<=sizeLine/\k=((y.length:Int) != 0):=e;subst e';exact PySem.P.truthy_str (1:) ⟨H,I.tok _,q⟩
 |byt y=>obtain⟨t,rfl⟩:=rx;obtain⟨hy,e'⟩:y.size<=sizeLine/\k=((y.size:Int) != 0):=e;subst e';exact PySem.W.truthy_bytes (1:) ⟨H,I.tok _,q⟩
 |ref p=>
  cases rx;have e':(∃xs,SqL X.K H p xs/\k = !xs.isEmpty)\/(∃xs,SqT X.K H p xs/\k = !xs.isEmpty)\/∃kvs,H p=some (.dK kvs)/\k = !kvs.isEmpty:=e;rcases e' with ⟨xs,hx,e'⟩|⟨xs,hx,e'⟩|⟨kvs,hx,e'⟩
  ·subst e';obtain⟨its,r,pl,hz⟩:=I.list hx;have hlen:=r.length;exact wpAny_truthy_list pl.isList (by simp![List.size_toArray];lia) ⟨H,I.tok _,by rw[YX r];exact q⟩
  ·subst e';obtain⟨its,r,pl,hz⟩:=I.tuple hx;have hlen:=r.length;exact truthy_tuple pl (by simp![List.size_toArray];lia) ⟨H,I.tok _,by rw[YX r];exact q⟩
  ·subst e';obtain⟨hz,hS,vs,r,m⟩:kvs.length<=sizeLine/\(p == sysModules)=false/\∃vs,KV kvs vs/\s.heap.DictOf (qaA X.prog X.w) p vs:=I.hok p _ hx;have hlen:kvs.length=vs.length:=Paired.length r;exact wpAny_truthy_dict hS m (1:) ⟨H,I.tok _,by rw[qcd r];exact q⟩
 |_=>exact(show False from e).elim
def qe7(ha:PE X a ta)(he:∀whole,isTrue a X.env whole=(do let v<-whole;standAt a.pos;holding [v] (truthy v))) :
  PT X a (λZ H Q=>ta Z H λx H'=>∃k,qmN X.K x H' k/\Q k H'):=by
 intro pins s Z H Q I h;exact isTrue_plain (thn (ha pins s Z H _ I h) λv s1 ⟨x,H1,I1,r1,q1⟩=>qj4 pins s1 Z H1 x v Q I1 r1 q1) (he _)
def qce:OpR X (binaryOp .Add) (λx y H Q=>∃i j,x=.str i/\y=.str j/\i.length+j.length<=sizeLine/\Q (.str (i++j)) H):=by intro pins s Z H x y v u Q I rx ry h;obtain⟨i,j,rfl,rfl,hz,q⟩:=h;obtain⟨t,rfl⟩:=rx;obtain⟨t',rfl⟩:=ry;exact add_str (λt' tk=>{.str (i++j),H,I.tok _,{_,rfl},q}) hz
theorem Qr{x:V}{us:List Value}(r:qF [x] us):∃u,us=[u]/\qI x u:=by
 cases r with
 |cons r1 r2=>cases r2;exact{_,rfl,r1}
theorem Qs{x y:V}{us:List Value}(r:qF [x,y] us):∃u w',us=[u,w']/\qI x u/\qI y w':=by
 cases r with
 |cons r1 r2=>
  cases r2 with
  |cons r3 r4=>cases r4;exact{_,_,rfl,r1,r3}
def qc4(hc:X.calm=true):zc X (.builtin "max") (λxs H Q=>∃i j,xs=[.int i,.int j]/\Q (.int (if j > i then j else i)) H):=by
 intro pins s Z H xs us Q I r h;obtain⟨i,j,rfl,q⟩:=h;obtain⟨u,w',rfl,⟨t,rfl⟩,⟨t',rfl⟩⟩:=Qs r;refine max_two_ints (I.ok.hd hc) λh' tk k=>{_,H,I.kept k,?_,q}
 by_cases hj:j > i
 ·rw[if_pos hj,if_pos hj];exact{_,rfl}
 ·rw[if_neg hj,if_neg hj];exact{_,rfl}
def qc5(hc:X.calm=true):zc X (.builtin "min") (λxs H Q=>∃i j,xs=[.int i,.int j]/\Q (.int (if j < i then j else i)) H):=by
 intro pins s Z H xs us Q I r h;obtain⟨i,j,rfl,q⟩:=h;obtain⟨u,w',rfl,⟨t,rfl⟩,⟨t',rfl⟩⟩:=Qs r;refine min_two_ints (I.ok.hd hc) λh' tk k=>{_,H,I.kept k,?_,q}
 by_cases hj:j < i
 ·rw[if_pos hj,if_pos hj];exact{_,rfl}
 ·rw[if_neg hj,if_neg hj];exact{_,rfl}
end
structure ObjM(h:Heap)(x dx C:Addr)(mA:PR):Prop where
 obj:h.get? x=some (PySem.W.instObj C dx)
 ns:h.Ns1 dx mA
 ne:dx≠x
def JU{h:Heap}{dx:Addr}{mA:PR}(n:h.Ns1 dx mA):∃od,h.get? dx=some od/\∀name,PySem.W.lookIn name od=some (mA name):=by
 obtain⟨o,es,ep,ho,hd,hk,_,hm⟩:=n;refine{o,ho,λname=>?_};have e:=hm name;unfold nsFind findBy at e;rw[<-Array.find?_toList]at e;unfold PySem.W.lookIn;rw[hd];dsimp only;split
 ·rename_i y q;rw[q]at e;exact congrArg some e
 ·rename_i q;rw[q]at e
  have a:es.toList.any (·.refKey)=false:=by rw[List.any_eq_false];intro y hy;obtain⟨z,t,hkey⟩:=hk y (Array.mem_toList_iff.mp hy);simp[DictEntry.refKey,hkey]
  have a':¬ es.toList.any (·.refKey)=true:=by rw[a];exact Bool.false_ne_true
  rw[if_neg a'];exact congrArg some e
def ObjM.look{h:Heap}{x dx C:Addr}{mA:PR}(I:ObjM h x dx C mA):∃od,PySem.W.InstAt h x (PySem.W.instObj C dx) C (some od)/\∀name,PySem.W.lookIn name od=some (mA name):=
 let ⟨od,ho,hl⟩:=JU I.ns
 ⟨od,⟨I.obj,rfl,rfl,ho⟩,hl⟩
section
variable{prog:Program}{w:World}{A:Around}{E:PQ}{s:Shared}{K:Frag}{x dx C f:Addr}{mA:PR}{name:Str}{v:Value}
def qhI{expr:Bool}{Q:PQ}(X:K.In s.heap)(I:ObjM s.heap x dx C mA)(hg:PySem.W.plainGet K C name=true)(hh:PySem.W.hasDictIn K C=true)
  (ha:PySem.W.findIn K (.ref C) name=some none) (hv:mA name=some v) (hv':PySem.W.handedIn v=true) (h:Q v { s with toks:=s.toks+1 }) :
  wpAny (model prog w) A (getAttr (.ref x) name expr) Q E s:=by
 obtain⟨od,J,hl⟩:=I.look;exact PySem.W.get_value X J (PySem.W.plainGet_of hg).1 (PySem.W.findObj_own hh ha rfl (by rw[hl,hv])) hv' h
def qe8{pl:Sem Bool}{Q:Value×List Value->Shared->Prop}(X:K.In s.heap)(I:ObjM s.heap x dx C mA)(hg:PySem.W.plainGet K C name=true)
  (hf:PySem.W.findIn K (.ref C) name=some (some (.ref f))) (ht:PySem.W.isFn K (.ref f)=true) (hv:mA name=none) (h:Q (.ref f,[.ref x]) s) :
  wpAny (model prog w) A (getMethod (.ref x) name pl) Q E s:=by
 obtain⟨od,J,hl⟩:=I.look;exact PySem.W.method_fn X J (PySem.W.plainGet_of hg).1 (PySem.W.plainGet_of hg).2 hf (beq_iff_eq.mp ht) (by show(PySem.W.lookIn name od).map (·.isSome)=some false;rw[hl,hv];rfl) h
def qhJ{ns:List Str}{Q:Unit->Shared->Prop}(X:K.In s.heap)(I:ObjM s.heap x dx C mA)
  (hs:PySem.W.findIn K (.ref C) "__setattr__" = some (some (.builtin "object.__setattr__"))) (hp:PySem.W.plainOver K C=true) (ht:PySem.W.takerIn K C name=some none) (hh:PySem.W.hasDictIn K C=true)
  (hw:PySem.Within mA ns) (hsz:ns.length<=sizeLine)
  (h:∀h',ObjM h' x dx C (λy=>if y=name then some v else mA y)->Heap.SameBut dx s.heap h'->Q () { s with heap:=h',toks:=s.toks+2 }) :
  wpAny (model prog w) A (setAttr (.ref x) name v) Q E s:=by
 obtain⟨od,J,hl⟩:=I.look;refine PySem.W.set_plain X J hs (PySem.W.osa_open (s:={ s with toks:=s.toks+1 }) (r:=none) X J hp ht λb=>?_);obtain⟨cd,hc,hd'⟩:=PySem.W.any_some hh;have hx:s.heap.get? x=some ⟨.ref C,some dx,.plain,#[]⟩:=I.obj;refine wpAny_bind (wpAny_pure (wpAny_bind (wpAny_bind (wpAny_loadPart hx (wpAny_bind (PySem.W.Looks.here (s:={ s with toks:=s.toks+1 }) (PySem.W.looks_clsIn X hc) ?_))))));rw[hd'];refine wpAny_pure (a:=some dx) (wpAny_bind (wpAny_pure (wpAny_bind ?_)));refine wpAny_nsSet1 (s:={ s with toks:=s.toks+1 }) I.ns λh' hn2 hs2=>?_;obtain⟨oD,esD,epD,hoD,hdD,hcD⟩:=hn2.count (PySem.Within.cons name v hw);refine wpAny_bind (wpAny_lookBehind hoD (by rw[hdD];exact pastItsLine_dict (Nat.le_trans hcD (by rw[List.length_cons];lia))) ?_);exact wpAny_pure (h _ ⟨(hs2.2 _ (Ne.symm I.ne)).trans I.obj,hn2,I.ne⟩ hs2)
def qe9{R:Result->Shared->Prop}{vs:List Value}{kw:List (Str×Value)}(X:K.In s.heap)(hm:PySem.W.makesIn K C=true)
  (hi:PySem.W.findIn K (.ref C) "__init__" = some (some (.ref f))) (hf:PySem.W.typeIn K (.ref f)=some (.type "function"))
  (h:codeAny (model prog w) (A.under (.builtin "type.__call__" ⟨.ref C::vs,kw⟩)) (.call (.ref f) ⟨.ref (s.heap.objs.size+1)::vs,kw⟩) (PySem.W.InitBack (s.heap.objs.size+1) R)
   { s with heap:=(s.heap.push PySem.W.emptyDict).push (PySem.W.instObj C s.heap.objs.size) }) :
  codeAny (model prog w) A (.call (.ref C) ⟨vs,kw⟩) R s:=by
 obtain⟨hh,g,d,t,os⟩:=s;exact PySem.W.make_core (PySem.W.makes_of X hm) (PySem.W.looks_findIn X hi) (λself=>PySem.W.bind_fn X self hf) (.inl rfl) h
end
def JV(f:Str)(v:V):List (Str×V)->List (Str×V)
 |[]=>[(f,v)]
 | (g,x)::r=>if g=f then (g,v)::r else (g,x)::JV f v r
theorem yt(f g:Str)(v:V):∀fs:List (Str×V),(JV f v fs).lookup g=if g=f then some v else fs.lookup g
 |[]=>by
  show List.lookup g [(f,v)]=_
  by_cases h:g=f
  ·have hb:(g == f)=true:=beq_iff_eq.mpr h;simp![List.lookup,hb,if_pos h]
  ·have hb:(g == f)=false:=beq_eq_false_iff_ne.mpr h;simp![List.lookup,hb,if_neg h]
 | (k,x)::r=>by
  have ih:=yt f g v r;rw[show JV f v ((k,x)::r)=(if k=f then (k,v)::r else (k,x)::JV f v r) from rfl]
  by_cases hk:k=f
  ·rw[if_pos hk]
   by_cases h:g=k
   ·have hb:(g == k)=true:=beq_iff_eq.mpr h;simp![List.lookup,hb,if_pos (h.trans hk)]
   ·have hb:(g == k)=false:=beq_eq_false_iff_ne.mpr h;simp![List.lookup,hb,if_neg (λe:g=f=>h (e.trans hk.symm))]
  ·rw[if_neg hk]
   by_cases h:g=k
   ·have hb:(g == k)=true:=beq_iff_eq.mpr h;simp![List.lookup,hb,if_neg (λe:g=f=>hk (h.symm.trans e))]
   ·have hb:(g == k)=false:=beq_eq_false_iff_ne.mpr h;simp![List.lookup,hb];exact ih
theorem jN(f:Str)(v:V):∀fs:List (Str×V),f∈(JV f v fs).map (·.1)/\∀g,g∈fs.map (·.1)->g∈(JV f v fs).map (·.1)
 |[]=>{by simp[JV],λg h=>by simp at h}
 | (k,x)::r=>by
  obtain⟨i1,i2⟩:=jN f v r;rw[show JV f v ((k,x)::r)=(if k=f then (k,v)::r else (k,x)::JV f v r) from rfl]
  by_cases hk:k=f
  ·rw[if_pos hk];subst hk;exact{by simp,λg h=>(-h:)}
  ·rw[if_neg hk];refine{?_,λg h=>?_}
   ·rw[List.map_cons];exact List.mem_cons_of_mem _ i1
   ·rw[List.map_cons]at h ⊢;rcases List.mem_cons.mp h with e|e
    ·exact List.mem_cons.mpr (.inl e)
    ·exact List.mem_cons_of_mem _ (i2 g e)
theorem JW(f:Str)(v:V):∀fs:List (Str×V),(JV f v fs).length<=fs.length+1
 |[]=>by simp[JV]
 | (k,x)::r=>by
  have ih:=JW f v r;rw[show JV f v ((k,x)::r)=(if k=f then (k,v)::r else (k,x)::JV f v r) from rfl]
  by_cases hk:k=f
  ·rw[if_pos hk,List.length_cons,List.length_cons];lia
  ·rw[if_neg hk,List.length_cons,List.length_cons];lia
theorem qbb.some_of{v:V}{o:Option Value}(r:qbb (some v) o):∃u,o=some u/\qI v u:=by
 cases o with
 |none=>exact(show False from r).elim
 |some u=>exact⟨u,rfl,r⟩
theorem qbb.none_of{o:Option Value}(r:qbb none o):o=none:=by
 cases o with
 |none=>rfl
 |some u=>exact(show False from r).elim
theorem qc6{v:V}{u:Value}(r:qI v u):PySem.W.handedIn u=true:=by
 cases v with
 |non=>cases (show u=Value.none from r);rfl
 |bl b=>cases (show u=Value.bool b from r);rfl
 |int i=>obtain⟨t,e⟩:=(show∃t,u=Value.int i t from r);cases e;rfl
 |str x=>obtain⟨t,e⟩:=(show∃t,u=Value.str x t from r);cases e;rfl
 |byt b=>obtain⟨t,e⟩:=(show∃t,u=Value.bytes b t from r);cases e;rfl
 |flt b=>obtain⟨t,e⟩:=(show∃t,u=Value.float b t from r);cases e;rfl
 |ref a=>cases (show u=Value.ref a from r);rfl
 |ty n=>cases (show u=Value.type n from r);rfl
section
variable{P:Program}{w:World}{H H':Hp}{h h':Heap}{a C dx:Addr}{fs fs':List (Str×V)}
def Qt(hok:HOk P w H h)(e:H a=some (.ins C dx fs)):∃mA,ObjM h a dx C mA/\(∀f,qbb (fs.lookup f) (mA f))/\PySem.Within mA (fs.map (·.1))/\fs.length<=1000/\H dx=some (.own a):=by obtain⟨d,z,ne,ob,mA,n,r,q⟩:=(show qQ P w H h a (.ins C dx fs) from hok a _ e);exact{mA,⟨ob,n,ne⟩,r,q,z,d}
end
structure Cls(K:Frag)(C:Addr):Prop where
 pg:PySem.W.plainGet K C Str.empty=true
 hd:PySem.W.hasDictIn K C=true
 po:PySem.W.plainOver K C=true
 sa:PySem.W.findIn K (.ref C) "__setattr__" = some (some (.builtin "object.__setattr__"))
def Cls.get{K:Frag}{C:Addr}(c:Cls K C)(f:Str):PySem.W.plainGet K C f=true:=c.pg
def zd(K:Frag)(C:Addr)(f:Str):Prop:=PySem.W.findIn K (.ref C) f=some none
def zd.taker{K:Frag}{C:Addr}{f:Str}(n:zd K C f):PySem.W.takerIn K C f=some none:=by unfold PySem.W.takerIn;rw[show PySem.W.findIn K (.ref C) f=some none from n];rfl
structure Meth(K:Frag)(C:Addr)(m:Str)(f:Addr):Prop where
 at_:PySem.W.findIn K (.ref C) m=some (some (.ref f))
 fn:PySem.W.isFn K (.ref f)=true
 kp:PySem.W.keepIn K (.ref f)=true
section
variable{X:Cx}{pins:PP}{Z:St}{H:Hp}{s:Shared}{a C dx:Addr}{fs:List (Str×V)}{f:Str}{v:V}{A:Around}{E:PQ}
def qcf{b:Bool}{Q:PQ}(I:Inv X pins Z H s)(e:H a=some (.ins C dx fs))(c:Cls X.K C)(n:zd X.K C f)(l:fs.lookup f=some v)
  (h:∀u s',Inv X pins Z H s'->qI v u->Q u s'):wpAny (model X.prog X.w) A (getAttr (.ref a) f b) Q E s:=by
 obtain⟨mA,O,r,_,_,_⟩:=Qt I.hok e;obtain⟨u,hu,ru⟩:=qbb.some_of (v:=v) (o:=mA f) (by rw[<-l];exact r f);exact qhI I.kIn O (c.get f) c.hd n hu (qc6 ru) (h u _ (I.tok _) ru)
def YY{m:Str}{g:Addr}{pl:Sem Bool}{Q:Value×List Value->Shared->Prop}(I:Inv X pins Z H s)(e:H a=some (.ins C dx fs))(c:Cls X.K C)(k:Meth X.K C m g)(l:fs.lookup m=none)
  (h:Q (.ref g,[.ref a]) s):wpAny (model X.prog X.w) A (getMethod (.ref a) m pl) Q E s:=by
 obtain⟨mA,O,r,_,_,_⟩:=Qt I.hok e;have hn:mA m=none:=qbb.none_of (by rw[<-l];exact r m);exact qe8 I.kIn O (c.get m) k.at_ k.fn hn h
def qcg{y:V}{u:Value}{Q:Unit->Shared->Prop}(I:Inv X pins Z H s)(e:H a=some (.ins C dx fs))(c:Cls X.K C)(n:zd X.K C f)(hl:fs.length < 1000)(ry:qI y u)
  (h:∀s',Inv X pins Z (upd H a (.ins C dx (JV f y fs))) s'->Q () s'):wpAny (model X.prog X.w) A (setAttr (.ref a) f u) Q E s:=by
 obtain⟨mA,O,r,wi,_,ho⟩:=Qt I.hok e;have hz:(fs.map (·.1)).length<=sizeLine:=by rw[List.length_map,sizeLine_eq];lia
 refine qhJ I.kIn O c.sa c.po n.taker c.hd wi hz λh' O' sb=>h _ ?_;have hd:∃o,h'.get? dx=some o:=let ⟨o,_,_,e',_⟩:=O'.ns;⟨o,e'⟩;refine I.write (x:=a) (e:=dx) (by rw[e];exact True.intro) (.inr ho) (λb q hb z=>(sb.2 b hb).trans z) hd ?_;refine{by rw[qe O.ne];exact ho,?_,O.ne,O'.obj,_,O'.ns,λg=>?_,λg hg=>?_}
 ·have:=JW f y fs;lia
 ·show qbb ((JV f y fs).lookup g) (if g=f then some u else mA g);rw[yt]
  by_cases q:g=f
  ·rw[if_pos q,if_pos q];exact ry
  ·rw[if_neg q,if_neg q];exact r g
 ·by_cases q:g=f
  ·rw[q];exact(jN f y fs).1
  ·refine(jN f y fs).2 g (wi g λz=>hg ?_);show(if g=f then some u else mA g)=none;rw[if_neg q];exact z
def Inv.made(I:Inv X pins Z H s):Inv X pins Z (upd (upd H s.heap.objs.size (.own (s.heap.objs.size+1))) (s.heap.objs.size+1) (.ins C s.heap.objs.size []))
  { s with heap:=(s.heap.push PySem.W.emptyDict).push (PySem.W.instObj C s.heap.objs.size) }:=by
 have e1:(s.heap.push PySem.W.emptyDict).get? s.heap.objs.size=some PySem.W.emptyDict:=Heap.get?_push_size s.heap rfl
 have e2:((s.heap.push PySem.W.emptyDict).push (PySem.W.instObj C s.heap.objs.size)).get? (s.heap.objs.size+1)=some (PySem.W.instObj C s.heap.objs.size):=by
  have:=Heap.get?_push_size (s.heap.push PySem.W.emptyDict) (o:=PySem.W.instObj C s.heap.objs.size) rfl
  rwa[Heap.size_push]at this
 have e3:(s.heap.push PySem.W.emptyDict).Ns s.heap.objs.size (λ_=>none):={PySem.W.emptyDict,#[],_,e1,rfl,(λe he=>absurd he (5:)),λ_=>rfl};have I1:=I.laid (a:=s.heap.objs.size) (o:=.own (s.heap.objs.size+1)) (h':=s.heap.push PySem.W.emptyDict) (t':=s.toks) (λb u q=>Heap.get?_push_of_some _ q) (Nat.le_refl _) ⟨_,e1⟩;refine I1.laid (a:=s.heap.objs.size+1) (o:=.ins C s.heap.objs.size []) (t':=s.toks) (λb u q=>Heap.get?_push_of_some _ q) (Nat.le_of_eq (Heap.size_push _ _)) ?_;have ne:s.heap.objs.size≠s.heap.objs.size+1:=Nat.ne_of_lt (Nat.lt_succ_self _);refine{by rw[qe ne,qf],Nat.zero_le _,ne,e2,λ_=>none,(Heap.Ns1.of_empty e3).at λo q=>Heap.get?_push_of_some _ q,λ_=>True.intro,λy hy=>absurd rfl hy}
def qc7{prog:Program}{w:World}{env:Env}{e:Expr}{f:Str}{pos:Pos}{s:Shared}{Q:PQ}(hb:attributeBase e f env (eval e env)=eval e env)
  (h:wpAny (model prog w) A (eval e env) (λo s₁=>wpAny (model prog w) A (getAttr o f true) Q E s₁) E s):wpAny (model prog w) A (eval (.Attribute e f pos) env) Q E s:=
 Attribute_any_ h (by rw[arm_eval_Attribute,hb])
end
def qo3(K:Frag)(ta:TE)(f:Str):TE:=λZ H Q=>ta Z H λx H1=>∃a C dx fs v,x=.ref a/\H1 a=some (.ins C dx fs)/\Cls K C/\zd K C f/\fs.lookup f=some v/\Q v H1
def qo4(K:Frag)(ta tv:TE)(f:Str):TS:=λD Z H=>tv Z H λy H1=>ta Z H1 λx H2=>∃a C dx fs,x=.ref a/\H2 a=some (.ins C dx fs)/\Cls K C/\zd K C f/\fs.length < 1000/\
 D.nx Z (upd H2 a (.ins C dx (JV f y fs)))
section
variable{X:Cx}{o e value:Expr}{f:Str}{pos pos' tpos:Pos}{ta tv:TE}
def qj5(he:PE X e ta)(hb:attributeBase e f X.env (eval e X.env)=eval e X.env):PE X (.Attribute e f pos) (qo3 X.K ta f):=by intro pins s Z H Q I h;refine qc7 hb (thn (he pins s Z H _ I h) λu s1 hq1=>?_);obtain⟨x,H1,I1,rx,a,C,dx,fs,v,ex,ea,c,n,l,q⟩:=hq1;subst ex;obtain rfl:u=Value.ref a:=rx;exact qcf I1 ea c n l λu' s2 I2 ru=>⟨v,H1,I2,ru,q⟩
def Zo(ha:PE X o ta)(hv:PE X value tv)(hs:swapsWith value (some (.Attribute o f pos')) pos.line X.env=pure false):PS X (.Assign [.Attribute o f pos'] value pos) (qo4 X.K ta tv f):=by intro pins s Z H D I h;refine plainObj_wpAny_Assign_Attribute (thn (hv pins s Z H _ I h) λu s1 ⟨y,H1,I1,ry,q⟩=>thn (ha pins s1 Z H1 _ I1 q) λov s2 ⟨x,H2,I2,rx,a,C,dx,fs,ex,ea,c,n,l,q2⟩=>?_) hs;subst ex;obtain rfl:ov=Value.ref a:=rx;exact qcg I2 ea c n l ry λs3 I3=>{Z,_,I3,q2}
end
section
variable{X:Cx}{pins:PP}{Z:St}{H:Hp}{s:Shared}{A:Around}{E:PQ}{Q:PQ}{c:Value}{b:Bool}
inductive TyOf(K:Frag)(H:Hp):V->Value->Prop where
 | non:TyOf K H .non (.type "NoneType")
 | bl (x:Bool):TyOf K H (.bl x) (.type "bool")
 | int (i:Int):TyOf K H (.int i) (.type "int")
 | str (x:Str):TyOf K H (.str x) (.type "str")
 | flt (x:UInt64):TyOf K H (.flt x) (.type "float")
 | lst {a:Addr} {xs:List V} (e:H a=some (.lst xs)):TyOf K H (.ref a) (.type "list")
 | frz {a:Addr} {o:Obj} {xs:List V} (e:H a=some (.frz o (.lst xs))):TyOf K H (.ref a) (.type "list")
 | tup {a:Addr} {xs:List V} (e:H a=some (.tup xs)):TyOf K H (.ref a) (.type "tuple")
 | dK {a:Addr} {kvs:List (Key×V)} (e:H a=some (.dK kvs)):TyOf K H (.ref a) (.type "dict")
 | dT {a:Addr} {kvs:List (List Key×V)} (e:H a=some (.dT kvs)):TyOf K H (.ref a) (.type "dict")
 | ins {a C dx:Addr} {fs:List (Str×V)} (e:H a=some (.ins C dx fs)) (cl:Cls K C) (ha:PySem.W.findIn K (.ref C) "__class__" = some (some (.builtin "object.__class__")))
   (hn:PySem.W.specialIn K (.builtin "object.__class__") "__get__" = some (some (.builtin "getset_descriptor.__get__"))) (htk:PySem.W.takesIn K (.builtin "object.__class__")=some true)
   (hm:PySem.W.mroIn K C (.type "object")=some true):TyOf K H (.ref a) (.ref C)
theorem Zp{x:V}{u t:Value}(I:Inv X pins Z H s)(rx:qI x u)(ty:TyOf X.K H x t)(e:PySem.W.kitOne X.K t c=some b)(h:∀tk,Q (.bool b) { s with toks:=tk }) :
  wpAny (model X.prog X.w) A (call (.builtin "isinstance") [u,c]) Q E s:=by
 cases ty with
 |non=>cases (show u=Value.none from rx);exact PySem.W.kia_one PySem.W.kitx_none I.kIn True.intro e (λz=>nomatch z) h
 |bl y=>cases (show u=Value.bool y from rx);exact PySem.W.kia_one PySem.W.kitx_bool I.kIn True.intro e (λz=>nomatch z) h
 |int i=>obtain⟨t,q⟩:=(show∃t,u=Value.int i t from rx);cases q;exact PySem.W.kia_one PySem.W.kitx_int I.kIn True.intro e (λz=>nomatch z) h
 |str y=>obtain⟨t,q⟩:=(show∃t,u=Value.str y t from rx);cases q;exact PySem.W.kia_one PySem.W.kitx_str I.kIn True.intro e (λz=>nomatch z) h
 |flt y=>obtain⟨t,q⟩:=(show∃t,u=Value.float y t from rx);cases q;exact PySem.W.kia_one PySem.W.kitx_float I.kIn True.intro e (λz=>nomatch z) h
 |@lst a xs ea=>
  cases (show u=Value.ref a from rx)
  obtain⟨_,_,n,_,h1⟩:=(show qQ X.prog X.w H s.heap a (.lst xs) from I.hok a _ ea);exact PySem.W.kia_one PySem.W.kitx_list I.kIn ⟨_,h1,rfl⟩ e (λz=>nomatch z) h
 |@frz a ob xs ea=>
  cases (show u=Value.ref a from rx)
  obtain⟨_,_,_,n,_,h1⟩:=(show qQ X.prog X.w H s.heap a (.frz ob (.lst xs)) from I.hok a _ ea);exact PySem.W.kia_one PySem.W.kitx_list I.kIn ⟨_,h1,rfl⟩ e (λz=>nomatch z) h
 |@tup a xs ea=>
  cases (show u=Value.ref a from rx)
  obtain⟨_,_,_,p⟩:=(show qQ X.prog X.w H s.heap a (.tup xs) from I.hok a _ ea);obtain⟨o,h1,h2,_⟩:=p;exact PySem.W.kia_one PySem.W.kitx_tuple I.kIn ⟨o,h1,h2⟩ e (λz=>nomatch z) h
 |@dK a kvs ea=>
  cases (show u=Value.ref a from rx)
  obtain⟨_,_,vs,_,p⟩:=(show qQ X.prog X.w H s.heap a (.dK kvs) from I.hok a _ ea);obtain⟨o,es,ep,h1,h2,_⟩:=p;exact PySem.W.kia_one PySem.W.kitx_dict I.kIn ⟨o,h1,h2.1⟩ e (λz=>nomatch z) h
 |@dT a kvs ea=>
  cases (show u=Value.ref a from rx)
  obtain⟨_,_,xs,_,o,es,ep,h1,h2,_⟩:=(show qQ X.prog X.w H s.heap a (.dT kvs) from I.hok a _ ea);exact PySem.W.kia_one PySem.W.kitx_dict I.kIn ⟨o,h1,h2.1⟩ e (λz=>nomatch z) h
 |@ins a C dx fs ea cl ha hn htk hm=>
  cases (show u=Value.ref a from rx)
  obtain⟨mA,O,_⟩:=Qt I.hok ea;obtain⟨od,J,_⟩:=O.look;exact PySem.W.kia_one (PySem.W.kitx_own (cl.get _) cl.hd ha hn htk hm) I.kIn J e (λz=>nomatch z) h
end
structure Room(k:Nat)(A:Around):Prop where
 hd:A.handled=none
 dp:A.depth+3 * k+5 < recursionLimit
 un:A.units+16 * k+200 < cLine
def Room.deeper{k:Nat}{A:Around}(r:Room (k+1) A)(env:Env):Room k (A.deeper env):=
 ⟨r.hd,by have:=r.dp;show A.depth+1+3 * k+5 < _;lia,by have:=r.un;show A.units+3+16 * k+200 < _;lia⟩
def qch{A:Around}{C:Addr}{us:List Value}{kw:List (Str×Value)}:(A.under (.builtin "type.__call__" ⟨.ref C::us,kw⟩)).depth=A.depth+1:=by first|rfl|simp[Around.under,Code.weight,Code.isCreation,Code.isGuard,Code.isCaller,Code.frames,Code.isFrame,guardIds]
def qci{A:Around}{C:Addr}{us:List Value}{kw:List (Str×Value)}:(A.under (.builtin "type.__call__" ⟨.ref C::us,kw⟩)).units=A.units+1:=by first|rfl|simp[Around.under,Code.cUnits,Code.frames,Code.isFrame]
def Room.make{k:Nat}{A:Around}(r:Room (k+1) A)(C:Addr)(us:List Value)(kw:List (Str×Value)):Room k (A.under (.builtin "type.__call__" ⟨.ref C::us,kw⟩)):=
 ⟨r.hd,by have:=r.dp;rw[qch];lia,by have:=r.un;rw[qci];lia⟩
def Room.depth{k:Nat}{A:Around}(r:Room k A):A.depth < recursionLimit:=by have:=r.dp;lia
def qjA:TA:=λ_ H Q=>Q [] H
def qfa(ta:TE)(tr:TA):TA:=λZ H Q=>ta Z H λx H1=>tr Z H1 λxs H2=>Q (x::xs) H2
section
variable{X:Cx}{e:Expr}{es:List Expr}{te:TE}{t:TA}{pos:Pos}
def qx:PA X [] qjA:=λ_ _ _ _ H Q I h=>Calls.spliced_nil ⟨[],H,I,.nil,h⟩
def qj(ha:PE X e te)(hr:PA X es t)(hs:starEach (e::es) X.env=(false,eval e X.env)::starEach es X.env:=by rfl):PA X (e::es) (qfa te t):=by intro pos pins s Z H Q I h;rw[hs];show wpAny _ _ (spliced ((false,eval e X.env)::backTo pos (starEach es X.env))) _ _ s;refine Calls.spliced_cons (thn (ha pins s Z H _ I h) λu s1 hq1=>?_);obtain⟨x,H1,I1,r1,q1⟩:=hq1;exact thn (hr pos pins s1 Z H1 _ I1 q1) λus s2 ⟨xs,H2,I2,r2,q2⟩=>{x::xs,H2,I2,.cons r1 r2,q2}
def qo5(t:TA):TE:=λZ H Q=>t Z H λxs H1=>xs.length<=sizeLine/\∀p,H1 p=none->Q (.ref p) (upd H1 p (.tup xs))
def qo6(t:TA):TE:=λZ H Q=>t Z H λxs H1=>xs.length<=sizeLine/\∀p,H1 p=none->Q (.ref p) (upd H1 p (.lst xs))
def qgC{x1}(h:PA X es t):PE X (.Tuple es x1 pos) (qo5 t):=by intro pins s Z H Q I hq;refine wpAny_Tuple_spliced (thn (h pos pins s Z H _ I hq) λus s1 ⟨xs,H1,I1,r,z,q⟩=>{by rw[<-r.length];exact z,?_});have hf:H1 s1.heap.objs.size=none:=I1.hok.fresh (Nat.le_refl _);refine{.ref s1.heap.objs.size,upd H1 s1.heap.objs.size (.tup xs),I1.laid (t':=s1.toks) (λb u e=>Heap.get?_push_of_some _ e) (Nat.le_refl _) ?_,rfl,q _ hf};exact{z,us,r,{_,Heap.get?_push_size _ rfl,rfl,_,rfl}}
def qj6(h:PA X es t):PE X (.List es pos) (qo6 t):=by intro pins s Z H Q I hq;refine wpAny_List_spliced (thn (h pos pins s Z H _ I hq) λus s1 ⟨xs,H1,I1,r,z,q⟩=>{by rw[<-r.length];exact z,?_});have hf:H1 s1.heap.objs.size=none:=I1.hok.fresh (Nat.le_refl _);refine{.ref s1.heap.objs.size,upd H1 s1.heap.objs.size (.lst xs),I1.laid (t':=s1.toks) (λb u e=>Heap.get?_push_of_some _ e) (Nat.le_refl _) ?_,rfl,q _ hf};exact{z,us,0,r,Heap.get?_push_size _ rfl}
end
abbrev Sp:=List V->Hp->VK->XK->Prop
abbrev CXT:=List Env->Hp->Shared->XK->Value->Shared->Prop
structure Env0(P:Program)(w:World)(K:Frag)(mg:PR)(base:Heap)(A:Around)(outer:List Env)(s:Shared)(H:Hp):Prop where
 frames:A.frames=some outer
 mod:Mod K mg base
 bs:∀b o,base.get? b=some o->s.heap.get? b=some o/\H b=none
 bsz:base.objs.size<=s.heap.objs.size
 funs:s.heap.FunFrames base outer
 frf:∀b∈frs outer,H b=none
 hok:HOk P w H s.heap
 bare:AllBare s.gens
def CE(outer:List Env)(P:Program)(w:World)(H:Hp)(s:Shared)(Q:VK)(u:Value)(s':Shared):Prop:=
 ∃v H',s'.os=s.os/\AllBare s'.gens/\Un (frs outer) [] H H' s.heap s'.heap/\HOk P w H' s'.heap/\qI v u/\Q v H'
def CR(CX:CXT)(outer:List Env)(P:Program)(w:World)(H:Hp)(s:Shared)(Q:VK)(E:XK)(r:Result)(s':Shared):Prop:=
 match r with
 |.ok (.ret u)=>CE outer P w H s Q u s'
 |.ok _=>False
 |.error e=>CX outer H s E e s'
structure FnOk(P:Program)(w:World)(K:Frag)(mg:PR)(base:Heap)(CX:CXT)(k:Nat)(f:Addr)(fd:FuncData)(ps:List Str)(sp:Sp):Prop where
 len:∀vs H Q E,sp vs H Q E->vs.length=ps.length
 run:∀(A:Around) (outer:List Env) (s:Shared) (H:Hp) (args:Args) (us:List Value) (vs:List V) (Q:VK) (E:XK),Room k A->Env0 P w K mg base A outer s H->BindsTo s fd args (ps.zip us)->qF vs us->sp vs H Q E->
  codeAny (model P w) A (.call (.ref f) args) (CR CX outer P w H s Q E) s
def Env0.make{P:Program}{w:World}{K:Frag}{mg:PR}{base:Heap}{A:Around}{outer:List Env}{s:Shared}{H:Hp}(e:Env0 P w K mg base A outer s H)(C:Addr)(us:List Value)(kw:List (Str×Value)) :
  Env0 P w K mg base (A.under (.builtin "type.__call__" ⟨.ref C::us,kw⟩)) outer s H:={by first|exact e.frames|(simpa [Around.under,Code.envs,Code.isFrame,pushEnvs] using e.frames),e.mod,e.bs,e.bsz,e.funs,e.frf,e.hok,e.bare}
section
variable{X:Cx}{pins:PP}{Z:St}{H:Hp}{s s':Shared}
def Inv.env0(I:Inv X pins Z H s):Env0 X.prog X.w X.K X.mg X.base X.A X.stack s H:=
 ⟨I.ok.frames,I.ok.mod,I.bs,Nat.le_trans I.ok.bsz I.sz,I.stack,I.stkFree,I.hok,I.bare⟩
def Inv.after{Q:VK}{u:Value}(I:Inv X pins Z H s)(h:CE X.stack X.prog X.w H s Q u s'):EP X pins Z Q u s':=by obtain⟨v,H',os,bare,un,hok,r,q⟩:=h;obtain⟨hh,g,d,t,os'⟩:=s';obtain rfl:os'=s.os:=os;exact{v,H',I.call (h':=hh) (g':=g) (d':=d) (t':=t) (ch:=[]) un hok bare (λb z=>absurd z (5:)),r,q}
end
def qfb(sp:Sp)(dvs:List V)(E:XK)(t:TA):TE:=λZ H Q=>t Z H λvs H1=>sp (vs++dvs) H1 Q E
def qhK(C:Addr)(m:Str)(sp:Sp)(dvs:List V)(E:XK)(ta:TE)(t:TA):TE:=λZ H Q=>ta Z H λx H1=>∃a dx fs,x=.ref a/\H1 a=some (.ins C dx fs)/\fs.lookup m=none/\
 t Z H1 λvs H2=>sp (x::(vs++dvs)) H2 Q E
def qhL(C:Addr)(sp:Sp)(dvs:List V)(E:XK)(t:TA):TE:=λZ H Q=>t Z H λvs H1=>∀x dx,H1 x=none->H1 dx=none->dx≠x->
 sp (.ref x::(vs++dvs)) (upd (upd H1 dx (.own x)) x (.ins C dx [])) (λv H2=>v=.non/\Q (.ref x) H2) E
def qR(K:Frag)(fd:FuncData)(ps:List Str)(ds:List Value):Prop:=
 ∀(s:Shared) (us:List Value),K.In s.heap->(us++ds).length=ps.length->BindsTo s fd ⟨us,[]⟩ (ps.zip (us++ds))
def qR.all{K:Frag}{fd:FuncData}{ps:List Str}(h:∀us:List Value,us.length=ps.length->bindArgs fd ⟨us,[]⟩=pure (ps.zip us)):qR K fd ps []:=λs us _ hl=>by rw[List.append_nil]at hl ⊢;exact .of_eq (h us hl)
def zN(CX:CXT)(X:Cx)(E:XK):Prop:=∀(pins:PP) (Z:St) (H:Hp) (s:Shared) (e:Value) (s':Shared),Inv X pins Z H s->CX X.stack H s E e s'->X.xe e s'
section
variable{X:Cx}{CX:CXT}{k:Nat}{f C:Addr}{fd:FuncData}{ps:List Str}{sp:Sp}{dvs:List V}{ds:List Value}{E:XK}{x m:Str}{p pos apos:Pos}{e o:Expr}{es:List Expr}{ta:TE}{t:TA}
theorem Zq{pins:PP}{Z:St}{H:Hp}{s:Shared}{Q:VK}{us:List Value}{vs:List V}(F:FnOk X.prog X.w X.K X.mg X.base CX k f fd ps sp)(hr:Room k X.A)(hb:qR X.K fd ps ds)(hd:qF dvs ds)(hx:zN CX X E)
  (I:Inv X pins Z H s) (r:qF vs us) (h:sp (vs++dvs) H Q E):wpAny (model X.prog X.w) X.A (call (.ref f) us) (EP X pins Z Q) X.xe s:=by
 have r2:qF (vs++dvs) (us++ds):=r.append hd;have hl:(us++ds).length=ps.length:=by rw[<-r2.length];exact F.len _ _ _ _ h
 refine wpAny_call (codeAny_mono (F.run X.A X.stack s H ⟨us,[]⟩ (us++ds) (vs++dvs) Q E hr I.env0 (hb s us I.kIn hl) r2 h) λr s' hq=>?_)
 cases r with
 |error e=>exact hx pins Z H s e s' I hq
 |ok fl=>
  cases fl with
  |ret u=>exact I.after hq
  |next=>exact False.elim hq
  |brk=>exact False.elim hq
  |cont=>exact False.elim hq
def Jd(F:FnOk X.prog X.w X.K X.mg X.base CX k f fd ps sp)(hr:Room k X.A)(hg:Gl X x)(hm:X.mg x=some (.ref f))(hk:PySem.W.keepIn X.K (.ref f)=true)(hb:qR X.K fd ps ds)(hd:qF dvs ds)(hx:zN CX X E)
  (ha:PA X (e::es) t) (hdb:(x == ("__debug__" : Str))=false:=by decide) (he:starEach (e::es) X.env=(false,eval e X.env)::starEach es X.env:=by rfl) (hpl:(backTo pos (starEach es X.env)).any (·.1)=false:=by rfl) :
  PE X (.Call (.Name x p) (e::es) [] pos) (qfb sp dvs E t):=by
 intro pins s Z H Q I h;refine wpAny_Call_Name_kw (zT I hg hm ?_ hdb);refine PySem.W.callWith_K (h₀:=X.base) I.ok.mod.kin hk (thn (ha pos pins s Z H _ I h) λus s1 ⟨vs,H1,I1,r,q⟩=>{I1.kIn,?_}) he hpl;exact Zq F hr hb hd hx I1 r q
def qfc(F:FnOk X.prog X.w X.K X.mg X.base CX k f fd ps sp)(hr:Room k X.A)(hg:Gl X x)(hm:X.mg x=some (.ref f))(hk:PySem.W.keepIn X.K (.ref f)=true)(hb:qR X.K fd ps ds)(hd:qF dvs ds)(hx:zN CX X E)
  (hdb:(x == ("__debug__" : Str))=false:=by decide):PE X (.Call (.Name x p) [] [] pos) (qfb sp dvs E qjA):=by
 intro pins s Z H Q I h;refine wpAny_Call_Name_kw (zT I hg hm ?_ hdb);exact PySem.W.callWith_K0 I.kIn hk (Zq (us:=[]) F hr hb hd hx I .nil h)
def qhM{pl:Sem Bool}(he:PE X o ta)(c:Cls X.K C)(hm:Meth X.K C m f)(F:FnOk X.prog X.w X.K X.mg X.base CX k f fd ps sp)(hr:Room k X.A)(hb:qR X.K fd ps ds)(hd:qF dvs ds)(hx:zN CX X E)(ha:PA X (e::es) t)
  (hst:starEach (e::es) X.env=(false,eval e X.env)::starEach es X.env:=by rfl) (hpl:(backTo pos (starEach es X.env)).any (·.1)=false:=by rfl)
  (ht:eval (.Call (.Attribute o m apos) (e::es) [] pos) X.env=(do
   let ov<-eval o X.env
   standAt apos.atName
   let (f,first)<-holding [ov] (getMethod ov m pl)
   callWith pos f first (backTo pos (starEach (e::es) X.env)) (backToKw pos (keywordEach [] X.env))):=by rfl) :
  PE X (.Call (.Attribute o m apos) (e::es) [] pos) (qhK C m sp dvs E ta t):=by
 intro pins s Z H Q I h;refine PySem.W.methodCall_KW (pl:=pl) (thn (he pins s Z H _ I h) λu s1 ⟨x,H1,I1,rx,a,dx,fs,ex,ea,l,q⟩=>?_) ht;subst ex;obtain rfl:u=Value.ref a:=rx;refine YY I1 ea c hm l ?_;refine PySem.W.callWith_K (first:=[.ref a]) (h₀:=X.base) I.ok.mod.kin hm.kp (thn (ha pos pins s1 Z H1 _ I1 q) λus s2 ⟨vs,H2,I2,r,q2⟩=>{I2.kIn,?_}) hst hpl;exact Zq (us:=.ref a::us) (vs:=.ref a::vs) F hr hb hd hx I2 (.cons rfl r) q2
def qfd{pl:Sem Bool}(he:PE X o ta)(c:Cls X.K C)(hm:Meth X.K C m f)(F:FnOk X.prog X.w X.K X.mg X.base CX k f fd ps sp)(hr:Room k X.A)(hb:qR X.K fd ps ds)(hd:qF dvs ds)(hx:zN CX X E)
  (ht:eval (.Call (.Attribute o m apos) [] [] pos) X.env=(do
   let ov<-eval o X.env
   standAt apos.atName
   let (f,first)<-holding [ov] (getMethod ov m pl)
   callWith pos f first (backTo pos (starEach [] X.env)) (backToKw pos (keywordEach [] X.env))):=by rfl) :
  PE X (.Call (.Attribute o m apos) [] [] pos) (qhK C m sp dvs E ta qjA):=by
 intro pins s Z H Q I h;refine PySem.W.methodCall_KW (pl:=pl) (thn (he pins s Z H _ I h) λu s1 ⟨x,H1,I1,rx,a,dx,fs,ex,ea,l,q⟩=>?_) ht;subst ex;obtain rfl:u=Value.ref a:=rx;refine YY I1 ea c hm l ?_;exact PySem.W.callWith_K0 (first:=[.ref a]) I1.kIn hm.kp (Zq (us:=[.ref a]) (vs:=[.ref a]) F hr hb hd hx I1 %[rfl|0] q)
structure Mk(K:Frag)(C f:Addr):Prop where
 makes:PySem.W.makesIn K C=true
 init:PySem.W.findIn K (.ref C) "__init__" = some (some (.ref f))
 fn:PySem.W.isFn K (.ref f)=true
 kp:PySem.W.keepIn K (.ref C)=true
theorem qbh{pins:PP}{Z:St}{H:Hp}{s:Shared}{Q:VK}{us:List Value}{vs:List V}(M:Mk X.K C f)(F:FnOk X.prog X.w X.K X.mg X.base CX k f fd ps sp)(hr:Room (k+1) X.A)(hb:qR X.K fd ps ds)(hd:qF dvs ds)
  (hx:zN CX X E) (I:Inv X pins Z H s) (r:qF vs us)
  (h:∀x dx,H x=none->H dx=none->dx≠x->sp (.ref x::(vs++dvs)) (upd (upd H dx (.own x)) x (.ins C dx [])) (λv H2=>v=.non/\Q (.ref x) H2) E) :
  wpAny (model X.prog X.w) X.A (call (.ref C) us) (EP X pins Z Q) X.xe s:=by
 have hq:=h (s.heap.objs.size+1) s.heap.objs.size (I.hok.fresh (Nat.le_succ _)) (I.hok.fresh (Nat.le_refl _)) (Nat.ne_of_lt (Nat.lt_succ_self _));have I2:=Inv.made (C:=C) I;have r2:qF (V.ref (s.heap.objs.size+1)::(vs++dvs)) (Value.ref (s.heap.objs.size+1)::(us++ds)):=.cons rfl (r.append hd)
 have hl:(Value.ref (s.heap.objs.size+1)::us++ds).length=ps.length:=by have e:=r2.length;rw[F.len _ _ _ _ hq]at e;exact e.symm
 refine wpAny_call (qe9 (f:=f) I.kIn M.makes M.init (beq_iff_eq.mp M.fn) (codeAny_mono (F.run _ X.stack _ _ ⟨Value.ref (s.heap.objs.size+1)::us,[]⟩ (Value.ref (s.heap.objs.size+1)::(us++ds)) _ _ E (hr.make C us [])
  (I2.env0.make C us []) (hb _ (Value.ref (s.heap.objs.size+1)::us) I2.kIn hl) r2 hq) λr s' hq'=>?_))
 cases r with
 |error e=>exact hx pins Z _ _ e s' I2 hq'
 |ok fl=>
  cases fl with
  |ret u=>obtain⟨v,H',I3,rv,ev,q3⟩:=I2.after hq';subst ev;exact{rv,{V.ref (s.heap.objs.size+1),H',I3,rfl,q3}}
  |next=>exact False.elim hq'
  |brk=>exact False.elim hq'
  |cont=>exact False.elim hq'
def qhN(M:Mk X.K C f)(F:FnOk X.prog X.w X.K X.mg X.base CX k f fd ps sp)(hr:Room (k+1) X.A)(hg:Gl X x)(hm:X.mg x=some (.ref C))(hb:qR X.K fd ps ds)(hd:qF dvs ds)(hx:zN CX X E)
  (ha:PA X (e::es) t) (hdb:(x == ("__debug__" : Str))=false:=by decide) (he:starEach (e::es) X.env=(false,eval e X.env)::starEach es X.env:=by rfl) (hpl:(backTo pos (starEach es X.env)).any (·.1)=false:=by rfl) :
  PE X (.Call (.Name x p) (e::es) [] pos) (qhL C sp dvs E t):=by
 intro pins s Z H Q I h;refine wpAny_Call_Name_kw (zT I hg hm ?_ hdb);refine PySem.W.callWith_K (h₀:=X.base) I.ok.mod.kin M.kp (thn (ha pos pins s Z H _ I h) λus s1 ⟨vs,H1,I1,r,q⟩=>{I1.kIn,?_}) he hpl;exact qbh M F hr hb hd hx I1 r q
def qfe(M:Mk X.K C f)(F:FnOk X.prog X.w X.K X.mg X.base CX k f fd ps sp)(hr:Room (k+1) X.A)(hg:Gl X x)(hm:X.mg x=some (.ref C))(hb:qR X.K fd ps ds)(hd:qF dvs ds)(hx:zN CX X E)
  (hdb:(x == ("__debug__" : Str))=false:=by decide):PE X (.Call (.Name x p) [] [] pos) (qhL C sp dvs E qjA):=by
 intro pins s Z H Q I h;refine wpAny_Call_Name_kw (zT I hg hm ?_ hdb);exact PySem.W.callWith_K0 I.kIn M.kp (qbh (us:=[]) M F hr hb hd hx I .nil h)
end
structure FnScope(N P:List Str)(sc:Scope):Prop where
 kind:sc.kind=.function
 co:sc.isCoroutine=false
 gen:sc.isGenerator=false
 nd:N.Nodup
 pre:N.take P.length=P
 par:∀x∈P,sc.names.lookup x=some .local\/sc.names.lookup x=some .cell
 nofree:∀y∈sc.names,y.2≠.free
theorem Zr{kindOf:Str->Option NameKind}{x:Str}:∀{binds:List (Str×Value)} {m:PR},(∀v,(x,v)∉binds)->bindL kindOf binds m x=m x
 |[],_,_=>rfl
 | (n,v)::r,m,h=>by
  unfold bindL;rw[Zr λw hw=>h w (List.mem_cons_of_mem _ hw)];split
  ·have:x≠n:=by rintro rfl;exact h v List.mem_cons_self
   simp[this]
  ·rfl
theorem Zs{kindOf:Str->Option NameKind}{x:Str}:∀{binds:List (Str×Value)} {m:PR},(∀v,(x,v)∉binds)->bindC kindOf binds m x=m x
 |[],_,_=>rfl
 | (n,v)::r,m,h=>by
  unfold bindC;rw[Zs λw hw=>h w (List.mem_cons_of_mem _ hw)];split
  ·rfl
  ·have:x≠n:=by rintro rfl;exact h v List.mem_cons_self
   simp[this]
theorem Zt{kindOf:Str->Option NameKind}{x:Str}{v:Value}:∀{P:List Str} {vs:List Value} {i:Nat} {m:PR},P.Nodup->P[i]?=some x->vs[i]?=some v->kindOf x=some .local->
  bindL kindOf (P.zip vs) m x=some v
 |[],_,_,_,_,h,_,_=>by simp at h
 | _::_,[],_,_,_,_,h,_=>by simp at h
 | p::P,w::vs,0,m,nd,h1,h2,hk=>by simp at h1 h2;subst h1;subst h2;show bindL kindOf ((p,w)::P.zip vs) m p=_;unfold bindL;rw[Zr λv hv=>(List.nodup_cons.mp nd).1 (List.of_mem_zip hv).1,if_pos hk];simp
 | p::P,w::vs,i+1,m,nd,h1,h2,hk=>by show bindL kindOf ((p,w)::P.zip vs) m x=_;unfold bindL;exact Zt (i:=i) (List.nodup_cons.mp nd).2 (-h1:) (-h2:) hk
theorem Zu{kindOf:Str->Option NameKind}{x:Str}{v:Value}:∀{P:List Str} {vs:List Value} {i:Nat} {m:PR},P.Nodup->P[i]?=some x->vs[i]?=some v->kindOf x≠some .local->
  bindC kindOf (P.zip vs) m x=some v
 |[],_,_,_,_,h,_,_=>by simp at h
 | _::_,[],_,_,_,_,h,_=>by simp at h
 | p::P,w::vs,0,m,nd,h1,h2,hk=>by simp at h1 h2;subst h1;subst h2;show bindC kindOf ((p,w)::P.zip vs) m p=_;unfold bindC;rw[Zs λv hv=>(List.nodup_cons.mp nd).1 (List.of_mem_zip hv).1,if_neg hk];simp
 | p::P,w::vs,i+1,m,nd,h1,h2,hk=>by show bindC kindOf ((p,w)::P.zip vs) m x=_;unfold bindC;exact Zu (i:=i) (List.nodup_cons.mp nd).2 (-h1:) (-h2:) hk
def yu(N:List Str)(vs:List V):St:=vs.map some++List.replicate (N.length - vs.length) none
def Zh(CX:CXT)(P:Program)(w:World)(K:Frag)(mg:PR)(base:Heap)(N:List Str)(qual:Str)(scope:Scope)(f:Addr)(cd:Value)(A:Around)(outer:List Env)(s:Shared)(H:Hp)(E:XK):Cx where
 prog:=P
 w:=w
 K:=K
 mg:=mg
 base:=base
 A:=A.deeper (envOfC qual scope s.heap.objs.size f cd)
 N:=N
 s₀:=s
 Hv:=H
 env:=envOfC qual scope s.heap.objs.size f cd
 outer:=outer
 stack:=envOfC qual scope s.heap.objs.size f cd::outer
 ex:=[]
 calm:=true
 fn:=λ_=>true
 pn:=[]
 xe:=λe s'=>wpAny (model P w) (A.deeper (envOfC qual scope s.heap.objs.size f cd)) (leaving (envOfC qual scope s.heap.objs.size f cd) e) (λ_ s''=>CX outer H s E e s'') (λe' s''=>CX outer H s E e' s'') s'
def qbi{sc:Scope}{n:Nat}{x:Str}(h:sc.names.lookup x=some .cell):∃c,(cellsFrom n sc.names []).lookup x=some c:=by have q:=PySem.W.cellsFrom_some sc.names n [] (.inl h);exact Option.isSome_iff_exists.mp q
def qc8{CX:CXT}{P:Program}{w:World}{K:Frag}{mg:PR}{base:Heap}{N ps:List Str}{qual:Str}{scope:Scope}{f:Addr}{cd:Value}{A:Around}{outer:List Env}{s s1:Shared}{H:Hp}{E:XK}{us:List Value}{vs:List V}
  (S:FnScope N ps scope) (hd:A.handled=none) (e0:Env0 P w K mg base A outer s H) (hl:vs.length=ps.length) (r:qF vs us)
  (x:InCallC s s.heap.objs.size (bindL (envOfC qual scope s.heap.objs.size f cd).kindOf (ps.zip us) λ_=>none) (cellsFrom (s.heap.objs.size+1) scope.names []) (bindC (envOfC qual scope s.heap.objs.size f cd).kindOf (ps.zip us) λ_=>none) s1) :
  Inv (Zh CX P w K mg base N qual scope f cd A outer s H E) [] (yu N vs) H s1:=by
 have hpl:ps.length<=N.length:=by have:=congrArg List.length S.pre;rw[List.length_take]at this;lia
 obtain⟨h1,tk,rfl,hk⟩:=x.done;have noA:∀b:Addr,b∉(Zh CX P w K mg base N qual scope f cd A outer s H E).ex:=λb z=>absurd (show b∈([]:List Addr) from z) (5:)
 refine{{e0.mod,S.kind,rfl,rfl,Nat.le_refl _,λy z c h1 h2=>?_,λy hy=>?_,λy c _ h=>?_,λ_=>hd,Around.frames_deeper e0.frames,.inr ⟨rfl,rfl⟩,λb z=>absurd z (noA b),e0.bs,e0.bsz,λb _ _=>noA b,λb z=>absurd z (noA b),e0.funs,e0.frf},
  rfl,e0.bare,Un.kept hk,{_,x.toInCall.ns,λi y v h1 h2 h3=>?_},λy c h=>{_,x.cell y c h},e0.hok.fresh (Nat.le_refl _),λy c h=>?_,λp hp=>absurd (show p∈([]:PP) from hp) (5:),e0.hok.kept hk,?_}
 ·exact name_of_addr x.apart (PySem.mem_of_lookup h1) (PySem.mem_of_lookup h2)
 ·have hy:scope.names.lookup y=some .cell\/scope.names.lookup y=some .free:=hy;rcases hy with hy|hy
  ·exact qbi hy
  ·exact absurd rfl (S.nofree _ (PySem.mem_of_lookup hy))
 ·exact Nat.le_of_lt (x.above y c (PySem.mem_of_lookup h))
 ·have hi:i < vs.length:=by
   unfold yu at h2
   by_cases hi:i < vs.length
   ·exact hi
   ·rw[List.getElem?_append_right (-hi:)]at h2;rw[List.getElem?_replicate]at h2
    split at h2<;>cases h2
  have ha:vs[i]?=some v:=by
   unfold yu at h2;rw[List.getElem?_append_left (-hi:),List.getElem?_map]at h2
   cases e:vs[i]? with
   |none=>rw[e]at h2;cases h2
   |some a=>rw[e]at h2;cases h2;rfl
  obtain⟨u,hu,rv⟩:=r.get ha
  have hp:ps[i]?=some y:=by rw[<-S.pre,List.getElem?_take_of_lt (1:)];exact h1
  have ndP:ps.Nodup:=by rw[<-S.pre];exact S.nd.sublist (List.take_sublist _ _)
  refine{u,rv,?_};rcases S.par y (List.mem_of_getElem? hp) with k|k
  ·exact .inl ⟨k,Zt ndP hp hu k⟩
  ·obtain⟨c,e⟩:=qbi (n:=s.heap.objs.size+1) k;refine .inr ⟨.inl k,c,e,?_⟩;have q:=x.cell y c e;rw[Zu ndP hp hu (by show scope.names.lookup y≠_;rw[k];decide)]at q;exact q
 ·exact e0.hok.fresh (Nat.le_of_lt (x.above y c (PySem.mem_of_lookup h)))
 ·unfold yu;show _=N.length;rw[List.length_append,List.length_map,List.length_replicate]
  lia
theorem qj7{CX:CXT}{P:Program}{w:World}{K:Frag}{mg:PR}{base:Heap}{k:Nat}{f:Addr}{name qual:Str}{params:Arguments}{body:List Stmt}{scope:Scope}{dV kV doc pm cdv ct oc:Value}{an od:Option Addr}
  {osl:Array (Option Value)} {N ps:List Str} {sp:Sp} (lk:K.lookup f=some ⟨oc,od,.func (PySem.W.fnOf name qual params body scope dV kV doc pm an cdv ct),osl⟩) (hcd:PySem.W.codeIn K cdv qual=true) (S:FnScope N ps scope)
  (len:∀vs H Q E,sp vs H Q E->vs.length=ps.length)
  (hbody:∀(A:Around) (outer:List Env) (s:Shared) (H:Hp) (vs:List V) (Q:VK) (E:XK),Room k (A.deeper (envOfC qual scope s.heap.objs.size f cdv))->sp vs H Q E->
   ∃t,PSs (Zh CX P w K mg base N qual scope f cdv A outer s H E) body t/\t { nx:=λ_ H'=>Q .non H',rt:=Q } (yu N vs) H) :
  FnOk P w K mg base CX (k+1) f (PySem.W.fnOf name qual params body scope dV kV doc pm an cdv ct) ps sp:=by
 refine{len,λA outer s H args us vs Q E hr e0 hb r hsp=>?_};have hl:=len _ _ _ _ hsp;have KX:K.In s.heap:=e0.mod.kin.keeps λb o e=>(e0.bs b o e).1;have lim:s.heap.NoLimit:=e0.mod.nolimit.keeps λb o e=>(e0.bs b o e).1
 have hkind:∀y∈ps.zip us,scope.names.lookup y.1=some .local\/(scope.names.lookup y.1=some .cell/\((cellsFrom (s.heap.objs.size+1) scope.names []).lookup y.1).isSome=true):=λ⟨n,v⟩ hy=>by
  rcases S.par n (List.of_mem_zip hy).1 with q|q
  ·exact .inl q
  ·exact .inr ⟨q,PySem.W.cellsFrom_some _ _ _ (.inl q)⟩
 refine codeAny_call_function hr.depth (KX _ _ lk) rfl S.co S.gen rfl (PySem.W.codeRec_of KX hcd) (hb _ _ _ _ ?_);refine wpAny_newFunctionEnv_cells S.kind hkind λenv he s1 x=>?_;subst he;refine{lim.keeps x.toInCall.keep,codeAny_func ?_};obtain⟨t,ht,hq⟩:=hbody A outer s H vs Q E (hr.deeper _) hsp;have I:Inv (Zh CX P w K mg base N qual scope f cdv A outer s H E) [] (yu N vs) H s1:=qc8 S hr.hd e0 hl r x;refine wpAny_mono (ht [] s1 (yu N vs) H _ I hq) (λfl s' hs=>?_) λe s' hs=>hs
 have fin:∀{Z':St} {H':Hp} {v:V} {u:Value},Inv (Zh CX P w K mg base N qual scope f cdv A outer s H E) [] Z' H' s'->qI v u->Q v H'->CE outer P w H s Q u s':=
  λ{Z' H' v u} J rv q=>⟨v,H',J.os,J.bare,J.base,J.hok,rv,q⟩
 cases fl with
 |ret u=>obtain⟨v,Z',H',J,rv,q⟩:=hs;exact fin J rv q
 |next=>obtain⟨Z',H',J,q⟩:=hs;exact fin (v:=V.non) (u:=Value.none) J rfl q
 |brk=>obtain⟨_,_,_,q⟩:=hs;exact False.elim q
 |cont=>obtain⟨_,_,_,q⟩:=hs;exact False.elim q
section
variable{X:Cx}{x:Str}{p pos:Pos}{e:Expr}{es:List Expr}{t:TA}{id T:String}{r:List V->Hp->VK->Prop}
def tCB(r:List V->Hp->VK->Prop)(t:TA):TE:=λZ H Q=>t Z H λvs H1=>r vs H1 Q
def qL(hc:zc X (.builtin id) r)(hg:Gl X x)(hm:X.mg x=none)(hv:bootBuiltins x=some (.builtin id))(ha:PA X (e::es) t)(hn:x≠"__name__":=by decide)(hdb:(x == ("__debug__" : Str))=false:=by decide)
  (he:starEach (e::es) X.env=(false,eval e X.env)::starEach es X.env:=by rfl) (hpl:(backTo pos (starEach es X.env)).any (·.1)=false:=by rfl):PE X (.Call (.Name x p) (e::es) [] pos) (tCB r t):=by
 intro pins s Z H Q I h;refine wpAny_Call_Name_kw (Jo I hg hm hv ?_ hn hdb);exact PyProof.Rows.callWith_builtin1 (thn (ha pos pins s Z H _ I h) λus s1 ⟨vs,H1,I1,r1,q1⟩=>hc pins s1 Z H1 vs us Q I1 r1 q1) he hpl
def zA(hc:zc X (.type T) r)(hg:Gl X x)(hm:X.mg x=none)(hv:bootBuiltins x=some (.type T))(ha:PA X (e::es) t)(hn:x≠"__name__":=by decide)(hdb:(x == ("__debug__" : Str))=false:=by decide)
  (he:starEach (e::es) X.env=(false,eval e X.env)::starEach es X.env:=by rfl) (hpl:(backTo pos (starEach es X.env)).any (·.1)=false:=by rfl):PE X (.Call (.Name x p) (e::es) [] pos) (tCB r t):=by
 intro pins s Z H Q I h;refine wpAny_Call_Name_kw (Jo I hg hm hv ?_ hn hdb);exact PyProof.Rows.callWith_type1 (thn (ha pos pins s Z H _ I h) λus s1 ⟨vs,H1,I1,r1,q1⟩=>hc pins s1 Z H1 vs us Q I1 r1 q1) he hpl
end
end L2
namespace HT
open PySem PyProof.Rows
section
variable{prog:Program}{w:World}{A:Around}{E:PQ}{s:Shared}
def sIx(n d:Nat):Option Int->Nat
 |none=>d
 |some v=>if v < 0 then (v+(n:Int)).toNat else min v.toNat n
def qbj(n d:Nat):sIx n d none=d:=rfl
def Qu(n d k:Nat):sIx n d (some (k:Int))=min k n:=by show(if (k:Int) < 0 then ((k:Int)+(n:Int)).toNat else min (k:Int).toNat n)=min k n;rw[if_neg (1:),Int.toNat_natCast]
end
end HT
namespace L2
open PySem PySem.Spec PyProof.Rows
abbrev TO:=St->Hp->(Option Int->Hp->Prop)->Prop
def PO(X:Cx)(e:Option Expr)(t:TO):Prop:=
 ∀(pins:PP) (s:Shared) (Z:St) (H:Hp) (Q:Option Int->Hp->Prop),Inv X pins Z H s->t Z H Q->
  wpAny (model X.prog X.w) X.A (evalPart e X.env) (λu s'=>∃o H',Inv X pins Z H' s'/\IsPart u o/\Q o H') X.xe s
def qhO:TO:=λ_ H Q=>Q none H
def qnj(t:TE):TO:=λZ H Q=>t Z H λx H1=>∃i,x=.int i/\Q (some i) H1
section
variable{X:Cx}{e:Expr}{te:TE}{lo hi:Option Expr}{tl th:TO}{pos p2:Pos}
def qhP:PO X none qhO:=by intro pins s Z H Q I h;rw[evalPart_none];exact wpAny_pure ⟨none,H,I,.none,h⟩
def qhQ(h:PE X e te):PO X (some e) (qnj te):=by intro pins s Z H Q I hw;rw[evalPart_some];refine thn (h pins s Z H _ I hw) λu s1 hq1=>?_;obtain⟨x,H1,I1,r1,q1⟩:=hq1;obtain⟨i,rfl,q⟩:=q1;obtain⟨t,rfl⟩:=r1;exact{some i,H1,I1,.int i t,q}
def SlR(X:Cx)(r:V->Option Int->Option Int->Hp->VK->Prop):Prop:=
 ∀(pins:PP) (s:Shared) (Z:St) (H:Hp) (x:V) (v vl vu:Value) (lo hi:Option Int) (sl:Addr) (Q:VK),Inv X pins Z H s->qI x v->s.heap.IsSliceOf sl vl vu .none->IsPart vl lo->IsPart vu hi->r x lo hi H Q->
  ∃T id,typeLookup (.type T) "__getitem__" = pure (some (.builtin id))/\s.TypeIs v T/\wpAny (model X.prog X.w) X.A (getItem v (.ref sl)) (EP X pins Z Q) X.xe s
def tSl(r:V->Option Int->Option Int->Hp->VK->Prop)(te:TE)(tl th:TO):TE:=λZ H Q=>te Z H λx H1=>tl Z H1 λl H2=>th Z H2 λu H3=>r x l u H3 Q
def qff{r:V->Option Int->Option Int->Hp->VK->Prop}(hr:SlR X r)(he:PE X e te)(hl:PO X lo tl)(hu:PO X hi th):PE X (.Subscript e (.Slice lo hi none p2) pos) (tSl r te tl th):=by intro pins s Z H Q I h;refine Subscript_ (thn (he pins s Z H _ I h) λv s1 hq1=>?_);obtain⟨x,H1,I1,r1,q1⟩:=hq1;refine wpAny_Slice (thn (hl pins s1 Z H1 _ I1 q1) λvl s2 ⟨l,H2,I2,pl,q2⟩=>thn (hu pins s2 Z H2 _ I2 q2) λvu s3 hq1=>?_);obtain⟨u,H3,I3,pu,q3⟩:=hq1;rw[evalPart_none];refine wpAny_pure ?_;have I4:Inv X pins Z H3 { s3 with heap:=s3.heap.push { cls:=.type "slice",data:=.fields #[vl,vu,.none] } }:=I3.kept (t':=s3.toks) λb ob q=>Heap.get?_push_of_some _ q;obtain⟨T,id,hT,ht,hg⟩:=hr pins { s3 with heap:=s3.heap.push { cls:=.type "slice",data:=.fields #[vl,vu,.none] } } Z H3 x v vl vu l u s3.heap.objs.size Q I4 r1 (Heap.IsSliceOf.new ..) pl pu q3;show wpAny (model X.prog X.w) X.A (subscriptTail e (.Slice lo hi none p2) v (.ref s3.heap.objs.size)) (EP X pins Z Q) X.xe { s3 with heap:=s3.heap.push { cls:=.type "slice",data:=.fields #[vl,vu,.none] } };exact tail_any (ops:=[.ref s3.heap.objs.size,v]) ht hT hg (by with_unfolding_all rfl)
def qjB(xs:List V)(lo hi:Option Int):List V:=(xs.drop (HT.sIx xs.length 0 lo)).take (HT.sIx xs.length xs.length hi - HT.sIx xs.length 0 lo)
def qaB(xs:List V)(lo hi:Option Int):(qjB xs lo hi).length<=xs.length:=by
 unfold qjB;rw[List.length_take,List.length_drop]
 lia
end
def ixN(n:Nat)(i:Int):Option Nat:=if 0<=i then (if i < n then some i.toNat else none) else if -(n:Int)<=i then some (i+n).toNat else none
def atI{α:Type}(xs:List α)(i:Int):Option α:=(ixN xs.length i).bind λj=>xs[j]?
def qc9{n:Nat}{i:Int}{j:Nat}(h:ixN n i=some j):seqIndex? i n=some j/\j < n/\-(n:Int)<=i/\i < n:=by
 unfold ixN at h
 by_cases h0:0<=i
 ·rw[if_pos h0]at h
  by_cases h1:i < n
  ·rw[if_pos h1]at h;have e:i.toNat=j:=Option.some.inj h;exact{by rw[seqIndex_of h0 h1,e],by lia,by lia,h1}
  ·rw[if_neg h1]at h;cases h
 ·rw[if_neg h0]at h
  by_cases h1:-(n:Int)<=i
  ·rw[if_pos h1]at h;have e:(i+n).toNat=j:=Option.some.inj h;exact{by rw[seqIndex_neg (1:) h1,e],by lia,h1,by lia}
  ·rw[if_neg h1]at h;cases h
theorem qaC{α:Type}{xs:List α}{i:Int}{v:α}(h:atI xs i=some v):∃j,seqIndex? i xs.length=some j/\xs[j]?=some v/\j < xs.length/\-(xs.length:Int)<=i/\i < xs.length:=by
 unfold atI at h
 cases e:ixN xs.length i with
 |none=>rw[e]at h;cases h
 |some j=>rw[e]at h;obtain⟨h1,h2,h3,h4⟩:=qc9 e;exact⟨j,h1,h,h2,h3,h4⟩
def qfg{α:Type}(xs:List α)(v:α):atI (xs++[v]) (-1)=some v:=by
 have hl:(xs++[v]).length=xs.length+1:=by simp
 have e:ixN (xs++[v]).length (-1)=some xs.length:=by
  unfold ixN;rw[hl,if_neg (2:),if_pos (1:)]
  congr 1
  lia
 unfold atI;rw[e];show(xs++[v])[xs.length]?=some v;simp
def qda(b:Expr):Prop:=∀o i,subscripted b false o i=operate [o,i] (getItem o i)
def IxR(X:Cx)(r:R2):Prop:=
 ∀(value slice:Expr) (pins:PP) (s:Shared) (Z:St) (H:Hp) (x y:V) (v u:Value) (Q:VK),Inv X pins Z H s->qI x v->qI y u->r x y H Q->
  subscripted slice false v u=operate [v,u] (getItem v u)->wpAny (model X.prog X.w) X.A (subscriptTail value slice v u) (EP X pins Z Q) X.xe s
def MtR(X:Cx)(id:String)(r:V->List V->Hp->VK->Prop):Prop:=
 ∀(pins:PP) (s:Shared) (Z:St) (H:Hp) (x:V) (xs:List V) (v:Value) (us:List Value) (Q:VK),Inv X pins Z H s->qI x v->qF xs us->r x xs H Q->
  wpAny (model X.prog X.w) X.A (call (.builtin id) (v::us)) (EP X pins Z Q) X.xe s
section
variable{X:Cx}{a b:Expr}{ta tb:TE}{pos:Pos}
def qnk{r:R2}(hr:IxR X r)(ha:PE X a ta)(hb:PE X b tb)(hs:qda b):PE X (.Subscript a b pos) (tOp r ta tb):=by intro pins s Z H Q I h;exact Subscript_ (qnb ha hb I h λv u s2 x y H2 I2 rx ry q=>hr a b pins s2 Z H2 x y v u Q I2 rx ry q (hs _ _))
def qo7(K:Frag):R2:=λx y H Q=>∃p xs i v,x=.ref p/\y=.int i/\SqL K H p xs/\atI xs i=some v/\Q v H
def qo8(K:Frag):R2:=λx y H Q=>∃p xs i v,x=.ref p/\y=.int i/\SqT K H p xs/\atI xs i=some v/\Q v H
def qo9:R2:=λx y H Q=>∃z i c,x=.str z/\y=.int i/\z.length<=sizeLine/\atI z.cps.toList i=some c/\Q (.str ⟨#[c]⟩) H
def qhR:IxR X (qo7 X.K):=by
 intro value slice pins s Z H x y v u Q I rx ry h hs;obtain⟨p,xs,i,z,rfl,rfl,hq,he,q⟩:=h;cases rx;obtain⟨t,rfl⟩:=ry;obtain⟨its,r,pl,hz⟩:=I.list hq;obtain⟨j,h1,h2,h3,h4,h5⟩:=qaC he;obtain⟨w,ew,rw'⟩:=r.get h2;have hl:=r.length;have hn:=JT;have fin:EP X pins Z Q w s:=⟨z,H,I,rw',q⟩
 by_cases h0:0<=i
 ·have hj:i.toNat=j:=by
   rw[seqIndex_of h0 h5]at h1;exact Option.some.inj h1
  exact item_listR pl.isList h0 (1:) (by rw[hj];simpa using ew) fin hs
 ·have hj:(i+(its.toArray.size:Int)).toNat=j:=by
   rw[seqIndex_neg (1:) h4]at h1;rw[List.size_toArray,<-hl];exact Option.some.inj h1
  exact subscriptTail_builtinR (x:=w) pl.isList.typeIs slot_list_getitem.lookup
   (wpAny_getItem_list_neg (Q:=λr s'=>r=w/\EP X pins Z Q r s') pl.isList (1:) (by rw[List.size_toArray]<;>lia) (1:) (by rw[hj];simpa using ew) ⟨rfl,fin⟩) hs
def qj8:IxR X (qo8 X.K):=by
 intro value slice pins s Z H x y v u Q I rx ry h hs;obtain⟨p,xs,i,z,rfl,rfl,hq,he,q⟩:=h;cases rx;obtain⟨t,rfl⟩:=ry;obtain⟨its,r,pl,hz⟩:=I.tuple hq;obtain⟨j,h1,h2,h3,h4,h5⟩:=qaC he;obtain⟨w,ew,rw'⟩:=r.get h2;have hl:=r.length;have hn:=JT;have fin:EP X pins Z Q w s:=⟨z,H,I,rw',q⟩
 exact subscriptTail_builtinR (x:=w) pl.typeIs slot_tuple_getitem.lookup
  (getItem_tuple (j:=j) (Q:=λr s'=>r=w/\EP X pins Z Q r s') pl (1:) (1:) (by rw[List.size_toArray,<-hl];exact h1) (-ew:) ⟨rfl,fin⟩) hs
def qj9:IxR X qo9:=by
 intro value slice pins s Z H x y v u Q I rx ry h hs;obtain⟨z,i,c,rfl,rfl,hz,he,q⟩:=h;obtain⟨t,rfl⟩:=rx;obtain⟨t',rfl⟩:=ry;obtain⟨j,h1,h2,h3,h4,h5⟩:=qaC he;have hl:z.cps.toList.length=z.length:=by simp[Str.length]
 rw[hl]at h1 h4 h5;have hn:=JT
 exact tail_any (typeIs_str s z t) slot_str_getitem.lookup (getItem_str (c:=c) (by have e1:decide (i < -(2 ^ 63:Int))=false:=decide_eq_false (1:);have e2:decide (i≥2 ^ 63)=false:=decide_eq_false (1:);rw[e1,e2,Bool.or_false]) (by rw[h1];simpa using h2) ⟨.str ⟨#[c]⟩,H,I.tok _,⟨_,rfl⟩,q⟩) hs
def qcj(its:List Value)(n j:Nat)(u:Value):Obj.mapSeq (·.setIfInBounds j u) { cls:=.type "list",data:=.seq its.toArray n }={ cls:=.type "list",data:=.seq (its.set j u).toArray n }:=by simp[Obj.mapSeq]
def Inv.lst{pins:PP}{Z:St}{H:Hp}{s:Shared}{p:Addr}{xs:List V}(I:Inv X pins Z H s)(h:H p=some (.lst xs)) :
  ∃(its:List Value) (n:Nat),qF xs its/\s.heap.get? p=some { cls:=.type "list",data:=.seq its.toArray n }/\xs.length<=sizeLine:=by
 obtain⟨z,its,n,r,e⟩:=I.hok p _ h;exact⟨its,n,r,e,z⟩
def Inv.lstUpd{pins:PP}{Z:St}{H:Hp}{s:Shared}{p:Addr}{xs ys:List V}{its its':List Value}{n n':Nat}{f:Obj->Obj}(I:Inv X pins Z H s)(h:H p=some (.lst xs))
  (ho:s.heap.get? p=some { cls:=.type "list",data:=.seq its.toArray n }) (hf:f { cls:=.type "list",data:=.seq its.toArray n }={ cls:=.type "list",data:=.seq its'.toArray n' }) (r:qF ys its') (hz:ys.length<=sizeLine) (t:Nat) :
  Inv X pins Z (upd H p (.lst ys)) { s with heap:=s.heap.update p f,toks:=t }:=by
 have e:(s.heap.update p f).get? p=some { cls:=.type "list",data:=.seq its'.toArray n' }:=by rw[Heap.get?_update_self f ho (by rw[hf]<;>rfl),hf]
 refine I.write (x:=p) (e:=p) (by rw[h];trivial) (.inl rfl) (λb u hb q=>(Heap.get?_update_other _ _ (Ne.symm hb)).trans q) ⟨_,e⟩ ?_;exact⟨hz,its',n',r,e⟩
def qnl:V->V->V->Hp->(Hp->Prop)->Prop:=λo i v H Q=>∃p xs k j,o=.ref p/\i=.int k/\H p=some (.lst xs)/\ixN xs.length k=some j/\Q (upd H p (.lst (xs.set j v)))
def qfh:qoi X qnl:=by
 intro pins s Z H o i v ov iv u Q I ro ri rv h;obtain⟨p,xs,k,j,rfl,rfl,hp,hj,q⟩:=h;cases ro;obtain⟨t,rfl⟩:=ri;obtain⟨its,n,r,ho,hz⟩:=I.lst hp;obtain⟨h1,h2,h3,h4⟩:=qc9 hj;have hl:=r.length;have hn:=JT
 have I':Inv X pins Z (upd H p (.lst (xs.set j v))) { s with heap:=s.heap.update p (Obj.mapSeq (·.setIfInBounds j u)) }:=
  I.lstUpd hp ho (qcj its n j u) (r.set rv j) (by rw[List.length_set];exact hz) s.toks
 by_cases h0:0<=k
 ·have hk:k.toNat=j:=by
   rw[seqIndex_of h0 h4]at h1;exact Option.some.inj h1
  exact PySem.W.ki_setAt ho h0 (1:) (by rw[List.size_toArray,<-hl];exact h4) (by rw[hk];exact{_,I',q})
 ·have hk:(k+(its.toArray.size:Int)).toNat=j:=by
   rw[seqIndex_neg (1:) h3]at h1;rw[List.size_toArray,<-hl];exact Option.some.inj h1
  exact PySem.W.ki_setBack ho (1:) (by rw[List.size_toArray,<-hl];exact h3) (1:) (by rw[hk];exact{_,I',q})
def Zv(lo hi:Option Int)(n:Nat):(sliceBounds lo hi none n).1=((HT.sIx n 0 lo:Nat):Int)/\(sliceBounds lo hi none n).2.1=((HT.sIx n n hi:Nat):Int)/\(sliceBounds lo hi none n).2.2=1:=by
 refine{?_,?_,rfl}
 ·cases lo with
  |none=>simp[sliceBounds,HT.sIx]
  |some i=>
   simp![sliceBounds,HT.sIx,Option.getD_none,show(1:Int) > 0 by decide,if_true]
   by_cases h:i < 0
   ·simp![h,if_true]<;>lia
   ·simp![h,if_false]<;>lia
 ·cases hi with
  |none=>simp[sliceBounds,HT.sIx]
  |some i=>
   simp![sliceBounds,HT.sIx,Option.getD_none,show(1:Int) > 0 by decide,if_true]
   by_cases h:i < 0
   ·simp![h,if_true]<;>lia
   ·simp![h,if_false]<;>lia
def Qv(its:List Value)(lo hi:Option Int):slicePick its.toArray lo hi none=((its.drop (HT.sIx its.length 0 lo)).take (HT.sIx its.length its.length hi - HT.sIx its.length 0 lo)).toArray:=by obtain⟨h1,h2,h3⟩:=Zv lo hi its.toArray.size;unfold slicePick;rw[h1,h2,h3];simp![sliceRange_one,pick_run,List.size_toArray]<;>rfl
def qpa(K:Frag):V->Option Int->Option Int->Hp->VK->Prop:=λx lo hi H Q=>∃a xs,x=.ref a/\SqL K H a xs/\∀p,H p=none->Q (.ref p) (upd H p (.lst (qjB xs lo hi)))
def qhS:SlR X (qpa X.K):=by intro pins s Z H x v vl vu lo hi sl Q I rx hs pl pu h;obtain⟨a,xs,rfl,hx,q⟩:=h;cases rx;obtain⟨its,r,ht,hz⟩:=I.list hx;have hlen:=r.length;refine{"list",_,slot_list_getitem.lookup,ht.isList.typeIs,?_};refine wpAny_getItem_list_slice ht.isList hs pl pu .none (5:) ?_ (by rw[List.size_toArray]<;>lia);rw[Qv,<-hlen];refine{.ref s.heap.objs.size,_,I.laid (t':=s.toks) (o:=.lst (qjB xs lo hi)) (λb ob q=>Heap.get?_push_of_some _ q) (Nat.le_refl _) ?_,rfl,q _ (I.hok.fresh (Nat.le_refl _))};exact{Nat.le_trans (qaB xs lo hi) hz,_,0,(r.drop (HT.sIx xs.length 0 lo)).take (HT.sIx xs.length xs.length hi - HT.sIx xs.length 0 lo),Heap.get?_push_size _ rfl}
def JX:V->Bool
 |.non=>true
 |.bl _=>true
 |.int _=>true
 |.str _=>true
 |_=>false
def eqV:V->V->Bool
 |.non,.non=>true
 |.bl a,.bl b=>a == b
 |.bl a,.int b=>(if a then 1 else 0) == b
 |.int a,.bl b=>a == (if b then 1 else 0)
 |.int a,.int b=>a == b
 |.str a,.str b=>a == b
 |_,_=>false
theorem qka{A:Around}{s:Shared}{y x:V}{u v:Value}(ry:qI y u)(rx:qI x v)(fy:JX y=true)(fx:JX x=true):SeqAt.EqAt A s u v (eqV y x):=by
 cases y with
 |non=>
  cases ry
  cases x with
  |non=>cases rx;exact SeqAt.EqAt.same _
  |bl b=>cases rx;exact SeqAt.EqAt.none_bool b
  |int b=>obtain⟨t,rfl⟩:=rx;exact SeqAt.EqAt.none_int b t
  |str b=>obtain⟨t,rfl⟩:=rx;exact SeqAt.EqAt.none_str b t
  |_=>exact absurd (show false=true from fx) Bool.false_ne_true
 |bl a=>
  cases ry
  cases x with
  |non=>cases rx;exact SeqAt.EqAt.bool_none a
  |bl b=>cases rx;exact SeqAt.EqAt.bool_bool a b
  |int b=>obtain⟨t,rfl⟩:=rx;exact SeqAt.EqAt.bool_int a b t
  |str b=>obtain⟨t,rfl⟩:=rx;exact SeqAt.EqAt.bool_str a b t
  |_=>exact absurd (show false=true from fx) Bool.false_ne_true
 |int a=>
  obtain⟨t',rfl⟩:=ry
  cases x with
  |non=>cases rx;exact SeqAt.EqAt.int_none a t'
  |bl b=>cases rx;exact SeqAt.EqAt.int_bool a t' b
  |int b=>obtain⟨t,rfl⟩:=rx;exact SeqAt.EqAt.int_int a t' b t
  |str b=>obtain⟨t,rfl⟩:=rx;exact SeqAt.EqAt.int_str a t' b t
  |_=>exact absurd (show false=true from fx) Bool.false_ne_true
 |str a=>
  obtain⟨t',rfl⟩:=ry
  cases x with
  |non=>cases rx;exact SeqAt.EqAt.str_none a t'
  |bl b=>cases rx;exact SeqAt.EqAt.str_bool a t' b
  |int b=>obtain⟨t,rfl⟩:=rx;exact SeqAt.EqAt.str_int a t' b t
  |str b=>obtain⟨t,rfl⟩:=rx;exact SeqAt.EqAt.str_str a t' b t
  |_=>exact absurd (show false=true from fx) Bool.false_ne_true
 |_=>exact absurd (show false=true from fy) Bool.false_ne_true
def eqU(x:V)(u:Value):Bool:=match u with
 |.none=>eqV .non x
 |.bool b=>eqV (.bl b) x
 |.int i _=>eqV (.int i) x
 |.str z _=>eqV (.str z) x
 |_=>false
theorem qgD{x y:V}{u:Value}(r:qI y u)(f:JX y=true):eqU x u=eqV y x:=by
 cases y with
 |non=>cases r;rfl
 |bl b=>cases r;rfl
 |int i=>obtain⟨t,rfl⟩:=r;rfl
 |str z=>obtain⟨t,rfl⟩:=r;rfl
 |_=>exact absurd (show false=true from f) Bool.false_ne_true
theorem JY{x:V}:∀{xs:List V} {us:List Value},qF xs us->xs.all JX=true->us.any (eqU x)=xs.any λy=>eqV y x
 |_,_,.nil,_=>rfl
 | y::xs,u::us,.cons r t,f=>by rw[List.all_cons,Bool.and_eq_true]at f;rw[List.any_cons,List.any_cons,qgD r f.1,JY t f.2]
theorem yH{A:Around}{s:Shared}{x:V}{v:Value}(rx:qI x v)(fx:JX x=true):∀{xs:List V} {us:List Value},qF xs us->xs.all JX=true->∀u∈us,SeqAt.EqAt A s u v (eqU x u)
 |_,_,.nil,_=>λu hu=>by cases hu
 | y::xs,u::us,.cons r t,f=>λu' hu=>by
  rw[List.all_cons,Bool.and_eq_true]at f;rcases List.mem_cons.mp hu with rfl|hu
  ·rw[qgD r f.1];exact qka r rx f.1 fx
  ·exact yH rx fx t f.2 u' hu
def inV(x:V)(xs:List V):Bool:=xs.any λy=>eqV y x
def rIn(K:Frag)(neg:Bool):R2:=λx y H Q=>∃p xs,y=.ref p/\(SqL K H p xs\/SqT K H p xs)/\JX x=true/\xs.all JX=true/\Q (.bl (if neg then !inV x xs else inV x xs)) H
def qdb:OpR X (compareOp .In) (rIn X.K false):=by
 intro pins s Z H x y v u Q I rx ry h;obtain⟨p,xs,rfl,hq,fx,fs,q⟩:=h;cases ry;rcases hq with hq|hq
 ·obtain⟨its,r,pl,hz⟩:=I.list hq;refine SeqAt.in_listAt (eqU x) pl.isList (λw hw=>yH rx fx r fs w (-hw:)) ⟨.bl _,H,I,rfl,?_⟩;rw[show its.toArray.any (eqU x)=its.any (eqU x) by simp,JY r fs];exact q
 ·obtain⟨its,r,pl,hz⟩:=I.tuple hq;refine SeqAt.in_tupleAt (eqU x) pl (λw hw=>yH rx fx r fs w (-hw:)) ⟨.bl _,H,I,rfl,?_⟩;rw[show its.toArray.any (eqU x)=its.any (eqU x) by simp,JY r fs];exact q
def Zw:OpR X (compareOp .NotIn) (rIn X.K true):=by
 intro pins s Z H x y v u Q I rx ry h;obtain⟨p,xs,rfl,hq,fx,fs,q⟩:=h;cases ry;rcases hq with hq|hq
 ·obtain⟨its,r,pl,hz⟩:=I.list hq;refine SeqAt.notIn_listAt (eqU x) pl.isList (λw hw=>yH rx fx r fs w (-hw:)) ⟨.bl _,H,I,rfl,?_⟩;rw[show its.toArray.any (eqU x)=its.any (eqU x) by simp,JY r fs];exact q
 ·obtain⟨its,r,pl,hz⟩:=I.tuple hq;refine SeqAt.notIn_tupleAt (eqU x) pl (λw hw=>yH rx fx r fs w (-hw:)) ⟨.bl _,H,I,rfl,?_⟩;rw[show its.toArray.any (eqU x)=its.any (eqU x) by simp,JY r fs];exact q
def Jp:zc X (.builtin "len") (λxs H Q=>∃p ys,xs=[.ref p]/\(SqL X.K H p ys\/SqT X.K H p ys)/\Q (.int ys.length) H):=by
 intro pins s Z H xs us Q I r h;obtain⟨p,ys,rfl,hq,q⟩:=h;obtain⟨u,rfl,rx⟩:=Qr r;cases rx;have hn:=JT;rcases hq with hq|hq
 ·obtain⟨its,r',pl,hz⟩:=I.list hq;have hlen:=r'.length;exact Calls.call_len_list pl.isList (by simp![List.size_toArray]<;>lia) ⟨.int ys.length,H,I.tok _,⟨s.toks+1,by rw[List.size_toArray,hlen]⟩,q⟩
 ·obtain⟨its,r',pl,hz⟩:=I.tuple hq;have hlen:=r'.length;exact len_tuple pl (by simp![List.size_toArray]<;>lia) ⟨.int ys.length,H,I.tok _,⟨s.toks+1,by rw[List.size_toArray,hlen]⟩,q⟩
def Zx:zc X (.builtin "len") (λxs H Q=>∃z,xs=[.str z]/\z.length<=sizeLine/\Q (.int z.length) H):=by intro pins s Z H xs us Q I r h;obtain⟨z,rfl,hz,q⟩:=h;obtain⟨u,rfl,t,rfl⟩:=Qr r;have hn:=JT;exact len_str (1:) ⟨.int z.length,H,I.tok _,⟨_,rfl⟩,q⟩
def jO:zc X (.type "list") (λxs H Q=>∃p ys,xs=[.ref p]/\(SqL X.K H p ys\/SqT X.K H p ys)/\∀l,H l=none->Q (.ref l) (upd H l (.lst ys))):=by
 intro pins s Z H xs us Q I r h;obtain⟨p,ys,rfl,hq,q⟩:=h;obtain⟨u,rfl,rx⟩:=Qr r;cases rx
 have fin:∀(its:List Value),qF ys its->ys.length<=sizeLine->∀(h':Heap) (c':Nat),(∀b o',s.heap.get? b=some o'->h'.get? b=some o')->
   h'.get? s.heap.objs.size=some { cls:=.type "list",dict:=none,data:=.seq its.toArray c',slots:=#[] }->EP X pins Z Q (.ref s.heap.objs.size) { s with heap:=h' }:=λits r' hz h' c' kp e=>
  ⟨.ref s.heap.objs.size,_,I.laid (t':=s.toks) kp (Nat.le_refl _) (show qQ X.prog X.w _ h' _ (.lst ys) from⟨hz,its,c',r',e⟩),rfl,q _ (I.hok.fresh (Nat.le_refl _))⟩
 rcases hq with hq|hq
 ·obtain⟨its,r',pl,hz⟩:=I.list hq;have hlen:=r'.length;obtain⟨o,ho,hc,n,hd⟩:=pl.isList;exact call_list_seq p (.inl rfl) ho hc hd (λh' c' kp e=>fin its r' hz h' c' kp e) (by simp![List.size_toArray]<;>lia)
 ·obtain⟨its,r',pl,hz⟩:=I.tuple hq;have hlen:=r'.length;obtain⟨o,ho,hc,n,hd⟩:=pl;exact call_list_seq p (.inr rfl) ho hc hd (λh' c' kp e=>fin its r' hz h' c' kp e) (by simp![List.size_toArray]<;>lia)
def yI:zc X (.type "tuple") (λxs H Q=>∃p ys,xs=[.ref p]/\((SqL X.K H p ys/\∀l,H l=none->Q (.ref l) (upd H l (.tup ys)))\/(SqT X.K H p ys/\Q (.ref p) H))):=by
 intro pins s Z H xs us Q I r h;obtain⟨p,ys,rfl,h⟩:=h;obtain⟨u,rfl,rx⟩:=Qr r;cases rx;rcases h with ⟨hq,q⟩|⟨hq,q⟩
 ·obtain⟨its,r',pl,hz⟩:=I.list hq;have hlen:=r'.length;refine call_tuple_list pl.isList (λh' kp=>?_) (by simp![List.size_toArray]<;>lia);have I1:Inv X pins Z H { s with heap:=h' }:=I.kept (t':=s.toks) kp
  have I2:Inv X pins Z (upd H h'.objs.size (.tup ys)) { s with heap:=h'.push { cls:=.type "tuple",data:=.seq its.toArray } }:=
   I1.laid (t':=s.toks) (λb o e=>Heap.get?_push_of_some _ e) (Nat.le_refl _) (show qQ X.prog X.w _ _ _ (.tup ys) from⟨hz,its,r',IsTup.new _ _⟩)
  exact{.ref h'.objs.size,_,I2,rfl,q _ (I1.hok.fresh (Nat.le_refl _))}
 ·obtain⟨its,r',pl,hz⟩:=I.tuple hq;exact call_tuple_same pl ⟨.ref p,H,I,rfl,q⟩
def tyV(K:Frag)(T:String)(x:V)(H:Hp):Prop:=match x with
 |.str _=>T = "str"
 |.int _=>T = "int"
 |.ref p=>(T = "list"/\∃xs,SqL K H p xs)\/(T = "tuple"/\∃o,K.lookup p=some o/\o.cls=.type "tuple"/\o.dict=none)\/
   (T = "dict"/\((∃kvs,H p=some (.dK kvs))\/∃kvs,H p=some (.dT kvs)))\/(T = "set"/\∃S n,H p=some (.set S n))
 |_=>False
theorem qkb{pins:PP}{Z:St}{H:Hp}{s:Shared}{T:String}{x:V}{v:Value}(I:Inv X pins Z H s)(r:qI x v)(ty:tyV X.K T x H) :
  s.TypeIs v T/\∀a,v=.ref a->∃ob,s.heap.get? a=some ob/\ob.dict=none:=by
 cases x with
 |str z=>
  obtain⟨t,rfl⟩:=r
  cases (show T = "str" from ty)
  exact{typeIs_str s z t,λ_ e=>nomatch e}
 |int i=>
  obtain⟨t,rfl⟩:=r
  cases (show T = "int" from ty)
  exact{typeIs_int s i t,λ_ e=>nomatch e}
 |ref p=>
  cases r;rcases ty with ⟨rfl,xs,hq⟩|⟨rfl,o,hk,hc,hd⟩|⟨rfl,hk⟩|⟨rfl,S,n,hk⟩
  ·obtain⟨its,_,pl,_⟩:=I.list hq;refine{pl.isList.typeIs,λa e=>?_};cases e;obtain⟨o,n,e,c,hd,_⟩:=pl;exact⟨o,e,hd⟩
  ·refine{{o,I.kIn p o hk,hc},λa e=>?_};cases e;exact{o,I.kIn _ o hk,hd}
  ·have z:∃o,s.heap.get? p=some o/\o.ExactDict:=by
    rcases hk with ⟨kvs,hk⟩|⟨kvs,hk⟩
    ·obtain⟨_,_,_,_,o,_,_,e,ex,_⟩:=I.hok p _ hk;exact⟨o,e,ex⟩
    ·obtain⟨_,_,_,_,o,_,_,e,ex,_⟩:=I.hok p _ hk;exact⟨o,e,ex⟩
   obtain⟨o,e,ex⟩:=z;refine{⟨o,e,ex.1⟩,λa e2=>?_};cases e2;exact⟨o,e,ex.2.1⟩
  ·obtain⟨o,_,_,_,e,ex,_⟩:=I.hok p _ hk;refine{⟨o,e,ex.1⟩,λa e2=>?_};cases e2;exact⟨o,e,ex.2.1⟩
 |_=>exact False.elim ty
def tBM(K:Frag)(T:String)(r:V->List V->Hp->VK->Prop)(to:TE)(t:TA):TE:=λZ H Q=>to Z H λx H1=>tyV K T x H1/\t Z H1 λxs H2=>r x xs H2 Q
variable{o e:Expr}{es:List Expr}{to:TE}{t:TA}{name:Str}{apos cpos:Pos}{T id:String}{r:V->List V->Hp->VK->Prop}
def qkc(pa:PlainAttrs T)(slot:Slot T name id)(hty:typeOf (.builtin id)=pure (.type "method_descriptor"))(hm:MtR X id r)(ho:PE X o to)(ha:PA X (e::es) t)
  (hbase:attributeBase o name X.env (eval o X.env)=eval o X.env:=by rfl)
  (hfew:((backTo cpos (starEach (e::es) X.env)).all (λx=>!x.1)&&(backToKw cpos (keywordEach [] X.env)).all (λx=>x.1.isSome)
   && decide ((e::es).length+([]:List Keyword).length+(if ([]:List Keyword).isEmpty then 0 else 1) < 30))=true:=by rfl)
  (hline:(apos.endLine == cpos.line)=true:=by rfl) (hs:starEach (e::es) X.env=(false,eval e X.env)::starEach es X.env:=by rfl) (hplain:(backTo cpos (starEach es X.env)).any (·.1)=false:=by rfl) :
  PE X (.Call (.Attribute o name apos) (e::es) [] cpos) (tBM X.K T r to t):=by
 intro pins s Z H Q I h;refine wpAny_Call_method_late hbase hfew hline rfl (thn (ho pins s Z H _ I h) λv s1 hq1=>?_);obtain⟨x,H1,I1,r1,ty,q1⟩:=hq1;obtain⟨h1,h2⟩:=qkb I1 r1 ty;refine{T,id,pa,slot,hty,h1,h2,?_};have hA:=ha cpos pins s1 Z H1 _ I1 q1;rw[hs]at hA ⊢;refine Calls.callWith_builtin (by show(false||(backTo cpos (starEach es X.env)).any (·.1))=false;rw[hplain]<;>rfl) (Calls.evalArgs_plain ?_);exact thn hA λus s2 ⟨vs,H2,I2,r2,q2⟩=>hm pins s2 Z H2 x vs v us Q I2 r1 r2 q2
end
def MtM(X:Cx)(id:String)(r:V->List V->Hp->VK->Prop):Prop:=
 ∀(pins:PP) (s:Shared) (Z:St) (H:Hp) (x:V) (xs:List V) (v:Value) (us:List Value) (Q:VK),Inv X pins Z H s->qI x v->qF xs us->r x xs H Q->
  wpAny (model X.prog X.w) X.A (call (.builtin id) (v::us)) (EP X pins Z Q) X.xe s
theorem qF.one:∀{x:V} {us:List Value},qF [x] us->∃u,us=[u]/\qI x u
 |_,_,.cons r .nil=>{_,rfl,r}
section
variable{X:Cx}{pins:PP}{Z:St}{H:Hp}{s:Shared}{l b:Addr}{xs ys zs:List V}
def Inv.lset{its its':List Value}{n:Nat}{f:Array Value->Array Value}{t':Nat}(I:Inv X pins Z H s)(hH:H l=some (.lst xs))
  (e:s.heap.get? l=some { cls:=.type "list",data:=.seq its.toArray n }) (hf:f its.toArray=its'.toArray) (hv:qF ys its') (hz:ys.length<=sizeLine) :
  Inv X pins Z (upd H l (.lst ys)) { s with heap:=s.heap.update l (Obj.mapSeq f),toks:=t' }:=by
 have q:=PySem.IsL.update e f;rw[hf]at q;refine I.write (x:=l) (e:=l) (by rw[hH];exact trivial) (.inl rfl) (λb' u hb hu=>(Heap.get?_update_other s.heap (Obj.mapSeq f) (Ne.symm hb)).trans hu) ⟨_,q⟩ ?_;exact{hz,its',_,hv,q}
def Inv.lnew{its:List Value}{t':Nat}(I:Inv X pins Z H s)(hv:qF ys its)(hz:ys.length<=sizeLine) :
  Inv X pins Z (upd H s.heap.objs.size (.lst ys)) { s with heap:=s.heap.push { cls:=.type "list",data:=.seq its.toArray },toks:=t' }:=
 I.laid (λ_ _ q=>Heap.get?_push_of_some _ q) (Nat.le_refl _) ⟨hz,its,0,hv,Heap.get?_push_size _ rfl⟩
def Inv.fresh(I:Inv X pins Z H s):H s.heap.objs.size=none:=I.hok.fresh (Nat.le_refl _)
def Inv.lstM(I:Inv X pins Z H s)(hH:H l=some (.lst xs)):xs.length<=sizeLine/\∃(its:List Value) (n:Nat),qF xs its/\xs.length=its.length/\s.heap.get? l=some { cls:=.type "list",data:=.seq its.toArray n }:=by obtain⟨z,its,n,r,e⟩:=I.hok l _ hH;exact⟨z,its,n,r,r.length,e⟩
def qfi{n:Nat}(h:n<=sizeLine):Builtin.List.listTooLong n=false:=by unfold Builtin.List.listTooLong;exact decide_eq_false (1:)
end
section
variable{X:Cx}
def qhT:V->List V->Hp->VK->Prop:=λx vs H Q=>∃l xs y,x=.ref l/\vs=[y]/\H l=some (.lst xs)/\xs.length < sizeLine/\Q .non (upd H l (.lst (xs++[y])))
def qdc:MtM X "list.append" qhT:=by
 intro pins s Z H x vs v us Q I rx rv h;obtain⟨l,xs,y,rfl,rfl,hH,hz,q⟩:=h;cases rx;obtain⟨u,rfl,ru⟩:=rv.one;obtain⟨z,its,n,r,hl,e⟩:=I.lstM hH;refine call_meets F.slot_list_append ⟨_,e,rfl⟩ F.entry_list_append (F.args_list_append_2 _ _) (PySem.list_append l its.toArray n u (by rw[List.size_toArray];lia)) ⟨e,?_⟩;refine{.non,_,I.lset (its':=its++[u]) hH e (5:) (r.append %[ru|0]) ?_,rfl,q};rw[List.length_append,List.length_singleton]
 lia
def qhU:V->List V->Hp->VK->Prop:=λx vs H Q=>∃l b xs zs,x=.ref l/\vs=[.ref b]/\H l=some (.lst xs)/\H b=some (.lst zs)/\xs.length+zs.length<=sizeLine/\Q .non (upd H l (.lst (xs++zs)))
def qdd:MtM X "list.extend" qhU:=by
 intro pins s Z H x vs v us Q I rx rv h;obtain⟨l,b,xs,zs,rfl,rfl,hH,hB,hz,q⟩:=h;cases rx;obtain⟨u,rfl,ru⟩:=rv.one;cases ru;obtain⟨z,its,n,r,hl,e⟩:=I.lstM hH;obtain⟨z2,its2,n2,r2,hl2,e2⟩:=I.lstM hB;have hsz:its.toArray.size+its2.toArray.size<=sizeLine:=by rw[List.size_toArray,List.size_toArray];lia
 have hlong:¬ (!its.toArray.isEmpty&&Builtin.List.listTooLong (its.toArray.size+its2.toArray.size))=true:=by rw[qfi hsz,Bool.and_false];exact Bool.false_ne_true
 refine call_meets F.slot_list_extend ⟨_,e,rfl⟩ F.entry_list_extend (F.args_list_extend_2 _ _)
  (AutoSeq1.list_extend_list_list_0 l its.toArray n b its2.toArray n2 hlong (by rw[List.size_toArray];lia) (1:)) ⟨e,e2,?_⟩
 refine{.non,_,I.lset (its':=its++its2) hH e (5:) (r.append r2) ?_,rfl,q};rw[List.length_append]
 lia
def qpb:R2:=λx y H Q=>∃l b xs zs,x=.ref l/\y=.ref b/\H l=some (.lst xs)/\H b=some (.lst zs)/\xs.length+zs.length<=sizeLine/\∀p,H p=none->Q (.ref p) (upd H p (.lst (xs++zs)))
def qkd:OpR X (binaryOp .Add) qpb:=by
 intro pins s Z H x y v u Q I rx ry h;obtain⟨l,b,xs,zs,rfl,rfl,hH,hB,hz,q⟩:=h;cases rx;cases ry;obtain⟨z,its,n,r,hl,e⟩:=I.lstM hH;obtain⟨z2,its2,n2,r2,hl2,e2⟩:=I.lstM hB;refine PySem.P.add_list e e2 ?_ (by rw[List.size_toArray,List.size_toArray];lia);have ea:its.toArray++its2.toArray=(its++its2).toArray:=by simp
 rw[ea];exact{.ref _,_,I.lnew (t':=s.toks) (r.append r2) (by rw[List.length_append];lia),rfl,q _ I.fresh}
end
end L2
namespace Att
open PySem PySem.W PySem.Calls PyProof.Rows
theorem JZ{P:Params}{h:Heap}:∀(ns:List Int) (vs:List Value),WellAll P h vs (ns.map WData.int)->IntsAre vs ns:=by
 intro ns
 induction ns with
 |nil=>intro vs w;rw[List.map_nil]at w;cases w;exact .nil
 |cons n ns ih=>
  intro vs w;rw[List.map_cons]at w
  cases w with
  |cons a b=>cases a;exact .cons _ _ (ih _ b)
theorem qde{l:OpenLaw}{n:Nat}(hn:l.most=some n){P:Params}{h:Heap}{args:List WData}{vals:List Value}
  (hpre:l.row.toRowW.claim.pre args=true) (hwl:WellAll P h vals args) :
  ∃a vs ns,vals=[Value.ref a]/\args=[WData.list (ns.map WData.int)]/\h.get? a=some { cls:=.type "list",data:=.seq vs.toArray }/\IntsAre vs ns/\ns.length<=n:=by
 have hsh:WShape.hasAll [] args [.list .int]=true:=(pre_splitW hpre).1;have hc:l.pre.holds [] { args:=args }=true:=(pre_splitW hpre).2;obtain⟨d,r,rfl,h1,h2⟩:=hasAllW_cons hsh;cases hasAllW_nil h2;obtain⟨xs,rfl,h3⟩:=hasW_list h1;obtain⟨ns,rfl⟩:=items_int h3
 have hlen:ns.length<=n:=by
  unfold OpenLaw.pre at hc
  have h4:(WTm.not (.lt (.lit (.int (n:Int))) (.len (.arg 0)))).holds [] { args:=[.list (ns.map .int)] }=true:=by have h4:=(holds_andW hc).1;rw[hn]at h4;exact h4
  have h5:=condW_of h4 (w_not (w_lt w_lit (w_len_list (w_arg rfl))));rw[List.length_map]at h5;refine Nat.le_of_not_lt λq=>?_;have q':(n:Int) < ((ns.length:Nat):Int):=by lia
  first
   | (rw[decide_eq_true q']at h5;exact absurd h5 (2:))
   | (simp at h5;lia)
 cases hwl with
 |cons w1 w2=>
  cases w2
  cases w1 with
  |list ho hall=>exact{_,_,ns,rfl,rfl,ho,JZ ns _ hall,hlen}
def qdf(l:OpenLaw)(args:List WData):l.row.toRowW.claim.post args (.bool true) args=true:=
 postW_of (r:=l.row.toRowW) (X:=(true == true))
  (show WShape.has [] (.bool true) .bool=true by first|rfl|decide|simp[WShape.has,WShape.arms,WShape.armsAll])
  (show(WTm.eq .res (.lit (.bool true))).value [] { args:=args,res:=some (.bool true),after:=args }=some (.bool (true == true)) from w_eq_bool (w_res rfl) w_lit) rfl
def qaD{l:OpenLaw}{n:Nat}{q:Program}{loose:List Str}{XP:(Str->Option Value)->Heap->Prop}{YP:World->Heap->Prop}{d:DefRec}
  (hn:l.most=some n) (hdf:d.params.defaults=[])
  (call:∀(w:World) (s₀ s₁:Shared) (mg mb:PR) (fa:Addr) (o:Obj) (pm cd doc:Value) (a:Addr) (vs:List Value) (ns:List Int),
   Ground q loose [] XP w s₀ mg mb s₁.heap->YP w s₁.heap->
   s₁.heap.get? fa=some o->o.data=.func (docDef d.name d.params d.body d.scope pm cd doc)->s₁.heap.CodeRec cd d.name->mg d.name=some (.ref fa)->
   s₁.heap.get? a=some { cls:=.type "list",data:=.seq vs.toArray }->IntsAre vs ns->ns.length<=n->s₁.gens=#[]->
   codeAny (model l.prog w) callerA (.call (.ref fa) ⟨[.ref a],[]⟩) (λr s'=>r=.ok (.ret (.bool true))/\OldK s₁.heap s'.heap/\s'.os=s₁.os/\AllBare s'.gens) s₁) :
  WalkO q loose XP YP l.row.toRowW d [] (λf vs=>PySem.call f vs):=by
 intro w s₀ s₁ mg mb G Y fa o pm cd doc dV kV ho hd hcd hD hmg hg args vals as hpre hlay hrd hwl hlo;obtain rfl:dV=.none:=Dflts.none hD hdf;obtain rfl:kV=.none:=Dflts.noKw hD;obtain⟨a,vs,ns,rfl,rfl,hobj,hints,hlen⟩:=qde hn hpre hwl;refine enter_call (codeAny_mono (call w s₀ s₁ mg mb fa o pm cd doc a vs ns G Y ho (fd_plain hd) hcd hmg hobj hints hlen hg) λr s' hq=>?_);obtain⟨rfl,h2,h3,h4⟩:=hq;exact{.inl {.bool true,.bool true,[],rfl,λ_=>rfl,.bool true,qdf l _,λ_=>{List.Pairwise.nil,λ_ hm=>(nomatch hm)}},h2,h3,h4}
end Att
namespace L2
open PySem PySem.Spec PyProof.Rows
theorem Zy:∀{vs:List Value} {ns:List Int},IntsAre vs ns->qF (ns.map V.int) vs
 |_,_,.nil=>.nil
 |_,_,.cons n t h=>.cons ⟨t,rfl⟩ (Zy h)
def qnm(H:Hp):Prop:=∀b,H b=none\/∃o xs,H b=some (.frz o (.lst xs))
theorem qfj{P:Program}{w:World}{K:Frag}{mg mb:PR}{CX:CXT}{k:Nat}{fa a:Addr}{fd:FuncData}{x:Str}{sp:Sp}{s₁:Shared}{vs:List Value}{ns:List Int}
  (KX:K.In s₁.heap) (hns:s₁.heap.Ns mainGlobals mg) (hb:s₁.heap.Ns builtinsNs mb) (hbb:∀x:Str,x≠"__name__"->mb x=bootBuiltins x) (hlim:s₁.heap.NoLimit) (hg:s₁.gens=#[])
  (ha:s₁.heap.get? a=some { cls:=.type "list",data:=.seq vs.toArray }) (hi:IntsAre vs ns) (hl:ns.length<=sizeLine) (hr:Room k callerA)
  (F:∀base:Heap,K.In base->base.Ns mainGlobals mg->FnOk P w K mg base CX k fa fd [x] sp) (hbind:∀(s:Shared) (u:Value),BindsTo s fd ⟨[u],[]⟩ [(x,u)])
  (hsp:∀H:Hp,qnm H->SqL K H a (ns.map V.int)->sp [.ref a] H (λv _=>v=.bl true) λ_ _ _=>False)
  (hCX:∀H e s',CX [] H s₁ (λ_ _ _=>False) e s'->False) :
  codeAny (model P w) callerA (.call (.ref fa) ⟨[.ref a],[]⟩) (λr s'=>r=.ok (.ret (.bool true))/\OldK s₁.heap s'.heap/\s'.os=s₁.os/\AllBare s'.gens) s₁:=by
 have rv:=Zy hi;have lenV:=hi.length
 have core:∀H:Hp,qnm H->SqL K H a (ns.map V.int)->HOk P w H s₁.heap->(∀b,H b≠none->b=a)->(H a≠none->K.lookup a=none)->
   codeAny (model P w) callerA (.call (.ref fa) ⟨[.ref a],[]⟩) (λr s'=>r=.ok (.ret (.bool true))/\OldK s₁.heap s'.heap/\s'.os=s₁.os/\AllBare s'.gens) s₁:=by
  intro H hO hS hok hA hK;have base_of:∀{b:Addr} {o:Obj},s₁.heap.get? b=some o->H b=none->(qe1 s₁.heap H).get? b=some o:=λe n=>qe2 e n
  have noA:∀{b:Addr} {o:Obj} {es:Array DictEntry} {ep:Nat},s₁.heap.get? b=some o->o.data=.dict es ep->H b=none:=λ{b o es ep} e d=>by
   cases q:H b with
   |none=>rfl
   |some u=>have e':b=a:=hA b (by rw[q];simp);subst e';rw[ha]at e;cases e;have d':Data.seq vs.toArray _=Data.dict es ep:=d;cases d'
  have nsK:∀{b:Addr} {m:PR},s₁.heap.Ns b m->(qe1 s₁.heap H).Ns b m:=λ{b m} ⟨o,es,ep,e,d,r⟩=>{o,es,ep,base_of e (noA e d),d,r}
  have hKb:K.In (qe1 s₁.heap H):=λb o e=>base_of (KX b o e) (by
   cases q:H b with
   |none=>rfl
   |some u=>have e':b=a:=hA b (by rw[q];simp);subst e';rw[hK (by rw[q];simp)]at e;cases e)
  have hM:Mod K mg (qe1 s₁.heap H):={hKb,nsK hns,{mb,nsK hb,hbb},let ⟨mc,h1,h2⟩:=hlim;⟨mc,nsK h1,h2⟩};have e0:Env0 P w K mg (qe1 s₁.heap H) callerA [] s₁ H:={rfl,hM,λb o e=>qhx e,Nat.le_of_eq (qcU _ _),trivial,λb hb=>absurd (show b∈([]:List Addr) from hb) (5:),hok,.of_eq hg};refine codeAny_mono ((F _ hKb (nsK hns)).run callerA [] s₁ H ⟨[.ref a],[]⟩ [.ref a] [.ref a] _ _ hr e0 (hbind s₁ (.ref a)) %[rfl|0] (hsp H hO hS)) λr s' h=>?_
  cases r with
  |error e=>exact(hCX H e s' h).elim
  |ok fl=>
   cases fl with
   |next=>exact False.elim h
   |brk=>exact False.elim h
   |cont=>exact False.elim h
   |ret u=>
    obtain⟨v,H',os,bare,un,hok',r',q⟩:=h;have q':v=.bl true:=q;subst q';obtain rfl:u=Value.bool true:=r';refine{rfl,OldK.of_keep λb o e=>?_,os,bare}
    cases q:H b with
    |none=>exact un.keep b o e q (by intro z;exact absurd (show b∈([]:List Addr) from z) (5:)) (5:)
    |some u=>
     rcases hO b with z|⟨ob,xs,z⟩
     ·rw[q]at z;cases z
     ·have z2:=un.frzs b ob _ z;obtain⟨e1,_⟩:=hok b _ z;obtain⟨e2,_⟩:=hok' b _ z2;rw[e]at e1;cases e1;exact e2
 cases hk:K.lookup a with
 |some o=>have e:=KX a o hk;rw[ha]at e;cases e;refine core (λ_=>none) (λ_=>.inl rfl) (.inr ⟨_,vs.toArray,_,hk,rfl,rfl,rfl,by rw[List.size_toArray,lenV];exact hl,(-rv:)⟩) (λb u z=>by have z':(none:Option HO)=some u:=z;cases z') (λb z=>absurd rfl z) λz=>absurd rfl z
 |none=>
  refine core (λb=>if b=a then some (.frz { cls:=.type "list",data:=.seq vs.toArray } (.lst (ns.map V.int))) else none) (λb=>?_) (.inl (.inr ⟨{ cls:=.type "list",data:=.seq vs.toArray },if_pos rfl⟩)) (λb u z=>?_) (λb z=>?_) λ_=>hk
  ·by_cases hb:b=a
   ·exact .inr ⟨_,_,if_pos hb⟩
   ·exact .inl (if_neg hb)
  ·by_cases hb:b=a
   ·have z':=(if_pos hb).symm.trans z;cases z';subst hb;exact{ha,by rw[List.length_map];exact hl,vs,_,rv,ha}
   ·have z':=(if_neg hb).symm.trans z;cases z'
  ·by_cases hb:b=a
   ·exact hb
   ·exact absurd (if_neg hb) z
def qhV{l:PySem.W.OpenLaw}{n k:Nat}{q:Program}{loose:List Str}{XP:(Str->Option Value)->Heap->Prop}{YP:World->Heap->Prop}{d:DefRec}{K:Params->Frag}{CX:World->CXT}{sp:World->Sp}{x:Str}
  (hn:l.most=some n) (hn2:n<=sizeLine) (hdf:d.params.defaults=[]) (hr:Room k callerA)
  (hY:∀(w:World) (h:Heap),YP w h->(K w.params).In h)
  (F:∀(w:World) (mg:PR) (fa:Addr) (h:Heap),(K w.params).In h->h.Ns mainGlobals mg->mg d.name=some (.ref fa)->
   ∃fd:FuncData,(∀(s:Shared) (u:Value),BindsTo s fd ⟨[u],[]⟩ [(x,u)])/\
    ∀base:Heap,(K w.params).In base->base.Ns mainGlobals mg->FnOk l.prog w (K w.params) mg base (CX w) k fa fd [x] (sp w))
  (hsp:∀(w:World) (H:Hp) (a:Addr) (ns:List Int),ns.length<=n->qnm H->SqL (K w.params) H a (ns.map V.int)->sp w [.ref a] H (λv _=>v=.bl true) λ_ _ _=>False)
  (hCX:∀(w:World) (H:Hp) (s:Shared) (e:Value) (s':Shared),CX w [] H s (λ_ _ _=>False) e s'->False) :
  PySem.W.WalkO q loose XP YP l.row.toRowW d [] (λf vs=>PySem.call f vs):=by
 refine Att.qaD hn hdf λw s₀ s₁ mg mb fa o pm cd doc a vs ns G Y ho hd hcd hmg hobj hints hlen hg=>?_;have KX:=hY w _ Y;obtain⟨fd,hb,hF⟩:=F w mg fa _ KX G.T.g hmg;exact qfj KX G.T.g G.T.b G.T.builtins G.T.nolimit hg hobj hints (Nat.le_trans hlen hn2) hr hF hb (λH hO hS=>hsp w H a ns hlen hO hS) λH e s'=>hCX w H s₁ e s'
def qW(s:Stmt):Arguments:=match s with
 |.FunctionDef _ a _ _ _ _ _ _ _ _=>a
 |_=>{ posonlyargs:=[],args:=[],vararg:=none,kwonlyargs:=[],kw_defaults:=[],kwarg:=none,defaults:=[] }
def qw(s:Stmt):List Stmt:=match s with
 |.FunctionDef _ _ b _ _ _ _ _ _ _=>b
 |_=>[]
def qh(s:Stmt):Scope:=match s with
 |.FunctionDef _ _ _ _ _ _ sc _ _ _=>sc
 |_=>{ kind:=.function,names:=[],isGenerator:=false,isCoroutine:=false }
abbrev CX0:CXT:=λ_ _ _ _ _ _=>False
abbrev E0:XK:=λ_ _ _=>False
def qaE{X:Cx}:zN CX0 X E0:=λ_ _ _ _ _ _ _ h=>h.elim
structure Fun(K:Frag)(x qual:Str)(st:Stmt)(f:Addr)(fd:FuncData):Prop where
 ex:∃(oc:Value) (od:Option Addr) (kV doc pm:Value) (an:Option Addr) (cdv ct:Value) (osl:Array (Option Value)),
  fd=PySem.W.fnOf x qual (qW st) (qw st) (qh st) .none kV doc pm an cdv ct/\K.lookup f=some ⟨oc,od,.func fd,osl⟩/\PySem.W.codeIn K cdv qual=true
 kp:PySem.W.keepIn K (.ref f)=true
section
variable{P:Program}{w:World}{K:Frag}{mg:PR}{base:Heap}
def Fun.ok{x qual:Str}{st:Stmt}{f:Addr}{fd:FuncData}{N ps:List Str}{k:Nat}{sp:Sp}(F:Fun K x qual st f fd)(S:FnScope N ps (qh st))(len:∀vs H Q E,sp vs H Q E->vs.length=ps.length)
  (hbody:∀(cdv:Value) (A:Around) (outer:List Env) (s:Shared) (H:Hp) (vs:List V) (Q:VK) (E:XK),Room k (A.deeper (envOfC qual (qh st) s.heap.objs.size f cdv))->sp vs H Q E->
   ∃t,PSs (Zh CX0 P w K mg base N qual (qh st) f cdv A outer s H E).nox (qw st) t/\t { nx:=λ_ H'=>Q .non H',rt:=Q } (yu N vs) H):FnOk P w K mg base CX0 (k+1) f fd ps sp:=by
 obtain⟨oc,od,kV,doc,pm,an,cdv,ct,osl,rfl,lk,hcd⟩:=F.ex;refine qj7 lk hcd S len λA outer s H vs Q E hr hsp=>?_;obtain⟨t,h,q⟩:=hbody cdv A outer s H vs Q E hr hsp;exact⟨t,h.nox,q⟩
def Fun.binds{x qual:Str}{st:Stmt}{f:Addr}{fd:FuncData}{ps:List Str}(F:Fun K x qual st f fd)
  (h:∀(kV doc pm:Value) (an:Option Addr) (cdv ct:Value) (us:List Value),us.length=ps.length->bindArgs (PySem.W.fnOf x qual (qW st) (qw st) (qh st) .none kV doc pm an cdv ct) ⟨us,[]⟩=pure (ps.zip us)):qR K fd ps []:=by
 obtain⟨oc,od,kV,doc,pm,an,cdv,ct,osl,rfl,lk,hcd⟩:=F.ex;exact .all (h kV doc pm an cdv ct)
def qgE{x qual:Str}{st:Stmt}{f:Addr}{oc:Value}{od an:Option Addr}{osl:Array (Option Value)}{kV doc pm cdv ct:Value}(l:K.lookup f=some ⟨oc,od,.func (PySem.W.fnOf x qual (qW st) (qw st) (qh st) .none kV doc pm an cdv ct),osl⟩)
  (c:PySem.W.codeIn K cdv qual=true) (k:PySem.W.keepIn K (.ref f)=true):Fun K x qual st f (PySem.W.fnOf x qual (qW st) (qw st) (qh st) .none kV doc pm an cdv ct):={⟨oc,od,kV,doc,pm,an,cdv,ct,osl,rfl,l,c⟩,k}
end
def Zz{n:Nat}(h:n<=1000):n < sizeLine:=Nat.lt_of_le_of_lt h (2:)
section
variable{X:Cx}
def pv(i:Nat){x:Str}{pos:Pos}(hN:X.N[i]?=some x:=by rfl)(hv:Vis X.env.scope x:=by first|exact Or.inl rfl|exact Or.inr (Or.inl rfl)|exact Or.inr (Or.inr rfl))(hd:(x == ("__debug__" : Str))=false:=by decide)
  (hcd:(x == ("__classdict__" : Str))=false:=by decide):PE X (.Name x pos) (qhy i):=yG hN hv hd hcd
end
def qq(H H':Hp):Prop:=∀b o,H b=some o->H' b=some o
def qq.seq{K:Frag}{H H':Hp}{a:Addr}{xs:List V}(e:qq H H')(h:SqL K H a xs):SqL K H' a xs:=by
 rcases h with (h|⟨o,h⟩)|h
 ·exact .inl (.inl (e _ _ h))
 ·exact .inl (.inr ⟨o,e _ _ h⟩)
 ·exact .inr h
end L2
set_option maxHeartbeats 4000000
namespace DG
open PySem
def qhW:Stmt->List Stmt
 |.ClassDef _ _ _ b _ _ _ _ _ _ _=>b
 |_=>[]
end DG
namespace HD
open PySem PySem.W
def J0(tb:String->Option Builtin)(p:Program)(w:World)(n₀:Nat)(ann:Option Value):Nat->SharedT->Thread->Option SharedT
 |0,_,_=>none
 | n+1,s,t=>match through t with
  |true=>some s
  |false=>match stepOk n₀ ann t with
   |false=>none
   |true=>match stepT (denote tb) p w s t with
    | some (s',t')=>J0 tb p w n₀ ann n s' t'
    |none=>none
theorem ZB{tb:String->Option Builtin}{p:Program}{w:World}{n₀:Nat}{ann:Option Value}:∀{n:Nat} {s s':SharedT} {t:Thread},J0 tb p w n₀ ann n s t=some s'->topRun tb p w n₀ ann n s.abs t=some s'.abs
 |0,_,_,_,h=>by cases h
 | n+1,s,s',t,h=>by
  unfold J0 at h;unfold topRun
  cases ht:through t with
  |true=>rw[ht]at h;cases h;rfl
  |false=>
   rw[ht]at h
   cases hk:stepOk n₀ ann t with
   |false=>rw[hk]at h;cases h
   |true=>
    rw[hk]at h
    cases hs:stepT (denote tb) p w s t with
    |none=>rw[hs]at h;cases h
    |some r=>obtain⟨s₂,t₂⟩:=r;rw[hs]at h;dsimp only;rw[stepT_spec hs];exact ZB h
def ofL:List Obj->Nat->BT->BT
 |[],_,t=>t
 | o::r,n,t=>ofL r (n+1) (t.ins n o)
def qhX(P:Params)(os:OsState):SharedT:={ofL (boot_heap P).objs.toList 0 .nil,(boot_heap P).objs.toList.length,(boot_heap P).life,Array.mk [],boot_drawn,boot_toks,os}
def qdg(P:Params)(os:OsState):(qhX P os).abs=⟨boot_heap P,Array.mk [],boot_drawn,boot_toks,os⟩:=(4:)
def qhY{α:Type}(p q:Program)(loose:List Str)(Xt:Shared->Bool)(Yf:Shared->α)(g0:Bool)(Hv:Heap)(s:Shared):=
 (staticsOk (importedModules p.main.body) Hv s.heap&&namesBound p s.heap&&gensDone s&&laidKept Hv s.heap,openSeen q loose (importedModules p.main.body) Xt g0 s,Yf s)
def qhZ{p q:Program}{loose:List Str}{Xt:Shared->Bool}{α:Type}{Yf:Shared->α}{Ya:World->α}{N:Nat}{g0:Bool}{m₀:Nat}{ann:Option Value}
  (open_:∀w:World,(fencedOpening treeTable p w N).map (λs=>(s.heap,s.gens,s.drawn,s.toks))=some (boot_heap w.params,Array.mk [],boot_drawn,boot_toks))
  (size:∀w:World,((boot_heap w.params).isNs mainGlobals&&(Array.mk []:Array GenState).size == 0,(boot_heap w.params).objs.size,(boot_heap w.params).nsMap mainGlobals "__annotations__")=(true,m₀,ann))
  (h:∀w os,(J0 treeTable p w m₀ ann N (qhX w.params os) (topStub p)).map (λs=>qhY p q loose Xt Yf g0 (boot_heap w.params) s.abs)=some (true,openGood q loose,Ya w)):LeftO p q loose Xt Yf Ya N g0:=λw=>by
 obtain⟨⟨h0,gs,d,k,os⟩,e,e'⟩:=Option.map_eq_some_iff.mp (open_ w);obtain⟨rfl,rfl,rfl,rfl⟩:h0=boot_heap w.params/\gs=Array.mk []/\d=boot_drawn/\k=boot_toks:=(-e':)
 obtain⟨z1,z2,z3⟩:_/\_/\_:=by simpa only[Prod.mk.injEq] using size w
 obtain⟨s₁,r,l⟩:=Option.map_eq_some_iff.mp (h w os);have r':=ZB r;rw[qdg]at r';obtain⟨l1,l2,l3⟩:_/\_/\_:=by simpa only[qhY,Prod.mk.injEq] using l
 have t:topFrom treeTable p w N ⟨boot_heap w.params,Array.mk [],boot_drawn,boot_toks,os⟩=some s₁.abs:=by unfold topFrom;dsimp only;rw[z1,z2,z3,r'];show(match staticsOk (importedModules p.main.body) (boot_heap w.params) s₁.abs.heap&&namesBound p s₁.abs.heap&&gensDone s₁.abs&&laidKept (boot_heap w.params) s₁.abs.heap with |true=>_ |false=>_)=_;rw[l1]
 unfold openEnds;rw[e];show(topFrom treeTable p w N _).map _=_;rw[t];exact congrArg some (Prod.ext l2 l3)
def dE(P:Params)(k:Str)(t:Tok)(v:Value):DictEntry:={PyData.keyHash P k,.str k t,v}
def oFn(d:Option Addr)(st:Stmt)(name qual:Str)(dV kV doc pm:Value)(an:Option Addr)(cd ct:Value):Obj:={.type "function",d,.func (fnOf name qual (L2.qW st) (L2.qw st) (L2.qh st) dV kV doc pm an cd ct),#[]}
def oC(n:Str)(t1:Tok)(q:Str)(t2 t3:Tok)(l ar:Int)(a b:Addr)(x y:Value)(c:Addr)(u:Int)(v:Tok):Obj:={.type "code",none,.fields #[.str n t1,.str q t2,.str "/claim/cut.py" t3,.int l 0,.int ar 0,.int 0 0,.int 0 0,.int 3 0,.ref a,.bool true,.int 181 0,.ref b,.none,x,y,.ref c,.int u 0,.int l 0,.str "/claim/cut.py" v],#[]}
def oG(st:Stmt)(n m:Str)(t:Tok)(a:Addr):Obj:=oFn none st n n .none .none .none (.str m t) none (.ref a) .none
def oB(n:Str)(t:Tok)(l ar:Int)(a:Addr)(v:Nat):Obj:=oC n t n (t+1) (t+2) l ar a (a+1) (.ref (a+2)) (.ref (a+3)) (a+4) v (v+1)
def co(a:Addr)(o:Obj)(r:Frag):Frag:=(a,o)::r
def fB(st:Stmt)(m:Str)(mt:Tok)(a b:Addr)(n:Str)(t:Tok)(l ar:Int)(u:Nat)(r:Frag):Frag:=(a,oB n t l ar (a - 5) u)::(b,oG st n m mt a)::r
def fM(st:Stmt)(m:Str)(mt:Tok)(a b:Addr)(n q:Str)(t:Tok)(l ar:Int)(u:Nat)(r:Frag):Frag:=(a,oC n t q (t+1) (t+2) l ar (a - 5) (a - 4) (.ref (a - 3)) (.ref (a - 2)) (a - 1) u (u+1))::(b,oFn none st n q .none .none .none (.str m mt) none (.ref a) .none)::r
def dRs(P:Params)(L:List (Str×Tok×Addr))(r:List DictEntry):List DictEntry:=L.foldr (λx r=>dE P x.1 x.2.1 (.ref x.2.2)::r) r
def kD(P:Params)(m:Str)(mt t:Tok)(l:Int)(k:Nat)(L:List (Str×Tok×Addr))(d:Tok):Obj:={.type "dict",none,.dict {dE P "__module__" (t+7) (.str m mt)::dE P "__firstlineno__" (t+11) (.int l (t+10))::dRs P L [dE P "__doc__" d .none]} k,#[]}
def kO(nw:String)(a b:Addr)(n:Str)(t:Tok)(e:Value)(ms ss:List Value)(i:Option Value):Obj:={.type "type",none,.cls {n,[e],.ref b::ms,a,n,true,[],ss,false,none,false},#[i,none,some (.str n t),some (.str n (t+8)),some (.builtin nw),some (.bool true)]}
def kC(P:Params)(m:Str)(mt:Tok)(nw:String)(a b:Addr)(n:Str)(t:Tok)(l:Int)(k:Nat)(L:List (Str×Tok×Addr))(d:Tok)(e:Value)(ms ss:List Value)(i:Option Value)(r:Frag):Frag:=
 (a,kD P m mt t l k L d)::(b,kO nw a b n t e ms ss i)::r
def qdh(w:World):((boot_heap w.params).isNs mainGlobals&&(Array.mk []:Array GenState).size == 0,(boot_heap w.params).objs.size,(boot_heap w.params).nsMap mainGlobals "__annotations__")=(true,11,some (.ref 6)):=(4:)
end HD
namespace K41
open PySem DG
def top(i:Nat):Stmt:=PySem.Challenge.pw_daysgate_k41_limits_refused.main.body.getD i (.Pass ⟨0,0,0,0⟩)
def mem(i j:Nat):Stmt:=(qhW (top i)).getD j (.Pass ⟨0,0,0,0⟩)
open PySem.W HD
abbrev HP:Program:=PySem.Challenge.rw_daysgate_k41_limits_refused.row.toRowW.prog
def Hq:Program:=view HP [1,2,3,4,5,6,7,8,10,11,12,13,15,16,17,18,19,20,21,22,23,25,26,27,28,29,30,31,32,33,35,36,37,39,40,41,42,43,44,45,46,47,48,50,51,52,53,54,55,56,57,58,60,61,62,63,64,65,67,68,69,70,71,72,73,74,75,76,77,78,79]
def Hx(s:Shared):Bool:=xlAt Hq [] s&&recOk (RowW.records PySem.Challenge.rw_daysgate_k41_limits_refused.row.toRowW) s
def Has:List Addr:=[2,3,20,21,27,28,34,35,41,42,48,49,55,56,62,63,69,70,76,77,86,87,88,99,100,115,116,118,119,134,135,137,138,153,154,156,157,168,169,180,181,192,193,204,205,213,214,220,221,234,235,241,242,244,245,246,247,262,263,269,270,272,273,288,289,295,296,298,299,314,315,321,322,324,325,331,332,338,339,345,346,350,351,357,358,364,365,371,372,378,379,385,386,392,393,397,398,404,405,411,412,418,419,425,426,432,433,439,440,446,447,453,454,460,461,467,468,474,475,481,482,488,489,502,503,509,510,516,517,521,522,524,525,526,527,535,536,542,543,547,548,554,555,561,562,568,569,575,576,582,583,589,590,596,597,603,604,610,611,615,616]
def t0(i:Nat):=fB (top i) "daysgate.checks" 187
def t1(i:Nat):=fB (top i) "daysgate.days" 235
def m2(i j:Nat):=fM (mem i j) "daysgate.errors" 280
def k2(w:String)(P:Params):=kC P "daysgate.errors" 280 w
def t3(i:Nat):=fB (top i) "daysgate.rules" 459
def m3(i j:Nat):=fM (mem i j) "daysgate.rules" 459
def k3(w:String)(P:Params):=kC P "daysgate.rules" 459 w
def t4(i:Nat):=fB (top i) "daysgate.stays" 630
def t5(i:Nat):=fB (top i) "daysgate.sums" 651
def t6(i:Nat):=fB (top i) "daysgate.limits" 756
def t7(i:Nat):=fB (top i) "daysgate.books" 851
def m7(i j:Nat):=fM (mem i j) "daysgate.books" 851
def k7(w:String)(P:Params):=kC P "daysgate.books" 851 w
def t8(i:Nat):=fB (top i) "law_daysgate_k41_limits_refused" 934
def e0(P:Params)(a b:Addr)(n:Str)(t:Tok)(l:Int)(k:Nat)(L:List (Str×Tok×Addr))(d:Tok):=k2 "ValueError.__new__" P a b n t l k L d (.ref 87) [(.ref 87),(.type "ValueError"),(.type "Exception"),(.type "BaseException"),(.type "object")] []
def HK(P:Params):Frag:=by
 refine(?f:∀K,K=(co (nat_lit 2) ⟨.none,none,.dict #[] 0,#[]⟩ <| co (nat_lit 3) ⟨.type "dict",none,.dict ⟨List.cons (dE P "__name__" 165 (.str "law_daysgate_k41_limits_refused" 934)) <| List.cons (dE P "__doc__" 166 .none) <| List.cons (dE P "__package__" 167 .none) <| List.cons (dE P "__loader__" 168 (.builtin "__main__.__loader__#opaque")) <| List.cons (dE P "__spec__" 169 .none) <| dRs P [("__annotations__",170,6),("__builtins__",171,4)] <| List.cons (dE P "__file__" 173 (.str "/claim/cut.py" 172)) <| List.cons (dE P "__cached__" 174 .none) <| List.cons (dE P "GREATEST" 190 (.int (1000000000) 189)) <| List.cons (dE P "LETTERS" 192 (.str "abcdefghijklmnopqrstuvwxyz" 191)) <| List.cons (dE P "LONGEST_NAME" 194 (.int (8) 193)) <| dRs P [("is_whole",201,21),("is_between",210,28),("are_days",218,35),("is_made_of",227,42),("is_name",234,49),("spread",246,56),("both",259,63),("outside",271,70),("less",279,77),("DayError",299,87),("NoRule",315,100),("NoPaper",340,119),("NoStay",365,138),("NotLet",394,157),("NoWish",410,169),("NoDeed",426,181),("NoText",442,193),("NoRow",458,205)] <| List.cons (dE P "MOST_LANDS" 462 (.int (6) 461)) <| List.cons (dE P "GREATEST_WEIGHT" 464 (.int (9) 463)) <| dRs P [("is_land",471,214),("are_lands",480,221),("Rule",521,245),("Within",556,273),("Since",591,299),("InRow",623,325),("line_of",629,332)] <| List.cons (dE P "MOST_STAYS" 633 (.int (60) 632)) <| dRs P [("is_stay",640,339),("stays_of",650,346),("pieces_among",658,351),("sum_of",672,358),("first_since",685,365),("first_of_window",694,372),("count_among",703,379),("turns_of",715,386),("first_above",728,393),("first_broken",734,398),("fault_among",747,405),("fault_of",755,412)] <| List.cons (dE P "NEVER" 759 (.int (3000000000) 758)) <| dRs P [("let_stays",769,419),("check_day",777,426),("check_land",785,433),("last_day",797,440),("least_begin",811,447),("first_free",821,454),("barred_days",835,461),("first_back",850,468)] <| List.cons (dE P "MOST_RULES" 854 (.int (8) 853)) <| List.cons (dE P "MOST_PAPERS" 856 (.int (12) 855)) <| dRs P [("are_rules",864,475),("is_paper",872,482),("check_papers",882,489),("Book",933,525),("_law_at",943,536),("_law_word",954,543),("_law_names",960,548),("_law_spec",973,555),("_law_rule",980,562),("_law_stays",995,569),("_law_papers",1009,576),("_law_kept",1022,583),("_law_other",1029,590),("_law_not_let",1037,597),("_law_no_stay",1045,604),("_law_amiss",1056,611),("law",1062,616)] <| []⟩ 80,#[]⟩ <| t0 4 (20:) (21:) "is_whole" 195 5 1 199 <| t0 5 (27:) (28:) "is_between" 202 7 3 208 <| t0 6 (34:) (35:) "are_days" 211 9 2 216 <| t0 7 (41:) (42:) "is_made_of" 219 11 2 225 <| t0 8 (48:) (49:) "is_name" 228 16 1 232 <| t1 10 (55:) (56:) "spread" 237 21 1 244 <| t1 11 (62:) (63:) "both" 247 29 2 257 <| t1 12 (69:) (70:) "outside" 260 43 3 269 <| t1 13 (76:) (77:) "less" 272 53 2 277 <| k2 "ValueError.__new__" P (86:) (87:) "DayError" 282 58 3 [("__static_attributes__",294,85),("__weakref__",296,88)] 297 (.type "ValueError") [(.type "ValueError"),(.type "Exception"),(.type "BaseException"),(.type "object")] [(.ref 100),(.ref 119),(.ref 138),(.ref 157),(.ref 169),(.ref 181),(.ref 193),(.ref 205)] (some (.ref 78)) <| co (88:) ⟨(.type "getset_descriptor"),none,.fields #[(.str "__weakref__" 295),(.ref 87),(.builtin "ExceptionGroup.__weakref__"),.none],#[]⟩ <| e0 P (99:) (100:) "NoRule" 300 60 2 [("__static_attributes__",312,98)] 313 (some (.ref 91)) <| m2 17 0 (115:) (116:) "__init__" "NoPaper.__init__" 328 64 2 333 <| e0 P (118:) (119:) "NoPaper" 316 62 2 [("__init__",335,116),("__static_attributes__",337,117)] 338 (some (.ref 103)) <| m2 18 0 (134:) (135:) "__init__" "NoStay.__init__" 353 69 2 358 <| e0 P (137:) (138:) "NoStay" 341 67 2 [("__init__",360,135),("__static_attributes__",362,136)] 363 (some (.ref 122)) <| m2 19 0 (153:) (154:) "__init__" "NotLet.__init__" 378 74 4 385 <| e0 P (156:) (157:) "NotLet" 366 72 2 [("__init__",387,154),("__static_attributes__",391,155)] 392 (some (.ref 141)) <| e0 P (168:) (169:) "NoWish" 395 79 2 [("__static_attributes__",407,167)] 408 (some (.ref 160)) <| e0 P (180:) (181:) "NoDeed" 411 81 2 [("__static_attributes__",423,179)] 424 (some (.ref 172)) <| e0 P (192:) (193:) "NoText" 427 83 2 [("__static_attributes__",439,191)] 440 (some (.ref 184)) <| e0 P (204:) (205:) "NoRow" 443 85 2 [("__static_attributes__",455,203)] 456 (some (.ref 196)) <| t3 27 (213:) (214:) "is_land" 465 90 1 469 <| t3 28 (220:) (221:) "are_lands" 472 94 1 478 <| m3 29 0 (234:) (235:) "__init__" "Rule.__init__" 493 105 3 499 <| m3 29 1 (241:) (242:) "weight" "Rule.weight" 502 113 2 509 <| k3 "object.__new__" P (244:) (245:) "Rule" 481 103 4 [("__init__",501,235),("weight",511,242),("__static_attributes__",514,243),("__dict__",516,246),("__weakref__",518,247)] 519 (.type "object") [(.type "object")] [(.ref 273),(.ref 299)] (none) <| co (246:) ⟨(.type "getset_descriptor"),none,.fields #[(.str "__dict__" 515),(.ref 245),(.builtin "function.__dict__"),(.builtin "function.__dict__#set")],#[]⟩ <| co (247:) ⟨(.type "getset_descriptor"),none,.fields #[(.str "__weakref__" 517),(.ref 245),(.builtin "ExceptionGroup.__weakref__"),.none],#[]⟩ <| m3 30 0 (262:) (263:) "__init__" "Within.__init__" 534 120 4 541 <| m3 30 1 (269:) (270:) "line" "Within.line" 544 126 1 549 <| k3 "object.__new__" P (272:) (273:) "Within" 522 118 2 [("__init__",543,263),("line",551,270),("__static_attributes__",553,271)] 554 (.ref 245) [(.ref 245),(.type "object")] [] (some (.ref 250)) <| m3 31 0 (288:) (289:) "__init__" "Since.__init__" 569 131 4 576 <| m3 31 1 (295:) (296:) "line" "Since.line" 579 137 1 584 <| k3 "object.__new__" P (298:) (299:) "Since" 557 129 2 [("__init__",578,289),("line",586,296),("__static_attributes__",588,297)] 589 (.ref 245) [(.ref 245),(.type "object")] [(.ref 325)] (some (.ref 276)) <| m3 32 0 (314:) (315:) "__init__" "InRow.__init__" 604 142 3 610 <| m3 32 1 (321:) (322:) "line" "InRow.line" 613 145 1 617 <| k3 "object.__new__" P (324:) (325:) "InRow" 592 140 2 [("__init__",612,315),("line",619,322),("__static_attributes__",620,323)] 621 (.ref 299) [(.ref 299),(.ref 245),(.type "object")] [] (some (.ref 302)) <| co (331:) (oC "line_of" 624 "line_of" 625 626 147 2 328 329 .none .none 330 627 628) <| co (332:) (oG (top 33) "line_of" "daysgate.rules" 459 331) <| t4 36 (338:) (339:) "is_stay" 634 153 1 638 <| t4 37 (345:) (346:) "stays_of" 641 157 1 648 <| co (350:) (oC "pieces_among" 653 "pieces_among" 654 655 169 3 347 348 .none .none 349 656 657) <| co (351:) (oG (top 39) "pieces_among" "daysgate.sums" 651 350) <| t5 40 (357:) (358:) "sum_of" 659 178 3 670 <| t5 41 (364:) (365:) "first_since" 673 185 3 683 <| t5 42 (371:) (372:) "first_of_window" 686 193 3 692 <| t5 43 (378:) (379:) "count_among" 695 197 3 701 <| t5 44 (385:) (386:) "turns_of" 704 199 2 713 <| t5 45 (392:) (393:) "first_above" 716 206 4 726 <| co (397:) (oC "first_broken" 729 "first_broken" 730 731 213 2 394 395 .none .none 396 732 733) <| co (398:) (oG (top 46) "first_broken" "daysgate.sums" 651 397) <| t5 47 (404:) (405:) "fault_among" 735 223 2 745 <| t5 48 (411:) (412:) "fault_of" 748 231 2 753 <| t6 51 (418:) (419:) "let_stays" 760 235 2 767 <| t6 52 (425:) (426:) "check_day" 770 241 2 775 <| t6 53 (432:) (433:) "check_land" 778 244 2 783 <| t6 54 (439:) (440:) "last_day" 786 247 4 795 <| t6 55 (446:) (447:) "least_begin" 798 255 2 809 <| t6 56 (453:) (454:) "first_free" 812 265 4 819 <| t6 57 (460:) (461:) "barred_days" 822 273 5 833 <| t6 58 (467:) (468:) "first_back" 836 282 4 848 <| t7 62 (474:) (475:) "are_rules" 857 297 1 862 <| t7 63 (481:) (482:) "is_paper" 865 304 2 870 <| t7 64 (488:) (489:) "check_papers" 873 308 2 880 <| m7 65 0 (502:) (503:) "__init__" "Book.__init__" 895 318 3 901 <| m7 65 1 (509:) (510:) "rules" "Book.rules" 904 325 1 908 <| m7 65 2 (516:) (517:) "papers" "Book.papers" 911 328 1 915 <| co (521:) (oC "lifted" 918 "Book.lifted" 919 920 331 2 518 519 .none .none 520 921 922) <| co (522:) (oFn none (mem 65 3) "lifted" "Book.lifted" .none .none .none (.str "daysgate.books" 851) none (.ref 521) .none) <| k7 "object.__new__" P (524:) (525:) "Book" 883 316 4 [("__init__",903,503),("rules",910,510),("papers",917,517),("lifted",923,522),("__static_attributes__",926,523),("__dict__",928,526),("__weakref__",930,527)] 931 (.type "object") [(.type "object")] [] (none) <| co (526:) ⟨(.type "getset_descriptor"),none,.fields #[(.str "__dict__" 927),(.ref 525),(.builtin "function.__dict__"),(.builtin "function.__dict__#set")],#[]⟩ <| co (527:) ⟨(.type "getset_descriptor"),none,.fields #[(.str "__weakref__" 929),(.ref 525),(.builtin "ExceptionGroup.__weakref__"),.none],#[]⟩ <| t8 67 (535:) (536:) "_law_at" 936 334 2 941 <| t8 68 (542:) (543:) "_law_word" 944 338 1 952 <| co (547:) (oC "_law_names" 955 "_law_names" 956 957 347 2 544 545 .none .none 546 958 959) <| co (548:) (oG (top 69) "_law_names" "law_daysgate_k41_limits_refused" 934 547) <| t8 70 (554:) (555:) "_law_spec" 961 351 3 971 <| t8 71 (561:) (562:) "_law_rule" 974 362 1 978 <| t8 72 (568:) (569:) "_law_stays" 981 368 4 993 <| t8 73 (575:) (576:) "_law_papers" 996 380 4 1007 <| t8 74 (582:) (583:) "_law_kept" 1010 388 5 1020 <| t8 75 (589:) (590:) "_law_other" 1023 398 1 1027 <| t8 76 (596:) (597:) "_law_not_let" 1030 400 2 1035 <| t8 77 (603:) (604:) "_law_no_stay" 1038 404 2 1043 <| t8 78 (610:) (611:) "_law_amiss" 1046 408 3 1054 <| co (615:) (oC "law" 1057 "law" 1058 1059 416 1 612 613 .none .none 614 1060 1061) <| co (616:) (oG (top 79) "law" "law_daysgate_k41_limits_refused" 934 615) <| [])->Frag) ?_ ?h
 case f=>exactλK _=>K
 case h=>delta e0 t0 t1 k2 m2 t3 m3 k3 t4 t5 t6 t7 m7 k7 t8 co fB fM kC;rfl
def HKe(P:Params):Has=(HK P).map (·.1):=(4:)
def qke(p q:Program)(rc:Shared->Bool)(w:World)(H0:Heap)(s0:SharedT):=(J0 treeTable p w 11 (some (.ref 6)) 10900 s0 (topStub p)).map (λs=>qhY p q [] (λs=>xlAt q [] s&&rc s) (λs=>Has.map s.heap.get?) true H0 s.abs)
def Hlk(w:World)(H0:Heap)(s0:SharedT):=qke HP Hq (recOk (RowW.records PySem.Challenge.rw_daysgate_k41_limits_refused.row.toRowW)) w H0 s0
def qkf(q:Program):=openGood q []
def Hgd:=qkf Hq
def qdi:qke=qke:=rfl
def qdj:qkf=qkf:=rfl
end K41
lay_quick K41.qke K41.qkf
name_quick hlkQ for K41.qke by K41.qdi
name_quick hgdQ for K41.qkf by K41.qdj
namespace K41
open PySem PySem.W HD
def qkg(w:World)(os:OsState):Hlk w (boot_heap w.params) (qhX w.params os)=some (true,Hgd,(HK w.params).map λp=>some p.2):=by
 unfold Hlk Hgd;rw[PySem.W.Fast.hlkQ_eq,PySem.W.Fast.hgdQ_eq]
 kernel_rfl
def qnn:LeftO HP Hq [] Hx (λs=>Has.map s.heap.get?) (λw=>(HK w.params).map λp=>some p.2) 10900 true:=
 qhZ (boot_open (4:) (2:) (λ_=>(4:))) qdh qkg
end K41
namespace TS
open PySem PyProof.Rows
section
variable{M:Model}{A:Around}{E:PQ}{s:Shared}{O:KeyOrd}{kf:Keyed->O.α}{U:SortKind}{G:Keyed->Prop}
def qfk(M:Model)(A:Around)(E:PQ)(s:Shared)(O:KeyOrd)(kf:Keyed->O.α)(U:SortKind)(G:Keyed->Prop):Prop:=
 ∀x y,G x->G y->∀(st:SortSt) (Q:Option Bool->SortSt->Prop),kindOf st=U->Q (some (O.blt (kf x) (kf y))) st->wpS M A E s (lt' x y) Q st
def qdk{arr:Array Keyed}{p:Nat}{x:Keyed}{st:SortSt}{Q:Keyed->SortSt->Prop}(e:arr[p]?=some x)(h:Q x st):wpS M A E s (elem' arr p) Q st:=by rw[elem'_eq,e];exact wpS_pure h
variable{left:Bool}{key:Keyed}{arr:Array Keyed}{base n hint:Nat}{st:SortSt}{P:Nat->Bool}
end
section
variable{O:KeyOrd}{kf:Keyed->O.α}
def le(O:KeyOrd)(kf:Keyed->O.α)(x y:Keyed):Prop:=O.kle (kf x) (kf y)
def le_of_lt{x y:Keyed}(h:O.blt (kf x) (kf y)=true):le O kf x y:=KeyOrd.kle_of_klt h
def Srt(O:KeyOrd)(kf:Keyed->O.α)(a:Array Keyed)(lo hi:Nat):Prop:=∀(i j:Nat) (x y:Keyed),lo<=i->i<=j->j < hi->a[i]?=some x->a[j]?=some y->le O kf x y
def Srt.pw{a:Array Keyed}(h:Srt O kf a 0 a.size):a.toList.Pairwise (le O kf):=by
 rw[List.pairwise_iff_getElem];intro i j hi hj hij;have hj':j < a.size:=(-hj:)
 have hi':i < a.size:=(-hi:)
 exact h i j _ _ (1:) (1:) hj' (by simp[hi']) (by simp[hj'])
variable{a b o:Array Keyed}{i j:Nat}
end
section
variable{M:Model}{A:Around}{E:PQ}{s:Shared}{O:KeyOrd}{kf:Keyed->O.α}{U:SortKind}{G:Keyed->Prop}{a b:Array Keyed}
def qdl{a:Array Keyed}{i:Nat}(h:i < a.size):∃x,a[i]?=some x/\x∈a.toList:={a[i],Array.getElem?_eq_getElem h,by simp}
end
section
variable{O:KeyOrd}{kf:Keyed->O.α}
def KA(O:KeyOrd)(kf:Keyed->O.α)(xs:Array Keyed)(i:Nat):O.α:=kf (xs[i]?.getD (Value.none,Value.none))
def Inc(O:KeyOrd)(kf:Keyed->O.α)(xs:Array Keyed)(lo hi:Nat):Prop:=∀i j,lo<=i->i<=j->j < hi->O.kle (KA O kf xs i) (KA O kf xs j)
def Dec(O:KeyOrd)(kf:Keyed->O.α)(xs:Array Keyed)(lo hi:Nat):Prop:=∀i j,lo<=i->i<=j->j < hi->O.kle (KA O kf xs j) (KA O kf xs i)
def yJ{xs ys:Array Keyed}{i j:Nat}(h:xs[i]?=ys[j]?):KA O kf xs i=KA O kf ys j:=by unfold KA;rw[h]
def qfl{xs:Array Keyed}{i:Nat}{x:Keyed}(h:xs[i]?=some x):KA O kf xs i=kf x:=by unfold KA;rw[h];rfl
def Inc.srt{xs:Array Keyed}{lo hi:Nat}(h:Inc O kf xs lo hi):Srt O kf xs lo hi:=λi j x y h1 h2 h3 e1 e2=>by
 have:=h i j h1 h2 h3
 rw[qfl e1,qfl e2]at this;exact this
def J1{xs:Array Keyed}{i j:Nat}(hj:j<=xs.size)(k:Nat):KA O kf (mirror xs i j ((j - i) / 2)) k=if i<=k/\k < j then KA O kf xs (i+j - 1 - k) else KA O kf xs k:=by
 have e:=getElem?_mirror_all (i:=i) hj k
 by_cases h:i<=k/\k < j
 ·rw[if_pos h]at e ⊢;exact yJ e
 ·rw[if_neg h]at e ⊢;exact yJ e
def ze{xs:Array Keyed}{i j:Nat}(hj:j<=xs.size)(heq:∀k,i<=k->k < j->KA O kf xs k=KA O kf xs (j - 1))(k:Nat):KA O kf (mirror xs i j ((j - i) / 2)) k=KA O kf xs k:=by
 rw[J1 hj];split
 ·rw[heq _ (1:) (1:),heq k (1:) (1:)]
 ·rfl
def ZC{xs:Array Keyed}{src d:Nat}(hs:src < xs.size)(hd:d<=src)(k:Nat) :
  KA O kf (bubble xs src d) k=if k=src - d then KA O kf xs src else if src - d < k/\k<=src then KA O kf xs (k - 1) else KA O kf xs k:=by
 have e:=getElem?_bubble hs d hd k
 by_cases h1:k=src - d
 ·rw[if_pos h1]at e ⊢;exact yJ e
 ·rw[if_neg h1]at e ⊢
  by_cases h2:src - d < k/\k<=src
  ·rw[if_pos h2]at e ⊢;exact yJ e
  ·rw[if_neg h2]at e ⊢;exact yJ e
structure Re(lo:Nat)(xs ys:Array Keyed):Prop where
 perm:ys.Perm xs
 keep:∀k,k < lo->ys[k]?=xs[k]?
def Re.refl(lo:Nat)(xs:Array Keyed):Re lo xs xs:={Array.Perm.refl _,λ_ _=>rfl}
def Re.trans{lo:Nat}{xs ys zs:Array Keyed}(a:Re lo xs ys)(b:Re lo ys zs):Re lo xs zs:={b.perm.trans a.perm,λk h=>(b.keep k h).trans (a.keep k h)}
def Re.size{lo:Nat}{xs ys:Array Keyed}(a:Re lo xs ys):ys.size=xs.size:=a.perm.size_eq
def Re.mirror{lo i j:Nat}{xs:Array Keyed}(hi:lo<=i)(hj:j<=xs.size):Re lo xs (mirror xs i j ((j - i) / 2)):={mirror_perm _ _ _ _,λk h=>by rw[getElem?_mirror_all hj k,if_neg (1:)]}
def Re.bubble{lo src d:Nat}{xs:Array Keyed}(hs:src < xs.size)(hd:lo+d<=src):Re lo xs (bubble xs src d):={bubble_perm _ _ _,λk h=>by rw[getElem?_bubble hs d (1:),if_neg (1:),if_neg (1:)]}
def Re.mem{lo:Nat}{xs ys:Array Keyed}(a:Re lo xs ys){G:Keyed->Prop}(h:∀x∈xs.toList,G x):∀x∈ys.toList,G x:=λx hx=>h x ((Array.perm_iff_toList_perm.mp a.perm).mem_iff.mp hx)
end
abbrev ASt:=Option (Option Nat)×Nat
abbrev BSt:=Option (Option Nat)×Nat×Nat
def asc(lo a nrem:Nat):StateT SortSt Sem ASt:=
 forIn [a:nrem] ((none,a):ASt) λ_ c=>do
  let r<-ltAt' (lo+c.2) (lo+c.2 - 1)
  match r with
  |some sm=>if sm=true then pure (.done (none,c.2)) else pure (.yield (none,c.2+1))
  |_=>pure (.done (some none,c.2))
def dsc(lo a nrem:Nat):StateT SortSt Sem BSt:=
 forIn [a:nrem] ((none,a,0):BSt) λ_ c=>do
  let r<-ltAt' (lo+c.2.1) (lo+c.2.1 - 1)
  match r with
  |some sm=>
   if sm=true then
    if c.2.2 > 0 then do
     reverseSlice' (lo+c.2.1 - (c.2.2+1)) (lo+c.2.1)
     pure (.yield (none,c.2.1+1,0))
    else pure (.yield (none,c.2.1+1,0))
   else do
    let r<-ltAt' (lo+c.2.1 - 1) (lo+c.2.1)
    match r with
    |some lg=>if lg=true then pure (.done (none,c.2.1,c.2.2)) else pure (.yield (none,c.2.1+1,c.2.2+1))
    |_=>pure (.done (some none,c.2.1,c.2.2))
  |_=>pure (.done (some none,c.2.1,c.2.2))
def tl3(lo n nrem:Nat):StateT SortSt Sem (Option Nat):=do
 reverseSlice' lo (lo+n)
 let c<-asc lo n nrem
 match c.1 with
 |some r=>pure r
 |none=>pure (some c.2)
def dpt(lo n nrem:Nat):StateT SortSt Sem (Option Nat):=do
 rule "list.sort.descending-run"
 let c<-dsc lo (n+1) nrem
 match c.1 with
 |some r=>pure r
 |none=>if c.2.2 > 0 then do reverseSlice' (lo+c.2.1 - (c.2.2+1)) (lo+c.2.1);tl3 lo c.2.1 nrem else tl3 lo c.2.1 nrem
theorem qno(lo nrem:Nat):countRun' lo nrem=(do
 let c<-asc lo 1 nrem
 match c.1 with
 |some r=>pure r
 |none=>
  if (c.2 == nrem)=true then pure (some c.2)
  else if c.2 > 1 then do
   let r<-ltAt' lo (lo+c.2 - 1)
   match r with
   |some rs=>if rs=true then pure (some c.2) else do reverseSlice' lo (lo+c.2);dpt lo c.2 nrem
   |_=>pure none
  else dpt lo c.2 nrem):=by
 rw[countRun'_eq];show(forIn _ _ _ >>= _:StateT SortSt Sem (Option Nat))=asc lo 1 nrem >>= _;refine congr (congrArg Bind.bind ?_) (funext λc=>?_)
 ·delta asc
  refine congrArg (forIn _ _) (funext λ_=>funext λc=>?_);refine congrArg (λz=>_ >>= z) (funext λr=>?_)
  cases r with
  |none=>exact rfl
  |some sm=>exact rfl
 ·obtain⟨c1,c2⟩:=c
  cases c1 with
  |some r=>rfl
  |none=>
   show(ite _ _ (ite _ _ _):StateT SortSt Sem (Option Nat))=ite _ _ (ite _ _ _);refine congrArg (ite _ _) ?_;refine congr (congrArg (ite _) ?_) ?_
   ·refine congrArg (λz=>_ >>= z) (funext λr=>?_)
    cases r with
    |none=>exact rfl
    |some rs=>
     show(ite _ _ _:StateT SortSt Sem (Option Nat))=ite _ _ _;refine congrArg (ite _ _) ?_;refine congrArg (λz=>_ >>= z) (funext λ_=>?_)
     delta dpt
     refine congrArg (λz=>_ >>= z) (funext λ_=>?_);show(forIn _ _ _ >>= _:StateT SortSt Sem (Option Nat))=dsc lo (c2+1) nrem >>= _;refine congr (congrArg Bind.bind ?_) (funext λd=>?_)
     ·delta dsc
      refine congrArg (forIn _ _) (funext λ_=>funext λc=>?_);refine congrArg (λz=>_ >>= z) (funext λr=>?_)
      cases r with
      |none=>exact rfl
      |some sm=>
       show(ite _ _ _:StateT SortSt Sem (ForInStep BSt))=ite _ _ _;refine congr (congrArg (ite _) ?_) ?_
       ·exact rfl
       ·refine congrArg (λz=>_ >>= z) (funext λr=>?_)
        cases r with
        |none=>exact rfl
        |some lg=>exact rfl
     ·obtain⟨d1,d2,d3⟩:=d
      cases d1 with
      |some r=>exact rfl
      |none=>
       show(ite _ _ _:StateT SortSt Sem (Option Nat))=ite _ _ _;refine congr (congrArg (ite _) ?_) ?_
       ·refine congrArg (λz=>_ >>= z) (funext λ_=>?_)
        delta tl3
        refine congrArg (λz=>_ >>= z) (funext λ_=>?_);show(forIn _ _ _ >>= _:StateT SortSt Sem (Option Nat))=asc lo d2 nrem >>= _;refine congr (congrArg Bind.bind ?_) (funext λe=>?_)
        ·delta asc
         refine congrArg (forIn _ _) (funext λ_=>funext λc=>?_);refine congrArg (λz=>_ >>= z) (funext λr=>?_)
         cases r with
         |none=>exact rfl
         |some sm=>exact rfl
        ·obtain⟨e1,e2⟩:=e
         cases e1 with
         |some r=>exact rfl
         |none=>exact rfl
       ·delta tl3
        refine congrArg (λz=>_ >>= z) (funext λ_=>?_);show(forIn _ _ _ >>= _:StateT SortSt Sem (Option Nat))=asc lo d2 nrem >>= _;refine congr (congrArg Bind.bind ?_) (funext λe=>?_)
        ·delta asc
         refine congrArg (forIn _ _) (funext λ_=>funext λc=>?_);refine congrArg (λz=>_ >>= z) (funext λr=>?_)
         cases r with
         |none=>exact rfl
         |some sm=>exact rfl
        ·obtain⟨e1,e2⟩:=e
         cases e1 with
         |some r=>exact rfl
         |none=>exact rfl
   ·show _=dpt lo c2 nrem
    delta dpt
    refine congrArg (λz=>_ >>= z) (funext λ_=>?_);show(forIn _ _ _ >>= _:StateT SortSt Sem (Option Nat))=dsc lo (c2+1) nrem >>= _;refine congr (congrArg Bind.bind ?_) (funext λd=>?_)
    ·delta dsc
     refine congrArg (forIn _ _) (funext λ_=>funext λc=>?_);refine congrArg (λz=>_ >>= z) (funext λr=>?_)
     cases r with
     |none=>exact rfl
     |some sm=>
      show(ite _ _ _:StateT SortSt Sem (ForInStep BSt))=ite _ _ _;refine congr (congrArg (ite _) ?_) ?_
      ·exact rfl
      ·refine congrArg (λz=>_ >>= z) (funext λr=>?_)
       cases r with
       |none=>exact rfl
       |some lg=>exact rfl
    ·obtain⟨d1,d2,d3⟩:=d
     cases d1 with
     |some r=>exact rfl
     |none=>
      show(ite _ _ _:StateT SortSt Sem (Option Nat))=ite _ _ _;refine congr (congrArg (ite _) ?_) ?_
      ·refine congrArg (λz=>_ >>= z) (funext λ_=>?_)
       delta tl3
       refine congrArg (λz=>_ >>= z) (funext λ_=>?_);show(forIn _ _ _ >>= _:StateT SortSt Sem (Option Nat))=asc lo d2 nrem >>= _;refine congr (congrArg Bind.bind ?_) (funext λe=>?_)
       ·delta asc
        refine congrArg (forIn _ _) (funext λ_=>funext λc=>?_);refine congrArg (λz=>_ >>= z) (funext λr=>?_)
        cases r with
        |none=>exact rfl
        |some sm=>exact rfl
       ·obtain⟨e1,e2⟩:=e
        cases e1 with
        |some r=>exact rfl
        |none=>exact rfl
      ·delta tl3
       refine congrArg (λz=>_ >>= z) (funext λ_=>?_);show(forIn _ _ _ >>= _:StateT SortSt Sem (Option Nat))=asc lo d2 nrem >>= _;refine congr (congrArg Bind.bind ?_) (funext λe=>?_)
       ·delta asc
        refine congrArg (forIn _ _) (funext λ_=>funext λc=>?_);refine congrArg (λz=>_ >>= z) (funext λr=>?_)
        cases r with
        |none=>exact rfl
        |some sm=>exact rfl
       ·obtain⟨e1,e2⟩:=e
        cases e1 with
        |some r=>exact rfl
        |none=>exact rfl
section
variable{M:Model}{A:Around}{E:PQ}{s:Shared}{O:KeyOrd}{kf:Keyed->O.α}{U:SortKind}{G:Keyed->Prop}
def J2(L:qfk M A E s O kf U G){st:SortSt}{i j:Nat}{Q:Option Bool->SortSt->Prop}(hk:kindOf st=U)(hG:∀x∈(arrOf st).toList,G x)(hi:i < (arrOf st).size)(hj:j < (arrOf st).size)
  (h:Q (some (O.blt (KA O kf (arrOf st) i) (KA O kf (arrOf st) j))) st):wpS M A E s (ltAt' i j) Q st:=by
 rw[ltAt'_eq];refine wpS_bind (wpS_get ?_);obtain⟨x,ex,mx⟩:=qdl hi;obtain⟨y,ey,my⟩:=qdl hj;rw[qfl ex,qfl ey]at h;exact wpS_bind (qdk ex (wpS_bind (qdk ey (L x y (hG x mx) (hG y my) st Q hk h))))
def qbk{i j:Nat}{st:SortSt}{Q:Unit->SortSt->Prop}(h:Q () (setArr st (mirror (arrOf st) i j ((j - i) / 2)))):wpS M A E s (reverseSlice' i j) Q st:=by rw[reverseSlice'_eq];exact wpS_modify h
def qgF(L:qfk M A E s O kf U G){st:SortSt}{lo a nrem:Nat}{Q:ASt->SortSt->Prop}(hk:kindOf st=U)(hG:∀x∈(arrOf st).toList,G x)(hn:lo+nrem<=(arrOf st).size)(ha:1<=a)(han:a<=nrem)
  (hs:Inc O kf (arrOf st) lo (lo+a))
  (h:∀n,a<=n->n<=nrem->Inc O kf (arrOf st) lo (lo+n)->(n=nrem\/O.klt (KA O kf (arrOf st) (lo+n)) (KA O kf (arrOf st) (lo+n - 1)))->Q (none,n) st):wpS M A E s (asc lo a nrem) Q st:=by
 unfold asc;refine wpS_forRange (I:=λx c st'=>st'=st/\c=(none,x)/\Inc O kf (arrOf st) lo (lo+x)) ?step ?fin ⟨rfl,rfl,hs⟩
 case fin=>rintro c st' ⟨rfl,rfl,hs'⟩;rw[show max a nrem=nrem by lia]at hs' ⊢;exact h nrem han (Nat.le_refl _) hs' (.inl rfl)
 case step=>
  rintro x c st' hax hxn ⟨rfl,rfl,hs'⟩;dsimp only;refine wpS_bind (J2 L hk hG (1:) (1:) ?_)
  cases hb:O.blt (KA O kf (arrOf st') (lo+x)) (KA O kf (arrOf st') (lo+x - 1)) with
  |true=>simp![if_true];exact wpS_pure (h x hax (1:) hs' (.inr hb))
  |false=>
   simp![Bool.false_eq_true,if_false];refine wpS_pure ⟨rfl,rfl,λi j h1 h2 h3=>?_⟩
   by_cases hjx:j < lo+x
   ·exact hs' i j h1 h2 hjx
   ·have:j=lo+x:=by lia
    subst this
    by_cases e:i=lo+x
    ·subst e;exact KeyOrd.kle_refl _
    ·exact KeyOrd.kle_trans (hs' i (lo+x - 1) h1 (1:) (1:)) hb
def qck(O:KeyOrd)(kf:Keyed->O.α)(lo nrem:Nat)(st:SortSt)(Q:Option Nat->SortSt->Prop):Prop:=
 ∀m xs,Re lo (arrOf st) xs->1<=m->m<=nrem->Inc O kf xs lo (lo+m)->Q (some m) (setArr st xs)
def qck.step{lo nrem:Nat}{st:SortSt}{Q:Option Nat->SortSt->Prop}{xs:Array Keyed}(h:qck O kf lo nrem st Q)(r:Re lo (arrOf st) xs):qck O kf lo nrem (setArr st xs) Q:=
 λm ys r' h1 h2 h3=>h m ys (r.trans r') h1 h2 h3
def qgG(L:qfk M A E s O kf U G){st:SortSt}{lo n nrem:Nat}{Q:Option Nat->SortSt->Prop}(hk:kindOf st=U)(hG:∀x∈(arrOf st).toList,G x)(hn:lo+nrem<=(arrOf st).size)(h1:1<=n)(hnn:n<=nrem)
  (hs:Dec O kf (arrOf st) lo (lo+n)) (h:qck O kf lo nrem st Q):wpS M A E s (tl3 lo n nrem) Q st:=by
 unfold tl3;refine wpS_bind (qbk ?_);have r:Re lo (arrOf st) (mirror (arrOf st) lo (lo+n) ((lo+n - lo) / 2)):=Re.mirror (Nat.le_refl _) (1:);refine wpS_bind (qgF L (st:=setArr st (mirror (arrOf st) lo (lo+n) ((lo+n - lo) / 2))) hk (r.mem hG) (by have:=r.size;show lo+nrem<=(mirror (arrOf st) lo (lo+n) ((lo+n - lo) / 2)).size;lia) h1 hnn ?_ λm hm1 hm2 hs2 _=>wpS_pure (h m _ r (1:) hm2 hs2));intro i j h2 h3 h4;show O.kle (KA O kf (mirror (arrOf st) lo (lo+n) ((lo+n - lo) / 2)) i) (KA O kf (mirror (arrOf st) lo (lo+n) ((lo+n - lo) / 2)) j);rw[J1 (1:),J1 (1:),if_pos (1:),if_pos (1:)];exact hs _ _ (1:) (1:) (1:)
def qkh(L:qfk M A E s O kf U G){st:SortSt}{lo n nrem:Nat}{Q:BSt->SortSt->Prop}(hk:kindOf st=U)(hG:∀x∈(arrOf st).toList,G x)(hn:lo+nrem<=(arrOf st).size)(h1:1<=n)(hnn:n<=nrem)
  (hs:Dec O kf (arrOf st) lo (lo+n))
  (h:∀m ne xs,Re lo (arrOf st) xs->n<=m->m<=nrem->Dec O kf xs lo (lo+m)->ne+1<=m->(∀i,lo+m - (ne+1)<=i->i < lo+m->KA O kf xs i=KA O kf xs (lo+m - 1))->Q (none,m,ne) (setArr st xs)):wpS M A E s (dsc lo n nrem) Q st:=by
 unfold dsc
 refine wpS_forRange (I:=λx c st'=>∃ne xs,c=(none,x,ne)/\st'=setArr st xs/\Re lo (arrOf st) xs/\Dec O kf xs lo (lo+x)/\ne+1<=x/\(∀i,lo+x - (ne+1)<=i->i < lo+x->KA O kf xs i=KA O kf xs (lo+x - 1))) ?step ?fin
  ⟨0,arrOf st,rfl,rfl,Re.refl _ _,hs,by lia,λi a b=>by congr 1;lia⟩
 case fin=>rintro c st' ⟨ne,xs,rfl,rfl,r,hs',hq,he⟩;rw[show max n nrem=nrem by lia]at hs' hq he ⊢;exact h nrem ne xs r hnn (Nat.le_refl _) hs' hq he
 case step=>
  rintro x c st' hax hxn ⟨ne,xs,rfl,rfl,r,hs',hq,he⟩;dsimp only;have hsz:xs.size=(arrOf st).size:=r.size;refine wpS_bind (J2 L (st:=setArr st xs) hk (r.mem hG) (by show lo+x < xs.size;lia) (by show lo+x - 1 < xs.size;lia) ?_);show wpS M A E s _ _ _
  cases hb:O.blt (KA O kf (arrOf (setArr st xs)) (lo+x)) (KA O kf (arrOf (setArr st xs)) (lo+x - 1)) with
  |true=>
   have hb:O.blt (KA O kf xs (lo+x)) (KA O kf xs (lo+x - 1))=true:=hb;simp![if_true]
   have step1:∀ys:Array Keyed,(∀k,KA O kf ys k=KA O kf xs k)->Dec O kf ys lo (lo+(x+1)):=by
    intro ys hy i j a b d;rw[hy,hy]
    by_cases hjx:j < lo+x
    ·exact hs' i j a b hjx
    ·have:j=lo+x:=by lia
     subst this
     by_cases e:i=lo+x
     ·subst e;exact KeyOrd.kle_refl _
     ·exact KeyOrd.kle_trans (KeyOrd.kle_of_klt hb) (hs' i (lo+x - 1) a (1:) (1:))
   by_cases hneq:ne > 0
   ·rw[if_pos hneq];refine wpS_bind (qbk (wpS_pure ⟨0,_,rfl,rfl,r.trans (Re.mirror (xs:=xs) (1:) (1:)),step1 _ (ze (xs:=xs) (1:) he),by lia,λi a b=>by congr 1;lia⟩))
   ·rw[if_neg hneq];exact wpS_pure ⟨0,xs,rfl,rfl,r,step1 _ (λ_=>rfl),by lia,λi a b=>by congr 1;lia⟩
  |false=>
   have hb:O.blt (KA O kf xs (lo+x)) (KA O kf xs (lo+x - 1))=false:=hb;simp![Bool.false_eq_true,if_false];refine wpS_bind (J2 L (st:=setArr st xs) hk (r.mem hG) (by show lo+x - 1 < xs.size;lia) (by show lo+x < xs.size;lia) ?_)
   cases hc:O.blt (KA O kf (arrOf (setArr st xs)) (lo+x - 1)) (KA O kf (arrOf (setArr st xs)) (lo+x)) with
   |true=>simp![if_true];exact wpS_pure (h x ne xs r hax (1:) hs' hq he)
   |false=>
    have hc:O.blt (KA O kf xs (lo+x - 1)) (KA O kf xs (lo+x))=false:=hc;simp![Bool.false_eq_true,if_false];have heqx:KA O kf xs (lo+x)=KA O kf xs (lo+x - 1):=KeyOrd.kle_antisymm hc hb;refine wpS_pure ⟨ne+1,xs,rfl,rfl,r,λi j a b d=>?_,by lia,λi a b=>?_⟩
    ·by_cases hjx:j < lo+x
     ·exact hs' i j a b hjx
     ·have:j=lo+x:=by lia
      subst this
      by_cases e:i=lo+x
      ·subst e;exact KeyOrd.kle_refl _
      ·rw[heqx];exact hs' i (lo+x - 1) a (1:) (1:)
    ·rw[show lo+(x+1) - 1=lo+x by lia]
     by_cases e:i=lo+x
     ·rw[e]
     ·rw[heqx];exact he i (1:) (1:)
def qgH(L:qfk M A E s O kf U G){st:SortSt}{lo n nrem:Nat}{Q:Option Nat->SortSt->Prop}(hk:kindOf st=U)(hG:∀x∈(arrOf st).toList,G x)(hn:lo+nrem<=(arrOf st).size)(hnn:n+1<=nrem)
  (hs:Dec O kf (arrOf st) lo (lo+(n+1))) (h:qck O kf lo nrem st Q):wpS M A E s (dpt lo n nrem) Q st:=by
 unfold dpt;refine wpS_bind (wpS_lift (wpAny_rule ⟨rfl,?_⟩));refine wpS_bind (qkh L hk hG hn (1:) hnn hs λm ne xs r h1 h2 h3 h4 h5=>?_);dsimp only;have hsz:xs.size=(arrOf st).size:=r.size
 by_cases hneq:ne > 0
 ·rw[if_pos hneq];have r2:Re lo xs (mirror xs (lo+m - (ne+1)) (lo+m) ((lo+m - (lo+m - (ne+1))) / 2)):=Re.mirror (1:) (1:);refine wpS_bind (qbk (qgG L hk (r2.mem (r.mem hG)) (by have:=r2.size;show lo+nrem<=(mirror xs (lo+m - (ne+1)) (lo+m) ((lo+m - (lo+m - (ne+1))) / 2)).size;lia) (1:) h2 ?_ ((h.step r).step r2)));intro i j a b d;show O.kle (KA O kf (mirror xs _ _ _) j) (KA O kf (mirror xs _ _ _) i);rw[ze (1:) h5,ze (1:) h5];exact h3 i j a b d
 ·rw[if_neg hneq];exact qgG L (st:=setArr st xs) hk (r.mem hG) (by show lo+nrem<=xs.size;lia) (1:) h2 h3 (h.step r)
def qnp(L:qfk M A E s O kf U G){st:SortSt}{lo nrem:Nat}{Q:Option Nat->SortSt->Prop}(hk:kindOf st=U)(hG:∀x∈(arrOf st).toList,G x)(hn:lo+nrem<=(arrOf st).size)(h1:1<=nrem)
  (h:qck O kf lo nrem st Q):wpS M A E s (countRun' lo nrem) Q st:=by
 rw[qno];refine wpS_bind (qgF L hk hG hn (Nat.le_refl 1) h1 (λi j a b d=>by have:i=j:=(1:);subst this;exact KeyOrd.kle_refl _) λn hn1 hn2 hsn hor=>?_);dsimp only
 by_cases hnn:n=nrem
 ·rw[if_pos (-hnn:)];exact wpS_pure (h n _ (Re.refl _ _) hn1 hn2 hsn)
 ·rw[if_neg (-hnn:)];have hlt:=hor.resolve_left hnn
  by_cases hgt:n > 1
  ·rw[if_pos hgt];refine wpS_bind (J2 L hk hG (1:) (1:) ?_)
   cases hr:O.blt (KA O kf (arrOf st) lo) (KA O kf (arrOf st) (lo+n - 1)) with
   |true=>simp![if_true];exact wpS_pure (h n _ (Re.refl _ _) hn1 hn2 hsn)
   |false=>
    simp![Bool.false_eq_true,if_false]
    have hall:∀k,lo<=k->k < lo+n->KA O kf (arrOf st) k=KA O kf (arrOf st) (lo+n - 1):=by intro k a b;exact KeyOrd.kle_antisymm (hsn k (lo+n - 1) a (1:) (1:)) (KeyOrd.kle_trans hr (hsn lo k (Nat.le_refl _) a b))
    have r:Re lo (arrOf st) (mirror (arrOf st) lo (lo+n) ((lo+n - lo) / 2)):=Re.mirror (Nat.le_refl _) (1:);refine wpS_bind (qbk (qgH L hk (r.mem hG) (by have:=r.size;show lo+nrem<=(mirror (arrOf st) lo (lo+n) ((lo+n - lo) / 2)).size;lia) (1:) ?_ (h.step r)));intro i j a b d;show O.kle (KA O kf (mirror (arrOf st) _ _ _) j) (KA O kf (mirror (arrOf st) _ _ _) i);rw[ze (1:) hall,ze (1:) hall]
    by_cases hjn:j < lo+n
    ·rw[hall i (1:) (1:),hall j (1:) hjn];exact KeyOrd.kle_refl _
    ·have:j=lo+n:=by lia
     subst this
     by_cases e:i=lo+n
     ·subst e;exact KeyOrd.kle_refl _
     ·rw[hall i (1:) (1:)];exact KeyOrd.kle_of_klt hlt
  ·rw[if_neg hgt]
   have:n=1:=by lia
   subst this;refine qgH L hk hG hn (1:) ?_ h;intro i j a b d
   by_cases e:i=j
   ·subst e;exact KeyOrd.kle_refl _
   ·have e1:i=lo:=by lia
    have e2:j=lo+1:=by lia
    subst e1 e2;exact KeyOrd.kle_of_klt (-hlt:)
def qki{l u k x:Nat}(h:¬ l≥u)(b:u<=k)(d:u - l<=k - x):l<=(l+u) / 2/\(l+u) / 2 < u/\(l+u) / 2 < k/\(l+u) / 2 - l<=k - (x+1)/\u - ((l+u) / 2+1)<=k - (x+1):=by
 have h1:l<=(l+u) / 2:=by lia
 have h2:(l+u) / 2 < u:=by lia
 generalize (l+u) / 2=m at *
 lia
def qdm{lo k n s:Nat}(h:k < n)(hn:lo+n<=s):lo+k < s:=Nat.lt_of_lt_of_le (Nat.add_lt_add_left h lo) hn
def qkj{lo t l:Nat}(h1:lo<=t)(h2:t < lo+l):t - lo < l:=by lia
def qnq{lo t l:Nat}(h1:lo+l<=t):l<=t - lo:=by lia
def qkk(L:qfk M A E s O kf U G){st:SortSt}{lo n ok:Nat}{Q:Bool->SortSt->Prop}(hk:kindOf st=U)(hG:∀x∈(arrOf st).toList,G x)(hn:lo+n<=(arrOf st).size)(hok:ok<=n)(hs:Inc O kf (arrOf st) lo (lo+ok))
  (h:∀xs,Re lo (arrOf st) xs->Inc O kf xs lo (lo+n)->Q true (setArr st xs)):wpS M A E s (binarySort' lo n ok) Q st:=by
 rw[binarySort'_eq]
 refine wpS_bind (wpS_mono (wpS_forRange (I:=λk c st'=>c=(none,())/\∃xs,st'=setArr st xs/\Re lo (arrOf st) xs/\Inc O kf xs lo (lo+min k n))
  (Q:=λc st'=>c=(none,())/\∃xs,st'=setArr st xs/\Re lo (arrOf st) xs/\Inc O kf xs lo (lo+n)) ?step ?fin ?init) ?post)
 case post=>rintro c st' ⟨rfl,xs,rfl,r,hs'⟩;exact wpS_pure (h xs r hs')
 case init=>
  refine{rfl,arrOf st,rfl,Re.refl _ _,λi j a b d=>?_}
  by_cases h1:ok=0
  ·have:i=j:=by lia
   subst this;exact KeyOrd.kle_refl _
  ·exact hs i j a b (1:)
 case fin=>
  rintro c st' ⟨hc,xs,rfl,r,hs'⟩;refine{hc,xs,rfl,r,?_}
  rwa[show min (max (max ok 1) n) n=n by lia]at hs'
 case step=>
  rintro k c st' hak hkn ⟨rfl,xs,rfl,r,hs'⟩;rw[Nat.min_eq_left (Nat.le_of_lt hkn)]at hs';have hsz:xs.size=(arrOf st).size:=r.size
  refine wpS_bind (wpS_mono (wpS_forRange (I:=λx c st''=>st''=setArr st xs/\∃l u,c=(none,l,u)/\l<=u/\u<=k/\u - l<=k - x/\
    (∀i,i < l->O.kle (KA O kf xs (lo+i)) (KA O kf xs (lo+k)))/\(∀i,u<=i->i < k->O.klt (KA O kf xs (lo+k)) (KA O kf xs (lo+i))))
   (Q:=λc st''=>st''=setArr st xs/\∃l u,c=(none,l,u)/\l<=k/\
    (∀i,i < l->O.kle (KA O kf xs (lo+i)) (KA O kf xs (lo+k)))/\(∀i,l<=i->i < k->O.klt (KA O kf xs (lo+k)) (KA O kf xs (lo+i)))) ?istep ?ifin ?iinit) ?ipost)
  case iinit=>exact{rfl,0,k,rfl,Nat.zero_le _,Nat.le_refl _,Nat.le_refl _,λi hi=>absurd hi (Nat.not_lt_zero i),λi h1 h2=>absurd h2 (Nat.not_lt.mpr h1)}
  case ifin=>
   rintro c st'' ⟨rfl,l,u,rfl,a,b,d,e,f⟩
   have:l=u:=by lia
   subst this;exact⟨rfl,l,l,rfl,b,e,f⟩
  case istep=>
   rintro x c st'' _ hxk ⟨rfl,l,u,rfl,a,b,d,e,f⟩;dsimp only
   by_cases hge:l≥u
   ·rw[if_pos hge];obtain rfl:l=u:=Nat.le_antisymm a hge;exact wpS_pure ⟨rfl,l,l,rfl,b,e,f⟩
   ·rw[if_neg hge];obtain⟨m1,m2,m3,m4,m5⟩:=qki hge b d;have hns:lo+n<=xs.size:=by rw[hsz];exact hn
    refine wpS_bind (J2 L (st:=setArr st xs) hk (r.mem hG) (qdm hkn hns) (qdm (Nat.lt_trans m3 hkn) hns) ?_)
    cases hb:O.blt (KA O kf (arrOf (setArr st xs)) (lo+k)) (KA O kf (arrOf (setArr st xs)) (lo+(l+u) / 2)) with
    |true=>have hb:O.blt (KA O kf xs (lo+k)) (KA O kf xs (lo+(l+u) / 2))=true:=hb;simp![if_true];refine wpS_pure ⟨rfl,l,(l+u) / 2,rfl,m1,Nat.le_of_lt m3,m4,e,λi h1 h2=>?_⟩;exact KeyOrd.klt_of_klt_of_kle hb (hs' _ _ (Nat.le_add_right _ _) (Nat.add_le_add_left h1 lo) (Nat.add_lt_add_left h2 lo))
    |false=>have hb:O.blt (KA O kf xs (lo+k)) (KA O kf xs (lo+(l+u) / 2))=false:=hb;simp![Bool.false_eq_true,if_false];refine wpS_pure ⟨rfl,(l+u) / 2+1,u,rfl,m2,b,m5,λi h1=>?_,f⟩;exact KeyOrd.kle_trans (hs' (lo+i) (lo+(l+u) / 2) (Nat.le_add_right _ _) (Nat.add_le_add_left (Nat.le_of_lt_succ h1) lo) (Nat.add_lt_add_left m3 lo)) (show O.kle _ _ from hb)
  case ipost=>
   rintro c st'' ⟨rfl,l,u,rfl,hlk,hlo,hhi⟩;show wpS _ _ _ _ (do moveDown' (lo+k) (lo+l);pure (ForInStep.yield (none,()))) _ _;rw[moveDown'_eq];have hks:lo+k < xs.size:=qdm hkn (by rw[hsz];exact hn);refine wpS_bind (wpS_modify (wpS_pure ⟨rfl,_,rfl,r.trans (Re.bubble hks (d:=lo+k - (lo+l)) (by rw[Nat.add_sub_add_left];exact Nat.add_le_add_left (Nat.sub_le _ _) _)),?_⟩));rw[Nat.min_eq_left hkn];intro i j a b d;show O.kle (KA O kf (bubble xs (lo+k) (lo+k - (lo+l))) i) (KA O kf (bubble xs (lo+k) (lo+k - (lo+l))) j);have dl:lo+k - (lo+l)<=lo+k:=Nat.sub_le _ _;rw[ZC hks dl,ZC hks dl,Nat.sub_sub_self (Nat.add_le_add_left hlk lo)];clear dl
   have lo':∀t,lo<=t->t < lo+l->O.kle (KA O kf xs t) (KA O kf xs (lo+k)):=λt h1 h2=>by
    have:=hlo (t - lo) (qkj h1 h2)
    rwa[Nat.add_sub_cancel' h1]at this
   have hi':∀t,lo+l<=t->t < lo+k->O.klt (KA O kf xs (lo+k)) (KA O kf xs t):=λt h1 h2=>by
    have:=hhi (t - lo) (qnq h1) (qkj (Nat.le_trans (Nat.le_add_right lo l) h1) h2)
    rwa[Nat.add_sub_cancel' (Nat.le_trans (Nat.le_add_right lo l) h1)]at this
   clear hlo hhi hks hsz hn hkn hak hok hs hG hk r
   repeat' split
   all_goals first
    | (exfalso;lia)
    | exact KeyOrd.kle_refl _
    | exact lo' _ (1:) (1:)
    | exact KeyOrd.kle_of_klt (hi' _ (1:) (1:))
    | exact hs' _ _ (1:) (1:) (1:)
end
section
variable{prog:Program}{w:World}{A:Around}{E:PQ}{s:Shared}{O:KeyOrd}{kf:Keyed->O.α}{U:SortKind}
def qdn(s s1:Shared):Prop:=∀b o,s.heap.get? b=some o->s1.heap.get? b=some o
structure Sorts(prog:Program)(w:World)(s:Shared)(vs:List Value)(O:KeyOrd)(kf:Keyed->O.α)(U:SortKind):Prop where
 kind:2<=vs.length->∀(A:Around) (E:PQ) (s1:Shared) (Q:SortKind->Shared->Prop),qdn s s1->Q U s1->wpAny (model prog w) A (keyKind' vs.toArray) Q E s1
 lt:∀(A:Around) (E:PQ) (s1:Shared),qdn s s1->qfk (model prog w) A E s1 O kf U (λx=>x∈(pairsOf vs).toList)
end
def pO:KeyOrd where
 α:=Int×Int
 blt p q:=decide (p.1 < q.1)||(decide (p.1=q.1)&&decide (p.2 < q.2))
 irrefl a:=by simp
 trans a b c h1 h2:=by
  simp at h1 h2 ⊢
  lia
 negTrans a b c h:=by
  simp at h ⊢
  lia
 total a b h1 h2:=by
  obtain⟨a1,a2⟩:=a;obtain⟨b1,b2⟩:=b;simp at h1 h2;have e1:a1=b1:=by lia
  subst e1;have e2:a2=b2:=by lia
  rw[e2]
def nOf:Value->Int
 |.int n _=>n
 |_=>0
def ye(h:Heap)(v:Value):Int×Int:=match v with
 |.ref a=>match h.get? a with
  |some o=>match o.data with
   |.seq xs _=>(nOf (xs.getD 0 .none),nOf (xs.getD 1 .none))
   |_=>(0,0)
  |none=>(0,0)
 |_=>(0,0)
def qbl(h:Heap)(v:Value)(p:Int×Int):Prop:=∃a t u,v=.ref a/\IsTup h a #[.int p.1 t,.int p.2 u]
def qbl.pair{h:Heap}{v:Value}{p:Int×Int}(e:qbl h v p):ye h v=p:=by obtain⟨a,t,u,rfl,o,ho,hc,n,hd⟩:=e;unfold ye;simp![ho,hd];rfl
def qbl.grow{s s1:Shared}{v:Value}{p:Int×Int}(e:qbl s.heap v p)(g:qdn s s1):qbl s1.heap v p:=by obtain⟨a,t,u,rfl,o,ho,hc,n,hd⟩:=e;exact{a,t,u,rfl,o,g a o ho,hc,n,hd}
section
variable{prog:Program}{w:World}{A:Around}{E:PQ}{s:Shared}
def qkl{x y:Value}{p q:Int×Int}{Q:Bool->Shared->Prop}(hx:qbl s.heap x p)(hy:qbl s.heap y q)(h:Q (pO.blt p q) s):wpAny (model prog w) A (keyLt' (tuples' true) x y) Q E s:=by
 obtain⟨a,t,u,rfl,o,ho,hc,n,hd⟩:=hx;obtain⟨b,t',u',rfl,o',ho',hc',n',hd'⟩:=hy;refine PySem.W.kat_lt ho hd ho' hd' ?_;show PySem.W.KatLex prog w A true _ Q [(.int p.1 t,.int q.1 t'),(.int p.2 u,.int q.2 u')] 0 s;refine PySem.W.kat_cons (wpAny_eqBool_int ?_)
 by_cases e1:p.1=q.1
 ·rw[show(p.1 == q.1)=true by simpa using e1];refine PySem.W.kat_yes (PySem.W.kat_cons (wpAny_eqBool_int ?_))
  by_cases e2:p.2=q.2
  ·rw[show(p.2 == q.2)=true by simpa using e2];refine PySem.W.kat_yes (PySem.W.kat_nil ?_)
   have:pO.blt p q=false:=by unfold pO;simp[e1,e2]
   rw[this]at h;exact h
  ·rw[show(p.2 == q.2)=false by simpa using e2];refine PySem.W.kat_no (PySem.W.kat_one _ _ (lt_int ?_))
   have:pO.blt p q=decide (p.2 < q.2):=by unfold pO;simp[e1]
   rw[this]at h;exact h
 ·rw[show(p.1 == q.1)=false by simpa using e1];refine PySem.W.kat_no ?_
  have:pO.blt p q=decide (p.1 < q.1):=by unfold pO;simp[e1]
  rw[this]at h;exact oneLt_int h
theorem qdo:∀{vs:List Value} {ps:List (Int×Int)},Paired (qbl s.heap) vs ps->∃fs,PySem.W.KatTups s.heap vs fs/\fs.length=vs.length/\∀v∈fs,∃n t,v=Value.int n t
 |_,_,.nil=>{[],trivial,rfl,λ_ h=>nomatch h}
 |_,_,.cons r rs=>by
  obtain⟨a,t,u,rfl,o,ho,hc,n,hd⟩:=r;obtain⟨fs,h1,h2,h3⟩:=qdo rs;refine{_::fs,PySem.W.KatTups.cons ho hc hd rfl h1,by simp[h2],λv hv=>?_};rcases List.mem_cons.mp hv with rfl|hv
  ·exact{_,_,rfl}
  ·exact h3 v hv
def ZD{vs:List Value}{x:Keyed}(h:x∈(pairsOf vs).toList):x.1=x.2/\x.1∈vs:=by rw[pairsOf_toList]at h;exact mem_zip_self h
theorem Paired.at_mem{α M:Type}{R:α->M->Prop}:∀{l:List α} {m:List M},Paired R l m->∀a∈l,∃b∈m,R a b
 |_,_,.nil,_,h=>nomatch h
 |_,_,.cons r rs,a,h=>by
  rcases List.mem_cons.mp h with rfl|h
  ·exact{_,List.mem_cons_self,r}
  ·obtain⟨b,hb,q⟩:=Paired.at_mem rs a h;exact{b,List.mem_cons_of_mem _ hb,q}
theorem Paired.grow2{s s1:Shared}(g:qdn s s1):∀{vs:List Value} {ps:List (Int×Int)},Paired (qbl s.heap) vs ps->Paired (qbl s1.heap) vs ps
 |_,_,.nil=>.nil
 |_,_,.cons r rs=>.cons (r.grow g) (Paired.grow2 g rs)
def qdp{vs:List Value}{ps:List (Int×Int)}(h:Paired (qbl s.heap) vs ps):Sorts prog w s vs pO (λx=>ye s.heap x.1) (tuples' true) where
 kind:=λh2 A E s1 Q g q=>by obtain⟨fs,t1,t2,t3⟩:=qdo (Paired.grow2 g h);refine PySem.W.kat_kind t1 (1:) (T:=Value.type "int") (λv hv=>?_) rfl q;obtain⟨n,t,rfl⟩:=t3 v hv;exact .now
 lt:=λA E s1 g x y hx hy st Q hk q=>by obtain⟨p,_,hp⟩:=Paired.at_mem h _ (ZD hx).2;obtain⟨p',_,hp'⟩:=Paired.at_mem h _ (ZD hy).2;have q:Q (some (pO.blt (ye s.heap x.1) (ye s.heap y.1))) st:=q;rw[hp.pair,hp'.pair]at q;rw[lt'_eq];refine wpS_bind (wpS_get ?_);rw[hk];refine wpS_bind (wpS_lift (wpAny_attempt (qkl (hp.grow g) (hp'.grow g) ⟨rfl,?_⟩)));exact wpS_pure q
end
theorem Paired.perm{α M:Type}{R:α->M->Prop}{us us':List M}(p:us'.Perm us):∀{xs:List α},Paired R xs us->∃xs',xs'.Perm xs/\Paired R xs' us':=by
 induction p with
 |nil=>exactλ{xs} h=>{xs,List.Perm.refl _,h}
 |cons x _ ih=>
  intro xs h
  cases h with
  |cons r rs=>obtain⟨xs',h1,h2⟩:=ih rs;exact{_::xs',h1.cons _,.cons r h2}
 |swap x y l=>
  intro xs h
  cases h with
  |cons r rs=>
   cases rs with
   | cons r' rs=>exact{_::_::_,List.Perm.swap ..,.cons r' (.cons r rs)}
 |trans _ _ ih1 ih2=>intro xs h;obtain⟨x1,h1,h2⟩:=ih2 h;obtain⟨x2,h3,h4⟩:=ih1 h2;exact{x2,h3.trans h1,h4}
end TS
namespace L2
open PySem PySem.Spec PyProof.Rows
def P2(K:Frag)(H:Hp)(v:V)(p:Int×Int):Prop:=∃a,v=.ref a/\H a=some (.tup [.int p.1,.int p.2])
def qdq(p q:Int×Int):Prop:=p.1 < q.1\/(p.1=q.1/\p.2<=q.2)
section
variable{X:Cx}
def P2.raw{pins:PP}{Z:St}{H:Hp}{s:Shared}{v:V}{u:Value}{p:Int×Int}(I:Inv X pins Z H s)(h:P2 X.K H v p)(r:qI v u):TS.qbl s.heap u p:=by obtain⟨a,rfl,hq⟩:=h;obtain rfl:u=Value.ref a:=r;obtain⟨its,rv,pl,_⟩:=I.tuple (SqT.of hq);obtain⟨u1,u2,rfl,⟨t1,rfl⟩,⟨t2,rfl⟩⟩:=Qs rv;exact⟨a,t1,t2,rfl,pl⟩
end
def zr(env:Env)(ns:List (Str×NameKind))(acc:List (Str×Addr)):List (Str×Addr):=ns.foldl (λcs x=>if x.2 == .free then (x.1,(env.cells.lookup x.1).getD 0)::cs else cs) acc
theorem qgI{env:Env}:∀(ns:List (Str×NameKind)) (acc:List (Str×Addr)),(∀x∈ns,x.2=.free->∃c,env.cells.lookup x.1=some c)->
  (forIn ns acc λ(x:Str×NameKind) (cs:List (Str×Addr))=>(match x with |(name,kind)=>if kind == .free then (do let c<-cellOf env name;pure (ForInStep.yield ((name,c)::cs)):Sem (ForInStep (List (Str×Addr)))) else pure (ForInStep.yield cs)))=(pure (zr env ns acc):Sem (List (Str×Addr)))
 |[],acc,_=>by rw[List.forIn_nil];rfl
 | (n,k)::r,acc,h=>by
  rw[List.forIn_cons];have hr:=qgI (env:=env) r
  by_cases hk:k=.free
  ·subst hk;obtain⟨c,hc⟩:=h (n,.free) List.mem_cons_self rfl;have e1:cellOf env n=pure c:=by unfold cellOf;rw[hc]
   simp![beq_self_eq_true,if_true,e1,pure_bind];rw[hr _ λx hx=>h x (List.mem_cons_of_mem _ hx)];unfold zr;simp[hc]
  ·have hb:(k == NameKind.free)=false:=(-hk:)
   simp![hb,Bool.false_eq_true,if_false,pure_bind];rw[hr _ λx hx=>h x (List.mem_cons_of_mem _ hx)];unfold zr;rw[List.foldl_cons];simp![hb,Bool.false_eq_true,if_false]
def qgJ{env:Env}{scope:Scope}(h:∀x∈scope.names,x.2=.free->∃c,env.cells.lookup x.1=some c):closureFor scope env=pure (zr env scope.names []):=by
 unfold closureFor
 have:=qgI scope.names [] h
 simp![bind_pure_comp]at this;simp![bind_pure_comp,id_map',this];rfl
theorem qdr{env:Env}:∀(ns:List (Str×NameKind)) (acc:List (Str×Addr)),(∀x∈ns,x.2=.free->∃c,env.cells.lookup x.1=some c)->(∀x c,acc.lookup x=some c->env.cells.lookup x=some c)->
  ∀x c,(zr env ns acc).lookup x=some c->env.cells.lookup x=some c
 |[],_,_,h=>h
 | (n,k)::r,acc,hf,h=>by
  have ih:=qdr (env:=env) r (if k == .free then (n,(env.cells.lookup n).getD 0)::acc else acc) (λx hx=>hf x (List.mem_cons_of_mem _ hx)) (λx c e=>by
   by_cases hk:k=.free
   ·subst hk;simp![beq_self_eq_true,if_true]at e;obtain⟨c',hc⟩:=hf (n,.free) List.mem_cons_self rfl;rw[List.lookup_cons]at e
    by_cases hx:x=n
    ·subst hx;simp[hc]at e;rw[hc,e]
    ·rw[show(x == n)=false by simpa using hx]at e;exact h x c e
   ·rw[show(k == NameKind.free)=false by simpa using hk]at e;exact h x c e)
  exact ih
def yK{env:Env}{ns:List (Str×NameKind)}(h:∀x∈ns,x.2=.free->∃c,env.cells.lookup x.1=some c):∀x c,(zr env ns []).lookup x=some c->env.cells.lookup x=some c:=qdr ns [] h λ_ _ e=>by cases e
theorem Qw{env:Env}:∀(ns:List (Str×NameKind)) (acc:List (Str×Addr)) (x:Str) (c:Addr),acc.lookup x=some c->∃c,(zr env ns acc).lookup x=some c
 |[],_,_,c,h=>⟨c,h⟩
 | (n,k)::r,acc,x,c,h=>by
  show∃c,(zr env r (if k == .free then (n,(env.cells.lookup n).getD 0)::acc else acc)).lookup x=some c
  by_cases hk:k=.free
  ·subst hk;simp![beq_self_eq_true,if_true]
   by_cases hx:x=n
   ·subst hx;exact Qw r _ x ((env.cells.lookup x).getD 0) (by rw[List.lookup_cons];simp)
   ·exact Qw r _ x c (by rw[List.lookup_cons,show(x == n)=false by simpa using hx];exact h)
  ·rw[show(k == NameKind.free)=false by simpa using hk];exact Qw r _ x c h
theorem qaF{env:Env}:∀(ns:List (Str×NameKind)) (acc:List (Str×Addr)) (x:Str),(x,NameKind.free)∈ns->∃c,(zr env ns acc).lookup x=some c
 | (n,k)::r,acc,x,h=>by
  show∃c,(zr env r (if k == .free then (n,(env.cells.lookup n).getD 0)::acc else acc)).lookup x=some c;rcases List.mem_cons.mp h with e|h
  ·injection e with e1 e2;subst e1 e2;simp![beq_self_eq_true,if_true];exact Qw r _ x ((env.cells.lookup x).getD 0) (by rw[List.lookup_cons];simp)
  ·exact qaF r _ x h
theorem JL{env:Env}:∀{names:List (Str×NameKind)} {x:Str},names.lookup x=some .free->
  (names.map λ(n,k)=>if (k == NameKind.free&&env.scope.kind == .function&&env.kindOf n == some .cell) then (n,NameKind.cell) else (n,k)).lookup x=some .cell\/
  (names.map λ(n,k)=>if (k == NameKind.free&&env.scope.kind == .function&&env.kindOf n == some .cell) then (n,NameKind.cell) else (n,k)).lookup x=some .free
 |[],_,h=>by simp at h
 | (n,k)::r,x,h=>by
  simp![List.map_cons]
  by_cases hx:x=n
  ·subst hx;simp[List.lookup_cons]at h;subst h
   by_cases hc:(NameKind.free == NameKind.free&&env.scope.kind == .function&&env.kindOf x == some .cell)=true
   ·rw[if_pos hc];left;simp[List.lookup_cons]
   ·rw[if_neg hc];right;simp[List.lookup_cons]
  ·have hb:(x == n)=false:=(-hx:)
   rw[List.lookup_cons,hb]at h;have ih:=JL (env:=env) h
   by_cases hc:(k == NameKind.free&&env.scope.kind == .function&&env.kindOf n == some .cell)=true
   ·rw[if_pos hc];simp![List.lookup_cons,hb];exact ih
   ·rw[if_neg hc];simp![List.lookup_cons,hb];exact ih
theorem qds{env:Env}:∀{names:List (Str×NameKind)} {x:Str} {k':NameKind},(names.map λ(n,k)=>if (k == NameKind.free&&env.scope.kind == .function&&env.kindOf n == some .cell) then (n,NameKind.cell) else (n,k)).lookup x=some k'->
  k'=.cell\/k'=.free->(x,NameKind.free)∈names\/(x,NameKind.cell)∈names
 |[],_,_,h,_=>by simp at h
 | (n,k)::r,x,k',h,hk=>by
  simp![List.map_cons]at h
  by_cases hx:x=n
  ·subst hx
   by_cases hc:(k == NameKind.free&&env.scope.kind == .function&&env.kindOf x == some .cell)=true
   ·have:k=.free:=by simp at hc;exact hc.1.1
    subst this;exact .inl List.mem_cons_self
   ·rw[if_neg hc]at h;simp[List.lookup_cons]at h;subst h;rcases hk with rfl|rfl
    ·exact .inr List.mem_cons_self
    ·exact .inl List.mem_cons_self
  ·have hb:(x == n)=false:=(-hx:)
   have ih:=qds (env:=env) (names:=r) (x:=x) (k':=k') (by
    by_cases hc:(k == NameKind.free&&env.scope.kind == .function&&env.kindOf n == some .cell)=true
    ·rw[if_pos hc]at h;simp![List.lookup_cons,hb]at h;exact h
    ·rw[if_neg hc]at h;simp![List.lookup_cons,hb]at h;exact h) hk
   exact ih.imp (List.mem_cons_of_mem _) (List.mem_cons_of_mem _)
def blk(X:Cx)(N:List Str)(scope:Scope)(cl:List (Str×Addr))(C:Addr)(fp:List Addr)(s2:Shared)(H2:Hp):Cx:=
 { X with N:=N,s₀:=s2,Hv:=H2,env:=compEnvC scope cl C X.env,outer:=X.stack,stack:=X.stack,ex:=fp,fn:=λ_=>false,pn:=[],xe:=λ_ _=>False }
structure BlkScope(X:Cx)(own:List Str)(fr:List Nat)(scope:Scope):Prop where
 kind:scope.kind=.function
 nocell:∀x∈scope.names,x.2≠.cell
 names:∀x∈scope.names,x.2=.local->scope.names.lookup x.1=some .local
 free:∀x∈scope.names,x.2=.free->X.env.kindOf x.1=some .cell\/X.env.kindOf x.1=some .free
 look:∀i∈fr,scope.names.lookup (X.N.getD i "")=some .free
def Jq(X:Cx)(own:List Str)(fr:List Nat):List Str:=own++fr.map λi=>X.N.getD i ""
def YO(own:List Str)(fr:List Nat)(Z:St):St:=(own.map λ_=>none)++fr.map λi=>(Z[i]?).join
section
variable{X:Cx}{pins:PP}{Z:St}{H:Hp}{s:Shared}{own:List Str}{fr:List Nat}{scope:Scope}
abbrev qcR(its:List Value)(n:Nat):Obj:={ cls:=.type "list",data:=.seq its.toArray n }
def qkm{C:Addr}{fp:List Addr}(B:BlkScope X own fr scope)(I:Inv X pins Z H s)(hf:∀b∈fp,qca X pins H b)(hfo:∀b∈fp,b < s.heap.objs.size)(hC:s.heap.objs.size<=C) :
  (blk X (Jq X own fr) scope (zr X.env scope.names []) C fp s H).Ok where
 mod:=I.ok.mod
 kind:=B.kind
 glob:=I.ok.glob
 blt:=I.ok.blt
 above:=hC
 inj:=λx y c h1 h2=>I.ok.inj x y c (yK (λz hz e=>I.ok.has _ (B.free z hz e)) x c h1) (yK (λz hz e=>I.ok.has _ (B.free z hz e)) y c h2)
 has:=λx h=>by
  have h':(x,NameKind.free)∈scope.names\/(x,NameKind.cell)∈scope.names:=by
   rcases h with h|h
   ·exact qds (env:=X.env) h (.inl rfl)
   ·exact qds (env:=X.env) h (.inr rfl)
  rcases h' with h'|h'
  ·exact qaF _ _ _ h'
  ·exact absurd rfl (B.nocell _ h')
 cab:=λx c h=>nomatch h
 hd:=I.ok.hd
 frames:=I.ok.frames
 stk:=.inl rfl
 exf:=λb hb=>{Nat.ne_of_lt (Nat.lt_of_lt_of_le (hfo b hb) hC),λx c e=>(hf b hb).2.2.2.2.1 x c (yK (λz hz e=>I.ok.has _ (B.free z hz e)) x c e)}
 bs:=I.bs
 bsz:=Nat.le_trans I.ok.bsz I.sz
 noex:=λb o e hb=>by
  rcases (hf b hb).2.2.2.1 with z|z
  ·exact I.ok.noex b o e z
  ·exact absurd (Nat.lt_of_lt_of_le (Heap.lt_size (I.ok.bs b o e).1) z) (Nat.lt_irrefl _)
 exfs:=λb hb z=>by
  rcases List.mem_cons.mp (I.stkSub b z) with e|e
  ·exact(hf b hb).2.1 e
  ·exact(hf b hb).2.2.1 e
 funs:=I.stack
 frf:=I.stkFree
def qdt{C D:Addr}{fp:List Addr}{h4:Heap}{tk:Nat}{n:Nat}(B:BlkScope X own fr scope)(I:Inv X pins Z H s)(hf:∀b∈fp,qca X pins H b)(hfo:∀b∈fp,b < s.heap.objs.size)(hC:s.heap.objs.size<=C)(hD:s.heap.objs.size<=D)(hDC:D≠C)
  (k:∀b o,s.heap.get? b=some o->h4.get? b=some o) (hn:h4.Ns C λ_=>none) (hl:h4.get? D=some (qcR [] n)) :
  Inv (blk X (Jq X own fr) scope (zr X.env scope.names []) C fp s H) [(D,qcR [] n)] (YO own fr Z) H { s with heap:=h4,toks:=tk }:=by
 have sub:=yK (env:=X.env) (ns:=scope.names) (λz hz e=>I.ok.has _ (B.free z hz e));refine{qkm B I hf hfo hC,rfl,I.bare,Un.kept k,{_,hn,λi x v h1 h2 h3=>?_},λx c e=>?_,I.hok.fresh hC,λx c e=>I.freeC x c (sub x c e),λp hp=>?_,I.hok.kept k,?_}
 ·have h1:(Jq X own fr)[i]?=some x:=h1;unfold Jq at h1;unfold YO at h2
  by_cases hi:i < own.length
  ·rw[List.getElem?_append_left (-hi:),List.getElem?_map]at h2
   cases q:own[i]? with
   |none=>rw[q]at h2;cases h2
   |some a=>rw[q]at h2;cases h2
  ·rw[List.getElem?_append_right (-hi:),List.getElem?_map]at h2;rw[List.getElem?_append_right (-hi:),List.getElem?_map]at h1;rw[List.length_map]at h2
   cases q:fr[i - own.length]? with
   |none=>rw[q]at h2;cases h2
   |some j=>
    rw[q]at h1 h2;have h1:X.N.getD j "" = x:=Option.some.inj h1;have h2:(Z[j]?).join=some v:=Option.some.inj h2
    have h2':Z[j]?=some (some v):=by
     cases w:Z[j]? with
     |none=>rw[w]at h2;cases h2
     |some y=>rw[w]at h2;cases y with
      |none=>cases h2
      |some y=>cases h2;rfl
    have hjl:j < X.N.length:=by rw[<-I.len];exact(List.getElem?_eq_some_iff.mp h2').1
    have hN:X.N[j]?=some x:=by rw[<-h1,List.getElem?_eq_getElem hjl];simp[hjl]
    have hfree:scope.names.lookup x=some .free:=by rw[<-h1];exact B.look j (List.mem_of_getElem? q)
    have hk:=B.free (x,.free) (PySem.mem_of_lookup hfree) rfl;obtain⟨m,_,hloc⟩:=I.loc
    obtain⟨u,r,l⟩:=hloc j x v hN h2' (by
     rcases hk with z|z
     ·exact .inr (.inl z)
     ·exact .inr (.inr z))
    refine{u,r,.inr {?_,?_}}
    ·exact JL (env:=X.env) hfree
    ·rcases l with ⟨l,_⟩|⟨_,c,hc,o,ho,hd⟩
     ·have hk:X.env.kindOf x=some .cell\/X.env.kindOf x=some .free:=hk;rw[l]at hk;rcases hk with z|z<;>cases z
     ·obtain⟨c',hc'⟩:=qaF (env:=X.env) scope.names [] x (PySem.mem_of_lookup hfree)
      have:=sub x c' hc'
      rw[hc]at this;cases this;exact{c,hc',o,k _ _ ho,hd}
 ·obtain⟨v,o,ho,hd⟩:=I.cell x c (sub x c e);exact{v,o,k _ _ ho,hd}
 ·have hp:p∈[(D,qcR [] n)]:=by simpa [blk] using hp
  cases List.mem_singleton.mp hp;refine{hl,I.hok.fresh hD,hDC,λz=>?_,λv e=>by cases e};rcases List.mem_cons.mp (I.stkSub D z) with e|e
  ·exact Nat.ne_of_lt (Nat.lt_of_lt_of_le I.lt hD) e.symm
  ·exact I.nofs hD e
 ·show(YO own fr Z).length=(Jq X own fr).length;unfold YO Jq;simp
end
def PIf(X:Cx)(ifs:List Expr)(t:TT):Prop:=
 ∀(pins:PP) (s:Shared) (Z:St) (H:Hp) (Q:Bool->Hp->Prop),Inv X pins Z H s->t Z H Q->
  wpAny (model X.prog X.w) X.A (forIn ifs true λc r=>if r=true then do let ok<-isTrue c X.env (eval c X.env);pure (ForInStep.yield ok) else pure (ForInStep.yield r)) (TP X pins Z Q) X.xe s
def qpc:TT:=λ_ H Q=>Q true H
section
variable{X:Cx}{pins:PP}{Z:St}{H:Hp}{s:Shared}{own:List Str}{fr:List Nat}{scope:Scope}
def qh0:PIf X [] qpc:=λ_ _ _ H _ I h=>wpAny_tests_nil ⟨H,I,h⟩
def qh1{c:Expr}{t:TT}(h:PT X c t):PIf X [c] t:=λpins s Z H Q I hw=>wpAny_tests_one (h pins s Z H Q I hw)
def ZE(J:It)(g:TG)(tc:TT)(te:TE)(fin:List V->Hp->Prop)(W:Nat->Nat->List V->St->Hp->Prop):Prop:=
 ∀i m ys Z' H',W i m ys Z' H'->(J.stop i H'/\fin ys H')\/
  (J.go i H'/\ys.length < sizeLine/\∃N:List V->St->Hp->Prop,(∀ys' Z2 H2,N ys' Z2 H2->∃m',m' < m/\W (i+1) m' ys' Z2 H2)/\
   ∀x H2,J.yld i H' x H2->g x Z' H2 λZ2 H3=>tc Z2 H3 λb H4=>if b=true then te Z2 H4 λy H5=>N (ys++[y]) Z2 H5 else N ys Z2 H4)
def qh2(own:List Str)(fr:List Nat)(wi:TI)(g:TG)(tc:TT)(te:TE):TE:=λZ H Q=>wi Z H λJ H1=>∃W:Nat->Nat->List V->St->Hp->Prop,(∃m,W 0 m [] (YO own fr Z) H1)/\ZE J g tc te (λys H'=>∀l,H' l=none->Q (.ref l) (upd H' l (.lst ys))) W
def qh3{N:List Str}{cl:List (Str×Addr)}{C l:Addr}{fp:List Addr}{s4:Shared}{H':Hp}{Z':St}{its:List Value}{k:Nat}{ys:List V}(I:Inv X pins Z H s)(hf:∀b∈fp,qca X pins H b)(hl:s.heap.objs.size<=l)
  (I4:Inv (blk X N scope cl C fp s H) [(l,qcR its k)] Z' H' s4) (rv:qF ys its) (hz:ys.length<=sizeLine):Inv X pins Z (upd H' l (.lst ys)) s4:=by
 have base:Un (frs X.stack) fp H H' s.heap s4.heap:=I4.base;have pin:=I4.pin (l,qcR its k) (List.mem_append_right _ List.mem_cons_self);have nl:∀b o,s.heap.get? b=some o->b≠l:=λb o e=>Nat.ne_of_lt (Nat.lt_of_lt_of_le (Heap.lt_size e) hl);have nh:∀b u,H' b=some u->b≠l:=λb u e=>qV e pin.2.1;refine I.call' (ch:=fp) I4.os ⟨base.keep,base.slot,λb o e n hx=>?_,base.there,λb xs e=>?_,λb o u e=>?_,λb ps e=>?_⟩ (λb u e=>?_) I4.bare (λb hb=>{(hf b hb).2.2.2.1,(hf b hb).2.1,(hf b hb).2.2.2.2.1,(hf b hb).2.2.2.2.2})
 ·rw[qe (nl b o e)];exact base.free b o e n hx
 ·have:=base.tups b xs e
  rw[qe (nh b _ this)];exact this
 ·have:=base.frzs b o u e
  rw[qe (nh b _ this)];exact this
 ·obtain⟨more,this⟩:=base.tbls b ps e;exact{more,by rw[qe (nh b _ this)];exact this}
 ·by_cases hb:b=l
  ·subst hb;rw[qf]at e;cases e;exact⟨hz,its,k,rv,pin.1⟩
  ·rw[qe hb]at e;exact(I4.hok b u e).stay (λc v _ q=>q) (λc q=>by rw[qe (nh c _ q)];exact q) λc xs q=>by rw[qe (nh c _ q)];exact q
def ZF{elt iter tg:Expr}{ifs:List Expr}{pos:Pos}{g:TG}{tc:TT}{te:TE}{it:Addr}{fp:List Addr}{tn:Nat->Heap->Prop}{J:It}{fin:List V->Hp->Prop}{W:Nat->Nat->List V->St->Hp->Prop}{m0:Nat}
  {RR:Value->Addr->Result->Shared->Prop} {E:PQ} (hc:X.calm=true) (B:BlkScope X own fr scope)
  (hg:∀cl C fp s2 H2,PG (blk X (Jq X own fr) scope cl C fp s2 H2) tg g) (ht:∀cl C fp s2 H2,PIf (blk X (Jq X own fr) scope cl C fp s2 H2) ifs tc) (he:∀cl C fp s2 H2,PE (blk X (Jq X own fr) scope cl C fp s2 H2) elt te)
  (I:Inv X pins Z H s) (T:Turn X.prog X.w X.K tg J fp it tn) (st0:tn 0 s.heap) (hf:∀b∈fp,qca X pins H b) (w0:W 0 m0 [] (YO own fr Z) H) (hW:ZE J g tc te fin W)
  (post:∀(l C:Addr) (s4:Shared) (ys:List V) (H':Hp) (m:PR),s.heap.objs.size<=C->H' C=none->H' l=none->l≠C->s4.heap.Ns C m->Inv X pins Z (upd H' l (.lst ys)) s4->fin ys H'->RR (.ref l) C (.ok .next) s4) :
  wpAny (model X.prog X.w) X.A (newList []) (λacc s₃=>wpAny (model X.prog X.w) X.A (newFunctionEnv scope X.env.globals (zr X.env scope.names []) [] X.env.qual none .none (some X.env)) (λcenv s₄=>codeAny (model X.prog X.w) X.A (.compStart (.ListComp elt [⟨tg,iter,ifs,0⟩] scope pos) 0 (.ref it) acc { cenv with scope:=relabel scope X.env }) (RR acc cenv.locals) s₄) E s₃) E s:=by
 have hfo:∀b∈fp,b < s.heap.objs.size:=λb hb=>by obtain⟨o,e,_⟩:=T.obj _ _ st0 b hb;exact Heap.lt_size e
 refine wpAny_newObj_type (wpAny_newFunctionEnv B.nocell (by intro y hy;simp at hy) (λh1 hns hsb=>?_) B.kind);dsimp only at hns hsb ⊢;generalize hH2:s.heap.push { cls:=.type "list",dict:=none,data:=.seq ([]:List Value).toArray }=h2 at hns hsb ⊢;have hC:h2.objs.size=s.heap.objs.size+1:=by rw[<-hH2,Heap.size_push]
 have hDC:s.heap.objs.size≠h2.objs.size:=by rw[hC];exact Nat.ne_of_lt (Nat.lt_succ_self _)
 have hCle:s.heap.objs.size<=h2.objs.size:=by rw[hC];exact Nat.le_succ _
 have old:∀b o,s.heap.get? b=some o->h1.get? b=some o:=λb o e=>hsb.extBut b o (by rw[hC];exact Nat.ne_of_lt (Nat.lt_succ_of_lt (Heap.lt_size e))) (Heap.get?_push_of_some _ (hH2▸Heap.get?_push_of_some _ e));have hacc:h1.get? s.heap.objs.size=some (qcR [] 0):=hsb.extBut _ _ hDC (Heap.get?_push_of_some _ (hH2▸Heap.get?_push_size _ rfl));have hns':h1.Ns h2.objs.size λ_=>none:=hns;have I0:=qdt (tk:=s.toks+([]:List (Str×Value)).length) B I hf hfo hCle (Nat.le_refl _) hDC old hns' hacc;have st1:tn 0 h1:=T.keep _ _ _ st0 λb hb o e=>old b o e
 have loop:codeAny (model X.prog X.w) X.A (.compLoop (.ListComp elt [⟨tg,iter,ifs,0⟩] scope pos) 0 (.ref it) (.ref s.heap.objs.size) (compEnvC scope (zr X.env scope.names []) h2.objs.size X.env))
   (RR (.ref s.heap.objs.size) h2.objs.size) { s with heap:=h1,toks:=s.toks+([]:List (Str×Value)).length }:=by
  generalize hl:s.heap.objs.size=l at *;generalize hCC:h2.objs.size=C at *
  have stat:∀{H':Hp} {o:Obj},(∀b∈fp,H' b=none)->∀b∈fp,qca (blk X (Jq X own fr) scope (zr X.env scope.names []) C fp s H) [(l,o)] H' b:=λ{H' o} hn b hb=>by
   refine{hn b hb,λe=>?_,λz=>?_,.inl hb,λx c e z=>?_,λp hp z=>?_}
   ·exact Nat.ne_of_lt (Nat.lt_of_lt_of_le (hfo b hb) hCle) e
   ·rcases List.mem_cons.mp (I.stkSub b z) with e|e
    ·exact(hf b hb).2.1 e
    ·exact(hf b hb).2.2.1 e
   ·exact(hf b hb).2.2.2.2.1 x c (yK (λz hz e=>I.ok.has _ (B.free z hz e)) x c e) z
   ·have hp:p∈[(l,o)]:=by simpa [blk] using hp
    cases List.mem_singleton.mp hp;exact Nat.ne_of_lt (hfo b hb) z.symm
  refine codeAny_loop rfl (λn s'=>∃i ys Z' H' its k,Inv (blk X (Jq X own fr) scope (zr X.env scope.names []) C fp s H) [(l,qcR its k)] Z' H' s'/\qF ys its/\ys.length<=sizeLine/\tn i s'.heap/\(∀b∈fp,H' b=none)/\W i n ys Z' H')
   (λn s3 hI=>?_) m0 ⟨0,[],YO own fr Z,H,[],0,I0,.nil,Nat.zero_le _,st1,λb hb=>(hf b hb).1,w0⟩
  show wpAny _ X.A ((compTurn (.ListComp elt [⟨tg,iter,ifs,0⟩] scope pos) 0 (.ref it) (.ref l) (compEnvC scope (zr X.env scope.names []) C X.env)).onRaise (λx=>do noteFrame x (compEnvC scope (zr X.env scope.names []) C X.env);theTreesLotGoes x)) _ _ s3;refine wpAny_noted ?_;rw[compTurn_list];obtain⟨i,ys,Z3,H3,its,k,I3,rv,hz,st3,fr3,w3⟩:=hI;refine wpAny_bind (wpAny_standAt (wpAny_bind ?_));rcases hW i n ys Z3 H3 w3 with ⟨stop,qn⟩|⟨go,hlt,N,hN,step⟩
  ·refine thn (T.done (blk X (Jq X own fr) scope (zr X.env scope.names []) C fp s H) rfl rfl rfl hc i _ s3 Z3 H3 _ I3 (stat fr3) st3 stop) λr s4 hq1=>?_;obtain⟨hr,I4⟩:=hq1;subst hr;obtain⟨m,hm,_⟩:=I4.loc;exact wpAny_pure (post l C s4 ys H3 m hCle I4.free (I4.pin (l,qcR its k) (List.mem_append_right _ List.mem_cons_self)).2.1 hDC hm (qh3 I hf (Nat.le_of_eq hl) I4 rv hz) qn)
  ·refine thn (T.item (blk X (Jq X own fr) scope (zr X.env scope.names []) C fp s H) rfl rfl rfl hc i _ s3 Z3 H3 _ I3 (stat fr3) st3 go) λr s4 hq1=>?_;obtain⟨u,hr,h4⟩:=hq1;subst hr;refine wpAny_bind (thn h4 λ_ s5 hq1=>?_);obtain⟨x,H5,I5,r5,y5,st5,fr5⟩:=hq1;have I5':=I5.pinned (stat fr5) (T.obj _ _ st5);refine wpAny_bind (wpAny_mono (hg _ _ _ _ _ _ s5 Z3 H5 x u _ I5' r5 (step x H5 y5)) (λ_ s6 ⟨Z6,H6,I6,q6⟩=>?_) λ_ _ z=>z.elim);refine wpAny_bind (wpAny_mono (ht _ _ _ _ _ _ s6 Z6 H6 _ I6 q6) (λb s7 ⟨H7,I7,q7⟩=>?_) λ_ _ z=>z.elim)
   have back:∀{Z8:St} {H8:Hp} {s8:Shared},Inv (blk X (Jq X own fr) scope (zr X.env scope.names []) C fp s H) ([(l,qcR its k)]++Zl fp s5.heap) Z8 H8 s8->(∀b∈fp,∀o,s5.heap.get? b=some o->s8.heap.get? b=some o)/\∀b∈fp,H8 b=none:=λI8=>by refine{λb hb o e=>(I8.pin (b,o) (List.mem_append_right _ (List.mem_append_right _ (yb hb e)))).1,λb hb=>?_};obtain⟨o,e,_⟩:=T.obj _ _ st5 b hb;exact(I8.pin (b,o) (List.mem_append_right _ (List.mem_append_right _ (yb hb e)))).2.1
   cases b with
   |false=>obtain⟨k1,k2⟩:=back I7;simp![Bool.false_eq_true,if_false]at q7 ⊢;obtain⟨m',hm',w7⟩:=hN _ _ _ q7;exact wpAny_pure ⟨rfl,m',hm',i+1,ys,Z6,H7,its,k,I7.unpinned,rv,hz,T.keep _ _ _ st5 k1,k2,w7⟩
   |true=>
    simp![if_true]at q7 ⊢;refine wpAny_bind (wpAny_bind (wpAny_mono (he _ _ _ _ _ _ s7 Z6 H7 _ I7 q7) (λw s8 ⟨y,H8,I8,r8,q8⟩=>?_) λ_ _ z=>z.elim));obtain⟨k1,k2⟩:=back I8;obtain⟨m',hm',w8⟩:=hN _ _ _ q8;have pin:=I8.pin (l,qcR its k) (List.mem_append_right _ (List.mem_append_left _ List.mem_cons_self));have hil:its.length=ys.length:=rv.length.symm;refine wpAny_bind (append_at pin.1 (λh9 hs9 hD9=>?_) (by rw[List.size_toArray,hil];exact hz));have new:h9.get? l=some (qcR (its++[w]) (k+1)):=by rw[hD9,List.push_toArray]
    have Ia:Inv (blk X (Jq X own fr) scope (zr X.env scope.names []) C fp s H) [] Z6 H8 s8:=I8.pins_of (λp hp=>nomatch hp)
    have Ib:Inv (blk X (Jq X own fr) scope (zr X.env scope.names []) C fp s H) [] Z6 H8 { s8 with heap:=h9 }:=Ia.turned (t':=s8.toks) (λb o hb e=>hs9.extBut b o hb e) pin.2.1 pin.2.2.1 (.inr (Nat.le_of_eq hl)) (λx c e z=>by
     obtain⟨v,o,ho,hd⟩:=I8.cell x c e;rw[z,pin.1]at ho;cases ho
     cases hd) (λp hp=>by
      have hp:p∈([]:PP):=by simpa [blk] using hp
      cases hp)
    have Ic:Inv (blk X (Jq X own fr) scope (zr X.env scope.names []) C fp s H) [(l,qcR (its++[w]) (k+1))] Z6 H8 { s8 with heap:=h9 }:=Ib.pins_of λp hp=>by cases List.mem_singleton.mp hp;exact{new,pin.2.1,pin.2.2.1,pin.2.2.2.1,λv e=>by cases e}
    refine wpAny_pure (wpAny_pure ⟨rfl,m',hm',i+1,ys++[y],Z6,H8,its++[w],k+1,Ic,rv.append %[r8|0],by rw[List.length_append];exact hlt,T.keep _ _ _ st5 λb hb o e=>?_,k2,w8⟩);exact hs9.extBut b o (Nat.ne_of_lt (hfo b hb)) (k1 b hb o e)
 exact codeAny_compStart_list loop (T.self _ 0 _ _ _ st1 loop)
def Inv.letgo{s2 s4:Shared}{H2 H4:Hp}{C:Addr}{h':Heap}(I2:Inv X pins Z H2 s2){Z4:St}(I4:Inv X pins Z4 H4 s4)(hC:s2.heap.objs.size<=C)(hn:H4 C=none)(hs:Heap.SameBut C s4.heap h'):Inv X pins Z4 H4 { s4 with heap:=h' }:=by obtain⟨f0,f1,_,f3,f4,f5⟩:=I2.fpOk hC hn;exact I4.turned (t':=s4.toks) (λb o hb e=>hs.extBut b o hb e) f0 f1 f3 f4 f5
def qh4{elt iter tg:Expr}{ifs:List Expr}{pos:Pos}{g:TG}{tc:TT}{te:TE}{wi:TI}(own:List Str)(fr:List Nat)(hc:X.calm=true)(B:BlkScope X own fr scope)(hi:PI X tg iter wi)
  (hg:∀cl C fp s2 H2,PG (blk X (Jq X own fr) scope cl C fp s2 H2) tg g) (ht:∀cl C fp s2 H2,PIf (blk X (Jq X own fr) scope cl C fp s2 H2) ifs tc) (he:∀cl C fp s2 H2,PE (blk X (Jq X own fr) scope cl C fp s2 H2) elt te)
  (hs:∀x,foldedSetIterable iter X.env x=pure x:=by intro _;rfl):PE X (.ListComp elt [⟨tg,iter,ifs,0⟩] scope pos) (qh2 own fr wi g tc te):=by
 intro pins s Z H Q I h;rw[eval_ListComp];refine wpAny_comprehension_free (use:=none) rfl hs (qgJ λz hz e=>I.ok.has _ (B.free z hz e)) B.kind B.names ?_;refine thn (hi pins s Z H _ I h) λv s1 h1=>thn h1 λitv s2 h2=>?_;obtain⟨it,fp,tn,J,H2,e,I2,T,st2,f2,W,⟨m0,w0⟩,hW⟩:=h2;subst e;refine ZF hc B hg ht he I2 T st2 f2 w0 hW λl C s4 ys H' m hC nC nl hlC hm I4 fin=>?_;exact{m,hm,λh' hs'=>{.ref l,_,I2.letgo I4 hC (by rw[qe (Ne.symm hlC)];exact nC) hs',rfl,fin l nl}}
def qh5{elt iter tg:Expr}{ifs:List Expr}{pos pos' cpos:Pos}{g:TG}{tc:TT}{te:TE}{wi:TI}{i:Nat}{x:Str}(own:List Str)(fr:List Nat)(hN:X.N.Nodup)(hxi:X.N[i]?=some x)(hx:X.env.scope.names.lookup x=some .local)(hc:X.calm=true)(B:BlkScope X own fr scope)(hi:PI X tg iter wi)
  (hg:∀cl C fp s2 H2,PG (blk X (Jq X own fr) scope cl C fp s2 H2) tg g) (ht:∀cl C fp s2 H2,PIf (blk X (Jq X own fr) scope cl C fp s2 H2) ifs tc) (he:∀cl C fp s2 H2,PE (blk X (Jq X own fr) scope cl C fp s2 H2) elt te)
  (hsw:swapsWith (.ListComp elt [⟨tg,iter,ifs,0⟩] scope cpos) (some (.Name x pos')) pos.line X.env=pure true:=by rfl)
  (hs:∀x,foldedSetIterable iter X.env x=pure x:=by intro _;rfl):PS X (.Assign [.Name x pos'] (.ListComp elt [⟨tg,iter,ifs,0⟩] scope cpos) pos) (qm8 (qh2 own fr wi g tc te) (qe4 i)):=by
 intro pins s Z H D I h;rw[exec_Assign_Name_used _ _ _ _ hsw];refine wpAny_bind (wpAny_standAt (wpAny_bind ?_));show wpAny _ X.A (do let _<-comprehension (.ListComp elt [⟨tg,iter,ifs,0⟩] scope cpos) scope X.env _ (newList []) false (eval iter X.env) (some (assign (.Name x pos') X.env))) _ _ s;refine wpAny_bind (wpAny_mono (wpAny_comprehension_free (use:=some (assign (.Name x pos') X.env)) (Q:=λ_ s'=>SP X pins D .next s') rfl hs (qgJ λz hz e=>I.ok.has _ (B.free z hz e)) B.kind B.names ?_) (λ_ s' hq=>wpAny_pure (wpAny_pure hq)) λ_ _ e=>e);refine thn (hi pins s Z H _ I h) λv s1 h1=>thn h1 λitv s2 h2=>?_;obtain⟨it,fp,tn,J,H2,e,I2,T,st2,f2,W,⟨m0,w0⟩,hW⟩:=h2;subst e;refine ZF (RR:=λacc C=>compPost (model X.prog X.w) X.A X.xe (some (assign (.Name x pos') X.env)) (λ_ s'=>SP X pins D .next s') acc C) hc B hg ht he I2 T st2 f2 w0 hW λl C s4 ys H' m hC nC nl hlC hm I4 fin=>?_;show wpAny _ X.A (assign (.Name x pos') X.env (.ref l)) _ _ s4;refine wpAny_assign_Name (yF I4 hN hxi (.inl hx) (v:=.ref l) rfl (λs5 I5 hsb=>?_) (.inr hx));obtain⟨a,sb,ha⟩:=hsb
 have hCa:C≠a:=by
  rcases ha with rfl|ha
  ·exact Nat.ne_of_gt (Nat.lt_of_lt_of_le I2.lt hC)
  ·obtain⟨v,q⟩:=I2.cell x a ha;exact Nat.ne_of_gt (Nat.lt_of_lt_of_le q.lt hC)
 exact{m,hm.sameBut sb hCa,λh' hs'=>{_,_,I2.letgo I5 hC (by rw[qe (Ne.symm hlC)];exact nC) hs',fin l nl}}
end
mutual
def DV(K:Frag)(H:Hp):PyData->V->Prop
 |.none,v=>v=.non
 |.bool b,v=>v=.bl b
 |.int i,v=>v=.int i
 |.str x,v=>v=.str x
 |.list ds,v=>∃a xs,v=.ref a/\SqL K H a xs/\DVs K H ds xs
 |.tuple ds,v=>∃a xs,v=.ref a/\SqT K H a xs/\DVs K H ds xs
 |.dict _,_=>False
def DVs(K:Frag)(H:Hp):List PyData->List V->Prop
 |[],xs=>xs=[]
 | d::ds,xs=>∃x r,xs=x::r/\DV K H d x/\DVs K H ds r
end
section
variable{X:Cx}{pins:PP}{Z:St}{H:Hp}{s:Shared}
mutual
theorem DV.reads(I:Inv X pins Z H s):∀{d:PyData} {v:V} {u:Value},DV X.K H d v->qI v u->∃as,Reads s.heap u d as
 |.none,v,u,h,r=>by
  have h:v=.non:=by simpa [DV] using h
  subst h;cases r;exact{_,Reads.none}
 |.bool b,v,u,h,r=>by
  have h:v=.bl b:=by simpa [DV] using h
  subst h;cases r;exact{_,Reads.bool b}
 |.int i,v,u,h,r=>by
  have h:v=.int i:=by simpa [DV] using h
  subst h;obtain⟨t,rfl⟩:=r;exact{_,Reads.int i t}
 |.str x,v,u,h,r=>by
  have h:v=.str x:=by simpa [DV] using h
  subst h;obtain⟨t,rfl⟩:=r;exact{_,Reads.str x t}
 |.list ds,v,u,h,r=>by
  have h:∃a xs,v=.ref a/\SqL X.K H a xs/\DVs X.K H ds xs:=by simpa [DV] using h
  obtain⟨a,xs,rfl,hq,hd⟩:=h;cases r;obtain⟨its,rv,pl,_⟩:=I.list hq;obtain⟨as,ra⟩:=DVs.reads I hd rv;obtain⟨o,ho,hc,n,hdd⟩:=pl.isList;exact{_,reads_list_at ho hc hdd (-ra:)}
 |.tuple ds,v,u,h,r=>by
  have h:∃a xs,v=.ref a/\SqT X.K H a xs/\DVs X.K H ds xs:=by simpa [DV] using h
  obtain⟨a,xs,rfl,hq,hd⟩:=h;cases r;obtain⟨its,rv,pl,_⟩:=I.tuple hq;obtain⟨as,ra⟩:=DVs.reads I hd rv;obtain⟨o,ho,hc,n,hdd⟩:=pl;exact{_,reads_tuple_at ho hc hdd (-ra:)}
 |.dict _,v,u,h,r=>by simp[DV]at h
theorem DVs.reads(I:Inv X pins Z H s):∀{ds:List PyData} {vs:List V} {us:List Value},DVs X.K H ds vs->qF vs us->∃as,ReadsAll s.heap us ds as
 |[],vs,us,h,r=>by
  have h:vs=[]:=by simpa [DVs] using h
  subst h;cases r;exact{_,ReadsAll.nil}
 | d::ds,vs,us,h,r=>by
  have h:∃x r,vs=x::r/\DV X.K H d x/\DVs X.K H ds r:=by simpa [DVs] using h
  obtain⟨x,rr,rfl,h1,h2⟩:=h
  cases r with
  |cons r1 r2=>obtain⟨as,ra⟩:=DV.reads I h1 r1;obtain⟨bs,rb⟩:=DVs.reads I h2 r2;exact{_,ReadsAll.cons ra rb}
end
def qpd(K:Frag):R2:=λx y H Q=>∃d e,DV K H d x/\DV K H e y/\SeqAt.shaped d=true/\SeqAt.shaped e=true/\Q (.bl (PyData.eqv d e)) H
def qpe(K:Frag):R2:=λx y H Q=>∃d e,DV K H d x/\DV K H e y/\SeqAt.shaped d=true/\SeqAt.shaped e=true/\Q (.bl (!PyData.eqv d e)) H
def qkn(hu:X.A.units+64 < cLine):OpR X (compareOp .Eq) (qpd X.K):=by intro pins s Z H x y v u Q I rx ry h;obtain⟨d,e,hd,he,sd,se,q⟩:=h;obtain⟨as,ra⟩:=DV.reads I hd rx;obtain⟨bs,rb⟩:=DV.reads I he ry;exact eq_dataH ra rb sd se hu ⟨.bl _,H,I,rfl,q⟩
def qko(hu:X.A.units+64 < cLine):OpR X (compareOp .NotEq) (qpe X.K):=by intro pins s Z H x y v u Q I rx ry h;obtain⟨d,e,hd,he,sd,se,q⟩:=h;obtain⟨as,ra⟩:=DV.reads I hd rx;obtain⟨bs,rb⟩:=DV.reads I he ry;exact ne_dataH ra rb sd se hu ⟨.bl _,H,I,rfl,q⟩
def qfm:zc X (.builtin "isinstance") (λvs H Q=>∃x n t b,vs=[x,.ty n]/\TyOf X.K H x t/\PySem.W.kitOne X.K t (.type n)=some b/\Q (.bl b) H):=by intro pins s Z H xs us Q I r h;obtain⟨x,n,t,b,rfl,ty,e,q⟩:=h;obtain⟨u,w,rfl,rx,rn⟩:=Qs r;cases rn;exact Zp I rx ty e λtk=>{.bl b,H,I.tok tk,rfl,q}
end
def JM(osc:Scope)(N:List Str)(fr:List Nat)(sc:Scope):Bool:=
 sc.kind == .function&&(sc.names.all λx=>x.2 != .cell&&(x.2 != .local||sc.names.lookup x.1 == some .local)&&(x.2 != .free||(osc.names.lookup x.1 == some .cell||osc.names.lookup x.1 == some .free)))&&fr.all λi=>sc.names.lookup (N.getD i "") == some .free
def qq.upd{H:Hp}{a:Addr}{o:HO}(h:H a=none):qq H (upd H a o):=λb u e=>by rw[qe (qV e h)];exact e
open PySem.W
structure NX(fs:List Addr)(e:Addr)(oT:Option Addr)(oe:Obj)(vs:Array Value)(T':Addr)(fl:Value)(h h':Heap):Prop where
 kept:∀b o,b∉fs->b≠e->oT≠some b->h.get? b=some o->h'.get? b=some o
 frame:∀b o,b∈fs->h.get? b=some o->∃sl,h'.get? b=some { o with slots:=sl }
 obj:∃o' vs',h'.get? e=some o'/\o'.cls=oe.cls/\o'.dict=oe.dict/\o'.data=.fields vs'/\vs'[0]?=vs[0]?/\vs'[1]?=some (.ref T')
 new:h.get? T'=none
 ne:T'≠e
 ent:∃ot ts,h'.get? T'=some ot/\ot.data=.fields ts/\ts[3]?=some fl
section
variable{M:Model}{A:Around}{E:PQ}{s:Shared}{base:Heap}{env:Env}{outer:List Env}{L e:Addr}{oe:Obj}{vs:Array Value}{Q:Unit->Shared->Prop}
def qh6(hl:s.heap.FunFrames base (env::outer))(he:s.heap.get? e=some oe)(hd:oe.data=.fields vs):e∉frs (env::outer):=λhm=>by obtain⟨_,o,ho,hnf⟩:=hl.mem hm;rw[he]at ho;cases ho;exact hnf vs hd
def YZ{head:Value}{hadNext:Bool}(hfr:A.frames=some (env::outer))(hl:s.heap.FunFrames base (env::outer))(hf:env.frame=some L)(he:s.heap.get? e=some oe)(hd:oe.data=.fields vs)(hsz:1 < vs.size)
  (k:∀h' T',NX (frs (env::outer)) e none oe vs T' (rawInt L) s.heap h'->Q () { s with heap:=h' }) :
  wpAny M A (do let fr<-frameOf env;let pl<-entryPlaceOf L hadNext;let en<-EntryCells.newEntry head fr .none (rawInt L) .none pl;setField (.ref e) 1 en) Q E s:=by
 have hne:=qh6 hl he hd;refine wpAny_bind (wpAny_frameOf_fun hfr hl hf λh1 so=>wpAny_bind (wpAny_entryPlaceOf λpl hpl=>wpAny_bind ?_));obtain⟨so1,so2,so3⟩:=so;have e1:h1.get? e=some oe:=(so2 e hne).trans he;simp![EntryCells.newEntry,newFields];refine wpAny_newObj_type ?_ (hpl.sizeOk5 _ _ _ _ _);generalize hob:(⟨.type "traceback",none,.fields ([head,.ref L,.none,rawInt L,.none]++(if pl.isEmpty then List.replicate 6 Value.none else pl)).toArray,#[]⟩:Obj)=tb;have hts:∃ts,tb.data=.fields ts/\ts[3]?=some (rawInt L):={_,by rw[<-hob],by simp};have e2:(h1.push tb).get? e=some oe:=Heap.get?_push_of_some _ e1;refine wpAny_setField e2 hd hsz (k _ h1.objs.size ?_);have hTe:h1.objs.size≠e:=Nat.ne_of_gt (Heap.lt_size e1)
 have up:∀b o,b≠e->h1.get? b=some o->((h1.push tb).update e (Obj.mapFields (·.setIfInBounds 1 (Value.ref h1.objs.size)))).get? b=some o:=λb o hb q=>by rw[Heap.get?_update_other _ _ (Ne.symm hb)];exact Heap.get?_push_of_some _ q
 have hdt:=Obj.data_mapFields hd (·.setIfInBounds 1 (Value.ref h1.objs.size));refine{λb o h1' h2' _ q=>up b o h2' ((so2 b h1').trans q),λb o hb q=>?_,?_,?_,hTe,?_}
 ·obtain⟨sl,z⟩:=so3 b o q;exact{sl,up b _ (λz=>hne (z▸hb)) z}
 ·refine{_,_,Heap.get?_update_self _ e2 (Obj.isFreed_of_fields hdt),Obj.cls_mapFields _ _,?_,hdt,?_,?_}
  ·obtain⟨c1,c2,c3,c4⟩:=oe;cases hd;rfl
  ·rw[Array.getElem?_setIfInBounds_ne (2:)]
  ·simp[hsz]
 ·cases q:s.heap.get? h1.objs.size with
  |none=>rfl
  |some o=>obtain⟨sl,z⟩:=so3 _ o q;exact absurd (Heap.lt_size z) (Nat.lt_irrefl _)
 ·obtain⟨ts,t1,t2⟩:=hts;refine{tb,ts,?_,t1,t2};rw[Heap.get?_update_other _ _ (Ne.symm hTe)];exact Heap.get?_push_size _ (by rw[<-hob];rfl)
def qh7(h:Heap)(e:Addr)(vs:Array Value):Option Addr->Prop
 |none=>vs[1]?=some .none
 |some T=>vs[1]?=some (.ref T)/\T≠e/\∃ot ts,h.get? T=some ot/\ot.data=.fields ts/\ts[3]?=some .none
theorem qgK{oT:Option Addr}(hfr:A.frames=some (env::outer))(hl:s.heap.FunFrames base (env::outer))(hf:env.frame=some L)(he:s.heap.get? e=some oe)(hd:oe.data=.fields vs)(hb:qh7 s.heap e vs oT)
  (k:∀h' T',NX (frs (env::outer)) e oT oe vs T' (rawInt L) s.heap h'->Q () { s with heap:=h' }):wpAny M A (noteFrame (.ref e) env) Q E s:=by
 simp![noteFrame,hf]
 cases oT with
 |none=>have hv:vs[1]?=some .none:=hb;have hsz:1 < vs.size:=(Array.getElem?_eq_some_iff.mp hv).1;refine wpAny_bind (wpAny_field he hd hv ?_);rw[if_neg (2:)];exact YZ hfr hl hf he hd hsz k
 |some T=>
  obtain⟨hv,hTe,ot,ts,hT,hdT,h3⟩:=hb;have hsz:1 < vs.size:=(Array.getElem?_eq_some_iff.mp hv).1;refine wpAny_bind (wpAny_field he hd hv ?_);rw[if_pos (show(Value.ref T != Value.none)=true by simp)];refine wpAny_bind (wpAny_field hT hdT h3 ?_);rw[if_neg (show ¬ ((Value.none == rawInt L)=true) by simp[rawInt])];refine wpAny_bind (wpAny_setField hT hdT (Array.getElem?_eq_some_iff.mp h3).1 ?_);have oth:∀{b:Addr},b≠T->(s.heap.update T (Obj.mapFields (·.setIfInBounds 3 Value.none))).get? b=s.heap.get? b:=λhb=>Heap.get?_update_other _ _ (Ne.symm hb)
  have nT:∀{b:Addr} {o:Obj},s.heap.get? b=some o->(∀vs,o.data≠.fields vs)->b≠T:=λ{b o} q hn z=>by rw[z,hT]at q;cases q;exact hn ts hdT
  have hl2:(s.heap.update T (Obj.mapFields (·.setIfInBounds 3 Value.none))).FunFrames base (env::outer):=hl.of_keeps λb o q hn=>{o,(oth (nT q hn)).trans q,rfl};refine YZ (s:={ s with heap:=s.heap.update T (Obj.mapFields (·.setIfInBounds 3 Value.none)) }) hfr hl2 hf ((oth (Ne.symm hTe)).trans he) hd hsz λh' T' nx=>k h' T' ?_;obtain⟨n1,n2,n3,n4,n5,n6⟩:=nx;refine{λb o h1 h2 h4 q=>n1 b o h1 h2 (5:) ((oth (λz=>h4 (by rw[z]))).trans q),λb o hb q=>n2 b o hb ((oth ?_).trans q),n3,?_,n5,n6}
  ·obtain⟨_,o',ho',hn⟩:=hl.mem hb;exact nT ho' hn
  ·cases q:s.heap.get? T' with
   |none=>rfl
   |some o=>
    by_cases z:T'=T
    ·subst z
     have:=Heap.get?_update_self (Obj.mapFields (·.setIfInBounds 3 Value.none)) hT (Obj.isFreed_of_fields (Obj.data_mapFields hdT _))
     rw[this]at n4;cases n4
    ·rw[oth z,q]at n4;cases n4
def Qx{fs:List Addr}{oT:Option Addr}{T':Addr}{fl:Value}{h:Heap}(nx:NX fs e oT oe vs T' fl h s.heap)(k:∀h',NX fs e oT oe vs T' .none h h'->Q () { s with heap:=h' }):wpAny M A (setFlight (.ref e) none) Q E s:=by
 obtain⟨n1,n2,⟨o',vs',o1,o2,o3,o4,o5,o6⟩,n4,n5,ot,ts,t1,t2,t3⟩:=nx;have h3:3 < ts.size:=(Array.getElem?_eq_some_iff.mp t3).1;unfold setFlight;refine wpAny_bind (wpAny_field o1 o4 o6 ?_);rw[if_pos (show(Value.ref T' != Value.none)=true by simp)];refine wpAny_setField t1 t2 h3 (k _ ?_);have oth:∀{b:Addr},b≠T'->(s.heap.update T' (Obj.mapFields (·.setIfInBounds 3 ((none:Option Addr).elim Value.none λf=>rawInt f)))).get? b=s.heap.get? b:=λhb=>Heap.get?_update_other _ _ (Ne.symm hb)
 have nT:∀{b:Addr} {o:Obj},h.get? b=some o->b≠T':=λ{b o} q z=>by rw[z,n4]at q;cases q
 have hdt:=Obj.data_mapFields t2 (·.setIfInBounds 3 ((none:Option Addr).elim Value.none λf=>rawInt f));refine{λb o h1 h2 h4 q=>(oth (nT q)).trans (n1 b o h1 h2 h4 q),λb o hb q=>?_,{o',vs',(oth (Ne.symm n5)).trans o1,o2,o3,o4,o5,o6},n4,n5,_,_,Heap.get?_update_self _ t1 (Obj.isFreed_of_fields hdt),hdt,by simp[h3]};obtain⟨sl,z⟩:=n2 b o hb q;exact{sl,(oth (nT q)).trans z}
def qh8{oT:Option Addr}(hfr:A.frames=some (env::outer))(hl:s.heap.FunFrames base (env::outer))(hf:env.frame=some L)(he:s.heap.get? e=some oe)(hd:oe.data=.fields vs)(hb:qh7 s.heap e vs oT)
  (k:∀h' T',NX (frs (env::outer)) e oT oe vs T' .none s.heap h'->Q () { s with heap:=h' }):wpAny M A (leaving env (.ref e)) Q E s:=by
 unfold leaving;exact wpAny_bind (qgK hfr hl hf he hd hb λh1 T' nx=>Qx (s:={ s with heap:=h1 }) nx λh2 nx2=>k h2 T' nx2)
end
def Fly(h:Heap)(x:Addr)(C:Addr)(od oT:Option Addr):Prop:=∃oe vs,h.get? x=some oe/\oe.cls=.ref C/\oe.dict=od/\oe.data=.fields vs/\qh7 h x vs oT
def CX1(P:Program)(w:World):CXT:=λouter H s E e s'=>∃x T C od H',e=.ref x/\s'.os=s.os/\AllBare s'.gens/\Un (frs outer) [] H H' s.heap s'.heap/\HOk P w H' s'.heap/\H' x=none/\H' T=none/\
 s.heap.get? x=none/\s.heap.get? T=none/\Fly s'.heap x C od (some T)/\E (.ref C) od H'
theorem qbm{P:Program}{w:World}{H:Hp}{h:Heap}{a:Addr}{o:HO}(x:qQ P w H h a o):∃ob,h.get? a=some ob:=by
 cases o with
 |lst xs=>obtain⟨z,its,n,r,e⟩:=x;exact{_,e}
 |tup xs=>obtain⟨z,its,r,ob,e,c⟩:=x;exact{_,e}
 |dK kvs=>obtain⟨z,y,vs,r,ob,es,ep,e,c⟩:=x;exact{_,e}
 |dT kvs=>obtain⟨z,y,xs,r,ob,es,ep,e,c⟩:=x;exact{_,e}
 |set S n=>obtain⟨ob,es,ep,t,e,c⟩:=x;exact{_,e}
 |ins C dx fs=>obtain⟨d,z,ne,e,_⟩:=x;exact{_,e}
 |own y=>obtain⟨ob,e⟩:=x;exact{_,e}
 |xd fs=>obtain⟨mA,⟨od,es,ep,e,c⟩,r⟩:=x;exact{_,e}
 |rng lo hi=>obtain⟨t,u,v,e⟩:=x;exact{_,e}
 |frz ob u=>obtain⟨e,q⟩:=x;exact{_,e}
 |tbl ps=>exact{_,x}
 |met f y=>exact{_,x}
 |ext φ=>obtain⟨p,⟨o,e⟩,st⟩:=x;exact{_,e}
section
variable{X:Cx}{pins:PP}{Z:St}{H:Hp}{s:Shared}
structure Mine(X:Cx)(pins:PP)(H:Hp)(x:Addr)(oT:Option Addr):Prop where
 hx:H x=none
 x0:X.s₀.heap.get? x=none
 hT:∀T,oT=some T->H T=none/\X.s₀.heap.get? T=none
 pin:∀p∈X.pn++pins,p.1≠x/\oT≠some p.1
variable{x T':Addr}{oT:Option Addr}{oe:Obj}{vs:Array Value}{h':Heap}
def ZG(I:Inv X pins Z H s)(hex:X.ex=[])(M:Mine X pins H x oT)(fx:∃o vs,s.heap.get? x=some o/\o.data=.fields vs)(fT:∀T,oT=some T->∃o vs,s.heap.get? T=some o/\o.data=.fields vs)(nx:NX (frs X.stack) x oT oe vs T' .none s.heap h') :
  Inv X pins Z H { s with heap:=h' }:=by
 obtain⟨k1,k2,_⟩:=nx;have nex:∀{b:Addr},b∉X.ex:=λ{b} hb=>by rw[hex]at hb;cases hb
 have s0x:∀{b:Addr} {o:Obj},X.s₀.heap.get? b=some o->b≠X.env.locals/\b≠x/\oT≠some b:=λ{b o} e=>{Nat.ne_of_lt (Nat.lt_of_lt_of_le (Heap.lt_size e) I.ok.above),(λz=>by rw[z,M.x0]at e;cases e),(λz=>by rw[(M.hT b z).2]at e;cases e)}
 have frm:∀{b:Addr},b∈frs X.stack->b=X.env.locals\/b∈X.fs:=λ{b} hb=>List.mem_cons.mp (I.stkSub b hb)
 have any:∀{b:Addr} {o:Obj},s.heap.get? b=some o->(∀vs,o.data≠.fields vs)->∃sl,h'.get? b=some { o with slots:=sl }:=λ{b o} e hn=>by
  by_cases hm:b∈frs X.stack
  ·exact k2 b o hm e
  ·refine{o.slots,k1 b o hm (λz=>?_) (λz=>?_) e}
   ·obtain⟨o',v',q,qd⟩:=fx;rw[z,q]at e;cases e;exact hn v' qd
   ·obtain⟨o',v',q,qd⟩:=fT b z;rw[q]at e;cases e;exact hn v' qd
 have cellK:∀{c:Addr} {v:Option Value},s.heap.IsCell c v->h'.IsCell c v:=λ{c v} ⟨o,ho,hd⟩=>by
  obtain⟨sl,e⟩:=any ho λvs z=>by rw[hd]at z;cases z
  exact{_,e,hd}
 refine{I.ok,I.os,I.bare,{λb o e n hb hx=>?_,λb o e n hb hx=>?_,I.base.free,λb o e hx=>?_,I.base.tups,I.base.frzs,I.base.tbls},?_,λy c e=>?_,I.free,I.freeC,λp hp=>?_,λa o e=>?_,I.len}
 ·obtain⟨z1,z2,z3⟩:=s0x e;refine k1 b o (λz=>?_) z2 z3 (I.base.keep b o e n hb hx);rcases frm z with z|z
  ·exact z1 z
  ·exact hb z
 ·obtain⟨sl,e1⟩:=I.base.slot b o e n hb hx;obtain⟨_,o',ho',hd⟩:=I.ok.funs.mem hb;rw[e]at ho';cases ho';obtain⟨sl',e2⟩:=any e1 hd;exact⟨sl',e2⟩
 ·obtain⟨o1,e1⟩:=I.base.there b o e hx;obtain⟨z1,z2,z3⟩:=s0x e
  by_cases hm:b∈frs X.stack
  ·obtain⟨sl,e2⟩:=k2 b _ hm e1;exact{_,e2}
  ·exact{_,k1 b _ hm z2 z3 e1}
 ·obtain⟨m,⟨o,es,ep,ho,hd,r⟩,hl⟩:=I.loc;obtain⟨sl,e2⟩:=any ho λvs z=>by rw[hd]at z;cases z
  refine{m,{_,es,ep,e2,hd,r},λi y v e1 e2 e3=>?_};obtain⟨u,r,l⟩:=hl i y v e1 e2 e3;refine{u,r,?_};rcases l with l|⟨k,c,e,z⟩
  ·exact .inl l
  ·exact .inr ⟨k,c,e,cellK z⟩
 ·obtain⟨v,z⟩:=I.cell y c e;exact{v,cellK z}
 ·obtain⟨e,n,ne,nf,d⟩:=I.pin p hp;refine{k1 _ _ (λz=>?_) (M.pin p hp).1 (M.pin p hp).2 e,n,ne,nf,d};rcases frm z with z|z
  ·exact ne z
  ·exact nf z
 ·have trk:∀{b:Addr} {u:HO},H b=some u->b∉frs X.stack/\b≠x/\oT≠some b:=λ{b u} e=>
   ⟨(λz=>by rw[I.stkFree b z]at e;cases e),(λz=>by rw[z,M.hx]at e;cases e),(λz=>by rw[(M.hT b z).1]at e;cases e)⟩
  refine(I.hok a o e).stay (λb u hb q=>?_) (λ_ q=>q) λ_ _ q=>q
  have:b∉frs X.stack/\b≠x/\oT≠some b:=by
   rcases hb with z|z
   ·rw[z];exact trk e
   ·exact trk z
  exact k1 _ _ this.1 this.2.1 this.2.2 q
def NX.fly{C:Addr}{od:Option Addr}{h:Heap}{fs:List Addr}(nx:NX fs x oT oe vs T' .none h h')(hc:oe.cls=.ref C)(hd:oe.dict=od):Fly h' x C od (some T'):=by obtain⟨_,_,⟨o',vs',o1,o2,o3,o4,o5,o6⟩,_,n5,ot,ts,t1,t2,t3⟩:=nx;exact{o',vs',o1,o2.trans hc,o3.trans hd,o4,o6,n5,ot,ts,t1,t2,t3}
def Fly.fields{C:Addr}{od:Option Addr}{h:Heap}(fl:Fly h x C od oT):(∃o vs,h.get? x=some o/\o.data=.fields vs)/\∀T,oT=some T->∃o vs,h.get? T=some o/\o.data=.fields vs:=by obtain⟨o,vs,e1,_,_,e4,b⟩:=fl;refine{⟨o,vs,e1,e4⟩,λT z=>?_};subst z;obtain⟨_,_,ot,ts,t1,t2,_⟩:=b;exact⟨ot,ts,t1,t2⟩
theorem Inv.newH{x:Addr}(I:Inv X pins Z H s)(h:s.heap.get? x=none):H x=none:=by
 cases e:H x with
 |none=>rfl
 |some u=>obtain⟨o,q⟩:=qbm (I.hok x u e);rw[h]at q;cases q
theorem Inv.new0{x:Addr}(I:Inv X pins Z H s)(hx:x∉X.ex)(h:s.heap.get? x=none):X.s₀.heap.get? x=none:=by
 cases e:X.s₀.heap.get? x with
 |none=>rfl
 |some o=>obtain⟨o',q⟩:=I.base.there x o e hx;rw[h]at q;cases q
def qbn{E:XK}{C:Addr}{od:Option Addr}(I:Inv X pins Z H s)(hst:X.stack=X.env::X.outer/\X.env.frame=some X.env.locals)(hex:X.ex=[])(M:Mine X pins H x oT)(fl:Fly s.heap x C od oT)(q:E (.ref C) od H){E':PQ} :
  wpAny (model X.prog X.w) X.A (leaving X.env (.ref x)) (λ_ s''=>CX1 X.prog X.w X.outer X.Hv X.s₀ E (.ref x) s'') E' s:=by
 obtain⟨fx,fT⟩:=fl.fields;obtain⟨oe,vs,e1,e2,e3,e4,b⟩:=fl;have hfr:X.A.frames=some (X.env::X.outer):=by rw[<-hst.1];exact I.ok.frames
 have hl:=I.stack;rw[hst.1]at hl;refine qh8 hfr hl hst.2 e1 e4 b λh' T' nx=>?_;have nx2:=nx;rw[<-hst.1]at nx2;have I2:=ZG I hex M fx fT nx2;have no:∀b:Addr,b∉X.ex:=λb z=>by rw[hex]at z;cases z
 exact{x,T',C,od,H,rfl,I2.os,I2.bare,by rw[<-hex];exact I2.base,I2.hok,M.hx,I.newH nx.new,M.x0,I.new0 (no T') nx.new,nx.fly e2 e3,q}
end
section
variable{P:Program}{w:World}{K:Frag}{mg:PR}{base:Heap}{N:List Str}{qual:Str}{scope:Scope}{f:Addr}{cd:Value}{A:Around}{outer:List Env}{s:Shared}{H:Hp}{E:XK}
def qdu{X:Cx}{pins:PP}{Z:St}{H1 H2:Hp}{s1:Shared}{x T:Addr}(I:Inv X pins Z H1 s1)(hex:X.ex=[])(hx:H2 x=none)(hT:H2 T=none)(nx:s1.heap.get? x=none)(nT:s1.heap.get? T=none):Mine X pins H2 x (some T):=by
 have no:∀b:Addr,b∉X.ex:=λb z=>by rw[hex]at z;cases z
 refine{hx,I.new0 (no x) nx,λT' z=>by cases z;exact{hT,I.new0 (no T) nT},λp hp=>?_};obtain⟨e,_⟩:=I.pin p hp;refine{λz=>?_,λz=>?_}
 ·rw[z,nx]at e;cases e
 ·cases z;rw[nT]at e;cases e
def qh9{E2:XK}(hE:∀c d h,E2 c d h->E c d h):zN (CX1 P w) (Zh (CX1 P w) P w K mg base N qual scope f cd A outer s H E) E2:=λpins Z H1 s1 e s2 I h=>by obtain⟨x,T,C,od,H2,rfl,hos,hb,un,hok,hx,hT,nx,nT,fl,q⟩:=h;have I2:Inv (Zh (CX1 P w) P w K mg base N qual scope f cd A outer s H E) pins Z H2 s2:=I.call' (ch:=[]) hos un hok hb λb z=>absurd z (5:);exact qbn I2 ⟨rfl,rfl⟩ rfl (qdu I rfl hx hT nx nT) fl (hE _ _ _ q)
def Fun.okx{x:Str}{st:Stmt}{fd:FuncData}{ps:List Str}{k:Nat}{sp:Sp}(F:Fun K x qual st f fd)(S:FnScope N ps (qh st))(len:∀vs H Q E,sp vs H Q E->vs.length=ps.length)
  (body:∀(cdv:Value) (A:Around) (outer:List Env) (s:Shared) (H:Hp) (vs:List V) (Q:VK) (E:XK),Room k (A.deeper (envOfC qual (qh st) s.heap.objs.size f cdv))->sp vs H Q E->
   ∃t,PSs (Zh (CX1 P w) P w K mg base N qual (qh st) f cdv A outer s H E) (qw st) t/\t { nx:=λ_ H'=>Q .non H',rt:=Q } (yu N vs) H):FnOk P w K mg base (CX1 P w) (k+1) f fd ps sp:=by
 obtain⟨oc,od,kV,doc,pm,an,cdv,ct,osl,rfl,lk,hcd⟩:=F.ex;exact qj7 lk hcd S len λA outer s H vs Q E hr hsp=>body cdv A outer s H vs Q E hr hsp
def FnOk.lift{fd:FuncData}{ps:List Str}{k:Nat}{sp:Sp}{CX:CXT}(F:FnOk P w K mg base CX0 k f fd ps sp):FnOk P w K mg base CX k f fd ps sp:=
 ⟨F.len,λA outer s H args us vs Q E hr he hb hv hs=>codeAny_mono (F.run A outer s H args us vs Q E hr he hb hv hs) λr s' h=>by
  cases r with
  |error e=>exact False.elim h
  |ok f=>cases f<;>exact h⟩
end
def qeW(x C:Addr)(od:Option Addr):HO:=.ext λh=>∃o,h.get? x=some o/\o.cls=.ref C/\o.dict=od/\notCls o=true
section
variable{X:Cx}{pins:PP}{Z:St}{H:Hp}{s:Shared}{x C:Addr}{od oT:Option Addr}
def qnr(I:Inv X pins Z H s)(fl:Fly s.heap x C od oT)(hx:H x=none)(x0:X.s₀.heap.get? x=none)(pin:∀p∈X.pn++pins,p.1≠x):Inv X pins Z (upd H x (qeW x C od)) s:=by
 obtain⟨oe,vs,ho,hc,hdi,hd,_⟩:=fl;have nn:∀{b:Addr},b≠x->upd H x (qeW x C od) b=H b:=λh=>qe h;have ntr:∀{b:Addr} {u:HO},H b=some u->b≠x:=λ{b u} e z=>by rw[z,hx]at e;cases e
 refine{I.ok,I.os,I.bare,{I.base.keep,I.base.slot,λb o e n hx=>?_,I.base.there,λb xs e=>?_,λb o u e=>?_,λb ps e=>?_},I.loc,I.cell,?_,λy c e=>?_,λp hp=>?_,λa o e=>?_,I.len}
 ·rw[nn (λz=>by rw[z,x0]at e;cases e)];exact I.base.free b o e n hx
 ·have:=I.base.tups b xs e
  rw[nn (ntr this)];exact this
 ·have:=I.base.frzs b o u e
  rw[nn (ntr this)];exact this
 ·obtain⟨more,this⟩:=I.base.tbls b ps e;rw[nn (ntr this)];exact⟨more,this⟩
 ·have:X.env.locals≠x:=λz=>by
   obtain⟨m,⟨o,es,ep,e1,e2,_⟩,_⟩:=I.loc;rw[z,ho]at e1;cases e1;rw[hd]at e2;cases e2
  rw[nn this];exact I.free
 ·have:c≠x:=λz=>by
   obtain⟨v,o,e1,e2⟩:=I.cell y c e;rw[z,ho]at e1;cases e1;rw[hd]at e2;cases e2
  rw[nn this];exact I.freeC y c e
 ·obtain⟨e,n,r⟩:=I.pin p hp;refine{e,?_,r};rw[nn (pin p hp)];exact n
 ·have st:∀{c:Addr} {v:HO},qQ X.prog X.w H s.heap c v->qQ X.prog X.w (upd H x (qeW x C od)) s.heap c v:=λz=>
   z.stay (λ_ _ _ q=>q) (λb q=>by rw[nn (ntr q)];exact q) (λb xs q=>by rw[nn (ntr q)];exact q)
  by_cases hb:a=x
  ·subst hb;rw[qf]at e;cases e;refine{{oe,ho,hc,hdi,?_},⟨oe,ho⟩,λh1 h2 ⟨o,e1,e2⟩ k=>{o,k o e1,e2}};unfold notCls;rw[hd]
  ·rw[nn hb]at e;exact st (I.hok a o e)
end
abbrev Cx.mark(X:Cx)(e:Value):Cx:={ X with A:=X.A.mark (some e),calm:=false,xe:=λ_ _=>False }
section
variable{X:Cx}{pins:PP}{Z:St}{H:Hp}{s:Shared}{e:Value}
def Inv.mark(I:Inv X pins Z H s):Inv (X.mark e) pins Z H s:=
 ⟨⟨I.ok.mod,I.ok.kind,I.ok.glob,I.ok.blt,I.ok.above,I.ok.inj,I.ok.has,I.ok.cab,(λz=>by cases z),I.ok.frames,I.ok.stk,I.ok.exf,I.ok.bs,I.ok.bsz,I.ok.noex,I.ok.exfs,I.ok.funs,I.ok.frf⟩,I.os,I.bare,I.base,I.loc,I.cell,I.free,I.freeC,I.pin,I.hok,I.len⟩
def Inv.unmark(ok:X.Ok)(I:Inv (X.mark e) pins Z H s):Inv X pins Z H s:=⟨ok,I.os,I.bare,I.base,I.loc,I.cell,I.free,I.freeC,I.pin,I.hok,I.len⟩
def yL{M:Model}{A:Around}{E:PQ}{i:Nat}{n:Str}{pos:Pos}{Q:Unit->Shared->Prop}(I:Inv X pins Z H s)(hN:X.N.Nodup)(hi:X.N[i]?=some n)(hl:X.env.scope.names.lookup n=some .local)
  (h:∀s',Inv X pins (Z.set i none) H s'->Q () s'):wpAny M A (do bindName X.env n .none;unbindBehindTheSuite X.env n pos) Q E s:=by
 refine wpAny_bind (wpAny_bindName (yF (v:=.non) I hN hi (.inl hl) rfl (λs1 I1 _=>?_) (.inr hl)));unfold unbindBehindTheSuite;refine wpAny_onRaise ?_;obtain⟨m,hn,hlk⟩:=id I1.loc;have hiσ:i < Z.length:=by rw[I.len];exact(List.getElem?_eq_some_iff.mp hi).1
 obtain⟨u,ru,hlook⟩:=hlk i n .non hi (by rw[List.getElem?_set_self hiσ]) (.inl hl);have hkl:X.env.kindOf n=some .local:=hl
 have hv:m n=some u:=by
  rcases hlook with ⟨_,z⟩|⟨z,_⟩
  ·exact z
  ·rcases z with z|z<;>(rw[hkl]at z;cases z)
 have hcls:(X.env.scope.kind == .class||(X.env.scope.kind == .module&&X.env.locals != X.env.globals))=false:=by rw[I.ok.kind];rfl
 refine wpAny_unbindName_local hkl hn hv hcls λh' u' hn' hs'=>?_;refine h _ ?_;have kp:∀{b:Addr} {o:Obj},b≠X.env.locals->s1.heap.get? b=some o->h'.get? b=some o:=λ{b o} hb e=>(hs'.2 b hb).trans e;have s0l:∀{b:Addr} {o:Obj},X.s₀.heap.get? b=some o->b≠X.env.locals:=λ{b o} e=>Nat.ne_of_lt (Nat.lt_of_lt_of_le (Heap.lt_size e) I.ok.above);have cK:∀{c:Addr} {v:Option Value} {y:Str},X.env.cells.lookup y=some c->s1.heap.IsCell c v->h'.IsCell c v:=λ{c v y} ey ⟨o,ho,hd⟩=>{o,kp (I1.cne y c ey) ho,hd};refine{I1.ok,I1.os,I1.bare,{λb o e n hb hx=>kp (s0l e) (I1.base.keep b o e n hb hx),λb o e n hb hx=>?_,I1.base.free,λb o e hx=>?_,I1.base.tups,I1.base.frzs,I1.base.tbls},{_,hn',λj y v e1 e2 e3=>?_},λy c e=>?_,I1.free,I1.freeC,λp hp=>?_,λa o e=>?_,?_}
 ·obtain⟨sl,e1⟩:=I1.base.slot b o e n hb hx;exact{sl,kp (s0l e) e1}
 ·obtain⟨o1,e1⟩:=I1.base.there b o e hx;exact{o1,kp (s0l e) e1}
 ·have hij:i≠j:=λz=>by
   subst z;rw[List.getElem?_set_self hiσ]at e2;cases e2
  have hyn:y≠n:=λz=>hij (Qq hN hi (z▸e1));obtain⟨u2,r2,l2⟩:=hlk j y v e1 (by rw[List.getElem?_set_ne hij]at e2 ⊢;exact e2) e3;refine{u2,r2,?_};rcases l2 with ⟨k,z⟩|⟨k,c,e,z⟩
  ·exact .inl ⟨k,by show(if y=n then u' else m y)=_;rw[if_neg hyn];exact z⟩
  ·exact .inr ⟨k,c,e,cK e z⟩
 ·obtain⟨v,z⟩:=I1.cell y c e;exact{v,cK e z}
 ·obtain⟨e,n,ne,r⟩:=I1.pin p hp;exact{kp ne e,n,ne,r}
 ·have tl:∀{b:Addr} {u:HO},H b=some u->b≠X.env.locals:=λ{b u} e z=>by rw[z,I1.free]at e;cases e
  refine(I1.hok a o e).stay (λb u hb q=>kp ?_ q) (λ_ q=>q) λ_ _ q=>q;rcases hb with z|z
  ·rw[z];exact tl e
  ·exact tl z
 ·rw[List.length_set];exact I.len
end
section
variable{X:Cx}{pins:PP}{Z:St}{H:Hp}{s:Shared}
structure Held(X:Cx)(pins:PP)(Z:St)(H:Hp)(s:Shared)(x T C:Addr)(od:Option Addr)(h:Heap):Prop where
 inv:Inv X pins Z H s
 mine:Mine X pins H x (some T)
 fld:(∃o vs,s.heap.get? x=some o/\o.data=.fields vs)/\∀T',some T=some T'->∃o vs,s.heap.get? T'=some o/\o.data=.fields vs
 nx:∃oe vs T',NX (frs X.stack) x (some T) oe vs T' .none s.heap h/\oe.cls=.ref C/\oe.dict=od
variable{x T C:Addr}{od:Option Addr}{h:Heap}
def Held.now(Hd:Held X pins Z H s x T C od h)(hex:X.ex=[]):Inv X pins Z H { s with heap:=h }:=by obtain⟨oe,vs,T',nx,_⟩:=Hd.nx;exact ZG Hd.inv hex Hd.mine Hd.fld.1 Hd.fld.2 nx
def Held.fly(Hd:Held X pins Z H s x T C od h):∃T',Fly h x C od (some T'):=by obtain⟨oe,vs,T',nx,e1,e2⟩:=Hd.nx;exact{T',nx.fly e1 e2}
def Held.ty{M:Model}(Hd:Held X pins Z H s x T C od h):Looks M h (typeOf (.ref x)) (.ref C):=by obtain⟨T',o,_,ho,hc,_⟩:=Hd.fly;rw[<-hc];exact(Looks.ld ho).andThen .now
def qkp(i:Nat)(D:Ends):Ends:={ nx:=λZ' H'=>D.nx (Z'.set i none) H',rt:=D.rt,bk:=λZ' H'=>D.bk (Z'.set i none) H',ct:=λZ' H'=>D.ct (Z'.set i none) H' }
variable{c n:Str}{Dc:Addr}{cp hpos:Pos}{b0:Stmt}{suite:List Stmt}{rest:List ExceptHandler}{i:Nat}{D:Ends}{E:PQ}
theorem qcl{th:TS}(Hd:Held X pins Z H s x T C od h)(hex:X.ex=[])(hg:Gl X c)(hm:X.mg c=some (.ref Dc))(hq:exmOne X.K (.ref C) (.ref Dc)=some true)
  (hN:X.N.Nodup) (hi:X.N[i]?=some n) (hl:X.env.scope.names.lookup n=some .local) (hsu:PSs (X.mark (.ref x)) (b0::suite) th) (q:th (qkp i D) (Z.set i (some (.ref x))) (upd H x (qeW x C od)))
  (hdb:(c == ("__debug__" : Str))=false) :
  wpAny (model X.prog X.w) X.A (handleBy (.ref x) X.env (.ExceptHandler (some (.Name c cp)) (some n) (b0::suite) hpos::rest)) (SP X pins D) E { s with heap:=h }:=by
 have I:=Hd.now hex;refine wpAny_handleBy_cons (codeAny_handlers_test ?_) (by intro z;cases z);refine zT (X:=X.mark (.ref x)) I.mark hg hm ?_ hdb;refine Looks.here (exm_one I.kIn Hd.ty hq) ?_;refine codeAny_handlers_suite_as ?_;obtain⟨oe,vs,T',nx,e1,e2⟩:=Hd.nx;refine Qx (s:={ s with heap:=h }) nx λh3 nx3=>?_;have Hd3:Held X pins Z H s x T C od h3:=⟨Hd.inv,Hd.mine,Hd.fld,oe,vs,T',nx3,e1,e2⟩;have I3:=Hd3.now hex;have I4:Inv X pins Z (upd H x (qeW x C od)) { s with heap:=h3 }:=qnr I3 (nx3.fly e1 e2) Hd.mine.hx Hd.mine.x0 λp hp=>(Hd.mine.pin p hp).1;refine yF (X:=X.mark (.ref x)) (v:=.ref x) I4.mark hN hi (.inl hl) rfl (λs5 I5 _=>?_) (.inr hl);refine wpAny_mono (hsu pins s5 _ _ (qkp i D) I5 q) (λf s6 z=>?_) (λ_ _ z=>False.elim z);have ok:=I.ok
 cases f with
 |next=>obtain⟨Z6,H6,I6,z⟩:=z;exact yL (I6.unmark ok) hN hi hl λs7 I7=>{_,H6,I7,z}
 |brk=>obtain⟨Z6,H6,I6,z⟩:=z;exact yL (I6.unmark ok) hN hi hl λs7 I7=>{_,H6,I7,z}
 |cont=>obtain⟨Z6,H6,I6,z⟩:=z;exact yL (I6.unmark ok) hN hi hl λs7 I7=>{_,H6,I7,z}
 |ret u=>obtain⟨v,Z6,H6,I6,r,z⟩:=z;exact yL (I6.unmark ok) hN hi hl λs7 I7=>{v,_,H6,I7,r,z}
def qaG{nm:Option Str}{body:List Stmt}(Hd:Held X pins Z H s x T C od h)(hex:X.ex=[])(hg:Gl X c)(hm:X.mg c=some (.ref Dc))(hq:exmOne X.K (.ref C) (.ref Dc)=some false)
  (k:wpAny (model X.prog X.w) X.A (handleBy (.ref x) X.env rest) (SP X pins D) E { s with heap:=h }) (hdb:(c == ("__debug__" : Str))=false) :
  wpAny (model X.prog X.w) X.A (handleBy (.ref x) X.env (.ExceptHandler (some (.Name c cp)) nm body hpos::rest)) (SP X pins D) E { s with heap:=h }:=by
 have I:=Hd.now hex;refine wpAny_handleBy_cons (codeAny_handlers_test ?_) (by intro z;cases z);refine zT (X:=X.mark (.ref x)) I.mark hg hm ?_ hdb;exact Looks.here (exm_one I.kIn Hd.ty hq) k
def qpf{H1:Hp}{s1 s':Shared}{EX:XK}{e:Value}{hs:List ExceptHandler}(hst:X.stack=X.env::X.outer/\X.env.frame=some X.env.locals)(hex:X.ex=[])(I:Inv X pins Z H1 s1)(cx:CX1 X.prog X.w X.stack H1 s1 EX e s')
  (k:∀(x T C:Addr) (od:Option Addr) (H2:Hp) (h:Heap),EX (.ref C) od H2->Held X pins Z H2 s' x T C od h->wpAny (model X.prog X.w) X.A (handleBy (.ref x) X.env hs) (SP X pins D) E { s' with heap:=h }) :
  wpAny (model X.prog X.w) X.A (noteFrame e X.env) (λ_ s2=>wpAny (model X.prog X.w) X.A (setFlight e none) (λ_ s3=>wpAny (model X.prog X.w) X.A (handleBy e X.env hs) (SP X pins D) E s3) E s2) E s':=by
 obtain⟨x,T,C,od,H2,rfl,hos,hb,un,hok,hx,hT,nx,nT,fl,q⟩:=cx;have I2:Inv X pins Z H2 s':=I.call' (ch:=[]) hos un hok hb λb z=>absurd z (5:);have M:Mine X pins H2 x (some T):=qdu I hex hx hT nx nT;have hfr:X.A.frames=some (X.env::X.outer):=by rw[<-hst.1];exact I.ok.frames
 have hl:=I2.stack;rw[hst.1]at hl;have ff:=fl.fields;obtain⟨oe,vs,e1,e2,e3,e4,b⟩:=fl;refine qgK hfr hl hst.2 e1 e4 b λh1 T' n1=>Qx (s:={ s' with heap:=h1 }) n1 λh2 n2=>?_;exact k x T C od H2 h2 q ⟨I2,M,ff,oe,vs,T',by rw[hst.1];exact n2,e2,e3⟩
end
section
variable{prog:Program}{w:World}{A:Around}{E:PQ}{s:Shared}{K:Frag}{x C:Addr}{ox:Obj}
def qdv{name:Str}{a g:Value}{od:Option Obj}(hc:(clsIn K C).isSome=true)(ha:findIn K (.ref C) name=some (some a))(hg:specialIn K a "__get__" = some (some g))(ht:takesIn K a=some true):findObj K C od name=some (.bind g a):=by obtain⟨cd,e⟩:=Option.isSome_iff_exists.mp hc;simp[findObj,e,ha,hg,ht]
structure ExcIs(K:Frag)(C:Addr):Prop where
 cls:(clsIn K C).isSome=true
 ga:findIn K (.ref C) "__getattribute__" = some (some (.builtin "BaseException.__getattribute__"))
 gh:findIn K (.ref C) "__getattr__" = some none
 at_:findIn K (.ref C) "__class__" = some (some (.builtin "object.__class__"))
 get:specialIn K (.builtin "object.__class__") "__get__" = some (some (.builtin "getset_descriptor.__get__"))
 tk:takesIn K (.builtin "object.__class__")=some true
 obj:mroIn K C (.type "object")=some true
 base:mroIn K C (.type "BaseException")=some true
def qdw{Q:Option Value->Shared->Prop}(Y:K.In s.heap){od:Option Obj}(I:W.InstAt s.heap x ox C od)(hC:ExcIs K C)
  (h:Q (some (.ref C)) { s with toks:=s.toks+1 }):wpAny (model prog w) A (getAttr? (.ref x) "__class__") Q E s:=by
 obtain⟨hh,g,d,t,os⟩:=s;have L0:=I.type (M:=model prog w);have L1:=looks_findIn (M:=model prog w) Y hC.ga;have L2:=looks_findIn (M:=model prog w) Y hC.gh;have L3:=looks_find (M:=model prog w) Y I (qdv hC.cls hC.at_ hC.get hC.tk);have L4:=looks_mroIn (M:=model prog w) Y hC.base;have hbind:∀self,bindSpecial (.builtin "BaseException.__getattribute__") self=pure (.builtin "BaseException.__getattribute__",[self]):=λself=>by rfl
 unfold getAttr? getAttrBy? getAttrBy;refine wpAny_bind (wpAny_mkText (wpAny_bind (wpAny_attempt (wpAny_holding (wpAny_bind (L0.at (wpAny_bind (L1.at ?_))))))));show wpAny _ _ (getAttrByItsOwn _ _ _ _ _ _) _ _ _;unfold getAttrByItsOwn;refine wpAny_bind ?_;show wpAny _ _ (typeLookup (.ref C) "__getattr__") _ _ _;refine L2.at (wpAny_bind (wpAny_attempt (wpAny_holding ?_)));show wpAny _ _ (boundAndCalled _ _ _) _ _ _;unfold boundAndCalled;refine wpAny_bind ?_;rw[hbind];refine wpAny_pure ?_;refine wpAny_call (codeAny_call_builtin (3:) F.entry_bexc_ga ?_);have hk:builtinKind "BaseException.__getattribute__" = some .slot:=(3:)
 have hsp:splitId "BaseException.__getattribute__" = some ("BaseException","__getattribute__"):=(3:)
 have LI:Looks (model prog w) hh (isInstance (.ref x) (.type "BaseException")) true:=L0.andThen L4;have hargs:=F.args_bexc_ga (.ref x) (.str "__class__" t);simp![checkBuiltinCall,hk,hsp];refine wpAny_bind ?_;refine LI.at ?_;rw[if_neg (2:)];refine wpAny_of_eq hargs ?_;unfold Builtin.«object.__getattribute__»;refine wpAny_bind (wpAny_pure ?_);refine wpAny_bind (wpAny_pure ?_);refine wpAny_bind (L0.at (wpAny_bind (L3.at ?_)));show wpAny _ _ (holding [Value.builtin "object.__class__"] (call (.builtin "getset_descriptor.__get__") [.builtin "object.__class__",.ref x,.ref C]) >>= ret) _ _ _;refine wpAny_bind (wpAny_holding (wpAny_call (class_get (s:={hh,g,d,t+1,os}) (ox:=ox) (od:=od) Y I hC.obj ?_)));exact wpAny_pure (handed_on rfl (wpAny_pure h))
def qdx(hC:ExcIs K C):KitX K (.ref x) (.ref C) (λh=>∃ox od,W.InstAt h x ox C od) where
 ty:=λ_ _ _ ⟨_,_,I⟩=>I.type
 it:=λM h Y _=>by
  obtain⟨cd,e⟩:=Option.isSome_iff_exists.mp hC.cls;unfold clsIn at e
  split at e
  ·rename_i ho;intro A' Q' E' s' k q;unfold isType loadHead;refine wpAny_bind (wpAny_loadPart (k _ _ (Y _ _ ho)) ?_);exact wpAny_pure q
  ·cases e
 ne:=λh tp dd its n sl Y htp=>by
  obtain⟨cd,e⟩:=Option.isSome_iff_exists.mp hC.cls;refine Bool.eq_false_iff.mpr λq=>?_;have z:C=tp:=Value.ref.inj (beq_iff_eq.mp q);subst z;unfold clsIn at e
  split at e
  ·rename_i ho;have z:=(Y _ _ ho).symm.trans htp;cases z
  ·cases e
 ca:=λY ⟨_,_,I⟩ k=>qdw Y I hC k
end
section
variable{X:Cx}
def qfn(H:Hp)(x C:Addr)(od:Option Addr):Prop:=H x=some (qeW x C od)/\∀dd,od=some dd->∃u,H dd=some u
theorem qfn.inst{pins:PP}{Z:St}{H:Hp}{s:Shared}{x C:Addr}{od:Option Addr}(I:Inv X pins Z H s)(h:qfn H x C od):∃ox oo,W.InstAt s.heap x ox C oo:=by
 obtain⟨o,e1,e2,e3,e4⟩:=(I.hok x _ h.1).1
 cases od with
 |none=>exact{o,none,e1,e2,e4,by rw[e3];trivial}
 |some dd=>obtain⟨u,hu⟩:=h.2 dd rfl;obtain⟨ob,hob⟩:=qbm (I.hok dd u hu);exact{o,some ob,e1,e2,e4,by rw[e3];exact hob}
def qdy:zc X (.builtin "isinstance") (λvs H Q=>∃x C od c cv b,vs=[.ref x,c]/\qfn H x C od/\ExcIs X.K C/\qI c cv/\(∀u,qI c u->u=cv)/\kitOne X.K (.ref C) cv=some b/\Q (.bl b) H):=by intro pins s Z H xs us Q I r h;obtain⟨x,C,od,c,cv,b,rfl,hx,hC,rc,uq,e,q⟩:=h;obtain⟨u,v,rfl,ru,rv⟩:=Qs r;cases ru;obtain rfl:v=cv:=uq v rv;exact kia_one (qdx hC) I.kIn (hx.inst I) e (λz=>nomatch z) λtk=>{.bl b,H,I.tok tk,rfl,q}
end
def Its(x:Str):It:={λi _=>i < x.cps.size,λi H v H'=>H'=H/\∃c,x.cps[i]?=some c/\v=.str {#[c]},λi _=>i=x.cps.size}
def qfo{P:Program}{w:World}{K:Frag}{tg:Expr}{x:Str}{t:Tok}{it:Addr}{T:String}(hT:T = "str_ascii_iterator"\/T = "str_iterator")(W:∀A':Around,A'.handled=none->Walks P w A' it [it] [it] x.cps.size (SignAt x) (λi h=>h.IsStrIter it T x t i)) :
  Turn P w K tg (Its x) [it] it (λi h=>h.IsStrIter it T x t i) where
 mem:=by simp
 obj:=λi h st b hb=>by
  have e:b=it:=(-hb:)
  subst e;obtain⟨o,e,c,d⟩:=st;exact{o,e,λv z=>by rw[d]at z;cases z}
 keep:=λi h h' st k=>let ⟨o,e,r⟩:=st;⟨o,k it (5:) o e,r⟩
 item:=by intro X hP hw hK hc i pins s Z H E I hf st hg;subst hP hw hK;obtain⟨f0,f1,f2,f3,f4,f5⟩:=hf it (5:);refine(W X.A (I.ok.hd hc)).item i s _ _ hg st λv h' tk hv st' kk=>?_;obtain⟨c,u,hcx,rfl⟩:=hv;have I1:Inv X pins Z H { s with heap:=h',toks:=tk }:=I.turned (λb o hb e=>kk b o (-hb:) e) f0 f1 f3 f4 f5;obtain⟨o,e1,e2,e3⟩:=id st';refine{_,rfl,qcY (s:={ s with heap:=h',toks:=tk }) e1 e2 e3 (by rcases hT with z|z<;>(rw[z];decide)) ⟨.str ⟨#[c]⟩,H,I1,⟨u,rfl⟩,⟨rfl,c,hcx,rfl⟩,st',λb hb=>(hf b hb).1⟩}
 done:=by intro X hP hw hK hc i pins s Z H E I hf st hg;subst hP hw hK;obtain rfl:i=x.cps.size:=hg;obtain⟨f0,f1,f2,f3,f4,f5⟩:=hf it (5:);exact(W X.A (I.ok.hd hc)).done s _ _ st λh' tk kk=>{rfl,I.turned (λb o hb e=>kk b o (-hb:) e) f0 f1 f3 f4 f5}
 self:=λA i s Q E st h=>by
  rcases hT with z|z
  ·subst z;exact wpAny_pyIter_striter_ascii st h
  ·subst z;exact wpAny_pyIter_striter_wide st h
structure ClsFn(K:Frag)(C:Addr)(m:Str)(f:Addr):Prop where
 reads:readsIn K C (.type "type")=true
 sp:specialIn K (.ref C) "__getattribute__" = some (some (.builtin "type.__getattribute__"))
 at_:findCls K (.ref C) (.type "type") m=some (.val (.ref f))
 kp:keepIn K (.ref f)=true
section
variable{X:Cx}{CX:CXT}{k:Nat}{f C:Addr}{fd:FuncData}{ps:List Str}{sp:Sp}{dvs:List V}{ds:List Value}{E:XK}{x m:Str}{p pos apos:Pos}{e:Expr}{es:List Expr}{t:TA}
def qbo{pl:Sem Bool}(hC:ClsFn X.K C m f)(F:FnOk X.prog X.w X.K X.mg X.base CX k f fd ps sp)(hr:Room k X.A)(hg:Gl X x)(hm:X.mg x=some (.ref C))(hb:qR X.K fd ps ds)(hd:qF dvs ds)(hx:zN CX X E)(ha:PA X (e::es) t)
  (hdb:(x == ("__debug__" : Str))=false:=by decide) (hst:starEach (e::es) X.env=(false,eval e X.env)::starEach es X.env:=by rfl) (hpl:(backTo pos (starEach es X.env)).any (·.1)=false:=by rfl)
  (ht:eval (.Call (.Attribute (.Name x p) m apos) (e::es) [] pos) X.env=(do
   let ov<-eval (.Name x p) X.env
   standAt apos.atName
   let (f,first)<-holding [ov] (getMethod ov m pl)
   callWith pos f first (backTo pos (starEach (e::es) X.env)) (backToKw pos (keywordEach [] X.env))):=by rfl) :
  PE X (.Call (.Attribute (.Name x p) m apos) (e::es) [] pos) (qfb sp dvs E t):=by
 intro pins s Z H Q I h;refine PySem.W.methodCall_KW (pl:=pl) (zT I hg hm ?_ hdb) ht;refine method_cls I.kIn hC.sp (cls_value I.kIn hC.reads hC.at_ rfl ?_);have I1:=I.tok (s.toks+1);refine PySem.W.callWith_K (first:=[]) (h₀:=X.base) I.ok.mod.kin hC.kp (thn (ha pos pins _ Z H _ I1 h) λus s2 z=>?_) hst hpl;obtain⟨vs,H2,I2,r,q⟩:=z;exact{I2.kIn,Zq F hr hb hd hx I2 r q}
end
def Itz(K:Frag)(a b:Addr):It:=
 ⟨λi H=>∃xs ys x y,SqL K H a xs/\SqL K H b ys/\xs[i]?=some x/\ys[i]?=some y,
  λi H v H'=>∃T x y,v=.ref T/\H T=none/\H'=upd H T (.tup [x,y])/\∀xs ys,SqL K H a xs->SqL K H b ys->xs[i]?=some x/\ys[i]?=some y,
  λi H=>∃xs ys,SqL K H a xs/\SqL K H b ys/\(xs.length<=i\/ys.length<=i)⟩
def ZSt(z TI TO i1 i2 a b:Addr)(i:Nat)(h:Heap):Prop:=IsZip h z TI TO .none/\IsPair h TI (.ref i1) (.ref i2)/\(∃u v,IsPair h TO u v)/\h.IsListIter i1 a i/\h.IsListIter i2 b i
def Inv.turnedAll{X:Cx}{pins:PP}{Z:St}{H:Hp}{s:Shared}{h':Heap}{t':Nat}{ch:List Addr}(I:Inv X pins Z H s)(k:∀b o,b∉ch->s.heap.get? b=some o->h'.get? b=some o)(hf:∀b∈ch,qca X pins H b):Inv X pins Z H { s with heap:=h',toks:=t' }:=by
 have nch:∀{b:Addr} {u:HO},H b=some u->b∉ch:=λ{b u} e z=>by rw[(hf b z).1]at e;cases e
 refine I.step (g':=s.gens) (d':=s.drawn) (ch:=ch) (λb hb=>?_) (λb o _ _ hc e _=>k b o hc e) (λb o _ _ hc e _=>{o.slots,k b o hc e}) (λ_ _ _ _ n=>n) (λb o hc e=>{o,k b o hc e}) (λ_ _ e=>e) (λ_ _ _ e=>e) (λb ps e=>{#[],by rw[e];simp}) (λm hm=>?_) (λb u e=>?_) I.bare
 ·obtain⟨f0,f1,f2,f3,f4,f5⟩:=hf b hb;exact⟨f3,f1,f4,f5⟩
 ·obtain⟨o,es,ep,ho,r⟩:=hm;exact{o,es,ep,k _ o (λz=>(hf _ z).2.1 rfl) ho,r}
 ·refine(I.hok b u e).stay (λc v hc q=>k c v ?_ q) (λ_ q=>q) λ_ _ q=>q;rcases hc with z|z
  ·rw[z];exact nch e
  ·exact nch z
def Inv.turnedNew{X:Cx}{pins:PP}{Z:St}{H:Hp}{s:Shared}{h':Heap}{t':Nat}{ch:List Addr}{T:Addr}{ob:HO}(I:Inv X pins Z H s)(k:∀b o,b∉ch->s.heap.get? b=some o->h'.get? b=some o)(hf:∀b∈ch,qca X pins H b)
  (hT:s.heap.get? T=none) (new:qQ X.prog X.w (upd H T ob) h' T ob):Inv X pins Z (upd H T ob) { s with heap:=h',toks:=t' }:=by
 have hH:H T=none:=I.newH hT;have nch:∀{b:Addr} {u:HO},H b=some u->b∉ch:=λ{b u} e z=>by rw[(hf b z).1]at e;cases e
 have nT:∀{b:Addr} {u:HO},H b=some u->b≠T:=λ{b u} e z=>by rw[z,hH]at e;cases e
 have up:∀{b:Addr} {u:HO},H b=some u->upd H T ob b=some u:=λ{b u} e=>by rw[qe (nT e)];exact e
 refine I.step (g':=s.gens) (d':=s.drawn) (ch:=ch) (λb hb=>?_) (λb o _ _ hc e _=>k b o hc e) (λb o _ _ hc e _=>{o.slots,k b o hc e}) (λb o _ e n=>?_) (λb o hc e=>{o,k b o hc e}) (λ_ _ e=>up e) (λ_ _ _ e=>up e) (λb ps e=>{#[],by rw[up e];simp}) (λm hm=>?_) (λb u e=>?_) I.bare
 ·obtain⟨f0,f1,f2,f3,f4,f5⟩:=hf b hb;exact⟨f3,f1,f4,f5⟩
 ·rw[qe (λz=>by rw[z,hT]at e;cases e)];exact n
 ·obtain⟨o,es,ep,ho,r⟩:=hm;exact{o,es,ep,k _ o (λz=>(hf _ z).2.1 rfl) ho,r}
 ·by_cases hb:b=T
  ·subst hb;rw[qf]at e;cases e;exact new
  ·rw[qe hb]at e;refine(I.hok b u e).stay (λc v hc q=>k c v ?_ q) (λ_ q=>up q) λ_ _ q=>up q;rcases hc with z|z
   ·rw[z];exact nch e
   ·exact nch z
def qfp{P:Program}{w:World}{K:Frag}{elts:List Expr}{kk:Nat}{pos:Pos}{z TI TO i1 i2 a b:Addr}(D:ZipApart z TI TO i1 i2 a b) :
  Turn P w K (.Tuple elts kk pos) (Itz K a b) [z,TI,TO,i1,i2] z (ZSt z TI TO i1 i2 a b) where
 mem:=by simp
 obj:=λi h st c hc=>by
  obtain⟨s1,s2,⟨u,v,s3⟩,⟨o4,s4,_,d4⟩,⟨o5,s5,_,d5⟩⟩:=st;simp at hc;rcases hc with rfl|rfl|rfl|rfl|rfl
  ·exact{_,s1,λv q=>by cases q}
  ·exact{_,s2,λv q=>by cases q}
  ·exact{_,s3,λv q=>by cases q}
  ·exact{_,s4,λv q=>by rw[d4]at q;cases q}
  ·exact{_,s5,λv q=>by rw[d5]at q;cases q}
 keep:=λi h h' st k=>by obtain⟨s1,s2,⟨u,v,s3⟩,s4,s5⟩:=st;exact{k z (5:) _ s1,k TI (5:) _ s2,{u,v,k TO (5:) _ s3},s4.at λo e=>k i1 (5:) o e,s5.at λo e=>k i2 (5:) o e}
 item:=by
  intro X hP hw hK hc i pins s Z H E I hf st hg;subst hP hw hK;obtain⟨xs,ys,x,y,qa,qb,hx,hy⟩:=hg;obtain⟨s1,s2,⟨u,v,s3⟩,s4,s5⟩:=st;obtain⟨ia,ra,pa,za⟩:=I.list qa;obtain⟨ib,rb,pb,zb⟩:=I.list qb;obtain⟨ux,ex,rx⟩:=ra.get hx;obtain⟨uy,ey,ry⟩:=rb.get hy;refine wpAny_pyNext_zip_item D s1 s2 s3 s4 s5 pa.isList pb.isList (x:=ux) (y:=uy) (-ex:) (-ey:) λh' a1 a2 a3 a4 a5 a6 kp=>?_;refine{_,rfl,wpAny_letOwnedTupleGo_zip (s:={ s with heap:=h' }) a1 λh2 b1 b2=>?_};have two:(2:Nat)<=sizeLine:=Nat.le_of_lt (Zz (2:))
  have kp2:∀c o,c∉[z,TI,TO,i1,i2]->s.heap.get? c=some o->h2.get? c=some o:=λc o hc e=>by simp at hc;exact b2.extBut c o hc.1 (kp c o hc.1 hc.2.2.1 hc.2.2.2.1 hc.2.2.2.2 e)
  have I1:Inv X pins Z H { s with heap:=h2 }:=I.turnedAll (t':=s.toks) kp2 hf
  have hnew:s.heap.get? s.heap.objs.size=none:=by
   cases q:s.heap.get? s.heap.objs.size with
   |none=>rfl
   |some o=>exact absurd (Heap.lt_size q) (Nat.lt_irrefl _)
  have hH:H s.heap.objs.size=none:=I.hok.fresh (Nat.le_refl _);have hTz:s.heap.objs.size≠z:=Nat.ne_of_gt (Heap.lt_size s1);have hT2:IsPair h2 s.heap.objs.size ux uy:=b2.extBut _ _ hTz a5;have hf2:=hf;have I2:Inv X pins Z (upd H s.heap.objs.size (.tup [x,y])) { s with heap:=h2 }:=I.turnedNew (t':=s.toks) kp2 hf hnew ⟨two,[ux,uy],.cons rx %[ry|0],_,hT2,rfl,0,rfl⟩;refine{.ref s.heap.objs.size,_,I2,rfl,{_,x,y,rfl,hH,rfl,λxs' ys' h1 h2=>?_},?_,λc hc=>?_}
  ·rw[I.list_inj h1 qa,I.list_inj h2 qb];exact⟨hx,hy⟩
  ·exact{b1,b2.extBut _ _ D.TIz (kp TI _ D.TIz D.TITO D.TIi1 D.TIi2 s2),{_,_,b2.extBut _ _ D.TOz a2},a3.extBut b2.extBut D.i1z,a4.extBut b2.extBut D.i2z}
  ·have hc0:=(hf c hc).1;rw[qe]
   ·exact hc0
   ·intro q
    have e:∃o,s.heap.get? c=some o:=by
     simp at hc;rcases hc with rfl|rfl|rfl|rfl|rfl
     ·exact{_,s1}
     ·exact{_,s2}
     ·exact{_,s3}
     ·obtain⟨o,e,_⟩:=s4;exact⟨o,e⟩
     ·obtain⟨o,e,_⟩:=s5;exact⟨o,e⟩
    obtain⟨o,e⟩:=e;rw[q,hnew]at e;cases e
 done:=by intro X hP hw hK hc i pins s Z H E I hf st hg;subst hP hw hK;obtain⟨xs,ys,qa,qb,hend⟩:=hg;obtain⟨s1,s2,⟨u,v,s3⟩,s4,s5⟩:=st;obtain⟨ia,ra,pa,za⟩:=I.list qa;obtain⟨ib,rb,pb,zb⟩:=I.list qb;have la:=ra.length;have lb:=rb.length;refine wpAny_pyNext_zip_end (I.ok.hd hc) D s1 s2 s3 s4 s5 pa.isList pb.isList (by simp;lia) λh' kp=>{rfl,I.turnedAll (t':=s.toks) (λc o hc e=>?_) hf};simp at hc;exact kp c o hc.1 hc.2.2.1 hc.2.2.2.1 hc.2.2.2.2 e
 self:=λA i s Q E st h=>wpAny_pyIter_zip st.1 h
def qpg(K:Frag)(ta:TA):TI:=λZ H R=>ta Z H λvs H1=>∃a b,vs=[.ref a,.ref b]/\(∃xs,SqL K H1 a xs)/\(∃ys,SqL K H1 b ys)/\R (Itz K a b) H1
section
variable{X:Cx}
def qkq{ea eb:Expr}{elts:List Expr}{kk:Nat}{tpos p pos:Pos}{ta:TA}(hg:Gl X "zip")(hm:X.mg "zip" = none)(ha:PA X [ea,eb] ta)(hs:starEach [ea,eb] X.env=[(false,eval ea X.env),(false,eval eb X.env)]:=by rfl)(hs2:starEach [eb] X.env=[(false,eval eb X.env)]:=by rfl) :
  PI X (.Tuple elts kk tpos) (.Call (.Name "zip" p) [ea,eb] [] pos) (qpg X.K ta):=by
 intro pins s Z H R I h;refine Call_ (Jo I hg hm boot_zip (PyProof.Rows.callWith_type1 (thn (ha pos pins s Z H _ I h) λus s1 z=>?_) (by rw[hs,hs2]) (by rw[hs2];rfl)));obtain⟨vs,H1,I1,r1,a,b,rfl,⟨xs,qa⟩,⟨ys,qb⟩,q⟩:=z;obtain⟨u,v,rfl,ru,rv⟩:=Qs r1;cases ru;cases rv;obtain⟨ia,ra,pa,za⟩:=I1.list qa;obtain⟨ib,rb,pb,zb⟩:=I1.list qb;have la:a < s1.heap.objs.size:=by obtain⟨_,e,_⟩:=pa.isList;exact Heap.lt_size e
 have lb:b < s1.heap.objs.size:=by obtain⟨_,e,_⟩:=pb.isList;exact Heap.lt_size e
 refine call_zip_2 pa.isList pb.isList λh' z1 z2 z3 z4 z5 z6 kp=>wpAny_pyIter_zip z1 ?_
 have D:ZipApart (s1.heap.objs.size+4) (s1.heap.objs.size+2) (s1.heap.objs.size+3) s1.heap.objs.size (s1.heap.objs.size+1) a b:=by constructor<;>(first|exact Nat.ne_of_lt (Nat.lt_of_lt_of_le la (Nat.le_add_right _ _))|exact Nat.ne_of_lt (Nat.lt_of_lt_of_le lb (Nat.le_add_right _ _))|exact Nat.ne_of_lt la|exact Nat.ne_of_lt lb|exact Nat.ne_of_lt (1:)|exact Nat.ne_of_gt (1:))
 refine{s1.heap.objs.size+4,[s1.heap.objs.size+4,s1.heap.objs.size+2,s1.heap.objs.size+3,s1.heap.objs.size,s1.heap.objs.size+1],_,_,H1,rfl,I1.kept (t':=s1.toks) kp,qfp D,{z1,z2,{_,_,z3},z4,z5},λc hc=>?_,q}
 have:s1.heap.objs.size<=c:=by
  simp at hc;rcases hc with rfl|rfl|rfl|rfl|rfl
  ·exact Nat.le_add_right _ _
  ·exact Nat.le_add_right _ _
  ·exact Nat.le_add_right _ _
  ·exact Nat.le_refl _
  ·exact Nat.le_add_right _ _
 exact I1.fpOk this (I1.hok.fresh this)
end
open PyProof
section
variable{X:Cx}
theorem qkr:SlR X (λx lo hi H Q=>∃z,x=.str z/\z.length<=sizeLine/\Q (.str (Txt.slice z lo hi)) H):=by
 intro pins s Z H x v vl vu lo hi sl Q I rx hs pl pu h;obtain⟨z,rfl,hz,q⟩:=h;obtain⟨t,rfl⟩:=rx;refine{"str",_,F.slot_str_getitem.lookup,typeIs_str _ _ _,?_};obtain⟨o,e1,e2,e3⟩:=hs
 cases pl with
 |none=>
  cases pu with
  |none=>exact wpAny_getItem_str_slice (l:=none) (u:=none) (st:=none) ⟨o,e1,e2,e3⟩ rfl (post_val_or_str ⟨Nat.le_trans (Txt.slice_le z _ _) hz,λt' k=>{.str _,H,I.tok k,⟨t',rfl⟩,q}⟩)
  |int j uj=>exact wpAny_getItem_str_slice (l:=none) (u:=some (j,uj)) (st:=none) ⟨o,e1,e2,e3⟩ rfl (post_val_or_str ⟨Nat.le_trans (Txt.slice_le z _ _) hz,λt' k=>{.str _,H,I.tok k,⟨t',rfl⟩,q}⟩)
 |int i ui=>
  cases pu with
  |none=>exact wpAny_getItem_str_slice (l:=some (i,ui)) (u:=none) (st:=none) ⟨o,e1,e2,e3⟩ rfl (post_val_or_str ⟨Nat.le_trans (Txt.slice_le z _ _) hz,λt' k=>{.str _,H,I.tok k,⟨t',rfl⟩,q}⟩)
  |int j uj=>exact wpAny_getItem_str_slice (l:=some (i,ui)) (u:=some (j,uj)) (st:=none) ⟨o,e1,e2,e3⟩ rfl (post_val_or_str ⟨Nat.le_trans (Txt.slice_le z _ _) hz,λt' k=>{.str _,H,I.tok k,⟨t',rfl⟩,q}⟩)
end
def Ite(K:Frag)(a:Addr):It:=
 ⟨λi H=>∃xs x,SqL K H a xs/\xs[i]?=some x,
  λi H v H'=>∃T x,v=.ref T/\H T=none/\H'=upd H T (.tup [.int i,x])/\∀xs,SqL K H a xs->xs[i]?=some x,
  λi H=>∃xs,SqL K H a xs/\xs.length<=i⟩
def ESt(e it a:Addr)(i:Nat)(h:Heap):Prop:=(∃old,IsEnum h e it ((i:Nat):Int) old)/\h.IsListIter it a i
def qdz{P:Program}{w:World}{K:Frag}{elts:List Expr}{kk:Nat}{pos:Pos}{e it a:Addr}(hne:e≠it) :
  Turn P w K (.Tuple elts kk pos) (Ite K a) [e,it] e (ESt e it a) where
 mem:=by simp
 obj:=λi h st c hc=>by
  obtain⟨⟨old,s1⟩,⟨o4,s4,_,d4⟩⟩:=st;simp at hc;rcases hc with rfl|rfl
  ·exact{_,s1,λv q=>by cases q}
  ·exact{_,s4,λv q=>by rw[d4]at q;cases q}
 keep:=λi h h' st k=>by obtain⟨⟨old,s1⟩,s4⟩:=st;exact{{old,k e (5:) _ s1},s4.at λo e=>k it (5:) o e}
 item:=by
  intro X hP hw hK hc i pins s Z H E I hf st hg;subst hP hw hK;obtain⟨xs,x,qa,hx⟩:=hg;obtain⟨⟨old,s1⟩,s4⟩:=st;obtain⟨ia,ra,pa,za⟩:=I.list qa;obtain⟨ux,ex,rx⟩:=ra.get hx;refine wpAny_pyNext_enum_item s1 s4 pa.isList (x:=ux) (-ex:) hne λh' a1 a2 a3 a4 kp=>?_;refine{_,rfl,wpAny_letOwnedTupleGo_enum (s:={ s with heap:=h',toks:=s.toks+1 }) a1 λh2 b1 b2=>?_};have two:(2:Nat)<=sizeLine:=Nat.le_of_lt (Zz (2:))
  have kp2:∀c o,c∉[e,it]->s.heap.get? c=some o->h2.get? c=some o:=λc o hc q=>by simp at hc;exact b2.extBut c o hc.1 (kp c o hc.1 hc.2 q)
  have hnew:s.heap.get? s.heap.objs.size=none:=by
   cases q:s.heap.get? s.heap.objs.size with
   |none=>rfl
   |some o=>exact absurd (Heap.lt_size q) (Nat.lt_irrefl _)
  have hH:H s.heap.objs.size=none:=I.hok.fresh (Nat.le_refl _);have hTe:s.heap.objs.size≠e:=Nat.ne_of_gt (Heap.lt_size s1);have hT2:IsPair h2 s.heap.objs.size (.int i s.toks) ux:=b2.extBut _ _ hTe a3;have I2:Inv X pins Z (upd H s.heap.objs.size (.tup [.int i,x])) { s with heap:=h2,toks:=s.toks+1 }:=I.turnedNew (t':=s.toks+1) kp2 hf hnew ⟨two,[.int i s.toks,ux],.cons ⟨_,rfl⟩ %[rx|0],_,hT2,rfl,0,rfl⟩;refine{.ref s.heap.objs.size,_,I2,rfl,{_,x,rfl,hH,rfl,λxs' h1=>?_},?_,λc hc=>?_}
  ·rw[I.list_inj h1 qa];exact hx
  ·have e1:((i+1:Nat):Int)=(i:Int)+1:=by lia
   refine{{ux,?_},a2.extBut b2.extBut (Ne.symm hne)};rw[e1];exact b1
  ·have hc0:=(hf c hc).1;rw[qe]
   ·exact hc0
   ·intro q
    have e:∃o,s.heap.get? c=some o:=by
     simp at hc;rcases hc with rfl|rfl
     ·exact{_,s1}
     ·obtain⟨o,e,_⟩:=s4;exact⟨o,e⟩
    obtain⟨o,e⟩:=e;rw[q,hnew]at e;cases e
 done:=by intro X hP hw hK hc i pins s Z H E I hf st hg;subst hP hw hK;obtain⟨xs,qa,hend⟩:=hg;obtain⟨⟨old,s1⟩,s4⟩:=st;obtain⟨ia,ra,pa,za⟩:=I.list qa;have la:=ra.length;refine wpAny_pyNext_enum_end (I.ok.hd hc) s1 s4 pa.isList (by simp;lia) λh' kp=>{rfl,I.turnedAll (t':=s.toks) (λc o hc e=>?_) hf};simp at hc;exact kp c o hc.2 e
 self:=λA i s Q E st h=>by obtain⟨⟨old,s1⟩,_⟩:=st;exact wpAny_pyIter_enum s1 h
def qns(K:Frag)(ta:TA):TI:=λZ H R=>ta Z H λvs H1=>∃a,vs=[.ref a]/\(∃xs,SqL K H1 a xs)/\R (Ite K a) H1
section
variable{X:Cx}
def qia{ea:Expr}{elts:List Expr}{kk:Nat}{tpos p pos:Pos}{ta:TA}(hg:Gl X "enumerate")(hm:X.mg "enumerate" = none)(ha:PA X [ea] ta)(hs:starEach [ea] X.env=[(false,eval ea X.env)]:=by rfl) :
  PI X (.Tuple elts kk tpos) (.Call (.Name "enumerate" p) [ea] [] pos) (qns X.K ta):=by
 intro pins s Z H R I h;refine Call_ (Jo I hg hm boot_enumerate (PyProof.Rows.callWith_type1 (thn (ha pos pins s Z H _ I h) λus s1 z=>?_) hs rfl));obtain⟨vs,H1,I1,r1,a,rfl,⟨xs,qa⟩,q⟩:=z;obtain⟨u,rfl,ru⟩:=Qr r1;cases ru;obtain⟨ia,ra,pa,za⟩:=I1.list qa;refine call_enumerate_list pa.isList λh' z1 z2 z3 kp=>wpAny_pyIter_enum z1 ?_;refine{s1.heap.objs.size+1,[s1.heap.objs.size+1,s1.heap.objs.size],_,_,H1,rfl,I1.kept (t':=s1.toks) kp,qdz (Nat.succ_ne_self _),{{_,z1},z2},λc hc=>?_,q}
 have:s1.heap.objs.size<=c:=by
  simp at hc;rcases hc with rfl|rfl
  ·exact Nat.le_add_right _ _
  ·exact Nat.le_refl _
 exact I1.fpOk this (I1.hok.fresh this)
end
def Itv(K:Frag)(a:Addr)(xs:List V):It:=
 ⟨λi H=>SqL K H a xs/\i < xs.length,λi H x H'=>H'=H/\xs[xs.length - 1 - i]?=some x,λi H=>SqL K H a xs/\xs.length=i⟩
def qfq{P:Program}{w:World}{K:Frag}{tg:Expr}(a it:Addr)(xs:List V):Turn P w K tg (Itv K a xs) [it] it (λi h=>h.IsRevIter it a ((xs.length:Int) - 1 - i)) where
 mem:=by simp
 obj:=λi h st b hb=>by
  have e:b=it:=(-hb:)
  subst e;obtain⟨o,e,c,d⟩:=st;exact{o,e,λv z=>by rw[d]at z;cases z}
 keep:=λi h h' st k=>st.at λo e=>k it (5:) o e
 item:=by
  intro X hP hw hK hc i pins s Z H E I hf st hg;subst hP hw hK;obtain⟨hq,hi⟩:=hg;obtain⟨its,rv,p,hz⟩:=I.list hq;have hx:xs[xs.length - 1 - i]?=some xs[xs.length - 1 - i]:=List.getElem?_eq_getElem (by omega);obtain⟨u,hu,ru⟩:=rv.get hx;obtain⟨f0,f1,f2,f3,f4,f5⟩:=hf it (5:);have e1:(xs.length:Int) - 1 - i=((xs.length - 1 - i:Nat):Int):=by omega
  rw[e1]at st;refine wpAny_pyNext_rev_item st p.isList (x:=u) (-hu:) λh' st' sb=>?_;have I1:Inv X pins Z H { s with heap:=h' }:=I.turned (t':=s.toks) (λb o hb e=>(sb.2 b hb).trans e) f0 f1 f3 f4 f5;have e2:((xs.length - 1 - i:Nat):Int) - 1=(xs.length:Int) - 1 - ((i+1:Nat):Int):=by omega
  rw[e2]at st';obtain⟨o,e,c,d⟩:=id st';exact{u,rfl,qcY (s:={ s with heap:=h' }) e c d (2:) ⟨_,H,I1,ru,⟨rfl,hx⟩,st',λb hb=>(hf b hb).1⟩}
 done:=by
  intro X hP hw hK hc i pins s Z H E I hf st hg;subst hP hw hK;obtain⟨hq,hi⟩:=hg;obtain⟨f0,f1,f2,f3,f4,f5⟩:=hf it (5:);have e1:(xs.length:Int) - 1 - i = -1:=by omega
  rw[e1]at st;exact wpAny_pyNext_rev_end (I.ok.hd hc) st λh' eb=>{rfl,I.turned (t':=s.toks) (λb o hb e=>eb b o hb e) f0 f1 f3 f4 f5}
 self:=λ_ _ _ _ _ st h=>wpAny_pyIter_revIter st h
def qph(K:Frag)(ta:TA):TI:=λZ H R=>ta Z H λvs H1=>∃a xs,vs=[.ref a]/\SqL K H1 a xs/\R (Itv K a xs) H1
section
variable{X:Cx}
def qks{ea tg:Expr}{p pos:Pos}{ta:TA}(hg:Gl X "reversed")(hm:X.mg "reversed" = none)(ha:PA X [ea] ta)(hs:starEach [ea] X.env=[(false,eval ea X.env)]:=by rfl) :
  PI X tg (.Call (.Name "reversed" p) [ea] [] pos) (qph X.K ta):=by
 intro pins s Z H R I h;refine Call_ (Jo I hg hm boot_reversed (PyProof.Rows.callWith_type1 (thn (ha pos pins s Z H _ I h) λus s1 z=>?_) hs rfl));obtain⟨vs,H1,I1,r1,a,xs,rfl,qa,q⟩:=z;obtain⟨u,rfl,ru⟩:=Qr r1;cases ru;obtain⟨ia,ra,pa,za⟩:=I1.list qa;have la:=ra.length;refine call_reversed_list pa.isList ?_;refine wpAny_pyIter_revIter ⟨_,Heap.get?_push_size _ rfl,rfl,rfl⟩ ?_;refine{s1.heap.objs.size,[s1.heap.objs.size],_,_,H1,rfl,I1.kept (t':=s1.toks) λb o e=>Heap.get?_push_of_some _ e,qfq a _ xs,{_,Heap.get?_push_size _ rfl,rfl,?_},λb hb=>?_,q}
 ·show Data.fields #[.ref a,rawInt ((ia.toArray.size:Int) - 1)]=_
  have:(ia.toArray.size:Int) - 1=(xs.length:Int) - 1 - ((0:Nat):Int):=by simp;omega
  rw[this]
 ·have e:b=s1.heap.objs.size:=(-hb:)
  subst e;exact I1.fpOk (Nat.le_refl _) (I1.hok.fresh (Nat.le_refl _))
end
def rsz(lo hi c:Int):Nat:=if lo < hi then ((hi - lo - 1) / c+1).toNat else 0
end L2
namespace TS
open PySem PyProof.Rows
section
variable{M:Model}{A:Around}{E:PQ}{s:Shared}{O:KeyOrd}{kf:Keyed->O.α}{U:SortKind}{G:Keyed->Prop}{a0:Array Keyed}
def Few(O:KeyOrd)(kf:Keyed->O.α)(a0:Array Keyed)(st:SortSt):Prop:=(arrOf st).Perm a0/\failedOf st=none/\pendingOf st=#[(0,a0.size,0)]/\Srt O kf (arrOf st) 0 a0.size
def qdA(L:qfk M A E s O kf U G)(h2:2<=a0.size)(h64:a0.size < 64)(h0:∀x∈a0.toList,G x){st:SortSt}{Q:Unit->SortSt->Prop}(hk:kindOf st=U)(hf:failedOf st=none)(ha:arrOf st=a0)(hp:pendingOf st=#[])
  (h:∀st',(arrOf st').Perm a0->failedOf st'=none->Srt O kf (arrOf st') 0 a0.size->Q () st'):wpS M A E s sortRuns' Q st:=by
 rw[sortRuns'_eq];refine wpS_bind (wpS_get ?_);dsimp only
 have hmr:minRun' a0.size a0.size 0=a0.size:=by
  obtain⟨f,hf⟩:∃f,a0.size=f+1:={a0.size - 1,by lia}
  have:minRun' (f+1) a0.size 0=a0.size:=by rw[minRun'_succ,if_pos h64];rfl
  rwa[<-hf]at this
 simp![ha,hmr];have done:∀st',kindOf st'=U->failedOf st'=none->pendingOf st'=#[]->(arrOf st').Perm a0->Srt O kf (arrOf st') 0 a0.size->Few O kf a0 (setPending st' ((pendingOf st').push (0,a0.size,0))):=λst' _ b c d e=>{d,b,by show(pendingOf st').push _=_;rw[c];rfl,e}
 refine wpS_bind (wpS_mono (wpS_forRange
  (I:=λx c st'=>(x=0/\c=(none,0)/\st'=st)\/(1<=x/\c=(none,a0.size)/\Few O kf a0 st'))
  (Q:=λc st'=>c=(none,a0.size)/\Few O kf a0 st') ?step ?fin (.inl ⟨rfl,rfl,rfl⟩)) ?post)
 case fin=>
  rintro c st' (⟨hx,_,_⟩|⟨_,hc,hD⟩)
  ·lia
  ·exact⟨hc,hD⟩
 case step=>
  rintro x c st' _ hx (⟨rfl,rfl,rfl⟩|⟨hx1,rfl,hD⟩)
  ·dsimp only;rw[if_neg (1:)];simp![Nat.sub_zero,Nat.min_self,Nat.zero_add];refine wpS_bind (qnp L hk (by rw[ha];exact h0) (by rw[ha];lia) (1:) λm xs r m1 m2 im=>?_);dsimp only;rw[ha]at r;rw[Nat.zero_add]at im
   by_cases hlt:m < a0.size
   ·rw[if_pos hlt];refine wpS_bind (wpS_lift (wpAny_rule ⟨rfl,?_⟩));refine wpS_bind (qkk L (st:=setArr st' xs) hk (r.mem h0) (by show 0+a0.size<=xs.size;rw[r.size];lia) (1:) (by rw[Nat.zero_add];exact im) λys r2 im2=>?_);simp![Bool.not_true,Bool.false_eq_true,if_false];refine wpS_bind (wpS_get ?_);have hb:(pendingOf (setArr (setArr st' xs) ys)).back?=none:=by rw[show pendingOf (setArr (setArr st' xs) ys)=pendingOf st' from rfl,hp];rfl
    rw[hb];dsimp only;rw[Nat.zero_add]at im2;exact wpS_bind (wpS_modify (wpS_pure (.inr ⟨by lia,rfl,done _ hk hf hp (r2.perm.trans r.perm) im2.srt⟩)))
   ·rw[if_neg hlt];have hm:m=a0.size:=by lia
    subst hm;refine wpS_bind (wpS_get ?_);have hb:(pendingOf (setArr st' xs)).back?=none:=by rw[show pendingOf (setArr st' xs)=pendingOf st' from rfl,hp];rfl
    rw[hb];dsimp only;exact wpS_bind (wpS_modify (wpS_pure (.inr ⟨by lia,rfl,done _ hk hf hp r.perm im.srt⟩)))
  ·dsimp only;rw[if_pos (Nat.le_refl _)];exact wpS_pure ⟨rfl,hD⟩
 case post=>
  rintro c st' ⟨rfl,hD⟩;dsimp only;refine wpS_bind (wpS_mono (wpS_forRange (I:=λ_ c st''=>st''=st'/\c=(none,())) (Q:=λc st''=>st''=st'/\c=(none,())) ?_ (λ_ _ hh=>hh) ⟨rfl,rfl⟩) ?_)
  ·rintro x c st'' _ _ ⟨rfl,rfl⟩;refine wpS_bind (wpS_get ?_);rw[if_pos (by rw[hD.2.2.1];exact Nat.le_refl 1)];exact wpS_pure ⟨rfl,rfl⟩
  ·rintro c st'' ⟨rfl,rfl⟩;exact wpS_pure (h _ hD.1 hD.2.1 hD.2.2.2)
end
section
variable{prog:Program}{w:World}{A:Around}{E:PQ}{s:Shared}{O:KeyOrd}{kf:Keyed->O.α}{U:SortKind}
def qdB{s0:Shared}{a:Addr}{vs:List Value}{n:Nat}{P:PySem.Fin->Shared->Prop}(S:Sorts prog w s0 vs O kf U)(ho:s.heap.get? a=some (seqObj "list" vs.toArray n))(hsz:vs.length<=sizeLine)(h64:vs.length < 64)
  (hg:∀b o,s0.heap.get? b=some o->s.heap.get? b=some o/\b≠a)
  (h:∀st':SortSt,(arrOf st').Perm (pairsOf vs)->Srt O kf (arrOf st') 0 (pairsOf vs).size->P (.done (.ret .none)) { s with heap:=sortedHeap s.heap a vs ((arrOf st').map (·.2)) }) :
  wpAny (model prog w) A (Builtin.«list.sort» ⟨[.ref a],[]⟩) P E s:=by
 rw[list_sort_plain];have ha:a < s.heap.objs.size:=Heap.lt_size ho;have hv:vs.toArray.size=vs.length:=by simp
 refine wpAny_bind (listItems_at ho rfl (wpAny_bind (listUpdate_at ho rfl ?_ (by rw[hv];exact hsz) (Nat.zero_le _))));obtain⟨n1,ho1⟩:∃n1,(s.heap.update a (Obj.mapSeq λ_=>#[])).get? a=some (seqObj "list" #[] n1):={_,get?_update_seq ho (λ_=>#[])};refine wpAny_bind (seqEpoch_at ho1 rfl (wpAny_bind (wpAny_newTuple ?_ (-hsz:))));refine wpAny_bind (wpAny_newList (wpAny_holding ?_) (Nat.zero_le _));generalize hh:(((s.heap.update a (Obj.mapSeq λ_=>#[])).push (seqObj "tuple" vs.toArray 0)).push (seqObj "list" #[] 0))=h6
 have ho6:h6.get? a=some (seqObj "list" #[] n1):=by rw[<-hh];exact Heap.get?_push_of_some _ (Heap.get?_push_of_some _ ho1)
 have grown:qdn s0 { s with heap:=h6 }:=λb o e=>by obtain⟨e1,ne⟩:=hg b o e;show h6.get? b=some o;rw[<-hh];exact Heap.get?_push_of_some _ (Heap.get?_push_of_some _ (by rw[Heap.get?_update_ne _ _ _ _ ne];exact e1))
 have fin:∀st':SortSt,(arrOf st').Perm (pairsOf vs)->Srt O kf (arrOf st') 0 (pairsOf vs).size->P (.done (.ret .none)) { s with heap:=h6.update a (Obj.mapSeq λ_=>(arrOf st').map (·.2)) }:=λst' a1 a2=>by
  have:=h st' a1 a2
  unfold sortedHeap at this;rw[hh]at this;exact this
 have small:∀st':SortSt,(arrOf st').Perm (pairsOf vs)->((arrOf st').map (·.2)).size<=sizeLine+1:=λst' hp=>by
  rw[Array.size_map,hp.size_eq,pairsOf_size]
  lia
 show wpAny (model prog w) A _ P E { s with heap:=h6 };dsimp only
 by_cases h2:vs.toArray.size < 2
 ·rw[if_pos h2,if_pos h2];refine wpAny_bind (wpAny_pure ?_);rw[StateT.run_pure];refine wpAny_bind (wpAny_pure ?_);dsimp only;refine wpAny_bind (seqEpoch_at ho6 rfl ?_);refine wpAny_bind (listUpdate_at ho6 rfl ?_ (Nat.zero_le _) (small (SortSt.mk' general' (vs.toArray.zip vs.toArray) #[] 7 none) (Array.Perm.refl _)));simp![bne_self_eq_false,Bool.false_eq_true,if_false];refine wpAny_pure (fin (SortSt.mk' general' (vs.toArray.zip vs.toArray) #[] 7 none) (Array.Perm.refl _) ?_);intro i j x y _ b c d e
  have:i=j:=by rw[pairsOf_size]at c;lia
  subst this;rw[d]at e;cases e;exact KeyOrd.kle_refl _
 ·rw[if_neg h2,if_neg h2];refine wpAny_bind (S.kind (1:) A E _ _ grown ?_)
  refine wpAny_bind (wpAny_mono (qdA (S.lt A E _ grown) (a0:=pairsOf vs) (by rw[pairsOf_size];lia) (by rw[pairsOf_size];exact h64) (st:=SortSt.mk' U (vs.toArray.zip vs.toArray) #[] 7 none) (λx hx=>hx) rfl rfl rfl rfl
   (Q:=λ_ st'=>(arrOf st').Perm (pairsOf vs)/\failedOf st'=none/\Srt O kf (arrOf st') 0 (pairsOf vs).size) λst' a1 a2 a3=>⟨a1,a2,a3⟩) ?_ λ_ _ e=>e)
  rintro⟨⟨⟩,st'⟩ s' ⟨rfl,hp,hf,hs⟩;dsimp only;refine wpAny_bind (seqEpoch_at ho6 rfl (wpAny_bind (listUpdate_at ho6 rfl ?_ (Nat.zero_le _) (small st' hp))));rw[hf];simp![bne_self_eq_false,Bool.false_eq_true,if_false];exact wpAny_pure (fin st' hp hs)
def ZH{l:Addr}{vs:List Value}{Q:PQ}(S:Sorts prog w s vs O kf U)(hl:s.heap.IsList l vs.toArray)(hsz:vs.length<=sizeLine)(h64:vs.length < 64)
  (h:∀st':SortSt,(arrOf st').Perm (pairsOf vs)->Srt O kf (arrOf st') 0 (pairsOf vs).size->Q (.ref (s.heap.objs.size+1)) { s with heap:=sortedAll s.heap vs ((arrOf st').map (·.2)) }) :
  wpAny (model prog w) A (call (.builtin "sorted") [.ref l]) Q E s:=by
 refine Calls.call_function_entry kind_sorted plain_sorted entry_sorted (args_sorted1 _) ?_;unfold Builtin.«sorted»;refine wpAny_bind (m:=checkCount "sorted" 1 1 _) (wpAny_pure (wpAny_bind (collect_list hl ?_ hsz)));refine wpAny_bind (wpAny_newList ?_ hsz);have hz:((s.heap.push (seqObj "list" #[] 0)).update s.heap.objs.size (Obj.mapSeq (· ++ vs.toArray))).objs.size=s.heap.objs.size+1:=by rw[Heap.size_update,size_push']
 show wpAny _ _ _ _ _ { s with heap:=((s.heap.push (seqObj "list" #[] 0)).update s.heap.objs.size (Obj.mapSeq (· ++ vs.toArray))).push (seqObj "list" vs.toArray 0) };rw[hz];generalize hh:((s.heap.push (seqObj "list" #[] 0)).update s.heap.objs.size (Obj.mapSeq (· ++ vs.toArray))).push (seqObj "list" vs.toArray 0)=h6
 have hoL:h6.get? (s.heap.objs.size+1)=some (seqObj "list" vs.toArray 0):=by rw[<-hh,<-hz];exact Heap.get?_push_size _ rfl
 have old:∀b o,s.heap.get? b=some o->h6.get? b=some o/\b≠s.heap.objs.size+1:=λb o e=>by have hlt:b < s.heap.objs.size:=Heap.lt_size e;refine{?_,Nat.ne_of_lt (Nat.lt_succ_of_lt hlt)};rw[<-hh];refine Heap.get?_push_of_some _ ?_;rw[Heap.get?_update_ne _ _ _ _ (Nat.ne_of_lt hlt)];exact Heap.get?_push_of_some _ e
 have hr:∀st':SortSt,(arrOf st').Perm (pairsOf vs)->Srt O kf (arrOf st') 0 (pairsOf vs).size->Q (.ref (s.heap.objs.size+1)) { s with heap:=sortedHeap h6 (s.heap.objs.size+1) vs ((arrOf st').map (·.2)) }:=λst' a1 a2=>by
  have:=h st' a1 a2
  unfold sortedAll at this;rw[hh]at this;exact this
 refine wpAny_bind (wpAny_holding (wpAny_call_entry slot_list_sort ⟨_,hoL,rfl⟩ entry_list_sort (qdB S hoL hsz h64 old λst' a1 a2=>{_,rfl,?_}) (args_list_sort _)));exact wpAny_pure ⟨_,rfl,hr st' a1 a2⟩
end
end TS
namespace L2
open PySem PySem.Spec PyProof.Rows
section
variable{X:Cx}
def Qy:zc X (.builtin "sorted") (λvs H Q=>∃p xs ps,vs=[.ref p]/\SqL X.K H p xs/\xs.length < 64/\Paired (P2 X.K H) xs ps/\
  ∀l ys qs,H l=none->Paired (P2 X.K H) ys qs->ys.Perm xs->qs.Perm ps->qs.Pairwise qdq->Q (.ref l) (upd H l (.lst ys))):=by
 intro pins s Z H xs us Q I r h;obtain⟨p,xs,ps,rfl,hq,h64,hp,q⟩:=h;obtain⟨u,rfl,rx⟩:=Qr r;cases rx;obtain⟨its,rv,pl,hz⟩:=I.list hq;have hlen:=rv.length
 have three:∀{xs:List V} {its:List Value} {ps:List (Int×Int)},qF xs its->Paired (P2 X.K H) xs ps->Paired (λ(z:V×(Int×Int)) u=>qI z.1 u/\P2 X.K H z.1 z.2/\TS.qbl s.heap u z.2) (xs.zip ps) its/\Paired (TS.qbl s.heap) its ps/\xs.length=ps.length:=by
  intro xs its ps a b
  induction a generalizing ps with
  |nil=>cases b;exact{.nil,.nil,rfl}
  |cons r rs ih=>
   cases b with
   |cons b bs=>obtain⟨i1,i2,i3⟩:=ih bs;have t:=P2.raw I b r;exact{.cons ⟨r,b,t⟩ i1,.cons t i2,by simp[i3]}
 obtain⟨t1,t2,t3⟩:=three rv hp;refine TS.ZH (TS.qdp t2) pl.isList (1:) (1:) λst' pm sr=>?_
 have hl:(arrOf st').toList.Perm (its.zip its):=by
  have:=Array.perm_iff_toList_perm.mp pm
  rwa[pairsOf_toList]at this
 have hout:((arrOf st').map (·.2)).toList.Perm its:=by
  rw[Array.toList_map]
  have:=hl.map (·.2)
  rwa[List.map_snd_zip (Nat.le_refl _)]at this
 obtain⟨zs,z1,z2⟩:=TS.Paired.perm hout t1
 have hys:(zs.map (·.1)).Perm xs:=by
  have:=z1.map (·.1)
  rwa[List.map_fst_zip (1:)]at this
 have hqs:(zs.map (·.2)).Perm ps:=by
  have:=z1.map (·.2)
  rwa[List.map_snd_zip (1:)]at this
 have hv:qF (zs.map (·.1)) ((arrOf st').map (·.2)).toList:=by
  clear z1 hys hqs;generalize ((arrOf st').map (·.2)).toList=ol at z2
  induction z2 with
  |nil=>exact .nil
  |cons r _ ih=>exact .cons r.1 ih
 have hP:Paired (P2 X.K H) (zs.map (·.1)) (zs.map (·.2)):=by
  clear z1 hys hqs hv;generalize ((arrOf st').map (·.2)).toList=ol at z2
  induction z2 with
  |nil=>exact .nil
  |cons r _ ih=>exact .cons r.2.1 ih
 have hkeys:((arrOf st').map (·.2)).toList.map (TS.ye s.heap)=zs.map (·.2):=by
  clear z1 hys hqs hv hP;generalize ((arrOf st').map (·.2)).toList=ol at z2
  induction z2 with
  |nil=>rfl
  |cons r _ ih=>rw[List.map_cons,List.map_cons,ih,r.2.2.pair]
 have hsrt:(zs.map (·.2)).Pairwise qdq:=by
  rw[<-hkeys,Array.toList_map,List.map_map];have h0:(arrOf st').size=(pairsOf its).size:=pm.size_eq;rw[<-h0]at sr
  have:=sr.pw
  refine List.pairwise_map.mpr ?_;refine List.Pairwise.imp_of_mem (λ{a b} ha hb hab=>?_) this;have ea:=(mem_zip_self (hl.mem_iff.mp ha)).1;have eb:=(mem_zip_self (hl.mem_iff.mp hb)).1;have hab:TS.pO.blt (TS.ye s.heap b.1) (TS.ye s.heap a.1)=false:=hab;rw[ea,eb]at hab;unfold TS.pO at hab;simp at hab;show qdq (TS.ye s.heap a.2) (TS.ye s.heap b.2);unfold qdq
  lia
 obtain⟨e,he⟩:=sortedAll_at s.heap its ((arrOf st').map (·.2));have hz2:(zs.map (·.1)).length<=sizeLine:=by rw[hys.length_eq];exact hz
 refine{.ref (s.heap.objs.size+1),_,I.laid (t':=s.toks) (λb o eb=>sortedAll_old eb) (Nat.le_succ _) (show qQ X.prog X.w _ _ _ (.lst (zs.map (·.1))) from{hz2,_,e,hv,?_}),rfl,q _ _ _ (I.hok.fresh (Nat.le_succ _)) hP hys hqs hsrt};rw[Array.toArray_toList];exact he
end
open PySem.W
def qpi:Data->Option ClassData
 |.cls cd=>some cd
 |_=>none
def Y0(K:Frag)(C fI:Addr)(bmB:List Value)(newId:String):Bool:=(K.lookup C).elim false λo=>(qpi o.data).elim false λcd=>o.cls == .type "type" && cd.mro.head? == some (.ref C)&&o.slots.size == 6&&o.slots[4]? == some (some (.builtin newId))&&!cd.hasDel&&tailIn K bmB cd.mro.tail&&nsOkIn K cd.ns&&nsIn K cd.ns "__init__" == some (some (.ref fI))
def qcm{K:Frag}{h:Heap}{N:Addr}{mg:PR}{n:Str}{v:Value}(X:K.In h)(G:h.Ns N mg)(e:nsIn K N n=some (some v)):mg n=some v:=by
 obtain⟨o,es,ep,ho,hd,_,hf⟩:=G;unfold nsIn at e
 split at e
 ·rename_i c d es' n' sl q
  have:=X _ _ q
  rw[ho]at this;cases this;cases hd
  split at e
  ·rename_i en he;cases e;rw[<-hf];unfold nsFind findBy;rw[<-Array.find?_toList,he];rfl
  ·split at e<;>cases e
 ·cases e
theorem qbp{K:Frag}{h:Heap}{C fI:Addr}{bB:List Value}{nid:String}(Y:K.In h)(ok:Y0 K C fI bB nid=true) :
  ∃bm N nm qn bs hd sn sub ab col dd k0 k1 k2 k3 k5 mN,h.get? C=some (excClassObj nm qn C N bs bm hd sn sub ab col dd k0 k1 k2 k3 k5 nid)/\h.Ns N mN/\mN "__init__" = some (.ref fI)/\OwnTail h bB bm:=by
 unfold Y0 at ok
 cases hlk:K.lookup C with
 |none=>rw[hlk]at ok;cases ok
 |some o=>
  rw[hlk]at ok;obtain⟨oc,od,oda,⟨sl⟩⟩:=o
  cases oda with
  |cls cd=>
   replace ok:(oc == .type "type" && cd.mro.head? == some (.ref C)&&sl.length == 6&&(sl.toArray)[4]? == some (some (.builtin nid))&&!cd.hasDel&&tailIn K bB cd.mro.tail&&nsOkIn K cd.ns&&nsIn K cd.ns "__init__" == some (some (.ref fI)))=true:=ok
   simp![Bool.and_eq_true,beq_iff_eq,Bool.not_eq_true',List.getElem?_toArray]at ok;obtain⟨⟨⟨⟨⟨⟨⟨e0,e1⟩,e2⟩,e3⟩,e4⟩,e5⟩,e6⟩,e7⟩:=ok;obtain⟨w1,w2,w3,w4,w5,w6,w7,w8,w9,w10,w11⟩:=cd;dsimp only at e1 e4 e5 e6 e7
   cases w3 with
   |nil=>cases e1
   |cons v tl=>
    cases e1;subst e0 e4;rcases sl with _|⟨a0,_|⟨a1,_|⟨a2,_|⟨a3,_|⟨a4,_|⟨a5,_|⟨a6,sl⟩⟩⟩⟩⟩⟩⟩<;>first|cases e2|skip
    ·cases e3;exact{tl,w4,w1,w5,w2,w6,w7,w8,w9,w10,od,a0,a1,a2,a3,a5,_,Y _ _ hlk,.of_isNs (isNs_of_in Y e6),qcm Y (.of_isNs (isNs_of_in Y e6)) e7,tail_of_in Y e5}
  |_=>cases ok
section
variable{prog:Program}{w:World}{A:Around}{E:PQ}{h:Heap}{g:Array GenState}{d:Drawn}{t:Nat}{os:OsState}
variable{nm q:Str}{C N:Addr}{bs bm bmB:List Value}{hdct:Bool}{sn:List Str}{sub:List Value}{ab:Bool}{col:Option Bool}{dd:Option Addr}{k0 k1 k2 k3 k5:Option Value}{B newId initId:String}
def J3(F:ExcBaseFacts B newId initId bmB)(T:OwnTail h bmB bm){mN:PR}{rest:List Value}{fI:Addr}{oI:Obj}{Q:Fin->Shared->Prop}
  (hC:h.get? C=some (excClassObj nm q C N bs bm hdct sn sub ab col dd k0 k1 k2 k3 k5 newId)) (hn:h.Ns N mN) (hi:mN "__init__" = some (.ref fI))
  (hfI:h.get? fI=some oI) (hfc:oI.cls=.type "function")
  (hq:∀h' e,Heap.MadeExcOf h h' e (.ref C) rest->
   wpAny (model prog w) A (call (.ref fI) (.ref e::rest)) (λr s'=>r=.none/\Q (.done (.ret (.ref e))) s') E ⟨h',g,d,t,os⟩) (hrest:rest.length<=sizeLine) :
  wpAny (model prog w) A (Builtin.«type.__call__» ⟨.ref C::rest,[]⟩) Q E ⟨h,g,d,t,os⟩:=by
 repeat (first|with_reducible refine wpAny_loadPart_at hC ?_|with_reducible refine wpAny_madeBy_exc hC ?_|wp_step)
 refine codeAny_call_builtin_code (Code.quiet_builtin _ F.quiet) (wpAny_check_new_subT F T hC ?_);refine codeAny_exc_new_subT F T hC ?_ hrest;show wpAny _ _ _ _ _ _
 have hC₁:=Heap.get?_push_of_some { cls:=.ref C,data:=.fields #[.ref h.objs.size,.none,.none,.none,.bool false,.none] }
  (Heap.get?_push_of_some { cls:=.type "tuple",data:=.seq rest.toArray } hC)
 have hfI₁:=Heap.get?_push_of_some { cls:=.ref C,data:=.fields #[.ref h.objs.size,.none,.none,.none,.bool false,.none] }
  (Heap.get?_push_of_some { cls:=.type "tuple",data:=.seq rest.toArray } hfI)
 have hn₁:((h.push { cls:=.type "tuple",data:=.seq rest.toArray }).push { cls:=.ref C,data:=.fields #[.ref h.objs.size,.none,.none,.none,.bool false,.none] }).Ns N mN:=
  let ⟨o,es,ep,e,r⟩:=hn;⟨o,es,ep,Heap.get?_push_of_some _ (Heap.get?_push_of_some _ e),r⟩
 have hget:((h.push { cls:=.type "tuple",data:=.seq rest.toArray }).push
   { cls:=.ref C,data:=.fields #[.ref h.objs.size,.none,.none,.none,.bool false,.none] }).get? (h.objs.size+1)=some
   { cls:=.ref C,data:=.fields #[.ref h.objs.size,.none,.none,.none,.bool false,.none] }:=by heap_get
 have hcC:(Value.ref C::bm).contains (.ref C)=true:=by simp
 have T₁:=T.keeps (h':=(h.push { cls:=.type "tuple",data:=.seq rest.toArray }).push { cls:=.ref C,data:=.fields #[.ref h.objs.size,.none,.none,.none,.bool false,.none] })
  λb o e=>Heap.get?_push_of_some _ (Heap.get?_push_of_some _ e)
 unfold isInstance
 repeat (first|with_reducible refine wpAny_loadPart_at hget ?_|(with_reducible refine wpAny_isSubtype_exc hC₁ ?_;rw[hcC])|wp_step)
 show wpAny _ _ (typeLookup (.ref C) _) _ _ _;refine wpAny_typeLookup_tail hC₁ hn₁ T₁ F.mroIs F.init.lookup ?_;rw[hi];refine wpAny_holding (wpAny_bind ?_);unfold bindSpecial;refine wpAny_bind (wpAny_typeOf (T:="function") ⟨_,hfI₁,hfc⟩ ?_);rw[if_pos (2:)];refine wpAny_pure (wpAny_bind (wpAny_mono (hq _ (h.objs.size+1) ⟨λb o hb=>Heap.get?_push_of_some _ (Heap.get?_push_of_some _ hb),Heap.get?_none_of_le (Nat.le_succ _),h.objs.size,hget,Heap.get?_none_of_le (Nat.le_refl _),?_⟩) (λr s' hr=>?_) λ_ _ x=>x))
 ·exact Heap.get?_push_of_some _ (Heap.get?_push_at rfl rfl)
 ·obtain⟨rfl,hQ⟩:=hr
  wp_walk
  exact hQ
def qcn(F:ExcBaseFacts B newId initId bmB)(T:OwnTail h bmB bm){mN:PR}{rest:List Value}{fI:Addr}{oI:Obj}{Q:PQ}
  (hC:h.get? C=some (excClassObj nm q C N bs bm hdct sn sub ab col dd k0 k1 k2 k3 k5 newId)) (hn:h.Ns N mN) (hi:mN "__init__" = some (.ref fI))
  (hfI:h.get? fI=some oI) (hfc:oI.cls=.type "function")
  (hq:∀h' e,Heap.MadeExcOf h h' e (.ref C) rest->
   wpAny (model prog w) (A.under (.builtin "type.__call__" ⟨.ref C::rest,[]⟩)) (call (.ref fI) (.ref e::rest)) (λr s'=>r=.none/\Q (.ref e) s') E ⟨h',g,d,t,os⟩) (hrest:rest.length<=sizeLine) :
  wpAny (model prog w) A (call (.ref C) rest) Q E ⟨h,g,d,t,os⟩:=by
 have f1:=tc_lookup;have f2:=tc_bind (.ref C);have hT:(⟨h,g,d,t,os⟩:Shared).TypeIs (.ref C) "type":={_,hC,rfl};refine wpAny_call (codeAny_of_tree ?_);show wpAny _ _ (callAny (.ref C) _) _ _ _
 repeat (any_goals (first|assumption|with_reducible refine wpAny_loadPart_at hC ?_|wp_step))
 refine{rfl,?_};refine codeAny_call_builtin_at (Code.quiet_builtin _ (3:)) entry_typeCall (wpAny_check_type_call_sub hC (J3 (hrest:=hrest) F T hC hn hi hfI hfc λh' e hm=>?_));exact hq h' e hm
end
section
variable{prog:Program}{w:World}{A:Around}{E:PQ}{s:Shared}{env:Env}
variable{nm q:Str}{C N:Addr}{bs bm bmB:List Value}{hdct:Bool}{sn:List Str}{sub:List Value}{ab:Bool}{col:Option Bool}{dd:Option Addr}{k0 k1 k2 k3 k5:Option Value}{newId:String}
def qco{M:Model}{x:Str}{np cpos pos:Pos}{args:List Expr}{Q:Flow->Shared->Prop}(hbase:bm.contains (.type "BaseException")=true)(hh:A.handled=none)
  (h:wpAny M A (eval (.Call (.Name x np) args [] cpos) env) (λv s₁=>∃e v0 od sl,v=.ref e/\s₁.heap.get? C=some (excClassObj nm q C N bs bm hdct sn sub ab col dd k0 k1 k2 k3 k5 newId)/\
   s₁.heap.get? e=some ⟨.ref C,od,.fields #[v0,.none,.none,.none,.bool false,.none],sl⟩/\E (.ref e) s₁) E s) :
  wpAny M A (exec (.Raise (some (.Call (.Name x np) args [] cpos)) none pos) env) Q E s:=by
 rw[arm_exec_Raise];have hcB:(Value.ref C::bm).contains (.type "BaseException")=true:=by rw[List.contains_cons,hbase,Bool.or_true]
 simp![evalOpt,Option.map];refine wpAny_bind (wpAny_standAt ?_);unfold raiseStmt;refine wpAny_bind (wpAny_bind (wpAny_mono h (λv s₁ h₁=>wpAny_bind (wpAny_standAt (wpAny_pure ?_))) λ_ _ x=>x));obtain⟨e,v0,od,sl,rfl,hC,he,hE⟩:=h₁;obtain⟨hp,g,d,tk,os⟩:=s₁
 repeat (first|with_reducible refine wpAny_loadPart_at he ?_|with_reducible refine wpAny_loadPart_at hC ?_|(with_reducible refine wpAny_isSubtype_exc hC ?_;rw[hcB])|wp_step)
 exact wpAny_raiseNew_none hh hE
end
abbrev bV:List Value:=[.type "ValueError",.type "Exception",.type "BaseException",.type "object"]
def JC(x C:Addr)(od:Option Addr):HO:=.ext λh=>∃v0,h.get? x=some ⟨.ref C,od,.fields #[v0,.none,.none,.none,.bool false,.none],#[]⟩
def xD(a:Addr)(fs:List (Str×V)):HO:=.ext λh=>∃mA,h.Ns1 a mA/\(∀f,qbb (fs.lookup f) (mA f))/\PySem.Within mA (fs.map (·.1))
def qaH{P:Program}{w:World}{H:Hp}{h:Heap}{x C:Addr}{od:Option Addr}{v0:Value}(e:h.get? x=some ⟨.ref C,od,.fields #[v0,.none,.none,.none,.bool false,.none],#[]⟩):qQ P w H h x (JC x C od):=
 ⟨⟨v0,e⟩,⟨_,e⟩,λh1 h2 ⟨v,z⟩ k=>{v,k _ z}⟩
def qib{P:Program}{w:World}{H:Hp}{h:Heap}{a:Addr}{fs:List (Str×V)}{mA:PR}(e:h.Ns1 a mA)(r:∀f,qbb (fs.lookup f) (mA f))(wi:PySem.Within mA (fs.map (·.1))):qQ P w H h a (xD a fs):=by obtain⟨od,es,ep,e1,c⟩:=e;refine{{mA,⟨od,es,ep,e1,c⟩,r,wi},{_,e1},λh1 h2 hz k=>?_};obtain⟨mB,⟨o2,es2,ep2,e2,c2⟩,r2⟩:=hz;exact{mB,{o2,es2,ep2,k _ e2,c2},r2}
def qbq{H:Hp}{a:Addr}{o:HO}(h:H a=some o):upd H a o=H:=by
 funext b
 by_cases hb:b=a
 ·subst hb;rw[qf,h]
 ·rw[qe hb]
section
variable{X:Cx}
def qcp:zc X (.builtin "ValueError.__init__") (λvs H Q=>∃x C fI m,vs=[.ref x,.str m]/\H x=some (JC x C none)/\Y0 X.K C fI bV "ValueError.__new__" = true/\Q .non H):=by
 intro pins s Z H xs us Q I r h;obtain⟨x,C,fI,m,rfl,hx,ok,q⟩:=h;obtain⟨u,v,rfl,ru,rv⟩:=Qs r;cases ru;obtain⟨t,rfl⟩:=rv;obtain⟨bm,N,nm,qn,bs,hd,sn,sub,ab,col,dd,k0,k1,k2,k3,k5,mN,hC,hN,hi,T⟩:=qbp I.kIn ok;obtain⟨⟨v0,he⟩,_⟩:=I.hok x _ hx;have F:=PySem.F.excBase_ValueError;obtain⟨hh,g,d,tk,os⟩:=s;refine wpAny_call (codeAny_call_builtin F.init.plain F.initEntry (wpAny_check_init_subT F T hC he rfl ?_))
 wp_walk
 have hn:(hh.push { cls:=.type "tuple",data:=.seq #[Value.str m t] }).get? x=some ⟨.ref C,none,.fields #[v0,.none,.none,.none,.bool false,.none],#[]⟩:=Heap.get?_push_of_some _ he
 have fin:EP X pins Z Q Value.none { heap:=(hh.push { cls:=.type "tuple",data:=.seq #[Value.str m t] }).update x (Obj.mapFields λx=>x.setIfInBounds 0 (Value.ref hh.objs.size)),gens:=g,drawn:=d,toks:=tk,os:=os }:=by
  refine{.non,H,?_,rfl,q}
  have I2:=I.write (x:=x) (e:=x) (o:=JC x C none) (t':=tk) (h':=(hh.push { cls:=.type "tuple",data:=.seq #[Value.str m t] }).update x (Obj.mapFields λx=>x.setIfInBounds 0 (Value.ref hh.objs.size))) (by rw[hx];exact True.intro) (.inl rfl)
   (λb u hb e=>by rw[Heap.get?_update_other _ _ (Ne.symm hb)];exact Heap.get?_push_of_some _ e) ⟨_,Heap.get?_update_self _ hn rfl⟩ (qaH (v0:=Value.ref hh.objs.size) (Heap.get?_update_self _ hn rfl))
  rw[qbq hx]at I2;exact I2
 cases v0<;>first|exact wpAny_pure (wpAny_pure fin)|(refine wpAny_letGo ?_;exact wpAny_pure fin)
end
def qic:V->Prop
 |.int n=>n.natAbs.log2 < 1920
 |.non=>True
 |_=>False
section
variable{X:Cx}
def PJ(X:Cx)(es:List Expr)(t:St->Prop):Prop:=∀(pins:PP) (s:Shared) (Z:St) (H:Hp) (acc:Str),Inv X pins Z H s->t Z->acc.length+3000 * es.length<=90000->
 Joins (model X.prog X.w) X.A X.xe (evalEach es X.env) acc (λout s1=>out.length<=90000/\Inv X pins Z H s1) s
def qdC{n:Nat}(h:n<=90000):n<=sizeLine:=by rw[sizeLine_eq];lia
def qkt:PJ X [] (λ_=>True):=λpins s Z H acc I _ h=>{by simpa using h,I}
def qku{z:Str}{j:Nat}{p:Pos}{es:List Expr}{t:St->Prop}(hz:z.length<=3000)(h:PJ X es t):PJ X (.Constant (.str z) j p::es) t:=λpins s Z H acc I ht hl=>by
 rw[List.length_cons]at hl;refine thn (qgA (X:=X) pins s Z H (λv H1=>v=.str z/\H1=H) I ⟨rfl,rfl⟩) λv s1 hq=>?_;obtain⟨v',H1,I1,r,rfl,rfl⟩:=hq;obtain⟨t',rfl⟩:=r;have e:(acc++z).length+3000 * es.length<=90000:=by rw[strLen_append];lia
 exact{z,t',rfl,qdC (1:),h pins s1 Z _ _ I1 ht e}
theorem qkv{i:Nat}{x:Str}{np p:Pos}{es:List Expr}{t:St->Prop}(hv:PE X (.Name x np) (qhy i))(h:PJ X es t):PJ X (.FormattedValue (.Name x np) (-1) none p::es) (λZ=>(∃v,Z[i]?=some (some v)/\qic v)/\t Z):=λpins s Z H acc I ht hl=>by
 rw[List.length_cons]at hl;obtain⟨⟨v,hσ,fv⟩,ht⟩:=ht
 have go:∀(y:Str) (k:Tok) (s1:Shared),y.length<=3000->Inv X pins Z H s1->∃y' t',Value.str y k=.str y' t'/\(acc++y').length<=sizeLine/\Joins (model X.prog X.w) X.A X.xe (evalEach es X.env) (acc++y') (λout s1=>out.length<=90000/\Inv X pins Z H s1) s1:=λy k s1 hy I1=>by
  have e:(acc++y).length+3000 * es.length<=90000:=by rw[strLen_append];lia
  exact{y,k,rfl,qdC (1:),h pins s1 Z _ _ I1 ht e}
 refine FormattedValue_plain (thn (hv pins s Z H (λv' H1=>v'=v/\H1=H) I ⟨v,hσ,rfl,rfl⟩) λu s1 hq=>?_);obtain⟨v',H1,I1,r,rfl,rfl⟩:=hq
 cases v' with
 |int n=>
  obtain⟨t',rfl⟩:=r;refine formatField_int_small fv ?_
  have:=int_text_length_le (k:=1920) (2:) fv
  exact go _ _ _ (by rw[PySem.ofString_length];lia) ((I1.tok _).tok _)
 |non=>cases r;exact wpAny_formatField_none (go _ _ _ (2:) ((I1.tok _).tok _))
 |_=>exact fv.elim
def qdD{v₁ v₂:Expr}{rest:List Expr}{pos:Pos}{t:St->Prop}(h:PJ X (v₁::v₂::rest) t)(hl:rest.length<=20):PE X (.JoinedStr (v₁::v₂::rest) pos) (λZ H Q=>t Z/\∀z,Q (.str z) H):=λpins s Z H Q I hq=>by
 refine wpAny_JoinedStr ?_;have e0:Str.empty.length=0:=rfl
 have:=h pins s Z H Str.empty I hq.1 (by simp![List.length_cons,e0];lia)
 have mono:∀(ts:List (Sem Value)) (acc:Str) (Q1 Q2:Str->Shared->Prop) (s:Shared),(∀o s,Q1 o s->Q2 o s)->Joins (model X.prog X.w) X.A X.xe ts acc Q1 s->Joins (model X.prog X.w) X.A X.xe ts acc Q2 s:=by
  intro ts
  induction ts with
  |nil=>exactλacc Q1 Q2 s i h=>i _ _ h
  |cons a l ih=>exactλacc Q1 Q2 s i h=>thn h λv s1 ⟨y,t',e1,e2,e3⟩=>{y,t',e1,e2,ih _ _ _ _ i e3}
 exact mono _ _ _ _ _ (λo s1 ⟨h1,h2⟩=>{qdC h1,.str o,H,h2.tok _,{_,rfl},hq.2 o}) this
structure ClsIni(K:Frag)(D:Addr):Prop where
 reads:readsIn K D (.type "type")=true
 sp:specialIn K (.ref D) "__getattribute__" = some (some (.builtin "type.__getattribute__"))
 at_:findCls K (.ref D) (.type "type") "__init__" = some (.val (.builtin "ValueError.__init__"))
def qfr{D:Addr}{x:Str}{p pos apos:Pos}{e:Expr}{es:List Expr}{t:TA}{pl:Sem Bool}(hD:ClsIni X.K D)(hg:Gl X x)(hm:X.mg x=some (.ref D))(ha:PA X (e::es) t)
  (hdb:(x == ("__debug__" : Str))=false) (hst:starEach (e::es) X.env=(false,eval e X.env)::starEach es X.env) (hpl:(backTo pos (starEach es X.env)).any (·.1)=false)
  (ht:eval (.Call (.Attribute (.Name x p) "__init__" apos) (e::es) [] pos) X.env=(do
   let ov<-eval (.Name x p) X.env
   standAt apos.atName
   let (f,first)<-holding [ov] (getMethod ov "__init__" pl)
   callWith pos f first (backTo pos (starEach (e::es) X.env)) (backToKw pos (keywordEach [] X.env)))) :
  PE X (.Call (.Attribute (.Name x p) "__init__" apos) (e::es) [] pos) (λZ H Q=>t Z H λvs H1=>∃x C fI m,vs=[.ref x,.str m]/\H1 x=some (JC x C none)/\Y0 X.K C fI bV "ValueError.__new__" = true/\Q .non H1):=by
 intro pins s Z H Q I h;refine PySem.W.methodCall_KW (pl:=pl) (zT I hg hm ?_ hdb) ht;refine method_cls I.kIn hD.sp (cls_value I.kIn hD.reads hD.at_ (3:) ?_);have I1:=I.tok (s.toks+1);refine PyProof.Rows.callWith_builtin1 (thn (ha pos pins _ Z H _ I1 h) λus s2 z=>?_) hst hpl;obtain⟨vs,H2,I2,r,q⟩:=z;exact qcp pins s2 Z H2 vs us Q I2 r q
end
open Builtin Builtin.ObjectAttr
def qid:List Value->Bool
 | .ref _::r=>qid r
 |l=>l == bV
theorem qbr:∀{l:List Value},qid l=true->l.contains (.type "object")=true/\∀self,refuseLoop self "__setattr__" l=pure ()
 | .ref c::r,e=>by obtain⟨h1,h2⟩:=qbr (l:=r) e;exact{by rw[List.contains_cons,h1,Bool.or_true],λself=>by rw[refuseLoop_ref];exact h2 self}
 |[],e=>by cases e
 | .type n::r,e=>by have z:Value.type n::r=bV:=beq_iff_eq.mp e;rw[z];exact{by decide,PySem.F.store_ValueError.passes}
 | .none::r,e=>by have z:=beq_iff_eq.mp e;cases z
 | .bool _::r,e=>by have z:=beq_iff_eq.mp e;cases z
 | .int _ _::r,e=>by have z:=beq_iff_eq.mp e;cases z
 | .float _ _::r,e=>by have z:=beq_iff_eq.mp e;cases z
 | .str _ _::r,e=>by have z:=beq_iff_eq.mp e;cases z
 | .bytes _ _::r,e=>by have z:=beq_iff_eq.mp e;cases z
 | .ellipsis::r,e=>by have z:=beq_iff_eq.mp e;cases z
 | .notImplemented::r,e=>by have z:=beq_iff_eq.mp e;cases z
 | .builtin _::r,e=>by have z:=beq_iff_eq.mp e;cases z
def qkw(K:Frag)(C:Addr):Bool:=(clsIn K C).any λcd=>qid cd.mro&&cd.hasDict
section
variable{prog:Program}{w:World}{A:Around}{s:Shared}{K:Frag}{x C:Addr}{R:Result->Shared->Prop}
def ZI{ox:Obj}{od:Option Obj}{name:Str}{tk:Tok}{v:Value}(X:K.In s.heap)(I:InstAt s.heap x ox C od)(hp:qkw K C=true)(ht:takerIn K C name=some none)
  (h:∀b,wpAny (model prog w) A.in1 (storeInOwnDict (.ref x) (.ref C) (.str name tk) name v b)
   (λfin s'=>match fin with |.done f=>R (.ok f) s' | .again c'=>c'.quiet=true/\codeAny (model prog w) A c' R s') (λe s'=>R (.error e) s') s) :
  codeAny (model prog w) A (.call (.builtin "object.__setattr__") ⟨[.ref x,.str name tk,v],[]⟩) R s:=by
 have SF:=PySem.F.store_object;obtain⟨cd,hc,ho⟩:=any_some hp;rw[Bool.and_eq_true]at ho;obtain⟨hob,hpass⟩:=qbr ho.1
 have ne:cd.mro.isEmpty=false:=by
  cases q:cd.mro with
  |nil=>rw[q]at hob;cases hob
  |cons _ _=>rfl
 have sub:Looks (model prog w) s.heap (isInstance (.ref x) (.type "object")) true:=I.type.andThen (looks_mroIn X (by unfold mroIn;rw[hc,Option.bind_some,if_neg (by rw[ne];decide),hob]));refine codeAny_call_builtin SF.slot.plain SF.entry (@check_slot (model prog w) _ _ s "object.__setattr__" "object" "__setattr__" (.ref x) [.str name tk,v] [] _ SF.kind SF.split sub (SF.args (.ref x) (.str name tk) v) ?_);obtain⟨attr,ha,hr⟩:=Option.bind_eq_some_iff.mp ht;have hm:Looks (model prog w) s.heap (mroOf (.ref C)) cd.mro:=(looks_clsIn X hc).andThen .now
 have L3:Looks (model prog w) s.heap (storeTaker? attr) none:=by
  cases attr with
  |none=>exact .now
  |some a=>
   obtain⟨b,hb,hr⟩:=Option.map_eq_some_iff.mp hr;refine(looks_takesIn X hb).andThen ?_
   cases b with
   |true=>cases hr
   |false=>exact .now
 rw[osa_eq,refuse_eq];refine wpAny_bind (wpAny_bind (I.type.here (wpAny_bind (hm.here ?_))));rw[hpass];refine wpAny_pure (wpAny_bind (I.type.here (wpAny_bind ((looks_findIn X ha).here (wpAny_bind (L3.here ?_))))));exact h _
end
section
variable{X:Cx}{pins:PP}{Z:St}{H:Hp}{s:Shared}{x C:Addr}{name:Str}
structure XcS(K:Frag)(C:Addr)(name:Str):Prop where
 sa:findIn K (.ref C) "__setattr__" = some (some (.builtin "object.__setattr__"))
 ov:qkw K C=true
 tk:takerIn K C name=some none
def qdE{name:Str}{y:V}{u:Value}{fs:List (Str×V)}{mA:PR}(ry:qI y u)(r:∀f,qbb (fs.lookup f) (mA f)):∀g,qbb ((JV name y fs).lookup g) (if g=name then some u else mA g):=λg=>by
 rw[yt]
 by_cases q:g=name
 ·rw[if_pos q,if_pos q];exact ry
 ·rw[if_neg q,if_neg q];exact r g
def qgL{name:Str}{y:V}{u:Value}{fs:List (Str×V)}{mA:PR}(wi:PySem.Within mA (fs.map (·.1))):PySem.Within (λg=>if g=name then some u else mA g) ((JV name y fs).map (·.1)):=λg hg=>by
 by_cases q:g=name
 ·rw[q];exact(jN name y fs).1
 ·refine(jN name y fs).2 g (wi g λz=>hg ?_);show(if g=name then some u else mA g)=none;rw[if_neg q];exact z
def qfs{A:Around}{E:PQ}{y:V}{u:Value}{Q:Unit->Shared->Prop}(I:Inv X pins Z H s)(hx:H x=some (JC x C none))(c:XcS X.K C name)(ry:qI y u)
  (h:∀dd s',H dd=none->Inv X pins Z (upd (upd H dd (xD dd [(name,y)])) x (JC x C (some dd))) s'->Q () s'):wpAny (model X.prog X.w) A (setAttr (.ref x) name u) Q E s:=by
 obtain⟨⟨v0,he⟩,_⟩:=I.hok x _ hx;have J:InstAt s.heap x _ C none:=⟨he,rfl,rfl,trivial⟩;have hfr:H s.heap.objs.size=none:=I.hok.fresh (Nat.le_refl _);obtain⟨cd,hc,ho⟩:=any_some c.ov;rw[Bool.and_eq_true]at ho;refine set_plain I.kIn J c.sa (ZI (s:={ s with toks:=s.toks+1 }) I.kIn J c.ov c.tk λb=>?_);have hne:x≠s.heap.objs.size:=Nat.ne_of_lt (Heap.lt_size he);refine wpAny_bind (wpAny_pure (wpAny_bind (wpAny_bind (wpAny_loadPart he (wpAny_bind (Looks.here (s:={ s with toks:=s.toks+1 }) (looks_clsIn I.kIn hc) ?_))))));rw[ho.2];have I0:=I.tok (s.toks+1);have e1:(s.heap.push { cls:=.type "dict",data:=.dict #[] }).get? s.heap.objs.size=some { cls:=.type "dict",data:=.dict #[] }:=Heap.get?_push_size _ rfl;have n1:(s.heap.push { cls:=.type "dict",data:=.dict #[] }).Ns s.heap.objs.size (λ_=>none):={_,#[],_,e1,rfl,(λe he=>absurd he (5:)),λ_=>rfl};have I1:=I0.laid (a:=s.heap.objs.size) (o:=xD s.heap.objs.size []) (h':=s.heap.push { cls:=.type "dict",data:=.dict #[] }) (t':=s.toks+1) (λb u q=>Heap.get?_push_of_some _ q) (Nat.le_refl _) (qib (Heap.Ns1.of_empty n1) (λ_=>True.intro) (λy hy=>absurd rfl hy));have hx1:(s.heap.push { cls:=.type "dict",data:=.dict #[] }).get? x=some ⟨.ref C,none,.fields #[v0,.none,.none,.none,.bool false,.none],#[]⟩:=Heap.get?_push_of_some _ he;have hHx:upd H s.heap.objs.size (xD s.heap.objs.size []) x=some (JC x C none):=by rw[qe hne];exact hx
 have hx2:((s.heap.push { cls:=.type "dict",data:=.dict #[] }).update x λo=>{ o with dict:=some s.heap.objs.size }).get? x=some ⟨.ref C,some s.heap.objs.size,.fields #[v0,.none,.none,.none,.bool false,.none],#[]⟩:=Heap.get?_update_self _ hx1 rfl
 have I2:=I1.write (x:=x) (e:=x) (o:=JC x C (some s.heap.objs.size)) (t':=s.toks+1) (h':=(s.heap.push { cls:=.type "dict",data:=.dict #[] }).update x λo=>{ o with dict:=some s.heap.objs.size }) (by rw[hHx];exact True.intro) (.inl rfl)
  (λb u hb e=>by rw[Heap.get?_update_other _ _ (Ne.symm hb)];exact e) ⟨_,hx2⟩ (qaH hx2)
 refine wpAny_bind (wpAny_alloc' (wpAny_bind (wpAny_update' hx1 (wpAny_pure ?_))));have ns2:((s.heap.push { cls:=.type "dict",data:=.dict #[] }).update x λo=>{ o with dict:=some s.heap.objs.size }).Ns1 s.heap.objs.size (λ_=>none):=(Heap.Ns1.of_empty n1).at λo q=>by rw[Heap.get?_update_other _ _ hne];exact q
 have hHd:upd (upd H s.heap.objs.size (xD s.heap.objs.size [])) x (JC x C (some s.heap.objs.size)) s.heap.objs.size=some (xD s.heap.objs.size []):=by rw[qe (Ne.symm hne),qf]
 refine wpAny_bind (wpAny_pure (wpAny_bind (wpAny_nsSet1 (s:={ s with heap:=(s.heap.push { cls:=.type "dict",data:=.dict #[] }).update x λo=>{ o with dict:=some s.heap.objs.size },toks:=s.toks+1 }) ns2 λh' hn' hs=>?_)));obtain⟨oD,esD,epD,hoD,hdD,hcD⟩:=hn'.count (Within.cons name u Within.nil);refine wpAny_bind (wpAny_lookBehind hoD (by rw[hdD];exact pastItsLine_dict (Nat.le_trans hcD (by rw[List.length_cons,List.length_nil,sizeLine_eq];lia))) ?_)
 have I3:=I2.write (x:=s.heap.objs.size) (e:=s.heap.objs.size) (o:=xD s.heap.objs.size [(name,y)]) (t':=s.toks+2) (h':=h') (by rw[hHd];exact True.intro) (.inl rfl) (λb u hb e=>(hs.2 b hb).trans e) ⟨_,hoD⟩
  (qib hn' (qdE (fs:=[]) (mA:=λ_=>none) ry λ_=>True.intro) (qgL (y:=y) (fs:=[]) (mA:=λ_=>none) λy hy=>absurd rfl hy))
 refine wpAny_pure (h s.heap.objs.size _ hfr ?_)
 have e:upd (upd (upd H s.heap.objs.size (xD s.heap.objs.size [])) x (JC x C (some s.heap.objs.size))) s.heap.objs.size (xD s.heap.objs.size [(name,y)])=upd (upd H s.heap.objs.size (xD s.heap.objs.size [(name,y)])) x (JC x C (some s.heap.objs.size)):=by
  funext b;unfold upd
  by_cases h1:b=s.heap.objs.size
  ·subst h1;rw[if_pos rfl,if_neg (Ne.symm hne),if_pos rfl]
  ·rw[if_neg h1]
   by_cases h2:b=x
   ·rw[if_pos h2,if_pos h2]
   ·rw[if_neg h2,if_neg h2,if_neg h1,if_neg h1]
 rw[<-e];exact I3
def qdF{A:Around}{E:PQ}{dd:Addr}{fs:List (Str×V)}{y:V}{u:Value}{Q:Unit->Shared->Prop}(I:Inv X pins Z H s)(hx:H x=some (JC x C (some dd)))(hd:H dd=some (xD dd fs))(hl:fs.length < 1000)(c:XcS X.K C name)(ry:qI y u)
  (h:∀s',Inv X pins Z (upd H dd (xD dd (JV name y fs))) s'->Q () s'):wpAny (model X.prog X.w) A (setAttr (.ref x) name u) Q E s:=by
 obtain⟨⟨v0,he⟩,_⟩:=I.hok x _ hx;obtain⟨⟨mA,ns,r,wi⟩,_⟩:=I.hok dd _ hd;obtain⟨oo,hoo,_⟩:=JU ns;have J:InstAt s.heap x _ C (some oo):=⟨he,rfl,rfl,hoo⟩;obtain⟨cd,hc,ho⟩:=any_some c.ov;rw[Bool.and_eq_true]at ho;refine set_plain I.kIn J c.sa (ZI (s:={ s with toks:=s.toks+1 }) I.kIn J c.ov c.tk λb=>?_);refine wpAny_bind (wpAny_pure (wpAny_bind (wpAny_bind (wpAny_loadPart he (wpAny_bind (Looks.here (s:={ s with toks:=s.toks+1 }) (looks_clsIn I.kIn hc) ?_))))));rw[ho.2];refine wpAny_pure (a:=some dd) (wpAny_bind (wpAny_pure (wpAny_bind (wpAny_nsSet1 (s:={ s with toks:=s.toks+1 }) ns λh' hn' hs=>?_))));obtain⟨oD,esD,epD,hoD,hdD,hcD⟩:=hn'.count (Within.cons name u wi);refine wpAny_bind (wpAny_lookBehind hoD (by rw[hdD];exact pastItsLine_dict (Nat.le_trans hcD (by rw[List.length_cons,List.length_map,sizeLine_eq];lia))) ?_);have I3:=(I.tok (s.toks+1)).write (x:=dd) (e:=dd) (o:=xD dd (JV name y fs)) (t':=s.toks+2) (h':=h') (by rw[hd];exact True.intro) (.inl rfl) (λb u hb e=>(hs.2 b hb).trans e) ⟨_,hoD⟩ (qib hn' (qdE ry r) (qgL wi));exact wpAny_pure (h _ I3)
def qnt(K:Frag)(ta tv:TE)(f:Str):TS:=λD Z H=>tv Z H λy H1=>ta Z H1 λx H2=>∃a C,x=.ref a/\H2 a=some (JC a C none)/\XcS K C f/\∀dd,H2 dd=none->D.nx Z (upd (upd H2 dd (xD dd [(f,y)])) a (JC a C (some dd)))
def qnu(K:Frag)(ta tv:TE)(f:Str):TS:=λD Z H=>tv Z H λy H1=>ta Z H1 λx H2=>∃a C dd fs,x=.ref a/\H2 a=some (JC a C (some dd))/\H2 dd=some (xD dd fs)/\fs.length < 1000/\XcS K C f/\D.nx Z (upd H2 dd (xD dd (JV f y fs)))
def qie{o value:Expr}{f:Str}{pos pos':Pos}{ta tv:TE}(ha:PE X o ta)(hv:PE X value tv)(hs:swapsWith value (some (.Attribute o f pos')) pos.line X.env=pure false):PS X (.Assign [.Attribute o f pos'] value pos) (qnt X.K ta tv f):=by intro pins s Z H D I h;refine plainObj_wpAny_Assign_Attribute (thn (hv pins s Z H _ I h) λu s1 ⟨y,H1,I1,ry,q⟩=>thn (ha pins s1 Z H1 _ I1 q) λov s2 ⟨x,H2,I2,rx,a,C,ex,ea,c,q2⟩=>?_) hs;subst ex;obtain rfl:ov=Value.ref a:=rx;exact qfs I2 ea c ry λdd s3 hd I3=>{Z,_,I3,q2 dd hd}
def qif{o value:Expr}{f:Str}{pos pos':Pos}{ta tv:TE}(ha:PE X o ta)(hv:PE X value tv)(hs:swapsWith value (some (.Attribute o f pos')) pos.line X.env=pure false):PS X (.Assign [.Attribute o f pos'] value pos) (qnu X.K ta tv f):=by intro pins s Z H D I h;refine plainObj_wpAny_Assign_Attribute (thn (hv pins s Z H _ I h) λu s1 ⟨y,H1,I1,ry,q⟩=>thn (ha pins s1 Z H1 _ I1 q) λov s2 ⟨x,H2,I2,rx,a,C,dd,fs,ex,ea,ed,el,c,q2⟩=>?_) hs;subst ex;obtain rfl:ov=Value.ref a:=rx;exact qdF I2 ea ed el c ry λs3 I3=>{Z,_,I3,q2}
end
def rem(H:Hp)(x:Addr):Hp:=λb=>if b=x then none else H b
def qbs{H:Hp}{x:Addr}:rem H x x=none:=by unfold rem;rw[if_pos rfl]
def qbt{H:Hp}{x b:Addr}(h:b≠x):rem H x b=H b:=by unfold rem;rw[if_neg h]
section
variable{X:Cx}{pins:PP}{Z:St}{H:Hp}{s:Shared}{x C:Addr}{od oT:Option Addr}
def Inv.trk{φ:Heap->Prop}(I:Inv X pins Z H s)(new:qQ X.prog X.w (upd H x (.ext φ)) s.heap x (.ext φ))(dat:∃oe vs,s.heap.get? x=some oe/\oe.data=.fields vs)(hx:H x=none)(x0:X.s₀.heap.get? x=none)(pin:∀p∈X.pn++pins,p.1≠x):Inv X pins Z (upd H x (.ext φ)) s:=by
 obtain⟨oe,vs,ho,hd⟩:=dat
 have nn:∀{b:Addr},b≠x->upd H x (.ext φ) b=H b:=λh=>qe h;have ntr:∀{b:Addr} {u:HO},H b=some u->b≠x:=λ{b u} e z=>by rw[z,hx]at e;cases e
 refine{I.ok,I.os,I.bare,{I.base.keep,I.base.slot,λb o e n hx=>?_,I.base.there,λb xs e=>?_,λb o u e=>?_,λb ps e=>?_},I.loc,I.cell,?_,λy c e=>?_,λp hp=>?_,λa o e=>?_,I.len}
 ·rw[nn (λz=>by rw[z,x0]at e;cases e)];exact I.base.free b o e n hx
 ·have:=I.base.tups b xs e
  rw[nn (ntr this)];exact this
 ·have:=I.base.frzs b o u e
  rw[nn (ntr this)];exact this
 ·obtain⟨more,this⟩:=I.base.tbls b ps e;rw[nn (ntr this)];exact⟨more,this⟩
 ·have:X.env.locals≠x:=λz=>by
   obtain⟨m,⟨o,es,ep,e1,e2,_⟩,_⟩:=I.loc;rw[z,ho]at e1;cases e1;rw[hd]at e2;cases e2
  rw[nn this];exact I.free
 ·have:c≠x:=λz=>by
   obtain⟨v,o,e1,e2⟩:=I.cell y c e;rw[z,ho]at e1;cases e1;rw[hd]at e2;cases e2
  rw[nn this];exact I.freeC y c e
 ·obtain⟨e,n,r⟩:=I.pin p hp;refine{e,?_,r};rw[nn (pin p hp)];exact n
 ·by_cases hb:a=x
  ·subst hb;rw[qf]at e;cases e;exact new
  ·rw[nn hb]at e;exact(I.hok a o e).stay (λ_ _ _ q=>q) (λb q=>by rw[nn (ntr q)];exact q) (λb xs q=>by rw[nn (ntr q)];exact q)
def Inv.untrk{φ:Heap->Prop}(I:Inv X pins Z H s)(h:H x=some (.ext φ)):Inv X pins Z (rem H x) s:=by
 have nn:∀{b:Addr} {u:HO},H b=some u->(∀ψ,u≠.ext ψ)->rem H x b=some u:=λ{b u} e n=>by rw[qbt (λz=>by rw[z,h]at e;exact n φ (Option.some.inj e).symm)];exact e
 have no:∀{b:Addr},H b=none->rem H x b=none:=λ{b} e=>by
  unfold rem
  by_cases hb:b=x
  ·rw[if_pos hb]
  ·rw[if_neg hb];exact e
 refine{I.ok,I.os,I.bare,{I.base.keep,I.base.slot,λb o e n hx=>no (I.base.free b o e n hx),I.base.there,λb xs e=>nn (I.base.tups b xs e) (λ_ z=>by cases z),λb o u e=>nn (I.base.frzs b o u e) (λ_ z=>by cases z),λb ps e=>?_},I.loc,I.cell,no I.free,λy c e=>no (I.freeC y c e),λp hp=>?_,λa o e=>?_,I.len}
 ·obtain⟨more,this⟩:=I.base.tbls b ps e;exact{more,nn this (λ_ z=>by cases z)}
 ·obtain⟨e,n,r⟩:=I.pin p hp;exact{e,no n,r}
 ·have ha:a≠x:=λz=>by rw[z,qbs]at e;cases e
  rw[qbt ha]at e;exact(I.hok a o e).stay (λ_ _ _ q=>q) (λb q=>nn q (λ_ z=>by cases z)) (λb xs q=>nn q (λ_ z=>by cases z))
def Qz(X:Cx)(E:XK):Prop:=∀(pins:PP) (Z:St) (H:Hp) (s:Shared) (x C:Addr) (od:Option Addr),Inv X pins Z H s->Mine X pins H x none->Fly s.heap x C od none->E (.ref C) od H->X.xe (.ref x) s
end
section
variable{P:Program}{w:World}{K:Frag}{mg:PR}{base:Heap}{N:List Str}{qual:Str}{scope:Scope}{f:Addr}{cd:Value}{A:Around}{outer:List Env}{s:Shared}{H:Hp}{E:XK}
def qdG:Qz (Zh (CX1 P w) P w K mg base N qual scope f cd A outer s H E) E:=λpins Z H1 s1 x C od I M fl q=>qbn I ⟨rfl,rfl⟩ rfl M fl q
end
section
variable{X:Cx}{E:XK}
def qkx(K:Frag)(f:Addr):Bool:=match K.lookup f with
 |some ⟨.type n,_,_,_⟩=>n == "function"
 |_=>false
structure XcC(K:Frag)(C fI:Addr):Prop where
 ok:Y0 K C fI bV "ValueError.__new__" = true
 fn:qkx K fI=true
 kp:keepIn K (.ref C)=true
def qig(C:Addr)(sp:Sp)(E:XK)(t:TA):TS:=λ_ Z H=>t Z H λvs H1=>vs.length<=sizeLine/\∀x,H1 x=none->sp (.ref x::vs) (upd H1 x (JC x C none)) (λv H2=>v=.non/\∃od,H2 x=some (JC x C od)/\E (.ref C) od (rem H2 x)) E0
theorem qdH{k:Nat}{n:Str}{C fI:Addr}{fd:FuncData}{ps:List Str}{sp:Sp}{e0:Expr}{es:List Expr}{t:TA}{np cpos pos:Pos}(hex:X.ex=[])(hx:Qz X E)(hc:X.calm=true)(hg:Gl X n)(hm:X.mg n=some (.ref C))(c:XcC X.K C fI)
  (F:FnOk X.prog X.w X.K X.mg X.base CX0 k fI fd ps sp) (hr:Room (k+1) X.A) (hb:qR X.K fd ps []) (ha:PA X (e0::es) t)
  (he:starEach (e0::es) X.env=(false,eval e0 X.env)::starEach es X.env) (hpl:(backTo cpos (starEach es X.env)).any (·.1)=false) (hdb:(n == ("__debug__" : Str))=false) :
  PS X (.Raise (some (.Call (.Name n np) (e0::es) [] cpos)) none pos) (qig C sp E t):=by
 intro pins s Z H D I h;obtain⟨bm,N,nm,qn,bs,hd,sn,sub,ab,col,dd,k0,k1,k2,k3,k5,mN,hC,hN,hi,T⟩:=qbp I.mod.kin c.ok;have FB:=PySem.F.excBase_ValueError
 obtain⟨oI,hoI,hcI⟩:∃oI,X.K.lookup fI=some oI/\oI.cls=.type "function":=by
  have:=c.fn
  unfold qkx at this
  split at this
  ·rename_i q;exact{_,q,by rw[beq_iff_eq.mp this]}
  ·cases this
 have no:∀b:Addr,b∉X.ex:=λb z=>by rw[hex]at z;cases z
 refine qco (C:=C) (nm:=nm) (q:=qn) (N:=N) (bs:=bs) (bm:=bm) (hdct:=hd) (sn:=sn) (sub:=sub) (ab:=ab) (col:=col) (dd:=dd) (k0:=k0) (k1:=k1) (k2:=k2) (k3:=k3) (k5:=k5) (newId:="ValueError.__new__") (T.hasType FB.hasBase) (I.ok.hd hc) ?_;refine wpAny_Call_Name_kw (zT I hg hm ?_ hdb);refine PySem.W.callWith_K (h₀:=X.base) I.ok.mod.kin c.kp (thn (ha cpos pins s Z H _ I h) λus s1 z=>?_) he hpl;obtain⟨vs,H1,I1,r,hl,q⟩:=z;refine{I1.kIn,?_};obtain⟨hh,g,d,tk,os⟩:=s1;refine qcn FB (T.keeps I1.bk) (I1.bk _ _ hC) (hN.keeps I1.bk) hi (I1.bk _ _ (I.mod.kin _ _ hoI)) hcI (λh' e m=>?_) (by rw[List.nil_append,<-r.length];exact hl);have Ik:=I1.kept (t':=tk) m.keeps;have hn1:=I1.newH m.new;have h0:=I1.new0 (no e) m.new
 have hpin:∀p∈X.pn++pins,p.1≠e:=λp hp z=>by obtain⟨e',_⟩:=I1.pin p hp;rw[z,m.new]at e';cases e'
 obtain⟨t',ht,_⟩:=m.there;have I2:Inv X pins Z (upd H1 e (JC e C none)) _:=Ik.trk (x:=e) (qaH ht) ⟨_,_,ht,rfl⟩ hn1 h0 hpin;have hq:=q e hn1;have r2:qF (V.ref e::vs) (Value.ref e::us):=.cons rfl r
 have hln:(Value.ref e::us++[]).length=ps.length:=by
  have:=r2.length
  rw[F.len _ _ _ _ hq]at this;rw[List.append_nil];exact this.symm
 have hbn:=hb ⟨h',g,d,tk,os⟩ (Value.ref e::us) I2.kIn hln;rw[List.append_nil]at hbn;refine wpAny_call (codeAny_mono (F.run _ X.stack _ _ ⟨Value.ref e::us,[]⟩ (Value.ref e::us) _ _ E0 (hr.make C us []) (I2.env0.make C us []) hbn r2 hq) λres s' hq'=>?_)
 cases res with
 |error e=>exact False.elim hq'
 |ok fl=>
  cases fl with
  |ret u=>obtain⟨v,H',I3,rv,ev,od,hxe,q3⟩:=I2.after hq';subst ev;obtain⟨⟨v0,ho⟩,_⟩:=I3.hok e _ hxe;refine{rv,e,v0,od,#[],rfl,I3.bk _ _ hC,ho,hx pins Z (rem H' e) s' e C od (I3.untrk hxe) {qbs,h0,(λT z=>by cases z),λp hp=>{hpin p hp,by simp}} {_,_,ho,rfl,rfl,rfl,rfl} q3}
  |next=>exact False.elim hq'
  |brk=>exact False.elim hq'
  |cont=>exact False.elim hq'
end
section
variable{prog:Program}{w:World}{A:Around}{E:PQ}{s:Shared}{K:Frag}{x C:Addr}{ox:Obj}
def qih{name:Str}{v:Value}{expr:Bool}{od:Option Obj}{Q:PQ}(Y:K.In s.heap)(I:W.InstAt s.heap x ox C od)(hC:ExcIs K C)(hf:findObj K C od name=some (.value v))(hh:handedIn v=true)
  (h:Q v { s with toks:=s.toks+1 }):wpAny (model prog w) A (getAttr (.ref x) name expr) Q E s:=by
 obtain⟨hp,g,d,t,os⟩:=s;have L0:=I.type (M:=model prog w);have L1:=looks_findIn (M:=model prog w) Y hC.ga;have L2:=looks_findIn (M:=model prog w) Y hC.gh;have L3:=looks_find (M:=model prog w) Y I hf;have L4:=looks_mroIn (M:=model prog w) Y hC.base;have hbind:∀self,bindSpecial (.builtin "BaseException.__getattribute__") self=pure (.builtin "BaseException.__getattribute__",[self]):=λself=>by rfl
 unfold getAttr getAttrBy;refine wpAny_bind (wpAny_mkText (wpAny_holding (wpAny_bind (L0.at (wpAny_bind (L1.at ?_))))));show wpAny _ _ (getAttrByItsOwn _ _ _ _ _ _) _ _ _;unfold getAttrByItsOwn;refine wpAny_bind ?_;show wpAny _ _ (typeLookup (.ref C) "__getattr__") _ _ _;refine L2.at (wpAny_bind (wpAny_attempt (wpAny_holding ?_)));unfold callGetattribute;rw[if_neg (by cases expr<;>decide)];show wpAny _ _ (boundAndCalled _ _ _) _ _ _;unfold boundAndCalled;refine wpAny_bind ?_;rw[hbind];refine wpAny_pure ?_;refine wpAny_call (codeAny_call_builtin (3:) F.entry_bexc_ga ?_);have hk:builtinKind "BaseException.__getattribute__" = some .slot:=(3:)
 have hsp:splitId "BaseException.__getattribute__" = some ("BaseException","__getattribute__"):=(3:)
 have LI:Looks (model prog w) hp (isInstance (.ref x) (.type "BaseException")) true:=L0.andThen L4;have hargs:=F.args_bexc_ga (.ref x) (.str name t);simp![checkBuiltinCall,hk,hsp];refine wpAny_bind ?_;refine LI.at ?_;rw[if_neg (2:)];refine wpAny_of_eq hargs ?_;unfold Builtin.«object.__getattribute__»;refine wpAny_bind (wpAny_pure ?_);refine wpAny_bind (wpAny_pure ?_);refine wpAny_bind (L0.at (wpAny_bind (L3.at ?_)));exact wpAny_pure (handed_on hh h)
end
structure XcG(K:Frag)(C:Addr)(name:Str):Prop where
 is_:ExcIs K C
 no:findIn K (.ref C) name=some none
 hd:hasDictIn K C=true
section
variable{X:Cx}
def tXf(K:Frag)(ta:TE)(f:Str):TE:=λZ H Q=>ta Z H λx H1=>∃a C dd fs v,x=.ref a/\H1 a=some (qeW a C (some dd))/\H1 dd=some (xD dd fs)/\XcG K C f/\fs.lookup f=some v/\Q v H1
theorem qii{e:Expr}{f:Str}{pos:Pos}{ta:TE}(he:PE X e ta)(hb:attributeBase e f X.env (eval e X.env)=eval e X.env):PE X (.Attribute e f pos) (tXf X.K ta f):=by
 intro pins s Z H Q I h;refine qc7 hb (thn (he pins s Z H _ I h) λu s1 hq1=>?_);obtain⟨x,H1,I1,rx,a,C,dd,fs,v,ex,ea,ed,c,l,q⟩:=hq1;subst ex;obtain rfl:u=Value.ref a:=rx;obtain⟨o,e1,e2,e3,e4⟩:=(I1.hok a _ ea).1;obtain⟨mA,ns,r,_⟩:=(I1.hok dd _ ed).1;obtain⟨oo,hoo,hlk⟩:=JU ns;have J:InstAt s1.heap a o C (some oo):={e1,e2,e4,by rw[e3];exact hoo};have hr:=r f;rw[l]at hr
 cases hm:mA f with
 |none=>rw[hm]at hr;exact hr.elim
 |some w=>
  rw[hm]at hr
  have hw:handedIn w=true:=by
   have hr:qI v w:=hr
   cases v<;>first|(obtain⟨t,rfl⟩:=hr;rfl)|(cases hr;rfl)
  refine qih I1.kIn J c.is_ (findObj_own c.hd c.no rfl (by rw[hlk,hm])) hw ⟨v,H1,I1.tok _,hr,q⟩
end
end L2
namespace DE
open PySem L2
inductive D where
 | non|bl (b:Bool)|int (n:Int)|str (s:Str)|lst (l:List D)|tup (l:List D)|ins (c:Str) (ns:List Str) (l:List D)|exc (C:Addr) (ns:List Str) (l:List D)|dct (ks:List Str) (l:List D)
 deriving Inhabited
abbrev KC:=Str->Option Addr
def kvX(ks:List Str)(xs:List V):List (Key×V):=(ks.zip xs).map λp=>(Sum.inr p.1,p.2)
mutual
def Rep(U:KC)(G:Hp):D->V->Prop
 |.non,v=>v=.non
 |.bl b,v=>v=.bl b
 |.int n,v=>v=.int n
 |.str s,v=>v=.str s
 |.lst ds,v=>∃a xs,v=.ref a/\G a=some (.lst xs)/\qp U G ds xs
 |.tup ds,v=>∃a xs,v=.ref a/\G a=some (.tup xs)/\qp U G ds xs
 |.ins c ns ds,v=>∃p dx C xs,U c=some C/\v=.ref p/\G p=some (.ins C dx (ns.zip xs))/\xs.length=ns.length/\qp U G ds xs
 |.exc C ns ds,v=>∃p od xs,v=.ref p/\G p=some (qeW p C od)/\((od=none/\ns=[])\/∃dd,od=some dd/\G dd=some (xD dd (ns.zip xs)))/\qp U G ds xs
 |.dct ks ds,v=>∃p xs,v=.ref p/\G p=some (.dK (kvX ks xs))/\xs.length=ks.length/\qp U G ds xs
def qp(U:KC)(G:Hp):List D->List V->Prop
 |[],xs=>xs=[]
 | d::ds,xs=>∃x r,xs=x::r/\Rep U G d x/\qp U G ds r
end
mutual
theorem Rep.same{U:KC}{G G':Hp}(e:qq G G'):∀{d:D} {v:V},Rep U G d v->Rep U G' d v
 |.non,v,h=>by simp![Rep]at h ⊢;exact h
 |.bl b,v,h=>by simp![Rep]at h ⊢;exact h
 |.int i,v,h=>by simp![Rep]at h ⊢;exact h
 |.str x,v,h=>by simp![Rep]at h ⊢;exact h
 |.lst ds,v,h=>by simp![Rep]at h ⊢;obtain⟨a,xs,rfl,h1,h2⟩:=h;exact{a,xs,rfl,e _ _ h1,qp.same e h2}
 |.tup ds,v,h=>by simp![Rep]at h ⊢;obtain⟨a,xs,rfl,h1,h2⟩:=h;exact{a,xs,rfl,e _ _ h1,qp.same e h2}
 |.ins c ns ds,v,h=>by simp![Rep]at h ⊢;obtain⟨p,dx,C,xs,hc,rfl,h1,hl,h2⟩:=h;exact{p,dx,C,xs,hc,rfl,e _ _ h1,hl,qp.same e h2}
 |.exc C ns ds,v,h=>by
  simp![Rep]at h ⊢;obtain⟨p,od,xs,rfl,h1,h3,h2⟩:=h;refine{p,od,xs,rfl,e _ _ h1,?_,qp.same e h2};rcases h3 with z|⟨dd,z1,z2⟩
  ·exact .inl z
  ·exact .inr ⟨dd,z1,e _ _ z2⟩
 |.dct ks ds,v,h=>by simp![Rep]at h ⊢;obtain⟨p,xs,rfl,h1,hl,h2⟩:=h;exact{p,xs,rfl,e _ _ h1,hl,qp.same e h2}
theorem qp.same{U:KC}{G G':Hp}(e:qq G G'):∀{ds:List D} {vs:List V},qp U G ds vs->qp U G' ds vs
 |[],vs,h=>by simp![qp]at h ⊢;exact h
 | d::ds,vs,h=>by simp![qp]at h ⊢;obtain⟨x,r,rfl,h1,h2⟩:=h;exact{x,r,rfl,Rep.same e h1,qp.same e h2}
end
section
variable{U:KC}{G G':Hp}
def qp.nil:qp U G [] []:=by simp![qp]
def qp.cons{d:D}{ds:List D}{v:V}{vs:List V}(h:Rep U G d v)(t:qp U G ds vs):qp U G (d::ds) (v::vs):=by simp![qp];exact⟨v,vs,rfl,h,t⟩
theorem qp.len:∀{ds:List D} {vs:List V},qp U G ds vs->ds.length=vs.length
 |[],vs,h=>by simp![qp]at h;subst h;rfl
 | d::ds,vs,h=>by simp![qp]at h;obtain⟨x,r,rfl,h1,h2⟩:=h;simp[qp.len h2]
theorem qp.app:∀{ds es:List D} {vs us:List V},qp U G ds vs->qp U G es us->qp U G (ds++es) (vs++us)
 | [],es,vs,us,h,h'=>by simp![qp]at h;subst h;exact h'
 | d::ds,es,vs,us,h,h'=>by simp![qp]at h;obtain⟨x,r,rfl,h1,h2⟩:=h;exact qp.cons h1 (qp.app h2 h')
def qp.snoc{ds:List D}{vs:List V}{d:D}{v:V}(h:qp U G ds vs)(h':Rep U G d v):qp U G (ds++[d]) (vs++[v]):=h.app %[h'|0]
theorem qp.drop:∀(n:Nat) {ds:List D} {vs:List V},qp U G ds vs->qp U G (ds.drop n) (vs.drop n)
 |0,_,_,h=>h
 | n+1,[],vs,h=>by simp![qp]at h;subst h;exact .nil
 | n+1,d::ds,vs,h=>by simp![qp]at h;obtain⟨x,r,rfl,h1,h2⟩:=h;exact qp.drop n h2
theorem qp.take:∀(n:Nat) {ds:List D} {vs:List V},qp U G ds vs->qp U G (ds.take n) (vs.take n)
 |0,_,_,h=>(-qp.nil:)
 | n+1,[],vs,h=>by simp![qp]at h;subst h;exact .nil
 | n+1,d::ds,vs,h=>by simp![qp]at h;obtain⟨x,r,rfl,h1,h2⟩:=h;exact qp.cons h1 (qp.take n h2)
theorem qp.atD:∀{ds:List D} {vs:List V} {i:Nat} {d:D},qp U G ds vs->ds[i]?=some d->∃v,vs[i]?=some v/\Rep U G d v
 |[],vs,i,d,h,e=>by simp at e
 | d::ds,vs,0,d',h,e=>by simp![qp]at h;obtain⟨x,r,rfl,h1,h2⟩:=h;simp at e;subst e;exact⟨x,rfl,h1⟩
 | d::ds,vs,i+1,d',h,e=>by simp![qp]at h;obtain⟨x,r,rfl,h1,h2⟩:=h;obtain⟨v',e1,e2⟩:=qp.atD (i:=i) h2 (-e:);exact{v',(-e1:),e2}
theorem qp.set:∀{ds:List D} {vs:List V} (i:Nat) {d:D} {v:V},qp U G ds vs->Rep U G d v->qp U G (ds.set i d) (vs.set i v)
 | [],vs,i,d,v,h,h'=>by simp![qp]at h;subst h;exact .nil
 | d::ds,vs,0,d',v,h,h'=>by simp![qp]at h;obtain⟨x,r,rfl,h1,h2⟩:=h;exact qp.cons h' h2
 | d::ds,vs,i+1,d',v,h,h'=>by simp![qp]at h;obtain⟨x,r,rfl,h1,h2⟩:=h;exact qp.cons h1 (qp.set i h2 h')
end
inductive Sl where
 | no|val (d:D)|own (l:List D)|bor (l:List D)|scr (l:List D)
abbrev Env:=List Sl
def SlR(U:KC)(K:Frag)(G H Hv:Hp):Sl->Option (Option V)->Prop
 |.no,_=>True
 |.val d,o=>∃v,o=some (some v)/\Rep U G d v
 |.own ds,o=>∃a xs,o=some (some (.ref a))/\H a=some (.lst xs)/\Hv a=none/\G a=none/\qp U G ds xs
 |.bor ds,o=>∃a xs,o=some (some (.ref a))/\Hv a=some (.lst xs)/\qp U G ds xs
 |.scr ds,o=>∃a xs,o=some (some (.ref a))/\SqL K Hv a xs/\qp U G ds xs
def qcq(N:Env)(Z:St)(a:Addr):Prop:=∃(i:Nat) (l:List D),N[i]?=some (.own l)/\Z[i]?=some (some (.ref a))
structure ER(U:KC)(K:Frag)(Gv Hv G H:Hp)(N:Env)(Z:St):Prop where
 len:N.length=Z.length
 sub:qq G H
 base:qq Hv H
 g0:qq Gv G
 fresh:∀a o,G a=some o->(∃o',Gv a=some o')\/Hv a=none
 sl:∀(i:Nat) (s:Sl),N[i]?=some s->SlR U K G H Hv s Z[i]?
 ap:∀(i j:Nat) (a:Addr) (l m:List D),N[i]?=some (.own l)->N[j]?=some (.own m)->Z[i]?=some (some (.ref a))->Z[j]?=some (some (.ref a))->i=j
structure Po(U:KC)(K:Frag)(Gv Hv:Hp)(Z:St)(G H:Hp)(N:Env)(G' H':Hp)(N':Env):Prop where
 er:ER U K Gv Hv G' H' N' Z
 hs:qq H H'
 gs:qq G G'
 new:∀a o,G' a=some o->(∃o',G a=some o')\/H a=none\/qcq N Z a
 fz:∀(i:Nat) (l:List D),N'[i]?=some (.own l)->N[i]?=some (.own l)
theorem qq.none{H H':Hp}(e:qq H H'){a:Addr}(h:H' a=none):H a=none:=by
 cases q:H a with
 |none=>rfl
 |some o=>rw[e a o q]at h;cases h
section
variable{U:KC}{K:Frag}{Gv Hv G H G' H' G'' H'':Hp}{N N' N'':Env}{Z:St}
def Po.refl(h:ER U K Gv Hv G H N Z):Po U K Gv Hv Z G H N G H N:={h,λ_ _ e=>e,λ_ _ e=>e,λ_ o e=>.inl ⟨o,e⟩,λ_ _ e=>e}
def Po.trans(a:Po U K Gv Hv Z G H N G' H' N')(b:Po U K Gv Hv Z G' H' N' G'' H'' N''):Po U K Gv Hv Z G H N G'' H'' N'':=
 ⟨b.er,λc o e=>b.hs c o (a.hs c o e),λc o e=>b.gs c o (a.gs c o e),λc o e=>by
  rcases b.new c o e with ⟨o',z⟩|z|⟨i,l,z1,z2⟩
  ·exact a.new c o' z
  ·exact .inr (.inl (qq.none a.hs z))
  ·exact .inr (.inr ⟨i,l,a.fz i l z1,z2⟩),λi l e=>a.fz i l (b.fz i l e)⟩
theorem SlR.grow(hs:qq H H')(gs:qq G G')(nw:∀a xs,H a=some (.lst xs)->Hv a=none->G a=none->G' a=none){s:Sl}{o:Option (Option V)}(h:SlR U K G H Hv s o):SlR U K G' H' Hv s o:=by
 cases s with
 |no=>trivial
 |val d=>obtain⟨v,e,r⟩:=h;exact{v,e,r.same gs}
 |own ds=>obtain⟨a,xs,e,h1,h2,h3,h4⟩:=h;exact{a,xs,e,hs _ _ h1,h2,nw a xs h1 h2 h3,h4.same gs}
 |bor ds=>obtain⟨a,xs,e,h1,h4⟩:=h;exact{a,xs,e,h1,h4.same gs}
 |scr ds=>obtain⟨a,xs,e,h1,h4⟩:=h;exact{a,xs,e,h1,h4.same gs}
def Po.more(h:ER U K Gv Hv G H N Z)(hs:qq H H')(gs:qq G G')(sub:qq G' H')(new:∀a o,G' a=some o->(∃o',G a=some o')\/H a=none):Po U K Gv Hv Z G H N G' H' N:=by
 refine{{h.len,sub,λb o e=>hs b o (h.base b o e),λb o e=>gs b o (h.g0 b o e),λa o e=>?_,λi s e=>(h.sl i s e).grow hs gs λa xs h1 h2 h3=>?_,h.ap},hs,gs,λa o e=>?_,λ_ _ e=>e}
 ·rcases new a o e with ⟨o',z⟩|z
  ·exact h.fresh a o' z
  ·exact .inr (qq.none h.base z)
 ·cases q:G' a with
  |none=>rfl
  |some o=>
   rcases new a o q with ⟨o',z⟩|z
   ·rw[h3]at z;cases z
   ·rw[h1]at z;cases z
 ·rcases new a o e with z|z
  ·exact .inl z
  ·exact .inr (.inl z)
def Po.room(h:ER U K Gv Hv G H N Z)(hs:qq H H'):Po U K Gv Hv Z G H N G H' N:=
 Po.more h hs (λ_ _ e=>e) (λb o e=>hs b o (h.sub b o e)) λ_ o e=>.inl ⟨o,e⟩
def Po.lay(h:ER U K Gv Hv G H N Z){a:Addr}{o:HO}(ha:H a=none):Po U K Gv Hv Z G H N (upd G a o) (upd H a o) N:=by
 have ga:G a=none:=qq.none h.sub ha;refine Po.more h (qq.upd ha) (qq.upd ga) (λb u e=>?_) λb u e=>?_
 ·by_cases hb:b=a
  ·subst hb;rw[qf]at e ⊢;exact e
  ·rw[qe hb]at e ⊢;exact h.sub b u e
 ·by_cases hb:b=a
  ·subst hb;exact .inr ha
  ·rw[qe hb]at e;exact .inl ⟨u,e⟩
end
inductive Rv where
 | val (d:D)|tmp (l:List D)|cell (l:List D)|scr (l:List D)
def RvR(U:KC)(K:Frag)(Hv Hb G H:Hp)(N:Env)(Z:St):Rv->V->Prop
 |.val d,v=>Rep U G d v
 |.tmp ds,v=>∃a xs,v=.ref a/\H a=some (.lst xs)/\Hb a=none/\Hv a=none/\G a=none/\¬ qcq N Z a/\qp U G ds xs
 |.cell ds,v=>∃a xs,v=.ref a/\H a=some (.lst xs)/\qp U G ds xs
 |.scr ds,v=>∃a xs,v=.ref a/\SqL K H a xs/\qp U G ds xs
section
variable{U:KC}{K:Frag}{Gv Hv Hb G H G' H':Hp}{N N':Env}{Z:St}
theorem RvR.keep{r:Rv}{v:V}(h:RvR U K Hv Hb G H N Z r v)(p:Po U K Gv Hv Z G H N G' H' N'):RvR U K Hv Hb G' H' N' Z r v:=by
 cases r with
 |val d=>exact Rep.same p.gs h
 |tmp ds=>
  obtain⟨a,xs,rfl,h1,h2,h3,h4,h5,h6⟩:=h;refine{a,xs,rfl,p.hs _ _ h1,h2,h3,?_,λ⟨i,l,z1,z2⟩=>h5 {i,l,p.fz i l z1,z2},h6.same p.gs}
  cases q:G' a with
  |none=>rfl
  |some o=>
   rcases p.new a o q with ⟨o',z⟩|z|z
   ·rw[h4]at z;cases z
   ·rw[h1]at z;cases z
   ·exact absurd z h5
 |cell ds=>obtain⟨a,xs,rfl,h1,h6⟩:=h;exact{a,xs,rfl,p.hs _ _ h1,h6.same p.gs}
 |scr ds=>obtain⟨a,xs,rfl,h1,h6⟩:=h;exact{a,xs,rfl,p.hs.seq h1,h6.same p.gs}
theorem RvR.back{Hc:Hp}{r:Rv}{v:V}(h:RvR U K Hv Hc G H N Z r v)(e:qq Hb Hc):RvR U K Hv Hb G H N Z r v:=by
 cases r with
 |val d=>exact h
 |tmp ds=>obtain⟨a,xs,rfl,h1,h2,h3,h4,h5,h6⟩:=h;exact{a,xs,rfl,h1,qq.none e h2,h3,h4,h5,h6}
 |cell ds=>exact h
 |scr ds=>exact h
def Rv.list?:Rv->Option (List D)
 |.val (.lst l)=>some l
 |.tmp l=>some l
 |.cell l=>some l
 |.scr l=>some l
 |_=>none
def Rv.plain?:Rv->Option (List D)
 |.val (.lst l)=>some l
 |.tmp l=>some l
 |.cell l=>some l
 |_=>none
theorem RvR.plain(er:ER U K Gv Hv G H N Z){r:Rv}{v:V}{l:List D}(h:RvR U K Hv Hb G H N Z r v)(e:r.plain?=some l):∃a xs,v=.ref a/\H a=some (.lst xs)/\qp U G l xs:=by
 cases r with
 |val d=>
  cases d<;>simp![Rv.plain?]at e<;>try (cases e)
  simp![RvR,Rep]at h;obtain⟨a,xs,rfl,h1,h2⟩:=h;exact{a,xs,rfl,er.sub _ _ h1,h2}
 |tmp ds=>simp![Rv.plain?]at e;cases e;obtain⟨a,xs,rfl,h1,_,_,_,_,h6⟩:=h;exact⟨a,xs,rfl,h1,h6⟩
 |cell ds=>simp![Rv.plain?]at e;cases e;exact h
 |scr ds=>simp![Rv.plain?]at e;cases e
theorem RvR.list(er:ER U K Gv Hv G H N Z){r:Rv}{v:V}{l:List D}(h:RvR U K Hv Hb G H N Z r v)(e:r.list?=some l):∃a xs,v=.ref a/\SqL K H a xs/\qp U G l xs:=by
 cases r with
 |scr ds=>simp![Rv.list?]at e;cases e;exact h
 |val d=>
  have e':(Rv.val d).plain?=some l:=by cases d<;>simp![Rv.list?]at e<;>first|(cases e;rfl)|cases e
  obtain⟨a,xs,h1,h2,h3⟩:=h.plain er e';exact{a,xs,h1,SqL.of h2,h3}
 |tmp ds=>obtain⟨a,xs,h1,h2,h3⟩:=h.plain er (l:=l) e;exact{a,xs,h1,SqL.of h2,h3}
 |cell ds=>obtain⟨a,xs,h1,h2,h3⟩:=h.plain er (l:=l) e;exact{a,xs,h1,SqL.of h2,h3}
def Po.freeze{a:Addr}{xs:List V}{G1 H1:Hp}{N1:Env}(p:Po U K Gv Hv Z G H N G1 H1 N1)(h1:H1 a=some (.lst xs))(h2:H a=none)(h3:Hv a=none)(h4:G1 a=none)(h5:¬ qcq N1 Z a):Po U K Gv Hv Z G H N (upd G1 a (.lst xs)) H1 N1:=by
 have gs:qq G1 (upd G1 a (.lst xs)):=qq.upd h4;have er:=p.er;refine{{er.len,λb u e=>?_,er.base,λb o e=>gs b o (er.g0 b o e),λb o e=>?_,λi s e=>?_,er.ap},p.hs,λb o e=>gs b o (p.gs b o e),λb o e=>?_,p.fz}
 ·by_cases hb:b=a
  ·subst hb;rw[qf]at e;cases e;exact h1
  ·rw[qe hb]at e;exact er.sub b u e
 ·by_cases hb:b=a
  ·subst hb;exact .inr h3
  ·rw[qe hb]at e;exact er.fresh b o e
 ·have q:=er.sl i s e
  cases s with
  |no=>trivial
  |val d=>obtain⟨v,z,r⟩:=q;exact{v,z,r.same gs}
  |own ds=>obtain⟨b,ys,z,q1,q2,q3,q4⟩:=q;have hb:b≠a:=λw=>h5 ⟨i,ds,e,by rw[<-w];exact z⟩;exact{b,ys,z,q1,q2,by rw[qe hb];exact q3,q4.same gs}
  |bor ds=>obtain⟨b,ys,z,q1,q4⟩:=q;exact{b,ys,z,q1,q4.same gs}
  |scr ds=>obtain⟨b,ys,z,q1,q4⟩:=q;exact{b,ys,z,q1,q4.same gs}
 ·by_cases hb:b=a
  ·subst hb;exact .inr (.inl h2)
  ·rw[qe hb]at e;exact p.new b o e
def ER.froze{i:Nat}{l:List D}(h:ER U K Gv Hv G H N Z)(e:N[i]?=some (.own l)):∃a xs,Z[i]?=some (some (.ref a))/\Po U K Gv Hv Z G H N (upd G a (.lst xs)) H (N.set i (.val (.lst l)))/\Rep U (upd G a (.lst xs)) (.lst l) (.ref a):=by
 obtain⟨a,xs,z,h1,h2,h3,h4⟩:=h.sl i _ e;have gs:qq G (upd G a (.lst xs)):=qq.upd h3;have hi:i < N.length:=(List.getElem?_eq_some_iff.mp e).1;have rp:Rep U (upd G a (.lst xs)) (.lst l) (.ref a):=by simp![Rep];exact{a,xs,rfl,qf,h4.same gs}
 refine{a,xs,z,{{by rw[List.length_set];exact h.len,λb u q=>?_,h.base,λb o q=>gs b o (h.g0 b o q),λb o q=>?_,λj s q=>?_,λj k b m n q1 q2=>?_},λ_ _ q=>q,gs,λb o q=>?_,λj m q=>?_},rp}
 ·by_cases hb:b=a
  ·subst hb;rw[qf]at q;cases q;exact h1
  ·rw[qe hb]at q;exact h.sub b u q
 ·by_cases hb:b=a
  ·subst hb;exact .inr h2
  ·rw[qe hb]at q;exact h.fresh b o q
 ·by_cases hj:i=j
  ·subst hj;rw[List.getElem?_set_self hi]at q;cases q;exact{_,z,rp}
  ·rw[List.getElem?_set_ne hj]at q;have w:=h.sl j s q
   cases s with
   |no=>trivial
   |val d=>obtain⟨v,z,r⟩:=w;exact{v,z,r.same gs}
   |own ds=>obtain⟨b,ys,z',q1,q2,q3,q4⟩:=w;have hb:b≠a:=λu=>hj (h.ap i j a l ds e q z (by rw[<-u];exact z'));exact{b,ys,z',q1,q2,by rw[qe hb];exact q3,q4.same gs}
   |bor ds=>obtain⟨b,ys,z,q1,q4⟩:=w;exact{b,ys,z,q1,q4.same gs}
   |scr ds=>obtain⟨b,ys,z,q1,q4⟩:=w;exact{b,ys,z,q1,q4.same gs}
 ·have f:∀{j:Nat} {m:List D},(N.set i (.val (.lst l)))[j]?=some (.own m)->N[j]?=some (.own m):=λ{j m} q=>by
   by_cases hj:i=j
   ·subst hj;rw[List.getElem?_set_self hi]at q;cases q
   ·rw[List.getElem?_set_ne hj]at q;exact q
  exact h.ap j k b m n (f q1) (f q2)
 ·by_cases hb:b=a
  ·subst hb;exact .inr (.inr ⟨i,l,e,z⟩)
  ·rw[qe hb]at q;exact .inl ⟨o,q⟩
 ·by_cases hj:i=j
  ·subst hj;rw[List.getElem?_set_self hi]at q;cases q
  ·rw[List.getElem?_set_ne hj]at q;exact q
def ER.setVal{i:Nat}{d:D}{v:V}(h:ER U K Gv Hv G H N Z)(r:Rep U G d v):ER U K Gv Hv G H (N.set i (.val d)) (Z.set i (some v)):=by
 refine{by rw[List.length_set,List.length_set];exact h.len,h.sub,h.base,h.g0,h.fresh,λj s q=>?_,λj k b m n q1 q2 q3 q4=>?_}
 ·by_cases hj:i=j
  ·subst hj;have hi:i < N.length:=by simpa using (List.getElem?_eq_some_iff.mp q).1
   rw[List.getElem?_set_self hi]at q;cases q;exact{v,by rw[List.getElem?_set_self (by rw[<-h.len];exact hi)],r}
  ·rw[List.getElem?_set_ne hj]at q ⊢;exact h.sl j s q
 ·have f:∀{j:Nat} {m:List D},(N.set i (.val d))[j]?=some (.own m)->i≠j/\N[j]?=some (.own m):=λ{j m} q=>by
   by_cases hj:i=j
   ·subst hj;have hi:i < N.length:=by simpa using (List.getElem?_eq_some_iff.mp q).1
    rw[List.getElem?_set_self hi]at q;cases q
   ·rw[List.getElem?_set_ne hj]at q;exact⟨hj,q⟩
  obtain⟨n1,e1⟩:=f q1;obtain⟨n2,e2⟩:=f q2;rw[List.getElem?_set_ne n1]at q3;rw[List.getElem?_set_ne n2]at q4;exact h.ap j k b m n e1 e2 q3 q4
def ER.setOwn{i:Nat}{l:List D}{a:Addr}{xs:List V}(h:ER U K Gv Hv G H N Z)(h1:H a=some (.lst xs))(h2:Hv a=none)(h3:G a=none)(h4:¬ qcq N Z a)(r:qp U G l xs):ER U K Gv Hv G H (N.set i (.own l)) (Z.set i (some (.ref a))):=by
 have f:∀{j:Nat} {m:List D},(N.set i (.own l))[j]?=some (.own m)->i≠j->N[j]?=some (.own m):=λ{j m} q hj=>by rw[List.getElem?_set_ne hj]at q;exact q
 refine{by rw[List.length_set,List.length_set];exact h.len,h.sub,h.base,h.g0,h.fresh,λj s q=>?_,λj k b m n q1 q2 q3 q4=>?_}
 ·by_cases hj:i=j
  ·subst hj;have hi:i < N.length:=by simpa using (List.getElem?_eq_some_iff.mp q).1
   rw[List.getElem?_set_self hi]at q;cases q;exact{a,xs,by rw[List.getElem?_set_self (by rw[<-h.len];exact hi)],h1,h2,h3,r}
  ·rw[List.getElem?_set_ne hj]at q ⊢;exact h.sl j s q
 ·by_cases hj:i=j
  ·by_cases hk:i=k
   ·lia
   ·subst hj;have hi:i < Z.length:=by simpa using (List.getElem?_eq_some_iff.mp q3).1
    rw[List.getElem?_set_self hi]at q3;rw[List.getElem?_set_ne hk]at q4;cases q3;exact absurd ⟨k,n,f q2 hk,q4⟩ h4
  ·by_cases hk:i=k
   ·subst hk;have hi:i < Z.length:=by simpa using (List.getElem?_eq_some_iff.mp q4).1
    rw[List.getElem?_set_self hi]at q4;rw[List.getElem?_set_ne hj]at q3;cases q4;exact absurd ⟨j,m,f q1 hj,q3⟩ h4
   ·rw[List.getElem?_set_ne hj]at q3;rw[List.getElem?_set_ne hk]at q4;exact h.ap j k b m n (f q1 hj) (f q2 hk) q3 q4
def ER.write{i:Nat}{l m:List D}{a:Addr}{ys:List V}(h:ER U K Gv Hv G H N Z)(e:N[i]?=some (.own l))(z:Z[i]?=some (some (.ref a)))(r:qp U G m ys):ER U K Gv Hv G (upd H a (.lst ys)) (N.set i (.own m)) Z:=by
 obtain⟨a',xs,z',h1,h2,h3,h4⟩:=h.sl i _ e;have ea:a'=a:=by rw[z']at z;injection z with z;injection z with z;injection z
 subst ea;have hi:i < N.length:=(List.getElem?_eq_some_iff.mp e).1;refine{by rw[List.length_set];exact h.len,λb u q=>?_,λb u q=>?_,h.g0,h.fresh,λj s q=>?_,λj k b m' n q1 q2=>?_}
 ·have hb:b≠a':=λw=>by rw[w,h3]at q;cases q
  rw[qe hb];exact h.sub b u q
 ·have hb:b≠a':=λw=>by rw[w,h2]at q;cases q
  rw[qe hb];exact h.base b u q
 ·by_cases hj:i=j
  ·subst hj;rw[List.getElem?_set_self hi]at q;cases q;exact⟨a',ys,z',qf,h2,h3,r⟩
  ·rw[List.getElem?_set_ne hj]at q;have w:=h.sl j s q
   cases s with
   |no=>trivial
   |val d=>exact w
   |own ds=>obtain⟨b,zs,z2,q1,q2,q3,q4⟩:=w;have hb:b≠a':=λu=>hj (h.ap i j a' l ds e q z' (by rw[<-u];exact z2));exact{b,zs,z2,by rw[qe hb];exact q1,q2,q3,q4}
   |bor ds=>exact w
   |scr ds=>exact w
 ·have f:∀{j:Nat} {n:List D},(N.set i (.own m))[j]?=some (.own n)->∃n',N[j]?=some (.own n'):=λ{j n} q=>by
   by_cases hj:i=j
   ·subst hj;exact⟨l,e⟩
   ·rw[List.getElem?_set_ne hj]at q;exact⟨n,q⟩
  obtain⟨_,e1⟩:=f q1;obtain⟨_,e2⟩:=f q2;exact h.ap j k b _ _ e1 e2
end
inductive Sk where
 | lst|tup|str
def qcr(s:Str):List D:=s.cps.toList.map λc=>D.str ⟨#[c]⟩
inductive R(α:Type) where
 | ok (a:α)|exc (c:Addr) (l:List (Str×D))|no
def R.th{α M:Type}:R α->(α->R M)->R M
 |.ok a,f=>f a
 |.exc c l,_=>.exc c l
 |.no,_=>.no
def noX{α:Type}:R α->R α
 |.ok a=>.ok a
 |_=>.no
def R.of{α:Type}:Option α->R α
 |some a=>.ok a
 |none=>.no
mutual
def toP:D->Option PyData
 |.non=>some .none
 |.bl b=>some (.bool b)
 |.int n=>some (.int n)
 |.str s=>some (.str s)
 |.lst l=>(qcS l).map .list
 |.tup l=>(qcS l).map .tuple
 |.ins ..=>none
 |.exc ..=>none
 |.dct ..=>none
def qcS:List D->Option (List PyData)
 |[]=>some []
 | d::l=>(toP d).bind λp=>(qcS l).map (p :: ·)
end
def Rv.data:Rv->D
 |.val d=>d
 |.tmp l=>.lst l
 |.cell l=>.lst l
 |.scr l=>.lst l
inductive Ar where
 | val (d:D)|bor (l:List D)|scr (l:List D)
structure Xs where
 xa:Str->Addr:=λ_=>0
 xn:Str->Option (List Str):=λ_=>none
 xs:Addr->Str->Option Bool:=λ_ _=>none
 xg:Addr->Str->Bool:=λ_ _=>false
 xt:List Str:=[]
structure Cs extends Xs where
 tab:List Str
 fld:Str->Str->Bool
 mt:Str->Str->Option Str
 sub:Str->Str->Option Bool
def Cs.non:Cs:={ tab:=[],fld:=λ_ _=>false,mt:=λ_ _=>none,sub:=λ_ _=>none }
structure Ct where
 N:List Str
 sc:Scope
 tab:List Str
 gl:Str->Option D
 cl:Str->List Ar->R Rv
 cs:Cs
 nw:Str->List Ar->R Rv
 z:Bool:=false
 x:Bool:=true
def qcT:List Str->Str->Option Nat
 |[],_=>none
 | y::r,x=>if y=x then some 0 else (qcT r x).map (· + 1)
def qky(sc:Scope)(x:Str):Bool:=match sc.names.lookup x with
 |some .local=>true
 |some .cell=>true
 |some .free=>true
 |_=>false
def qkz(sc:Scope)(x:Str):Bool:=match sc.names.lookup x with
 |some .local=>true
 |some .cell=>true
 |_=>false
def glB(sc:Scope)(x:Str):Bool:=sc.names.lookup x == some .globalImplicit
def qO(x:Str):Bool:=!(x == ("__debug__" : Str))&&!(x == ("__classdict__" : Str))&&!(x == ("__name__" : Str))
def oif{α:Type}(c:Bool)(a:Option α):Option α:=match c with
 |true=>a
 |false=>none
def qeX(L:Ct)(x:Str):Option Nat:=oif (qO x&&qky L.sc x) (qcT L.N x)
def isF(L:Ct)(it:Expr):Option Nat:=none
def slC(N:Env)(i:Nat):R (List D):=match N[i]? with
 |some (.own l)=>.ok l
 |some (.val (.lst l))=>.ok l
 |some (.val (.tup l))=>.ok l
 |_=>.no
def Rv.int?:Rv->Option Int
 |.val (.int i)=>some i
 |_=>none
def Rv.str?:Rv->Option Str
 |.val (.str i)=>some i
 |_=>none
def Rv.bl?:Rv->Option Bool
 |.val (.bl i)=>some i
 |_=>none
def Rv.tup?:Rv->Option (List D)
 |.val (.tup i)=>some i
 |_=>none
def ZJ(i j:Int):Bool:=(decide (-(2 ^ 64) < i)&&decide (i < 2 ^ 64))||(decide (-(2 ^ 64) < j)&&decide (j < 2 ^ 64))
def int2(x y:Rv)(f:Int->Int->R Rv):R Rv:=match x.int?,y.int? with
 |some i,some j=>f i j
 |_,_=>.no
def qnv(x y:Rv):R Rv:=match x.int?,y.int? with
 |some i,some j=>.ok (.val (.int (i+j)))
 |_,_=>match x.str?,y.str? with
  |some a,some b=>if a.length+b.length<=sizeLine then .ok (.val (.str (a++b))) else .no
  |_,_=>match x.plain?,y.plain? with
   |some l,some m=>if l.length+m.length<=sizeLine then .ok (.tmp (l++m)) else .no
   |_,_=>.no
def qnw(x y:Rv):R Rv:=match x.int?,y.int? with
 |some i,some j=>if ZJ i j=true then .ok (.val (.int (i * j))) else .no
 |_,_=>.no
def JN(op:Operator)(x y:Rv):R Rv:=match op with
 |.Add=>qnv x y
 |.Sub=>int2 x y λi j=>.ok (.val (.int (i - j)))
 |.Mult=>qnw x y
 |.FloorDiv=>int2 x y λi j=>if 0 < j/\j < 1073741824 then .ok (.val (.int (i / j))) else .no
 |.Mod=>int2 x y λi j=>if 0 < j then .ok (.val (.int (i % j))) else .no
 |.Pow=>int2 x y λi j=>if 0<=j/\j<=1000000/\i.natAbs < 2 ^ 64 then .ok (.val (.int (i ^ j.toNat))) else .no
 |_=>.no
def eqD(x y:D):Option Bool:=match toP x,toP y with
 |some p,some q=>if SeqAt.shaped p&&SeqAt.shaped q then some (PyData.eqv p q) else none
 |_,_=>none
def JD:D->Bool
 |.non=>true
 |.bl _=>true
 |.int _=>true
 |.str _=>true
 |_=>false
def seqD(r:Rv):Option (List D):=match r.tup? with
 |some l=>some l
 |none=>r.list?
def flV:D->V
 |.bl b=>.bl b
 |.int n=>.int n
 |.str s=>.str s
 |_=>.non
def inD(x:D)(l:List D):Option Bool:=if (JD x&&l.all JD)=true then some (inV (flV x) (l.map flV)) else none
def qjC(x y:Rv)(f:Int->Int->Bool):Option Bool:=match x.int?,y.int? with
 |some i,some j=>some (f i j)
 |_,_=>none
def Rv.non?:Rv->Bool
 |.val .non=>true
 |_=>false
def qij(a b:Str):Bool:=!(Builtin.Str.occurrences b a 0 b.length 1).isEmpty
def qeY(x y:Rv):Option Bool:=match x.str?,y.str? with
 |some a,some b=>some (qij a b)
 |_,_=>(seqD y).bind (inD x.data)
def ltD(x y:Rv):Option Bool:=qjC x y λi j=>decide (i < j)
def J4(op:CmpOp)(x y:Rv):Option Bool:=match op with
 |.Eq=>eqD x.data y.data
 |.NotEq=>(eqD x.data y.data).map (!·)
 |.Lt=>ltD x y
 |.LtE=>qjC x y λi j=>decide (i<=j)
 |.Gt=>qjC x y λi j=>decide (j < i)
 |.GtE=>qjC x y λi j=>decide (j<=i)
 |.Is=>if y.non? then some x.non? else none
 |.IsNot=>if y.non? then some (!x.non?) else none
 |.In=>qeY x y
 |.NotIn=>(qeY x y).map (!·)
def qpj(x y:Rv):R Rv:=.no
def idxD(x y:Rv):R Rv:=match y.int? with
 |some i=>(match x.str? with
  |some z=>if z.length<=sizeLine then (match atI z.cps.toList i with |some c=>.ok (.val (.str ⟨#[c]⟩)) |none=>.no) else .no
  |none=>match seqD x with
   |some l=>(match atI l i with |some d=>.ok (.val d) |none=>.no)
   |none=>.no)
 |none=>qpj x y
def qaI(l:List D)(lo hi:Option Int):List D:=(l.drop (HT.sIx l.length 0 lo)).take (HT.sIx l.length l.length hi - HT.sIx l.length 0 lo)
def sliceD(r:Rv)(lo hi:Option Int):R Rv:=match r.str? with
 |some z=>if z.length<=sizeLine then .ok (.val (.str (Txt.slice z lo hi))) else .no
 |none=>(R.of r.list?).th λl=>.ok (.tmp (qaI l lo hi))
def truthD(r:Rv):Option Bool:=match r with
 |.val .non=>some false
 |.val (.bl b)=>some b
 |.val (.int i)=>some (i != 0)
 |.val (.str s)=>if s.length<=sizeLine then some ((s.length:Int) != 0) else none
 |r=>(seqD r).map λl=>!l.isEmpty
def qcs(cs:Cs)(r:Rv)(t:Str):Option Bool:=match r with
 |.val (.ins c _ _)=>cs.sub c t
 |.val (.exc C _ _)=>cs.xs C t
 |_=>none
def qmO(cs:Cs)(C:Addr):List Str->Option Bool
 |[]=>some false
 | t::l=>(cs.xs C t).bind λb=>(qmO cs C l).map (b || ·)
def qjD(cs:Cs)(r:Rv)(ts:List Str):Option Bool:=match r with
 |.val (.exc C _ _)=>qmO cs C ts
 |_=>none
def qay(cs:Cs)(r:Rv)(x:Str):Option D:=match r with
 |.val (.ins c ns ds)=>if cs.fld c x then (ns.zip ds).lookup x else none
 |.val (.exc C ns ds)=>if cs.xg C x then (ns.zip ds).lookup x else none
 |_=>none
def mtD(cs:Cs)(r:Rv)(x:Str):Option Str:=match r with
 |.val (.ins c ns _)=>if ns.contains x then none else cs.mt c x
 |_=>none
def ixM(r:Rv)(as:List Ar):R Rv:=.no
def qpk(x a:Str)(as:List Ar):R Rv:=.no
def bmD(x:Str)(r:Rv)(as:List Ar):R Rv:=match r with
 |.val (.str a)=>qpk x a as
 |r=>if x = "index" then ixM r as else .no
def qpl:D->Option Str
 |.int n=>if n.natAbs.log2 < 1920 then some (Str.ofString (toString n)) else none
 |.str z=>if z.length<=3000 then some z else none
 |_=>none
def qok(acc:Str):List D->Option Str
 |[]=>some acc
 | d::l=>(qpl d).bind λy=>if (acc++y).length<=sizeLine then qok (acc++y) l else none
def yM:Expr->Bool
 |.Constant (.str _) _ _=>true
 |.Name ..=>true
 |.Subscript ..=>true
 |_=>false
def lenD(r:Rv):R Rv:=match r.str? with
 |some s=>if s.length<=sizeLine then .ok (.val (.int s.length)) else .no
 |none=>match seqD r with
  |some l=>.ok (.val (.int l.length))
  |none=>.no
def listD(r:Rv):R Rv:=match seqD r with
 |some l=>.ok (.tmp l)
 |none=>.no
def intD(r:Rv):R Rv:=.no
def prD:D->Option (Int×Int)
 |.tup [.int a,.int b]=>some (a,b)
 |_=>none
def qgM:List D->Option (List (Int×Int))
 |[]=>some []
 | d::l=>match prD d,qgM l with
  |some p,some ps=>some (p::ps)
  |_,_=>none
def pD(p:Int×Int):D:=.tup [.int p.1,.int p.2]
def ZK(p q:Int×Int):Bool:=decide (p.1 < q.1)||(decide (p.1=q.1)&&decide (p.2<=q.2))
def yN(ps:List (Int×Int)):List (Int×Int):=ps.mergeSort ZK
def QA(r:Rv):R Rv:=match r.list? with
 |some l=>(match qgM l with |some ps=>if ps.length < 64 then .ok (.tmp ((yN ps).map pD)) else .no |none=>.no)
 |none=>.no
def qol(r:Rv):R Rv:=.no
def qD:Expr->Bool
 |.Starred ..=>true
 |_=>false
def strD(r:Rv):R Rv:=.no
def tupD(r:Rv):R Rv:=.no
def qom(r:Rv):R Rv:=.no
def qon(r:Rv):R Rv:=.no
def kvD:D->Option (Str×Int)
 |.tup [.str s,.int n]=>some (s,n)
 |_=>none
def qnx:List D->Option (List (Str×Int))
 |[]=>some []
 | d::l=>match kvD d,qnx l with
  |some p,some ps=>some (p::ps)
  |_,_=>none
def qpn(kvs:List (Str×Int))(k:Str):Option Int:=(kvs.find? λkv=>decide (kv.1=k)).map (·.2)
def qny(n:Int)(x y:Rv):R Rv:=match x.list?,y.str? with
 |some l,some k=>(match qnx l with |some kvs=>if (kvs.map (·.1)).Nodup then .ok (.val (.int ((qpn kvs k).getD n))) else .no |none=>.no)
 |some l,none=>(match qnx l with |some kvs=>if y.non?=true/\(kvs.map (·.1)).Nodup then .ok (.val (.int n)) else .no |none=>.no)
 |_,_=>.no
def dgE(L:Ct)(o:Expr)(x:Str)(es:List Expr)(b:Bool):Option (Expr×Expr×Int):=none
def maxD(x y:Rv):R Rv:=int2 x y λi j=>.ok (.val (.int (if j > i then j else i)))
def minD(x y:Rv):R Rv:=int2 x y λi j=>.ok (.val (.int (if j < i then j else i)))
def ZL:Expr->Bool
 |.Set ..=>false
 |_=>true
def zB:Expr->Option (List Str)
 |.Name x _=>some [x]
 |.Tuple es _ _=>es.foldr (λe r=>match e,r with |.Name x _,some l=>some (x::l) |_,_=>none) (some [])
 |_=>none
def qft:Expr->Bool
 |.Tuple ..=>true
 |_=>false
def qkA:Sl->Sl
 |.own l=>.bor l
 |s=>s
def Y1(N:List Str)(sc:Scope):List Nat:=(List.range N.length).filter λi=>sc.names.lookup (N.getD i "") == some .free
def J5(l:List D):List D:=(List.range l.length).zipWith (λ(i:Nat) d=>D.tup [.int i,d]) l
def qct(l m:List D):List D:=List.zipWith (λa b=>D.tup [a,b]) l m
def zZ(lo hi:Int):List D:=(List.range (hi - lo).toNat).map λi:Nat=>D.int (lo+i)
def qik(lo hi c:Int):List D:=(List.range (rsz lo hi c)).map λi:Nat=>D.int (lo+i * c)
def rgB(i j c:Int):Bool:=decide (-(2 ^ 60)<=i)&&decide (i < 2 ^ 60)&&decide (-(2 ^ 60)<=j)&&decide (j < 2 ^ 60)&&decide (0 < c)&&decide (c < 2 ^ 30)
def rg3(x y z:Rv):R (List D):=match x.int?,y.int?,z.int? with
 |some i,some j,some c=>if rgB i j c=true then .ok (qik i j c) else .no
 |_,_,_=>.no
def qgN(i:Int):Bool:=decide (-(2 ^ 62)<=i)&&decide (i < 2 ^ 62)
def lrE(L:Ct)(f:Str)(a:Expr):Option (Expr×Expr):=none
def lrD(x y:Rv):R Rv:=match x.int?,y.int? with
 |some i,some j=>if qgN i=true/\qgN j=true/\(j - i).toNat<=10000 then .ok (.tmp (zZ i j)) else .no
 |_,_=>.no
def irE(L:Ct)(op:CmpOp)(b:Expr):Option Expr:=none
def qpo(x y:Rv):R Rv:=match x.int?,y.int? with
 |some i,some j=>.ok (.val (.bl (!decide (0<=i/\i < j))))
 |_,_=>.no
def zf(i:Int):Bool:=decide (-(2 ^ 62)<=i)&&decide (i < 2 ^ 62)
mutual
def nfD:D->Bool
 |.lst l=>(l.isEmpty||!(l.all JD))&&qgO l
 |.tup l=>qgO l
 |.ins _ _ l=>qgO l
 |.exc _ _ l=>qgO l
 |.dct _ l=>qgO l
 |_=>true
def qgO:List D->Bool
 |[]=>true
 | d::l=>nfD d&&qgO l
end
def nfA:Ar->Bool
 |.val d=>nfD d
 |.bor l=>qgO l
 |.scr l=>qgO l
def qpp(as:List Ar)(r:Rv):Rv:=match r with
 |.val (.lst l)=>if as.all nfA&&!l.isEmpty&&l.all JD then .tmp l else r
 |_=>r
def qdI(asg:D->Env->R Env)(test:Env->R (Bool×Env))(elt:Env->R (D×Env)):List D->Env->List D->R (List D)
 |[],_,acc=>.ok acc
 | d::ds,N,acc=>(asg d N).th λN1=>(test N1).th λbt=>if bt.1 then (elt bt.2).th λx=>if acc.length < sizeLine then qdI asg test elt ds x.2 (acc++[x.1]) else .no else qdI asg test elt ds bt.2 acc
inductive Fl where
 | next (N:Env)|ret (r:Rv)
def yv:Expr->Bool
 |.ListComp ..=>false
 |.SetComp ..=>false
 |.DictComp ..=>false
 |_=>true
def qdJ:Expr->Bool
 |.Tuple ..=>false
 |_=>true
def QB:Expr->Bool
 |.Slice ..=>false
 |_=>true
def qgP(step:D->Env->R Fl):List D->Env->R Fl
 |[],N=>.ok (.next N)
 | d::ds,N=>(step d N).th λf=>match f with
  |.next N1=>qgP step ds N1
  |.ret r=>.ok (.ret r)
def whL(test:Env->R (Bool×Env))(body:Env->R Fl):Nat->Env->R Fl
 |0,_=>.no
 | n+1,N=>(test N).th λb=>if b.1 then (body b.2).th λf=>(match f with
  |.next N1=>whL test body n N1
  |.ret r=>.ok (.ret r)) else .ok (.next b.2)
inductive B1 where
 | len|list|int|srt|sum|all|str|tup|any
inductive B2 where
 | max|min|get (n:Int)|rng|inr
inductive Ty where
 | int|bool|str|list|tuple
inductive Tg where
 | one (i:Nat)|many (l:List Nat)
structure Cl where
 f:Str->List Ar->R Rv
 cs:Cs
 nw:Str->List Ar->R Rv
 x:Bool:=true
instance:CoeFun Cl (λ_=>Str->List Ar->R Rv):=⟨Cl.f⟩
mutual
inductive E where
 | var (i:Nat)|con (d:D)|bin (op:Operator) (a b:E)|neg (a:E)|not (a:E)|one (a:E)|and (a b:E)|or (a b:E)|cmp (op:CmpOp) (a b:E)|ite (c:T) (a b:E)
 | idx (a i:E)|sli (a:E) (lo hi:O)|rvs (a:E)|lst (l:Es)|tup (l:Es)|call (f:Str) (l:Es)|calF (f:Str) (l:Es)|calN (f:Str) (l:Es)|b1 (f:B1) (a:E)|b2 (f:B2) (a b:E)|isi (t:Ty) (a:E)|isc (t:Str) (a:E)|isn (ts:List Str) (a:E)|fld (a:E) (x:Str)|met (a:E) (x:Str) (l:Es)|new (f:Str) (l:Es)|fst (l:Es)|dct (ks:List Str) (l:Es)|comp (x:E) (src:I) (tg:Tg) (c:F) (n:Nat) (fr:List Nat)
inductive Es where
 | nil|cons (a:E) (l:Es)
inductive T where
 | not (a:T)|one (a:T)|and (a b:T)|or (a b:T)|cmp (op:CmpOp) (a b:E)|chn (op op':CmpOp) (a b c:E)|val (a:E)
inductive O where
 | none|some (a:E)
inductive F where
 | yes|test (c:T)
inductive I where
 | nam (i:Nat)|seq (a:E)|rng (a:E)|rng2 (a b:E)|rng3 (a b c:E)|enum (a:E)|zip (a b:E)|rev (a:E)
end
def slR(N:Env)(i:Nat):R Rv:=match N[i]? with
 |some (.val d)=>.ok (.val d)
 |some (.own l)=>.ok (.cell l)
 |some (.bor l)=>.ok (.cell l)
 |some (.scr l)=>.ok (.scr l)
 |_=>.no
def slE(N:Env)(i:Nat):R (D×Env):=match N[i]? with
 |some (.val d)=>.ok (d,N)
 |some (.own l)=>.ok (.lst l,N.set i (.val (.lst l)))
 |_=>.no
def slL(N:Env)(i:Nat):R ((Sk×List D)×Env):=match N[i]? with
 |some (.val (.lst l))=>.ok ((.lst,l),N)
 |some (.val (.tup l))=>.ok ((.tup,l),N)
 |some (.val (.str z))=>.ok ((.str,qcr z),N)
 |some (.own l)=>.ok ((.lst,l),N.set i (.val (.lst l)))
 |some (.bor l)=>.ok ((.lst,l),N)
 |some (.scr l)=>.ok ((.lst,l),N)
 |_=>.no
def slX(N:Env)(i:Nat):R Rv:=match N[i]? with
 |some (.val d)=>.ok (.val d)
 |some (.own l)=>.ok (.tmp l)
 |_=>.no
def B1.go:B1->Rv->R Rv
 |.len=>lenD
 |.list=>listD
 |.int=>intD
 |.srt=>QA
 |.sum=>qol
 |.all=>qom
 |.str=>strD
 |.tup=>tupD
 |.any=>qon
def B2.go:B2->Rv->Rv->R Rv
 |.max=>maxD
 |.min=>minD
 |.get n=>qny n
 |.rng=>lrD
 |.inr=>qpo
def Ty.of:Ty->D->Option Bool
 |_,.ins ..=>none
 |_,.exc ..=>none
 |_,.dct ..=>none
 |.int,.int _=>some true
 |.int,.bl _=>some true
 |.bool,.bl _=>some true
 |.str,.str _=>some true
 |.list,.lst _=>some true
 |.tuple,.tup _=>some true
 |_,_=>some false
def Ty.go(t:Ty):Rv->Option Bool
 |.scr _=>none
 |r=>t.of r.data
def QC:List Nat->List D->Env->R Env
 |[],[],N=>.ok N
 | i::l,d::ds,N=>QC l ds (N.set i (.val d))
 |_,_,_=>.no
def Tg.go:Tg->D->Env->R Env
 |.one i,d,N=>.ok (N.set i (.val d))
 |.many l,.tup ds,N=>QC l ds N
 |_,_,_=>.no
def toAr:Rv->Ar
 |.val d=>.val d
 |.tmp l=>.val (.lst l)
 |.cell l=>.bor l
 |.scr l=>.scr l
def qaz(n:Nat)(fr:List Nat)(N:Env):Env:=List.replicate n Sl.no++fr.map λi=>qkA (N.getD i .no)
def qmP(x:Rv×Env):R (D×Env):=match x.1 with
 |.val d=>.ok (d,x.2)
 |.tmp l=>.ok (.lst l,x.2)
 |_=>.no
def qmQ(x:Rv×Env):R ((Sk×List D)×Env):=match x.1 with
 |.val (.lst l)=>.ok ((.lst,l),x.2)
 |.val (.tup l)=>.ok ((.tup,l),x.2)
 |.val (.str z)=>.ok ((.str,qcr z),x.2)
 |.tmp l=>.ok ((.lst,l),x.2)
 |_=>.no
def jM(e:E)(r:Env->R (Rv×Env))(N:Env):R (D×Env):=match e with
 |.var i=>slE N i
 |.con d=>.ok (d,N)
 |_=>(r N).th qmP
def yP(e:E)(r:Env->R (Rv×Env))(N:Env):R ((Sk×List D)×Env):=match e with
 |.var i=>slL N i
 |_=>(r N).th qmQ
mutual
def iR(cl:Cl):E->Env->R (Rv×Env)
 |.var i,N=>(slR N i).th λr=>.ok (r,N)
 |.con d,N=>.ok (.val d,N)
 |.bin op a b,N=>(iR cl a N).th λx=>(iR cl b x.2).th λy=>(JN op x.1 y.1).th λr=>.ok (r,y.2)
 |.neg a,N=>(iR cl a N).th λx=>match x.1 with
  |.val (.int i)=>.ok (.val (.int (-i)),x.2)
  |_=>.no
 |.not a,N=>(iR cl a N).th λx=>match x.1 with
  |.val (.bl b)=>.ok (.val (.bl (!b)),x.2)
  |_=>.no
 |.one a,N=>iR cl a N
 |.and a b,N=>(iR cl a N).th λx=>match x.1 with
  |.val (.bl true)=>iR cl b x.2
  |.val (.bl false)=>.ok (.val (.bl false),x.2)
  |_=>.no
 |.or a b,N=>(iR cl a N).th λx=>match x.1 with
  |.val (.bl false)=>iR cl b x.2
  |.val (.bl true)=>.ok (.val (.bl true),x.2)
  |_=>.no
 |.cmp op a b,N=>(iR cl a N).th λx=>(iR cl b x.2).th λy=>(R.of (J4 op x.1 y.1)).th λr=>.ok (.val (.bl r),y.2)
 |.ite c a b,N=>(iT cl c N).th λt=>if t.1 then iR cl a t.2 else iR cl b t.2
 |.idx a i,N=>(iR cl a N).th λx=>(iR cl i x.2).th λy=>(idxD x.1 y.1).th λr=>.ok (r,y.2)
 |.sli a lo hi,N=>(iR cl a N).th λx=>(iO cl lo x.2).th λl=>(iO cl hi l.2).th λh=>(sliceD x.1 l.1 h.1).th λr=>.ok (r,h.2)
 |.rvs a,N=>(iR cl a N).th λx=>(R.of x.1.list?).th λl=>.ok (.tmp l.reverse,x.2)
 |.lst l,N=>(iEs cl l N).th λx=>if x.1.length<=sizeLine then .ok (.tmp x.1,x.2) else .no
 |.tup l,N=>(iEs cl l N).th λx=>if x.1.length<=sizeLine then .ok (.val (.tup x.1),x.2) else .no
 |.call f l,N=>(iAs cl l N).th λx=>(cl f x.1).th λr=>.ok (r,x.2)
 |.calF f l,N=>(iEs cl l N).th λx=>(cl f (x.1.map .val)).th λr=>.ok (r,x.2)
 |.calN f l,N=>(iAs cl l N).th λx=>(noX (cl f x.1)).th λr=>.ok (qpp x.1 r,x.2)
 |.b1 f a,N=>(iR cl a N).th λx=>(f.go x.1).th λr=>.ok (r,x.2)
 |.b2 f a b,N=>(iR cl a N).th λx=>(noX (iR cl b x.2)).th λy=>(f.go x.1 y.1).th λr=>.ok (r,y.2)
 |.isi t a,N=>(iR cl a N).th λx=>(R.of (t.go x.1)).th λb=>.ok (.val (.bl b),x.2)
 |.isc t a,N=>(noX (iR cl a N)).th λx=>(R.of (qcs cl.cs x.1 t)).th λb=>.ok (.val (.bl b),x.2)
 |.isn ts a,N=>(noX (iR cl a N)).th λx=>(R.of (qjD cl.cs x.1 ts)).th λb=>.ok (.val (.bl b),x.2)
 |.fld a x,N=>(noX (iR cl a N)).th λy=>(R.of (qay cl.cs y.1 x)).th λd=>.ok (.val d,y.2)
 |.met a x l,N=>(noX (iR cl a N)).th λy=>match mtD cl.cs y.1 x with
  |some f=>(iAs cl l y.2).th λz=>(cl f (toAr y.1::z.1)).th λr=>.ok (r,z.2)
  |none=>(noX (iAs cl l y.2)).th λz=>(noX (bmD x y.1 z.1)).th λr=>.ok (r,z.2)
 |.new f l,N=>(noX (iAs cl l N)).th λx=>(cl.nw f x.1).th λr=>.ok (r,x.2)
 |.fst l,N=>(noX (iEs cl l N)).th λx=>(R.of (qok Str.empty x.1)).th λz=>.ok (.val (.str z),x.2)
 |.dct ks l,N=>(iEs cl l N).th λx=>.ok (.val (.dct ks x.1),x.2)
 |.comp e src tg c n fr,N=>(iI cl src N).th λx=>if x.1.length<=sizeLine then (noX (qdI tg.go (λN1=>iF cl c N1) (jM e (iR cl e)) x.1 (qaz n fr x.2) [])).th λl=>.ok (.tmp l,x.2) else .no
def iT(cl:Cl):T->Env->R (Bool×Env)
 |.not a,N=>(iT cl a N).th λt=>.ok (!t.1,t.2)
 |.one a,N=>iT cl a N
 |.and a b,N=>(iT cl a N).th λt=>if t.1 then iT cl b t.2 else .ok (false,t.2)
 |.or a b,N=>(iT cl a N).th λt=>if t.1 then .ok (true,t.2) else iT cl b t.2
 |.cmp op a b,N=>(iR cl a N).th λx=>(iR cl b x.2).th λy=>(R.of (J4 op x.1 y.1)).th λr=>.ok (r,y.2)
 | .chn op op' a b c,N=>(iR cl a N).th λx=>(iR cl b x.2).th λy=>(R.of (J4 op x.1 y.1)).th λr=>if r=true then (iR cl c y.2).th λz=>(R.of (J4 op' y.1 z.1)).th λr'=>.ok (r',z.2) else .ok (false,y.2)
 |.val a,N=>(iR cl a N).th λx=>(R.of (truthD x.1)).th λb=>.ok (b,x.2)
def iEs(cl:Cl):Es->Env->R (List D×Env)
 |.nil,N=>.ok ([],N)
 |.cons e l,N=>(jM e (iR cl e) N).th λx=>(iEs cl l x.2).th λy=>.ok (x.1::y.1,y.2)
def iAs(cl:Cl):Es->Env->R (List Ar×Env)
 |.nil,N=>.ok ([],N)
 |.cons e l,N=>(iR cl e N).th λx=>(iAs cl l x.2).th λy=>.ok (toAr x.1::y.1,y.2)
def iO(cl:Cl):O->Env->R (Option Int×Env)
 |.none,N=>.ok (none,N)
 |.some e,N=>(iR cl e N).th λx=>match x.1 with
  |.val (.int i)=>.ok (some i,x.2)
  |_=>.no
def iF(cl:Cl):F->Env->R (Bool×Env)
 |.yes,N=>.ok (true,N)
 |.test c,N=>iT cl c N
def iI(cl:Cl):I->Env->R (List D×Env)
 |.nam i,N=>(slC N i).th λl=>.ok (l,N)
 |.seq a,N=>(yP a (iR cl a) N).th λx=>.ok (x.1.2,x.2)
 |.rng a,N=>(iR cl a N).th λx=>(match x.1.int? with
  |some n=>if zf n=true then .ok (zZ 0 n,x.2) else .no
  |none=>.no)
 |.rng3 a b c,N=>(iR cl a N).th λx=>(iR cl b x.2).th λy=>(iR cl c y.2).th λz=>(rg3 x.1 y.1 z.1).th λl=>.ok (l,z.2)
 |.rng2 a b,N=>(iR cl a N).th λx=>(iR cl b x.2).th λy=>(match x.1.int?,y.1.int? with
  |some i,some j=>if zf i=true/\zf j=true then .ok (zZ i j,y.2) else .no
  |_,_=>.no)
 |.enum a,N=>(yP a (iR cl a) N).th λx=>match x.1.1 with |.lst=>.ok (J5 x.1.2,x.2) |_=>.no
 |.rev a,N=>(yP a (iR cl a) N).th λx=>match x.1.1 with |.lst=>.ok (x.1.2.reverse,x.2) |_=>.no
 |.zip a b,N=>(yP a (iR cl a) N).th λx=>(yP b (iR cl b) x.2).th λy=>match x.1.1,y.1.1 with |.lst,.lst=>.ok (qct x.1.2 y.1.2,y.2) |_,_=>.no
end
mutual
inductive S where
 | pass|expr (e:E)|app (i:Nat) (e:E)|ext (i:Nat) (e:E)|clr (i:Nat)|ret (e:E)|retN|set (i:Nat) (e:E)|setT (tg:Tg) (e:E)|setI (i:Nat) (x e:E)|ite (c:T) (a b:Ss)|for_ (tg:Tg) (src:I) (b:Ss)|whl (c:T) (b:Ss)|rai (n:Str) (l:Es)|try_ (b:Ss) (hs:List (Str×Nat×Nat))|stuck
inductive Ss where
 | nil|cons (s:S) (l:Ss)
end
def zx(N:Env)(i:Nat):Option (List D):=match N[i]? with
 |some (.own l)=>some l
 |_=>none
def qfu(e:E)(r:Env->R (Rv×Env))(N:Env):R Rv:=match e with
 |.var i=>slX N i
 |.con d=>.ok (.val d)
 |_=>(r N).th λx=>match x.1 with
  |.val d=>.ok (.val d)
  |.tmp l=>.ok (.tmp l)
  |_=>.no
def qcu(e:E)(r:Env->R (Rv×Env))(N:Env):R (Sl×Env):=match e with
 |.var i=>(slE N i).th λr=>.ok (.val r.1,r.2)
 |.con d=>.ok (.val d,N)
 |_=>(r N).th λx=>match x.1 with
  |.val d=>.ok (.val d,x.2)
  |.tmp l=>.ok (.own l,x.2)
  |_=>.no
def Zi:D->Bool
 |.int i=>decide (i.natAbs.log2 < 1920)
 |.non=>true
 |_=>false
def mkX(b:Bool)(cs:Cs)(n:Str)(ds:List D):R Fl:=match cs.xn n with
 |some []=>.no
 |some ns=>if (b&&decide (ds.length=ns.length)&&decide (ds.length<=sizeLine)&&ds.all Zi)=true then .exc (cs.xa n) (ns.zip ds) else .no
 |none=>.no
def yf(cs:Cs)(n:Nat)(C:Addr)(l:List (Str×D)):List (Str×Nat×Nat)->R Fl
 |[]=>.no
 | h::hs=>match cs.xs C h.1 with
  |some true=>.ok (.next ((List.replicate n Sl.no).set h.2.2 (.val (.exc C (l.map (·.1)) (l.map (·.2))))))
  |some false=>yf cs n C l hs
  |none=>.no
mutual
def iS(cl:Cl)(w:Nat):S->Env->R Fl
 |.pass,N=>.ok (.next N)
 |.expr e,N=>(iR cl e N).th λx=>.ok (.next x.2)
 |.app i e,N=>(match zx N i with
  |none=>.no
  |some _=>(jM e (iR cl e) N).th λy=>(match zx y.2 i with
   |some l=>if l.length < sizeLine then .ok (.next (y.2.set i (.own (l++[y.1])))) else .no
   |none=>.no))
 |.ext i e,N=>(match zx N i with
  |none=>.no
  |some _=>(iR cl e N).th λy=>(match zx y.2 i,y.1.plain? with
   |some l,some n=>if l.length+n.length<=sizeLine then .ok (.next (y.2.set i (.own (l++n)))) else .no
   |_,_=>.no))
 |.clr i,N=>(match zx N i with
  |some _=>.ok (.next (N.set i (.own [])))
  |none=>.no)
 |.ret e,N=>(qfu e (iR cl e) N).th λr=>.ok (.ret r)
 |.retN,N=>.ok (.ret (.val .non))
 |.set i e,N=>(qcu e (iR cl e) N).th λs=>.ok (.next (s.2.set i s.1))
 |.setT tg e,N=>(jM e (iR cl e) N).th λx=>(tg.go x.1 x.2).th λN1=>.ok (.next N1)
 |.setI i x e,N=>(jM e (iR cl e) N).th λy=>(match zx y.2 i with
  |none=>.no
  |some _=>(iR cl x y.2).th λz=>(match zx z.2 i,z.1.int? with
   |some l,some n=>(match ixN l.length n with
    |some k=>.ok (.next (z.2.set i (.own (l.set k y.1))))
    |none=>.no)
   |_,_=>.no))
 |.ite c a b,N=>(iT cl c N).th λt=>if t.1 then iSs cl w a t.2 else iSs cl w b t.2
 |.for_ tg src b,N=>(iI cl src N).th λx=>qgP (λd N1=>(tg.go d N1).th λN2=>iSs cl w b N2) x.1 x.2
 |.whl c b,N=>whL (λN1=>iT cl c N1) (λN1=>iSs cl w b N1) w N
 |.rai n l,N=>(noX (iEs cl l N)).th λx=>mkX cl.x cl.cs n x.1
 |.try_ b hs,N=>match iSs cl w b N with
  |.exc C l=>yf cl.cs N.length C l hs
  |r=>r
 |.stuck,_=>.no
def iSs(cl:Cl)(w:Nat):Ss->Env->R Fl
 |.nil,N=>.ok (.next N)
 |.cons s l,N=>(iS cl w s N).th λf=>match f with
  |.next N1=>iSs cl w l N1
  |.ret r=>.ok (.ret r)
end
def o2{α M γ:Type}(a:Option α)(b:Option M)(f:α->M->γ):Option γ:=match a,b with
 |some x,some y=>some (f x y)
 |_,_=>none
theorem ql{α M γ:Type}{a:Option α}{b:Option M}{f:α->M->γ}{z:γ}(h:o2 a b f=some z):∃x y,a=some x/\b=some y/\f x y=z:=by
 cases a with
 |none=>cases h
 |some x=>
  cases b with
  |none=>cases h
  |some y=>exact{x,y,rfl,rfl,Option.some.inj h}
theorem qi{α:Type}{c:Bool}{a:Option α}{z:α}(h:oif c a=some z):c=true/\a=some z:=by
 cases c with
 |true=>exact⟨rfl,h⟩
 |false=>cases h
def Ct.k(L:Ct):Cl:=⟨L.cl,L.cs,L.nw,L.x⟩
def cC(L:Ct)(it:Expr)(r:Option I):Option I:=match isF L it with
 |some i=>some (.nam i)
 |none=>r
def qaJ(L:Ct)(x:Str):Option E:=oif (qO x) (match qcT L.N x with
 |some i=>oif (qky L.sc x) (some (.var i))
 |none=>oif (glB L.sc x) ((L.gl x).map .con))
def qgQ:Const->Option E
 |.none=>some (.con .non)
 |.bool b=>some (.con (.bl b))
 |.int i=>some (.con (.int i))
 |.str s=>some (.con (.str s))
 |_=>none
def qmR(t:Str):Option Ty:=if t = "int" then some .int else if t = "bool" then some .bool else if t = "str" then some .str else if t = "list" then some .list else if t = "tuple" then some .tuple else none
def qnz(f:Str):Option B1:=if f = "len" then some .len else if f = "list" then some .list else if f = "int" then some .int else if f = "sorted" then some .srt else if f = "sum" then some .sum else if f = "all" then some .all else if f = "str" then some .str else if f = "tuple" then some .tup else if f = "any" then some .any else none
def qnA(f:Str):Option B2:=if f = "max" then some .max else if f = "min" then some .min else none
def qfv(L:Ct)(x:Str):Option Nat:=oif (qkz L.sc x&&qO x) (qcT L.N x)
def qfw(L:Ct):List Str->Option (List Nat)
 |[]=>some []
 | x::l=>o2 (qfv L x) (qfw L l) (· :: ·)
def cTg(L:Ct)(tg:Expr):Option Tg:=match tg with
 |.Name x _=>(qfv L x).map .one
 |.Tuple es j p=>oif (!es.any qD) (match zB (.Tuple es j p) with
  |some xs=>(qfw L xs).map .many
  |none=>none)
 |_=>none
def ZM:E->Option E
 |.var _=>none
 |e=>some e
def cFs(g:Expr->Option E):List Expr->Option Es
 |[]=>some .nil
 | .Constant (.str z) _ _::l=>(cFs g l).map (.cons (.con (.str z)))
 | .FormattedValue e i none _::l=>oif (decide (i = -1)) (o2 (g e) (cFs g l) .cons)
 |_=>none
def cVs(g:Expr->Option E):List Expr->Option Es
 |[]=>some .nil
 | e::l=>o2 (g e) (cVs g l) .cons
def cNm(L:Ct):List Expr->Option (List Str)
 |[]=>some []
 | .Name t _::l=>oif (qO t&&glB L.sc t&&decide (t≠"ValueError")) ((cNm L l).map (t :: ·))
 |_=>none
mutual
def cE:Nat->Ct->Expr->Option E
 |0,_,_=>none
 | m+1,L,e=>match e with
  |.Name x _=>qaJ L x
  |.Constant c _ _=>qgQ c
  |.BinOp a op b _=>o2 (cE m L a) (cE m L b) (E.bin op)
  |.UnaryOp .USub a _=>(cE m L a).map .neg
  |.UnaryOp .Not a _=>(cE m L a).map .not
  |.BoolOp _ [a] _=>(cE m L a).map .one
  | .BoolOp .And (a::b::l) p=>o2 (cE m L a) (cE m L (.BoolOp .And (b::l) p)) .and
  | .BoolOp .Or (a::b::l) p=>o2 (cE m L a) (cE m L (.BoolOp .Or (b::l) p)) .or
  |.Compare a [op] [b] _=>oif (!behindInMarks op b) (o2 (cE m L a) (cE m L b) (E.cmp op))
  |.IfExp c a b _=>o2 (cT m L c) (o2 (cE m L a) (cE m L b) Prod.mk) λc p=>.ite c p.1 p.2
  |.Subscript a (.Slice lo hi none _) _=>o2 (cE m L a) (o2 (cO m L lo) (cO m L hi) Prod.mk) λa p=>.sli a p.1 p.2
  |.Subscript a (.Slice _ _ (some _) _) _=>none
  |.Subscript a i _=>o2 (cE m L a) (cE m L i) .idx
  |.List es _=>(cEs m L es).map .lst
  |.Tuple es _ _=>(cEs m L es).map .tup
  |.Call (.Name f p) es [] _=>oif (qO f&&glB L.sc f&&(qcT L.N f).isNone) (
    if f = "isinstance" then (match es with
     |[a,b]=>(match b with
      |.Name t _=>oif (qO t&&glB L.sc t&&(qcT L.N t).isNone&&!qD a) (match qmR t with |some y=>(cE m L a).map (.isi y) |none=>(cE m L a).map (.isc t))
      |.Tuple bs _ _=>oif (!qD a&&!bs.isEmpty&&decide (bs.length < 100)) (o2 (cNm L bs) (cE m L a) .isn)
      |_=>none)
     |_=>none)
    else if L.tab.contains f=true then (cAs m L es).map (.call f)
    else if L.cs.tab.contains f=true then (cAs m L es).map (.new f)
    else match es with
     |[a]=>(match lrE L f a with
      |some t=>o2 (cE m L t.1) (cE m L t.2) (.b2 .rng)
      |none=>oif (!qD a) (o2 (qnz f) (cE m L a) .b1))
     |[a,b]=>oif (!(qD a||qD b)) (o2 (qnA f) (o2 (cE m L a) (cE m L b) Prod.mk) λf p=>.b2 f p.1 p.2)
     |_=>none)
  |.Attribute o x _=>oif (yM o) ((cE m L o).map λa=>.fld a x)
  |.Call (.Attribute o x ap) es [] q=>if (yM o&&(ap.endLine == q.line)&&decide (es.length < 30))=true then (o2 (cE m L o) (cAs m L es) λa l=>.met a x l)
   else match dgE L o x es (ap.endLine == q.line) with
    |some t=>o2 (cE m L t.1) (cE m L t.2.1) (.b2 (.get t.2.2))
    |none=>none
  |.ListComp elt [g] sc _=>oif (decide (g.is_async=0)) (match zB g.target with
   |some own=>oif (JM L.sc L.N (Y1 L.N sc) sc&&decide (own++(Y1 L.N sc).map λi=>L.N.getD i "").Nodup&&ZL g.iter)
     (o2 (o2 (cC L g.iter (cI m L (qft g.target) g.iter)) (cTg { L with N:=own++(Y1 L.N sc).map λi=>L.N.getD i "",sc:=sc } g.target) Prod.mk)
      (o2 (cF m { L with N:=own++(Y1 L.N sc).map λi=>L.N.getD i "",sc:=sc } g.ifs) (cX m { L with N:=own++(Y1 L.N sc).map λi=>L.N.getD i "",sc:=sc } elt) Prod.mk)
      λp q=>.comp q.2 p.1 p.2 q.1 own.length (Y1 L.N sc))
   |none=>none)
  |_=>none
def cX:Nat->Ct->Expr->Option E
 |0,_,_=>none
 | m+1,L,e=>match e with
  |.Name x _=>qaJ L x
  |e=>(cE m L e).bind ZM
def cT:Nat->Ct->Expr->Option T
 |0,_,_=>none
 | m+1,L,e=>match e with
  |.UnaryOp .Not a _=>(cT m L a).map .not
  |.BoolOp _ [a] _=>(cT m L a).map .one
  | .BoolOp .And (a::b::l) p=>o2 (cT m L a) (cT m L (.BoolOp .And (b::l) p)) .and
  | .BoolOp .Or (a::b::l) p=>o2 (cT m L a) (cT m L (.BoolOp .Or (b::l) p)) .or
  |.BoolOp _ [] _=>none
  |.IfExp ..=>none
  |.Compare a [op] [b] _=>(match irE L op b with
   |some t=>o2 (cE m L a) (cE m L t) (λx y=>.val (.b2 .inr x y))
   |none=>oif (!behindInMarks op b) (o2 (cE m L a) (cE m L b) (T.cmp op)))
  |.Compare ..=>none
  |e=>(cE m L e).map .val
def cEs:Nat->Ct->List Expr->Option Es
 |0,_,_=>none
 | m+1,L,es=>match es with
  |[]=>some .nil
  | e::l=>oif (!qD e) (o2 (cX m L e) (cEs m L l) .cons)
def cAs:Nat->Ct->List Expr->Option Es
 |0,_,_=>none
 | m+1,L,es=>match es with
  |[]=>some .nil
  | e::l=>oif (!qD e) (o2 (cE m L e) (cAs m L l) .cons)
def cO:Nat->Ct->Option Expr->Option O
 |0,_,_=>none
 | m+1,L,o=>match o with
  |none=>some .none
  |some e=>(cE m L e).map .some
def cF:Nat->Ct->List Expr->Option F
 |0,_,_=>none
 | m+1,L,es=>match es with
  |[]=>some .yes
  |[c]=>(cT m L c).map .test
  |_=>none
def cL:Nat->Ct->Expr->Option E
 |0,_,_=>none
 | m+1,L,e=>match e with
  |.Name x _=>(qeX L x).map .var
  |e=>(cE m L e).bind ZM
def cI:Nat->Ct->Bool->Expr->Option I
 |0,_,_,_=>none
 | m+1,L,tb,e=>match e with
  |.Call (.Name f p) es [] q=>if f = "range" || f = "enumerate" || f = "zip" || f = "reversed" then oif (qO f&&glB L.sc f&&(qcT L.N f).isNone) (match es with
    |[a]=>oif (!qD a) (if f = "range" then (cE m L a).map .rng else if f = "enumerate" then oif tb ((cL m L a).map .enum) else if f = "reversed" then (cL m L a).map .rev else none)
    |[a,b]=>oif (!(qD a||qD b)) (if f = "range" then o2 (cE m L a) (cE m L b) .rng2 else if f = "zip" then oif tb (o2 (cL m L a) (cL m L b) .zip) else none)
    |_=>none)
   else (cL m L (.Call (.Name f p) es [] q)).map .seq
  |e=>(cL m L e).map .seq
end
def cV(m:Nat)(L:Ct)(e:Expr):Option E:=match e with
 |.Name x _=>qaJ L x
 |e=>(cE m L e).bind ZM
def qm{α M:Type}{o:Option α}{f:α->M}{z:M}(h:o.map f=some z):∃x,o=some x/\f x=z:=Option.map_eq_some_iff.mp h
noncomputable abbrev VE:=(Str×Pos) ⊕ (Expr×List Expr×List Keyword×Pos) ⊕ (Expr×Str×Pos) ⊕ (List Expr×Pos) ⊕ (Expr×Int×Option Expr×Pos) ⊕ (Const×Nat×Pos)
def vE:Expr->Option VE
 |.Name x p=>some (.inl (x,p))
 |.Call f l k p=>some (.inr (.inl (f,l,k,p)))
 |.Attribute o a p=>some (.inr (.inr (.inl (o,a,p))))
 |.JoinedStr l p=>some (.inr (.inr (.inr (.inl (l,p)))))
 |.FormattedValue e i f p=>some (.inr (.inr (.inr (.inr (.inl (e,i,f,p))))))
 |.Constant c k p=>some (.inr (.inr (.inr (.inr (.inr (c,k,p))))))
 |_=>none
def bE:VE->Expr
 |.inl t=>.Name t.1 t.2
 |.inr (.inl t)=>.Call t.1 t.2.1 t.2.2.1 t.2.2.2
 |.inr (.inr (.inl t))=>.Attribute t.1 t.2.1 t.2.2
 |.inr (.inr (.inr (.inl t)))=>.JoinedStr t.1 t.2
 |.inr (.inr (.inr (.inr (.inl t))))=>.FormattedValue t.1 t.2.1 t.2.2.1 t.2.2.2
 |.inr (.inr (.inr (.inr (.inr t))))=>.Constant t.1 t.2.1 t.2.2
def vb(e:Expr):((vE e).elim True λt=>e=bE t):=by cases e<;>first|trivial|rfl
def qdK{e:Expr}{t:VE}(h:vE e=some t):e=bE t:=by
 have:=vb e
 rw[h]at this;exact this
def vS:Stmt->Option ((List Expr×Expr×Pos) ⊕ (Expr×Pos))
 |.Assign l x p=>some (.inl (l,x,p))
 |.Expr x p=>some (.inr (x,p))
 |_=>none
def vsb(s:Stmt):((vS s).elim True λt=>s=t.elim (λt=>.Assign t.1 t.2.1 t.2.2) λt=>.Expr t.1 t.2):=by cases s<;>first|trivial|rfl
theorem bind_some{α M:Type}{x:Option α}{f:α->Option M}{b:M}(h:x.bind f=some b):∃a,x=some a/\f a=some b:=by
 cases x with
 |none=>cases h
 |some a=>exact⟨a,rfl,h⟩
def nmE(e:Expr):Option Str:=(vE e).bind (·.elim (λt=>some t.1) λ_=>none)
theorem yQ{e:Expr}{x:Str}(h:nmE e=some x):∃p,e=.Name x p:=by
 obtain⟨t,h1,h2⟩:=bind_some h
 have:=qdK h1
 cases t with
 |inl t=>cases h2;exact{_,this}
 |inr t=>cases h2
def caE(e:Expr):Option (Expr×List Expr×List Keyword×Pos):=(vE e).bind (·.elim (λ_=>none) (·.elim some λ_=>none))
theorem qgR{e:Expr}{t:Expr×List Expr×List Keyword×Pos}(h:caE e=some t):e=.Call t.1 t.2.1 t.2.2.1 t.2.2.2:=by
 obtain⟨u,h1,h2⟩:=bind_some h
 have:=qdK h1
 match u,h2 with
 |.inr (.inl t),h2=>cases h2;exact this
 |.inl _,h2=>cases h2
 |.inr (.inr _),h2=>cases h2
def asS(s:Stmt):Option (List Expr×Expr×Pos):=(vS s).bind (·.elim some λ_=>none)
theorem qkB{s:Stmt}{t:List Expr×Expr×Pos}(h:asS s=some t):s=.Assign t.1 t.2.1 t.2.2:=by
 obtain⟨u,h1,h2⟩:=bind_some h
 have:=vsb s
 rw[h1]at this
 cases u with
 |inl u=>cases h2;exact this
 |inr u=>cases h2
def cN(x:Expr):Option (Str×Expr×List Expr):=(caE x).bind λt=>(nmE t.1).bind λn=>match t.2.1 with
 | e::es=>oif t.2.2.1.isEmpty (some (n,e,es))
 |[]=>none
theorem qnB{x:Expr}{t:Str×Expr×List Expr}(h:cN x=some t):∃np cp,x=.Call (.Name t.1 np) (t.2.1::t.2.2) [] cp:=by
 obtain⟨⟨f,l,k,p⟩,h1,h⟩:=bind_some h;obtain⟨n,h2,h⟩:=bind_some h;obtain⟨np,rfl⟩:=yQ h2;have h1:=qgR h1
 cases l with
 |nil=>cases h
 |cons e es=>
  obtain⟨hk,h⟩:=qi h
  cases k with
  |nil=>cases h;exact⟨np,p,h1⟩
  |cons _ _=>cases hk
def aN(s:Stmt):Option (Expr×Expr):=(asS s).bind λt=>match t.1 with
 |[v]=>some (v,t.2.1)
 |_=>none
theorem qkC{s:Stmt}{t:Expr×Expr}(h:aN s=some t):∃p,s=.Assign [t.1] t.2 p:=by
 obtain⟨⟨l,x,p⟩,h1,h⟩:=bind_some h;have h1:=qkB h1
 match l,h with
 |[v],h=>cases h;exact⟨p,h1⟩
 |[],h=>cases h
 | _::_::_,h=>cases h
def cH:ExceptHandler->Option (Str×Str×Str×Str)
 |.ExceptHandler ty nm b _=>ty.bind λte=>nm.bind λn=>match b with
  |[s]=>(nmE te).bind λt=>(aN s).bind λq=>(nmE q.1).bind λv=>(nmE q.2).bind λn2=>some (t,n,v,n2)
  |_=>none
theorem qnC{hd:ExceptHandler}{q:Str×Str×Str×Str}(h:cH hd=some q):∃tp vp np ap hp,hd=.ExceptHandler (some (.Name q.1 tp)) (some q.2.1) [.Assign [.Name q.2.2.1 vp] (.Name q.2.2.2 np) ap] hp:=by
 obtain⟨ty,nm,b,hp⟩:=hd;obtain⟨te,rfl,h⟩:=bind_some h;obtain⟨n,rfl,h⟩:=bind_some h
 match b,h with
 |[s],h=>obtain⟨t,h1,h⟩:=bind_some h;obtain⟨⟨v',x'⟩,h2,h⟩:=bind_some h;obtain⟨v,h3,h⟩:=bind_some h;obtain⟨n2,h4,h⟩:=bind_some h;obtain⟨tp,rfl⟩:=yQ h1;obtain⟨ap,rfl⟩:=qkC h2;obtain⟨vp,rfl⟩:=yQ h3;obtain⟨np,rfl⟩:=yQ h4;cases h;exact⟨tp,vp,np,ap,hp,rfl⟩
 |[],h=>cases h
 | _::_::_,h=>cases h
def cHs(L:Ct):List ExceptHandler->Option (List (Str×Nat×Nat))
 |[]=>some []
 | hd::hs=>(cH hd).bind λq=>oif (decide (q.2.2.2=q.2.1)&&decide (q.2.2.1≠q.2.1)&&decide (q.1≠"ValueError")&&qO q.1&&glB L.sc q.1&&qO q.2.1&&(L.sc.names.lookup q.2.1 == some .local)) (o2 (o2 (qfv L q.2.1) (qfv L q.2.2.1) Prod.mk) (cHs L hs) λp r=>(q.1,p.1,p.2)::r)
def xnB(L:Ct)(f:Str):Bool:=qO f&&glB L.sc f
mutual
def cS:Nat->Ct->Stmt->Option S
 |0,_,_=>none
 | m+1,L,st=>match st with
  |.Pass _=>some .pass
  |.Expr e _=>(match e with
   |.Call (.Attribute (.Name x _) meth ap) [a] [] cp=>oif (ap.endLine == cp.line&&!qD a) (
     if meth = "append" then o2 (qeX L x) (cX m L a) .app
     else if meth = "extend" then o2 (qeX L x) (cE m L a) .ext
     else none)
   |.Call (.Attribute (.Name x _) meth ap) [] [] cp=>none
   |e=>oif (yv e) ((cE m L e).map .expr))
  |.Return (some e) _=>(cV m L e).map .ret
  |.Return none _=>some .retN
  |.Assign [tg] e _=>(match tg with
   |.Name x _=>o2 (qfv L x) (cV m L e) .set
   |.Tuple es j p=>oif (yv e&&qdJ e) (o2 (cTg L (.Tuple es j p)) (cX m L e) .setT)
   |.Subscript (.Name x _) i _=>oif (yv e&&QB i) (o2 (qeX L x) (o2 (cE m L i) (cX m L e) Prod.mk) λx p=>.setI x p.1 p.2)
   |_=>none)
  |.If c a b _=>o2 (cT m L c) (o2 (cSs m L a) (cSs m L b) Prod.mk) λc p=>.ite c p.1 p.2
  |.For tg it body [] _=>oif (!L.z&&ZL it) (o2 (o2 (cTg L tg) (cI m L (qft tg) it) Prod.mk) (cSs m L body) λp b=>.for_ p.1 p.2 b)
  |.While c body [] _=>oif (!L.z) (o2 (cT m L c) (cSs m L body) .whl)
  |.Raise ex ca _=>some (match ex.bind cN,ca with
   |some t,none=>if (!L.z&&xnB L t.1)=true then (match cEs m L (t.2.1::t.2.2) with |some l=>.rai t.1 l |none=>.stuck) else .stuck
   |_,_=>.stuck)
  | .Try body (h::hs) [] [] _=>oif (!L.z) ((cSs m { L with z:=true } body).map λb=>.try_ b ((cHs L (h::hs)).getD []))
  |_=>none
def cSs:Nat->Ct->List Stmt->Option Ss
 |0,_,_=>none
 | m+1,L,l=>match l with
  |[]=>some .nil
  | st::l=>o2 (cS m L st) (cSs m L l) .cons
end
def z8{e z:E}(h:ZM e=some z):e=z/\∀i,z≠.var i:=by cases e<;>cases h<;>exact{rfl,λi z=>by cases z}
def qil{z:E}(h:∀i,z≠.var i)(cl:Cl)(N:Env):jM z (iR cl z) N=(iR cl z N).th qmP:=by cases z<;>first|rfl|exact absurd rfl (h _)
def qim{z:E}(h:∀i,z≠.var i)(cl:Cl)(N:Env):yP z (iR cl z) N=(iR cl z N).th qmQ:=by cases z<;>first|rfl|exact absurd rfl (h _)
def qin{z:E}(h:∀i,z≠.var i)(cl:Cl)(N:Env):qfu z (iR cl z) N=(iR cl z N).th λx=>match x.1 with
  |.val d=>.ok (.val d)
  |.tmp l=>.ok (.tmp l)
  |_=>.no:=by
 cases z<;>first|rfl|exact absurd rfl (h _)
def qio{z:E}(h:∀i,z≠.var i)(cl:Cl)(N:Env):qcu z (iR cl z) N=(iR cl z N).th λx=>match x.1 with
  |.val d=>.ok (.val d,x.2)
  |.tmp l=>.ok (.own l,x.2)
  |_=>.no:=by
 cases z<;>first|rfl|exact absurd rfl (h _)
abbrev XW:=Addr->List (Str×D)->Prop
def X0:XW:=λ_ _=>False
def Wx{α:Type}(Ξ:XW)(x:R α)(f:α->Prop):Prop:=match x with
 |.ok a=>f a
 |.exc c l=>Ξ c l
 |.no=>False
section
variable{α M:Type}{Ξ Ξ':XW}
def Wx.th{x:R α}{g:α->R M}{f:M->Prop}(h:Wx Ξ (x.th g) f):Wx Ξ x λa=>Wx Ξ (g a) f:=by cases x<;>exact h
def Wx.ht{x:R α}{g:α->R M}{f:M->Prop}(h:Wx Ξ x λa=>Wx Ξ (g a) f):Wx Ξ (x.th g) f:=by cases x<;>exact h
theorem Wx.mono{x:R α}{f g:α->Prop}(h:Wx Ξ x f)(i:∀a,f a->g a):Wx Ξ x g:=by
 cases x with
 |ok a=>exact i a h
 |exc c l=>exact h
 |no=>exact h
theorem Wx.mono2{x:R α}{f g:α->Prop}(h:Wx Ξ x f)(j:∀c l,Ξ c l->Ξ' c l)(i:∀a,f a->g a):Wx Ξ' x g:=by
 cases x with
 |ok a=>exact i a h
 |exc c l=>exact j c l h
 |no=>exact h
theorem Wx.of{x:Option α}{f:α->Prop}(h:Wx Ξ (R.of x) f):∃a,x=some a/\f a:=by
 cases x with
 |none=>exact h.elim
 |some a=>exact⟨a,rfl,h⟩
def Wx.iff{c:Prop}[Decidable c]{x:R α}{f:α->Prop}(h:Wx Ξ (if c then x else .no) f):c/\Wx Ξ x f:=by
 by_cases hc:c
 ·rw[if_pos hc]at h;exact⟨hc,h⟩
 ·rw[if_neg hc]at h;exact h.elim
theorem Wx.nox{x:R α}{f:α->Prop}(h:Wx Ξ (noX x) f):Wx Ξ' x f:=by
 cases x with
 |ok a=>exact h
 |exc c l=>exact h.elim
 |no=>exact h
end
def qnD(U:KC)(G:Hp)(od:Option Addr)(l:List (Str×D)):Prop:=(od=none/\l=[])\/∃dd xs,od=some dd/\G dd=some (xD dd ((l.map (·.1)).zip xs))/\qp U G (l.map (·.2)) xs
def XP(U:KC)(Gv Hv:Hp)(ε:XK):XW:=λC l=>∀od G' H',qq Hv H'->qq Gv G'->qq G' H'->(∀a o,G' a=some o->(∃o',Gv a=some o')\/Hv a=none)->qnD U G' od l->ε (.ref C) od H'
section
variable(U:KC)(K:Frag)(ε:XK)(Gv Hv:Hp)
def tR(f:Env->R (Rv×Env)):TE:=λZ H Q=>∃N G,ER U K Gv Hv G H N Z/\Wx (XP U Gv Hv ε) (f N) λx=>∀v G' H',Po U K Gv Hv Z G H N G' H' x.2->RvR U K Hv H G' H' x.2 Z x.1 v->Q v H'
def tE(f:Env->R (D×Env)):TE:=λZ H Q=>∃N G,ER U K Gv Hv G H N Z/\Wx (XP U Gv Hv ε) (f N) λx=>∀v G' H',Po U K Gv Hv Z G H N G' H' x.2->Rep U G' x.1 v->Q v H'
def tT(f:Env->R (Bool×Env)):TT:=λZ H Q=>∃N G,ER U K Gv Hv G H N Z/\Wx (XP U Gv Hv ε) (f N) λx=>∀G' H',Po U K Gv Hv Z G H N G' H' x.2->Q x.1 H'
def tEs(f:Env->R (List D×Env)):TA:=λZ H Q=>∃N G,ER U K Gv Hv G H N Z/\Wx (XP U Gv Hv ε) (f N) λx=>∀vs G' H',Po U K Gv Hv Z G H N G' H' x.2->qp U G' x.1 vs->Q vs H'
def ArR(G H:Hp):Ar->V->Prop
 |.val d,v=>Rep U G d v
 |.bor ds,v=>∃a xs,v=.ref a/\H a=some (.lst xs)/\qp U G ds xs
 |.scr ds,v=>∃a xs,v=.ref a/\SqL K H a xs/\qp U G ds xs
def JO(G H:Hp):List Ar->List V->Prop
 |[],vs=>vs=[]
 | a::l,vs=>∃v r,vs=v::r/\ArR U K G H a v/\JO G H l r
def tAs(f:Env->R (List Ar×Env)):TA:=λZ H Q=>∃N G,ER U K Gv Hv G H N Z/\Wx (XP U Gv Hv ε) (f N) λx=>∀vs G' H',Po U K Gv Hv Z G H N G' H' x.2->JO U K G' H' x.1 vs->Q vs H'
def tO(f:Env->R (Option Int×Env)):TO:=λZ H Q=>∃N G,ER U K Gv Hv G H N Z/\Wx (XP U Gv Hv ε) (f N) λx=>∀G' H',Po U K Gv Hv Z G H N G' H' x.2->Q x.1 H'
def SrR(G:Hp)(s:Sk×List D)(v:V):Prop:=match s.1 with
 |.str=>∃x,v=.str x/\s.2=qcr x
 |.tup=>∃a xs,v=.ref a/\qp U G s.2 xs/\G a=some (.tup xs)
 |.lst=>∃a xs,v=.ref a/\qp U G s.2 xs/\(G a=some (.lst xs)\/SqL K Hv a xs)
def tL(f:Env->R ((Sk×List D)×Env)):TE:=λZ H Q=>∃N G,ER U K Gv Hv G H N Z/\Wx (XP U Gv Hv ε) (f N) λx=>∀v G' H',Po U K Gv Hv Z G H N G' H' x.2->SrR U K Hv G' x.1 v->Q v H'
def ItR(G₁:Hp)(J:It)(l:List D):Prop:=∀(i:Nat) (G H:Hp),qq G₁ G->qq Hv H->qq G H->
 (∀d,l[i]?=some d->J.go i H/\∀x H',J.yld i H x H'->∃G',qq H H'/\qq G G'/\qq G' H'/\(∀a o,G' a=some o->(∃o',G a=some o')\/H a=none)/\Rep U G' d x)/\(l.length=i->J.stop i H)
def tI(f:Env->R (List D×Env)):TI:=λZ H Q=>∃N G,ER U K Gv Hv G H N Z/\Wx (XP U Gv Hv ε) (f N) λx=>∀J G' H',Po U K Gv Hv Z G H N G' H' x.2->ItR U Hv G' J x.1->Q J H'
def ReR(G' H' H:Hp):Rv->V->Prop
 |.val d,v=>Rep U G' d v
 |.tmp ds,v=>∃a xs,v=.ref a/\H' a=some (.lst xs)/\H a=none/\G' a=none/\qp U G' ds xs
 |_,_=>False
def spF(cl:Str->List Ar->R Rv)(f:Str):Sp:=λvs H Q E=>∃G args,qq G H/\JO U K G H args vs/\
 Wx (XP U G H E) (cl f args) λr=>∀v G' H',qq H H'->qq G G'->qq G' H'->(∀a o,G' a=some o->(∃o',G a=some o')\/H a=none)->ReR U G' H' H r v->Q v H'
end
def qdL:List Str:=["len","list","tuple","int","bool","str","max","min","isinstance","range","enumerate","zip","sorted","sum","reversed","all","any","dict"]
structure Gd(U:KC)(K:Frag)(ε:XK)(k:Nat)(X:Cx)(L:Ct):Prop where
 ps:zN (CX1 X.prog X.w) X ε
 hN:X.N=L.N
 vis:∀x,qky L.sc x=true->Vis X.env.scope x
 loc:∀x,qkz L.sc x=true->L2.Loc X.env.scope x/\(X.fn x=true\/X.env.scope.names.lookup x=some .local)
 glo:∀x,glB L.sc x=true->Gl X x
 cf:∀x,(L.sc.names.lookup x=some .cell\/L.sc.names.lookup x=some .free)->X.env.kindOf x=some .cell\/X.env.kindOf x=some .free
 nd:L.N.Nodup
 calm:X.calm=true
 hK:X.K=K
 room:Room k X.A
 fns:∀f,L.tab.contains f=true->∃fa fd ps,FnOk X.prog X.w X.K X.mg X.base (CX1 X.prog X.w) k fa fd ps (spF U K L.cl f)/\X.mg f=some (.ref fa)/\PySem.W.keepIn X.K (.ref fa)=true/\qR X.K fd ps []
 blt:∀f∈qdL,X.mg f=none
 gl:∀x d,L.gl x=some d->∃v u,X.mg x=some u/\qI v u/\∀G,Rep U G d v
 cls:∀c C,U c=some C->Cls X.K C
 flds:∀c x C,L.cs.fld c x=true->U c=some C->zd X.K C x
 mts:∀c x f,L.cs.mt c x=some f->∃C fa fd ps,U c=some C/\Meth X.K C x fa/\FnOk X.prog X.w X.K X.mg X.base (CX1 X.prog X.w) k fa fd ps (spF U K L.cl f)/\qR X.K fd ps []
 mks:∀f,L.cs.tab.contains f=true->(∀args,L.nw f args=.no)\/∃C fa fd ps sp,Mk X.K C fa/\FnOk X.prog X.w X.K X.mg X.base (CX1 X.prog X.w) (k - 1) fa fd ps sp/\X.mg f=some (.ref C)/\qR X.K fd ps []/\0 < k/\
  ∀vs H Q E,spF U K L.nw f vs H Q E->∀x dx,H x=none->H dx=none->dx≠x->sp (.ref x::vs) (upd (upd H dx (.own x)) x (.ins C dx [])) (λv H2=>v=.non/\Q (.ref x) H2) E
 xsubs:∀C t b,L.cs.xs C t=some b->ExcIs X.K C/\((∃T,X.mg t=some (.ref T)/\PySem.W.kitOne X.K (.ref C) (.ref T)=some b)\/(X.mg t=none/\t = "ValueError"/\PySem.W.kitOne X.K (.ref C) (.type "ValueError")=some b))
 xgs:∀C x,L.cs.xg C x=true->XcG X.K C x
 subs:∀c t b,L.cs.sub c t=some b->∃C T,U c=some C/\(∀H p dx fs,H p=some (HO.ins C dx fs)->TyOf X.K H (.ref p) (.ref C))/\X.mg t=some (.ref T)/\PySem.W.kitOne X.K (.ref C) (.ref T)=some b
def PE.imp{X:Cx}{e:Expr}{t t':TE}(h:PE X e t')(i:∀Z H Q,t Z H Q->t' Z H Q):PE X e t:=λpins s Z H Q I hw=>h pins s Z H Q I (i Z H Q hw)
def PT.imp{X:Cx}{e:Expr}{t t':TT}(h:PT X e t')(i:∀Z H Q,t Z H Q->t' Z H Q):PT X e t:=λpins s Z H Q I hw=>h pins s Z H Q I (i Z H Q hw)
def PA.imp{X:Cx}{es:List Expr}{t t':TA}(h:PA X es t')(i:∀Z H Q,t Z H Q->t' Z H Q):PA X es t:=λpos pins s Z H Q I hw=>h pos pins s Z H Q I (i Z H Q hw)
def PO.imp{X:Cx}{o:Option Expr}{t t':TO}(h:PO X o t')(i:∀Z H Q,t Z H Q->t' Z H Q):PO X o t:=λpins s Z H Q I hw=>h pins s Z H Q I (i Z H Q hw)
def PIf.imp{X:Cx}{es:List Expr}{t t':TT}(h:PIf X es t')(i:∀Z H Q,t Z H Q->t' Z H Q):PIf X es t:=λpins s Z H Q I hw=>h pins s Z H Q I (i Z H Q hw)
def PI.imp{X:Cx}{tg e:Expr}{t t':TI}(h:PI X tg e t')(i:∀Z H Q,t Z H Q->t' Z H Q):PI X tg e t:=λpins s Z H Q I hw=>h pins s Z H Q I (i Z H Q hw)
theorem QD:∀{N:List Str} {x:Str} {i:Nat},qcT N x=some i->N[i]?=some x
 |[],x,i,h=>by cases h
 | y::r,x,i,h=>by
  unfold qcT at h
  by_cases e:y=x
  ·rw[if_pos e]at h;cases h;rw[e];rfl
  ·rw[if_neg e]at h
   cases q:qcT r x with
   |none=>rw[q]at h;cases h
   |some j=>rw[q]at h;cases h;show(y::r)[j+1]?=some x;rw[List.getElem?_cons_succ];exact QD q
def qv{x:Str}(h:qO x=true):(x == ("__debug__" : Str))=false/\(x == ("__classdict__" : Str))=false/\x≠"__name__":=by unfold qO at h;simp![Bool.and_eq_true,Bool.not_eq_true']at h;refine{h.1.1,h.1.2,λz=>?_};rw[z]at h;exact absurd h.2 (2:)
def qgS{sc:Scope}{x:Str}(h:qky sc x=true):Vis sc x:=by
 unfold qky at h;unfold Vis
 split at h
 ·rename_i e;exact .inl e
 ·rename_i e;exact .inr (.inl e)
 ·rename_i e;exact .inr (.inr e)
 ·cases h
def qdM{sc:Scope}{x:Str}(h:qkz sc x=true):L2.Loc sc x:=by
 unfold qkz at h;unfold L2.Loc
 split at h
 ·rename_i e;exact .inl e
 ·rename_i e;exact .inr e
 ·cases h
def qg{e:Expr}{es:List Expr}{env:PySem.Env}(h:qD e=false):starEach (e::es) env=(false,eval e env)::starEach es env:=by cases e<;>first|rfl|(simp[qD]at h)
section
variable{U:KC}{ε:XK}{K:Frag}{Gv Hv:Hp}{k:Nat}{X:Cx}{L:Ct}
def ER.notOwn{G H:Hp}{N:Env}{Z:St}(er:ER U K Gv Hv G H N Z){a:Addr}(h:H a=none):¬ qcq N Z a:=λ⟨i,l,e,z⟩=>by obtain⟨b,xs,z',h1,_⟩:=er.sl i _ e;rw[z]at z';injection z' with z';injection z' with z';injection z' with z';rw[<-z',h]at h1;cases h1
def ER.newList{G H:Hp}{N:Env}{Z:St}(er:ER U K Gv Hv G H N Z){a:Addr}{xs:List V}{l:List D}(h:H a=none)(r:qp U G l xs) :
  Po U K Gv Hv Z G H N G (upd H a (.lst xs)) N/\RvR U K Hv H G (upd H a (.lst xs)) N Z (.tmp l) (.ref a):=
 ⟨Po.room er (qq.upd h),a,xs,rfl,qf,h,qq.none er.base h,qq.none er.sub h,er.notOwn h,r⟩
def qbu(gd:Gd U K ε k X L){x:Str}{i:Nat}(h:qeX L x=some i)(pos:Pos):PE X (.Name x pos) (qhy i):=by unfold qeX at h;obtain⟨hc,h⟩:=qi h;rw[Bool.and_eq_true]at hc;obtain⟨n1,n2,n3⟩:=qv hc.1;exact yG (i:=i) (by rw[gd.hN];exact QD h) (gd.vis x hc.2) n1 n2
theorem QE(gd:Gd U K ε k X L){x:Str}{z:E}(h:qaJ L x=some z)(pos:Pos):(∃i,z=.var i/\PE X (.Name x pos) (qhy i))\/∃d v,z=.con d/\(∀G,Rep U G d v)/\PE X (.Name x pos) (tC v):=by
 unfold qaJ at h;obtain⟨hok,h⟩:=qi h;obtain⟨n1,n2,n3⟩:=qv hok
 cases hi:qcT L.N x with
 |some i=>rw[hi]at h;obtain⟨hv,h⟩:=qi h;cases h;exact .inl ⟨i,rfl,yG (i:=i) (by rw[gd.hN];exact QD hi) (gd.vis x hv) n1 n2⟩
 |none=>rw[hi]at h;obtain⟨hg,h⟩:=qi h;obtain⟨d,hd,rfl⟩:=qm h;obtain⟨v,u,e1,e2,e3⟩:=gd.gl x d hd;exact .inr ⟨d,v,rfl,e3,Ja (gd.glo x hg) e1 e2 n1⟩
def qfx(gd:Gd U K ε k X L){x:Str}{z:E}(h:qaJ L x=some z)(pos:Pos):PE X (.Name x pos) (tR U K ε Gv Hv (iR L.k z)):=by
 rcases QE gd h pos with ⟨i,rfl,P⟩|⟨d,v,rfl,e3,P⟩
 ·refine PE.imp P λZ H Q hq1=>?_;obtain⟨N,G,er,h⟩:=hq1;have h:=Wx.th (x:=slR N i) h;unfold slR at h
  cases q:N[i]? with
  |none=>rw[q]at h;exact h.elim
  |some s=>
   rw[q]at h;have w:=er.sl i s q
   cases s with
   |no=>exact h.elim
   |val d=>obtain⟨v,z,r⟩:=w;exact{v,z,h v G H (Po.refl er) r}
   |own l=>obtain⟨a,xs,z,r1,r2,r3,r4⟩:=w;exact{_,z,h _ G H (Po.refl er) ⟨a,xs,rfl,r1,r4⟩}
   |bor l=>obtain⟨a,xs,z,r1,r4⟩:=w;exact{_,z,h _ G H (Po.refl er) {a,xs,rfl,er.base _ _ r1,r4}}
   |scr l=>obtain⟨a,xs,z,r1,r4⟩:=w;exact{_,z,h _ G H (Po.refl er) {a,xs,rfl,er.base.seq r1,r4}}
 ·exact PE.imp P λZ H Q ⟨N,G,er,h⟩=>h v G H (Po.refl er) (e3 G)
def qbv(gd:Gd U K ε k X L){x:Str}{z:E}(h:qaJ L x=some z)(pos:Pos):PE X (.Name x pos) (tE U K ε Gv Hv (jM z (iR L.k z))):=by
 rcases QE gd h pos with ⟨i,rfl,P⟩|⟨d,v,rfl,e3,P⟩
 ·refine PE.imp P λZ H Q hq1=>?_;obtain⟨N,G,er,h⟩:=hq1;have h:Wx _ (slE N i) _:=h;unfold slE at h
  cases q:N[i]? with
  |none=>rw[q]at h;exact h.elim
  |some s=>
   rw[q]at h;have w:=er.sl i s q
   cases s with
   |val d=>obtain⟨v,z,r⟩:=w;exact{v,z,h v G H (Po.refl er) r}
   |own l=>obtain⟨a,xs,z,p,r⟩:=er.froze q;exact{_,z,h _ _ H p r}
   |_=>exact h.elim
 ·exact PE.imp P λZ H Q ⟨N,G,er,h⟩=>h v G H (Po.refl er) (e3 G)
end
section
variable{U:KC}{ε:XK}{Ξ:XW}{K:Frag}{Gv Hv Hb Hc G H:Hp}{N:Env}{Z:St}{r s:Rv}{x y:V}
theorem RvR.int{i:Int}(h:RvR U K Hv Hb G H N Z r x)(e:r.int?=some i):x=.int i:=by
 cases r with
 |val d=>cases d<;>simp![Rv.int?]at e<;>first|(cases e;simpa only[RvR,Rep] using h)|cases e
 |_=>cases e
theorem RvR.str{i:Str}(h:RvR U K Hv Hb G H N Z r x)(e:r.str?=some i):x=.str i:=by
 cases r with
 |val d=>cases d<;>simp![Rv.str?]at e<;>first|(cases e;simpa only[RvR,Rep] using h)|cases e
 |_=>cases e
theorem RvR.bl{i:Bool}(h:RvR U K Hv Hb G H N Z r x)(e:r.bl?=some i):x=.bl i:=by
 cases r with
 |val d=>cases d<;>simp![Rv.bl?]at e<;>first|(cases e;simpa only[RvR,Rep] using h)|cases e
 |_=>cases e
theorem RvR.tup{l:List D}(h:RvR U K Hv Hb G H N Z r x)(e:r.tup?=some l):∃a xs,x=.ref a/\G a=some (.tup xs)/\qp U G l xs:=by
 cases r with
 |val d=>cases d<;>simp![Rv.tup?]at e<;>first|(cases e;simpa only[RvR,Rep] using h)|cases e
 |_=>cases e
theorem RvR.seq(er:ER U K Gv Hv G H N Z){l:List D}(h:RvR U K Hv Hb G H N Z r x)(e:seqD r=some l):∃a xs,x=.ref a/\(SqL K H a xs\/SqT K H a xs)/\qp U G l xs:=by
 unfold seqD at e
 cases q:r.tup? with
 | some l'=>rw[q]at e;cases e;obtain⟨a,xs,e1,e2,e3⟩:=h.tup q;exact{a,xs,e1,.inr (SqT.of (er.sub _ _ e2)),e3}
 |none=>rw[q]at e;obtain⟨a,xs,e1,e2,e3⟩:=h.list er e;exact{a,xs,e1,.inl e2,e3}
theorem RvR.non(h:RvR U K Hv Hb G H N Z r x):decide (x=.non)=r.non?:=by
 cases r with
 |val d=>
  cases d<;>simp![RvR,Rep]at h<;>simp![Rv.non?]
  ·subst h;rfl
  ·subst h;rfl
  ·subst h;rfl
  ·subst h;rfl
  ·obtain⟨a,xs,rfl,_⟩:=h;rfl
  ·obtain⟨a,xs,rfl,_⟩:=h;rfl
  ·obtain⟨p,dx,C,xs,_,rfl,_⟩:=h;rfl
  ·obtain⟨p,od,xs,rfl,_⟩:=h;rfl
  ·obtain⟨p,xs,rfl,_⟩:=h;rfl
 |tmp l=>obtain⟨a,xs,rfl,_⟩:=h;rfl
 |cell l=>obtain⟨a,xs,rfl,_⟩:=h;rfl
 |scr l=>obtain⟨a,xs,rfl,_⟩:=h;rfl
mutual
theorem Rep.dv(sub:qq G H):∀{d:D} {v:V} {p:PyData},Rep U G d v->toP d=some p->DV K H p v
 |.non,v,p,h,e=>by simp![toP]at e;cases e;simp![Rep]at h;simp![DV];exact h
 |.bl b,v,p,h,e=>by simp![toP]at e;cases e;simp![Rep]at h;simp![DV];exact h
 |.int b,v,p,h,e=>by simp![toP]at e;cases e;simp![Rep]at h;simp![DV];exact h
 |.str b,v,p,h,e=>by simp![toP]at e;cases e;simp![Rep]at h;simp![DV];exact h
 |.lst l,v,p,h,e=>by simp![toP]at e;obtain⟨ps,e1,rfl⟩:=Option.map_eq_some_iff.mp e;simp![Rep]at h;obtain⟨a,xs,rfl,h1,h2⟩:=h;simp![DV];exact{a,xs,rfl,SqL.of (sub _ _ h1),qp.dvs sub h2 e1}
 |.tup l,v,p,h,e=>by simp![toP]at e;obtain⟨ps,e1,rfl⟩:=Option.map_eq_some_iff.mp e;simp![Rep]at h;obtain⟨a,xs,rfl,h1,h2⟩:=h;simp![DV];exact{a,xs,rfl,SqT.of (sub _ _ h1),qp.dvs sub h2 e1}
 |.ins c ns l,v,p,h,e=>by simp![toP]at e;cases e
 |.exc c ns l,v,p,h,e=>by simp![toP]at e;cases e
 |.dct ns l,v,p,h,e=>by simp![toP]at e;cases e
theorem qp.dvs(sub:qq G H):∀{ds:List D} {vs:List V} {ps:List PyData},qp U G ds vs->qcS ds=some ps->DVs K H ps vs
 |[],vs,ps,h,e=>by simp![qcS]at e;cases e;simp![qp]at h;simp![DVs];exact h
 | d::ds,vs,ps,h,e=>by simp![qcS]at e;obtain⟨p,e1,e2⟩:=Option.bind_eq_some_iff.mp e;obtain⟨qs,e3,rfl⟩:=Option.map_eq_some_iff.mp e2;simp![qp]at h;obtain⟨x,r,rfl,h1,h2⟩:=h;simp![DVs];exact{x,r,rfl,Rep.dv sub h1 e1,qp.dvs sub h2 e3}
end
theorem RvR.dv(er:ER U K Gv Hv G H N Z){p:PyData}(h:RvR U K Hv Hb G H N Z r x)(e:toP r.data=some p):DV K H p x:=by
 have lst:∀{l:List D} {a:Addr} {xs:List V},SqL K H a xs->qp U G l xs->toP (.lst l)=some p->DV K H p (.ref a):=λ{l a xs} hq hr e=>by simp![toP]at e;obtain⟨ps,e1,rfl⟩:=Option.map_eq_some_iff.mp e;simp![DV];exact{a,xs,rfl,hq,qp.dvs er.sub hr e1}
 cases r with
 |val d=>exact Rep.dv er.sub h e
 |tmp l=>obtain⟨a,xs,rfl,h1,_,_,_,_,h6⟩:=h;exact lst (SqL.of h1) h6 e
 |cell l=>obtain⟨a,xs,rfl,h1,h6⟩:=h;exact lst (SqL.of h1) h6 e
 |scr l=>obtain⟨a,xs,rfl,h1,h6⟩:=h;exact lst h1 h6 e
def qbw{d:D}{v:V}(h:Rep U G d v)(f:JD d=true):v=flV d/\JX v=true:=by
 cases d<;>simp![JD]at f<;>try (exact absurd f (2:))
 all_goals (simp![Rep]at h;subst h;exact⟨rfl,rfl⟩)
theorem ZO:∀{l:List D} {vs:List V},qp U G l vs->l.all JD=true->vs=l.map flV/\vs.all JX=true
 |[],vs,h,f=>by simp![qp]at h;subst h;exact⟨rfl,rfl⟩
 | d::l,vs,h,f=>by simp![qp]at h;obtain⟨x,r,rfl,h1,h2⟩:=h;simp![List.all_cons,Bool.and_eq_true]at f;obtain⟨e1,e2⟩:=qbw h1 f.1;obtain⟨e3,e4⟩:=ZO h2 f.2;subst e1 e3;exact{rfl,by simp![List.all_cons,e2,e4,Bool.and_self]}
theorem qip(h:RvR U K Hv Hb G H N Z r x)(f:JD r.data=true):x=flV r.data/\JX x=true:=by
 cases r with
 |val d=>exact qbw h f
 |_=>simp![Rv.data,JD]at f;exact absurd f (2:)
theorem qaK{f:Int->Int->R Rv}{F:Rv->Prop}(h:Wx Ξ (int2 r s f) F):∃i j,r.int?=some i/\s.int?=some j/\Wx Ξ (f i j) F:=by
 unfold int2 at h
 cases e1:r.int? with
 |none=>rw[e1]at h;exact h.elim
 |some i=>
  cases e2:s.int? with
  |none=>rw[e1,e2]at h;exact h.elim
  |some j=>rw[e1,e2]at h;exact⟨i,j,rfl,rfl,h⟩
def qfy{l:List D}{xs:List V}{i:Int}{d:D}(h:qp U G l xs)(e:atI l i=some d):∃v,atI xs i=some v/\Rep U G d v:=by unfold atI at e ⊢;rw[<-h.len];obtain⟨j,e1,e2⟩:=Option.bind_eq_some_iff.mp e;obtain⟨v,e3,e4⟩:=h.atD e2;exact{v,by rw[e1];exact e3,e4}
def qfz{l:List D}{xs:List V}{lo hi:Option Int}(h:qp U G l xs):qp U G (qaI l lo hi) (qjB xs lo hi):=by unfold qaI qjB;rw[h.len];exact(h.drop _).take _
end
section
variable(U:KC)(K:Frag)(Ξ:XW)(Gv Hv:Hp)
def qmS(op:Operator):R2:=λx y H Q=>∃(N:Env) (Z:St) (G Hb Hc:Hp) (r s:Rv),ER U K Gv Hv G H N Z/\RvR U K Hv Hb G H N Z r x/\RvR U K Hv Hc G H N Z s y/\
 Wx Ξ (JN op r s) λz=>∀v G' H',Po U K Gv Hv Z G H N G' H' N->RvR U K Hv H G' H' N Z z v->Q v H'
def qnE(op:CmpOp):R2:=λx y H Q=>∃(N:Env) (Z:St) (G Hb Hc:Hp) (r s:Rv) (b:Bool),ER U K Gv Hv G H N Z/\RvR U K Hv Hb G H N Z r x/\RvR U K Hv Hc G H N Z s y/\J4 op r s=some b/\Q (.bl b) H
def qpq:R2:=λx y H Q=>∃(N:Env) (Z:St) (G Hb Hc:Hp) (r s:Rv),ER U K Gv Hv G H N Z/\RvR U K Hv Hb G H N Z r x/\RvR U K Hv Hc G H N Z s y/\
 Wx Ξ (idxD r s) λz=>∀v G' H',Po U K Gv Hv Z G H N G' H' N->RvR U K Hv H G' H' N Z z v->Q v H'
def qpr:V->Option Int->Option Int->Hp->VK->Prop:=λx lo hi H Q=>∃(N:Env) (Z:St) (G Hb:Hp) (r:Rv),ER U K Gv Hv G H N Z/\RvR U K Hv Hb G H N Z r x/\
 Wx Ξ (sliceD r lo hi) λz=>∀v G' H',Po U K Gv Hv Z G H N G' H' N->RvR U K Hv H G' H' N Z z v->Q v H'
def rC1(f:Rv->R Rv):List V->Hp->VK->Prop:=λxs H Q=>∃(N:Env) (Z:St) (G Hb:Hp) (r:Rv) (x:V),xs=[x]/\ER U K Gv Hv G H N Z/\RvR U K Hv Hb G H N Z r x/\
 Wx Ξ (f r) λz=>∀v G' H',Po U K Gv Hv Z G H N G' H' N->RvR U K Hv H G' H' N Z z v->Q v H'
def rC2(f:Rv->Rv->R Rv):List V->Hp->VK->Prop:=λxs H Q=>∃(N:Env) (Z:St) (G Hb Hc:Hp) (r s:Rv) (x y:V),xs=[x,y]/\ER U K Gv Hv G H N Z/\RvR U K Hv Hb G H N Z r x/\RvR U K Hv Hc G H N Z s y/\
 Wx Ξ (f r s) λz=>∀v G' H',Po U K Gv Hv Z G H N G' H' N->RvR U K Hv H G' H' N Z z v->Q v H'
end
section
variable{U:KC}{ε:XK}{Ξ:XW}{K:Frag}{Gv Hv:Hp}{k:Nat}{X:Cx}{L:Ct}
def QF(op:Operator){f:Int->Int->R Rv}{C:Int->Int->Prop}{g:Int->Int->Int}(hop:OpR X (binaryOp op) (rI C λi j=>.int (g i j)))(hf:∀r s,JN op r s=int2 r s f)(hw:∀i j F,Wx Ξ (f i j) F->C i j/\F (.val (.int (g i j)))) :
  OpR X (binaryOp op) (qmS U K Ξ Gv Hv op):=by
 rintro pins st Z' H x y v u Q I rx ry ⟨N,Z,G,Hb,Hc,r,s,er,h1,h2,h⟩;rw[hf]at h;obtain⟨i,j,e1,e2,h⟩:=qaK h;obtain⟨hc,h⟩:=hw i j _ h;exact hop pins st Z' H x y v u Q I rx ry ⟨i,j,h1.int e1,h2.int e2,hc,h _ G H (Po.refl er) (by simp![RvR,Rep])⟩
def qnF{f:Value->Value->Sem Value}{g:Int->Int->V}(h:OpR X f (rI0 g)):OpR X f (rI (λ_ _=>True) g):=λpins st Z' H x y v u Q I rx ry ⟨i,j,e1,e2,_,q⟩=>h pins st Z' H x y v u Q I rx ry ⟨i,j,e1,e2,q⟩
theorem qkD:OpR X (binaryOp .Add) (qmS U K Ξ Gv Hv .Add):=by
 rintro pins st Z' H x y v u Q I rx ry ⟨N,Z,G,Hb,Hc,r,s,er,h1,h2,h⟩;have h:Wx Ξ (qnv r s) _:=h;unfold qnv at h
 have cat:Wx Ξ (match r.plain?,s.plain? with
   |some l,some m=>if l.length+m.length<=sizeLine then R.ok (Rv.tmp (l++m)) else .no
   |_,_=>.no) (λz=>∀v G' H',Po U K Gv Hv Z G H N G' H' N->RvR U K Hv H G' H' N Z z v->Q v H')->wpAny (model X.prog X.w) X.A (binaryOp .Add v u) (EP X pins Z' Q) X.xe st:=λh=>by
  cases e1:r.plain? with
  |none=>rw[e1]at h;exact h.elim
  |some l=>
   cases e2:s.plain? with
   |none=>rw[e1,e2]at h;exact h.elim
   |some m=>rw[e1,e2]at h;obtain⟨hz,h⟩:=Wx.iff h;obtain⟨a,xs,q1,q2,q3⟩:=h1.plain er e1;obtain⟨b,ys,p1,p2,p3⟩:=h2.plain er e2;refine qkd pins st Z' H x y v u Q I rx ry ⟨a,b,xs,ys,q1,p1,q2,p2,by rw[<-q3.len,<-p3.len];exact hz,λp hp=>?_⟩;obtain⟨z1,z2⟩:=er.newList hp (q3.app p3);exact h _ _ _ z1 z2
 have txt:Wx Ξ (match r.str?,s.str? with
   |some a,some b=>if a.length+b.length<=sizeLine then R.ok (Rv.val (.str (a++b))) else .no
   |_,_=>match r.plain?,s.plain? with
    |some l,some m=>if l.length+m.length<=sizeLine then R.ok (Rv.tmp (l++m)) else .no
    |_,_=>.no) (λz=>∀v G' H',Po U K Gv Hv Z G H N G' H' N->RvR U K Hv H G' H' N Z z v->Q v H')->wpAny (model X.prog X.w) X.A (binaryOp .Add v u) (EP X pins Z' Q) X.xe st:=λh=>by
  cases e1:r.str? with
  |none=>rw[e1]at h;exact cat h
  |some l=>
   cases e2:s.str? with
   |none=>rw[e1,e2]at h;exact cat h
   |some m=>rw[e1,e2]at h;obtain⟨hz,h⟩:=Wx.iff h;exact qce pins st Z' H x y v u Q I rx ry ⟨l,m,h1.str e1,h2.str e2,hz,h _ G H (Po.refl er) (by simp![RvR,Rep])⟩
 cases e1:r.int? with
 |none=>rw[e1]at h;exact txt h
 |some i=>
  cases e2:s.int? with
  |none=>rw[e1,e2]at h;exact txt h
  |some j=>rw[e1,e2]at h;exact qjX pins st Z' H x y v u Q I rx ry ⟨i,j,h1.int e1,h2.int e2,h _ G H (Po.refl er) (by simp![RvR,Rep])⟩
def qiq{i j:Int}(h:ZJ i j=true):qmM i j:=by unfold ZJ at h;simp![Bool.or_eq_true,Bool.and_eq_true,decide_eq_true_eq]at h;exact h
theorem qkE:OpR X (binaryOp .Mult) (qmS U K Ξ Gv Hv .Mult):=by
 rintro pins st Z' H x y v u Q I rx ry ⟨N,Z,G,Hb,Hc,r,s,er,h1,h2,h⟩;have h:Wx Ξ (qnw r s) _:=h;unfold qnw at h
 cases e2:s.int? with
 |none=>cases e1:r.int?<;>rw[e1,e2]at h<;>exact h.elim
 |some j=>
  cases e1:r.int? with
  |some i=>rw[e1,e2]at h;obtain⟨hm,h⟩:=Wx.iff h;exact qjZ pins st Z' H x y v u Q I rx ry ⟨i,j,h1.int e1,h2.int e2,qiq hm,h _ G H (Po.refl er) (by simp![RvR,Rep])⟩
  |none=>rw[e1,e2]at h;exact h.elim
theorem qkF(op:Operator):OpR X (binaryOp op) (qmS U K Ξ Gv Hv op):=by
 cases op with
 |Add=>exact qkD
 |Sub=>exact QF .Sub (qnF qjY) (λ_ _=>rfl) λi j F h=>⟨trivial,h⟩
 |Mult=>exact qkE
 |FloorDiv=>exact QF .FloorDiv qhE (λ_ _=>rfl) λi j F h=>{(Wx.iff h).1,(Wx.iff h).2}
 |Mod=>exact QF .Mod qj0 (λ_ _=>rfl) λi j F h=>{(Wx.iff h).1,(Wx.iff h).2}
 |Pow=>exact QF .Pow qj1 (λ_ _=>rfl) λi j F h=>{(Wx.iff h).1,(Wx.iff h).2}
 |_=>exactλ_ _ _ _ _ _ _ _ _ _ _ _ h=>Exists.elim h λ_ h=>Exists.elim h λ_ h=>Exists.elim h λ_ h=>Exists.elim h λ_ h=>Exists.elim h λ_ h=>Exists.elim h λ_ h=>Exists.elim h λ_ h=>h.2.2.2.elim
theorem QG(op:CmpOp){g:Int->Int->Bool}(hop:OpR X (compareOp op) (rI0 λi j=>.bl (g i j)))(hf:∀r s,J4 op r s=qjC r s g):OpR X (compareOp op) (qnE U K Gv Hv op):=by
 rintro pins st Z' H x y v u Q I rx ry ⟨N,Z,G,Hb,Hc,r,s,b,er,h1,h2,h,q⟩;rw[hf]at h;unfold qjC at h
 cases e1:r.int? with
 |none=>rw[e1]at h;cases h
 |some i=>
  cases e2:s.int? with
  |none=>rw[e1,e2]at h;cases h
  |some j=>rw[e1,e2]at h;cases h;exact hop pins st Z' H x y v u Q I rx ry ⟨i,j,h1.int e1,h2.int e2,q⟩
theorem qgT{x y:D}{b:Bool}(h:eqD x y=some b):∃p q,toP x=some p/\toP y=some q/\SeqAt.shaped p=true/\SeqAt.shaped q=true/\b=PyData.eqv p q:=by
 unfold eqD at h
 cases e1:toP x with
 |none=>rw[e1]at h;cases h
 |some p=>
  cases e2:toP y with
  |none=>rw[e1,e2]at h;cases h
  |some q=>
   rw[e1,e2]at h;dsimp only at h
   by_cases hs:(SeqAt.shaped p&&SeqAt.shaped q)=true
   ·rw[if_pos hs]at h;cases h;rw[Bool.and_eq_true]at hs;exact⟨p,q,rfl,rfl,hs.1,hs.2,rfl⟩
   ·rw[if_neg hs]at h;cases h
theorem qgU(gd:Gd U K ε k X L)(neg:Bool)(op:CmpOp)(hs:OpR X (compareOp op) (λx y H Q=>∃i j,x=.str i/\y=.str j/\Q (.bl (if neg then !qij i j else qij i j)) H))(hl:OpR X (compareOp op) (rIn X.K neg))
  (hf:∀r s,J4 op r s=(qeY r s).map λb=>if neg then !b else b):OpR X (compareOp op) (qnE U K Gv Hv op):=by
 rintro pins st Z' H x y v u Q I rx ry ⟨N,Z,G,Hb,Hc,r,s,b,er,h1,h2,h,q⟩;rw[hf]at h;obtain⟨b',hb',rfl⟩:=Option.map_eq_some_iff.mp h
 replace h:=hb'
 unfold qeY at h
 have sq:(seqD s).bind (inD r.data)=some b'->wpAny (model X.prog X.w) X.A (compareOp op v u) (EP X pins Z' Q) X.xe st:=λh=>by
  obtain⟨l,e1,e2⟩:=Option.bind_eq_some_iff.mp h;unfold inD at e2
  by_cases hc:(JD r.data&&l.all JD)=true
  ·rw[if_pos hc]at e2;cases e2;rw[Bool.and_eq_true]at hc;obtain⟨a,xs,p1,p2,p3⟩:=h2.seq er e1;obtain⟨f1,f2⟩:=qip h1 hc.1;obtain⟨f3,f4⟩:=ZO p3 hc.2;refine hl pins st Z' H x y v u Q I rx ry ⟨a,xs,p1,by rw[gd.hK];exact p2,f2,f4,?_⟩;rw[f1,f3];exact q
  ·rw[if_neg hc]at e2;cases e2
 cases e1:r.str? with
 |none=>rw[e1]at h;exact sq h
 |some i=>
  cases e2:s.str? with
  |none=>rw[e1,e2]at h;exact sq h
  |some j=>rw[e1,e2]at h;cases h;exact hs pins st Z' H x y v u Q I rx ry ⟨i,j,h1.str e1,h2.str e2,q⟩
theorem qgV(gd:Gd U K ε k X L)(op:CmpOp):OpR X (compareOp op) (qnE U K Gv Hv op):=by
 have hu:X.A.units+64 < cLine:=by have:=gd.room.un;lia
 cases op with
 |Eq=>rintro pins st Z' H x y v u Q I rx ry ⟨N,Z,G,Hb,Hc,r,s,b,er,h1,h2,h,q⟩;obtain⟨p,p',e1,e2,e3,e4,rfl⟩:=qgT h;exact qkn hu pins st Z' H x y v u Q I rx ry ⟨p,p',by rw[gd.hK];exact h1.dv er e1,by rw[gd.hK];exact h2.dv er e2,e3,e4,q⟩
 |NotEq=>rintro pins st Z' H x y v u Q I rx ry ⟨N,Z,G,Hb,Hc,r,s,b,er,h1,h2,h,q⟩;obtain⟨b',h',rfl⟩:=Option.map_eq_some_iff.mp h;obtain⟨p,p',e1,e2,e3,e4,rfl⟩:=qgT h';exact qko hu pins st Z' H x y v u Q I rx ry ⟨p,p',by rw[gd.hK];exact h1.dv er e1,by rw[gd.hK];exact h2.dv er e2,e3,e4,q⟩
 |Lt=>exact QG .Lt qne λ_ _=>rfl
 |LtE=>exact QG .LtE qnf λ_ _=>rfl
 |Gt=>exact QG .Gt qng λ_ _=>rfl
 |GtE=>exact QG .GtE qnh λ_ _=>rfl
 |Is=>
  rintro pins st Z' H x y v u Q I rx ry ⟨N,Z,G,Hb,Hc,r,s,b,er,h1,h2,h,q⟩;have h:(if s.non?=true then some r.non? else none)=some b:=h
  by_cases hn:s.non?=true
  ·rw[if_pos hn]at h;cases h;refine qj3 pins st Z' H x y v u Q I rx ry ⟨of_decide_eq_true (h2.non.trans hn),?_⟩;rw[h1.non];exact q
  ·rw[if_neg hn]at h;cases h
 |IsNot=>
  rintro pins st Z' H x y v u Q I rx ry ⟨N,Z,G,Hb,Hc,r,s,b,er,h1,h2,h,q⟩;have h:(if s.non?=true then some (!r.non?) else none)=some b:=h
  by_cases hn:s.non?=true
  ·rw[if_pos hn]at h;cases h;refine qhF pins st Z' H x y v u Q I rx ry ⟨of_decide_eq_true (h2.non.trans hn),?_⟩;rw[h1.non];exact q
  ·rw[if_neg hn]at h;cases h
 |In=>exact qgU gd false .In qc3 qdb λr s=>by show qeY r s=_;cases qeY r s<;>rfl
 |NotIn=>exact qgU gd true .NotIn Zm Zw λr s=>rfl
theorem QH{G:Hp}{x:Str}{d:D}:∀{ns:List Str} {ds:List D} {xs:List V},qp U G ds xs->(ns.zip ds).lookup x=some d->∃v,(ns.zip xs).lookup x=some v/\Rep U G d v
 |[],_,_,_,h=>by simp at h
 | n::ns,[],_,_,h=>by simp at h
 | n::ns,e::ds,xs,r,h=>by
  simp![qp]at r;obtain⟨v,us,rfl,r1,r2⟩:=r;rw[List.zip_cons_cons,List.lookup_cons]at h
  cases hx:(x == n) with
  |true=>rw[hx]at h;cases h;exact{v,by rw[List.zip_cons_cons,List.lookup_cons,hx],r1}
  |false=>rw[hx]at h;obtain⟨u,z1,z2⟩:=QH r2 h;exact{u,by rw[List.zip_cons_cons,List.lookup_cons,hx];exact z1,z2}
theorem qkG(gd:Gd U K ε k X L):IxR X (qpq U K Ξ Gv Hv):=by
 rintro value slice pins st Z' H x y v u Q I rx ry ⟨N,Z,G,Hb,Hc,r,s,er,h1,h2,h⟩ hs;unfold idxD at h
 cases e1:s.int? with
 |none=>rw[e1]at h;exact False.elim h
 |some i=>
  rw[e1]at h;dsimp only at h
  cases e2:r.str? with
  |some z=>
   rw[e2]at h;dsimp only at h;obtain⟨hz,h⟩:=Wx.iff h
   cases e3:atI z.cps.toList i with
   |none=>rw[e3]at h;exact h.elim
   |some c=>rw[e3]at h;exact qj9 value slice pins st Z' H x y v u Q I rx ry ⟨z,i,c,h1.str e2,h2.int e1,hz,e3,h _ G H (Po.refl er) (by simp![RvR,Rep])⟩ hs
  |none=>
   rw[e2]at h;dsimp only at h
   cases e3:seqD r with
   |none=>rw[e3]at h;exact h.elim
   |some l=>
    rw[e3]at h;dsimp only at h
    cases e4:atI l i with
    |none=>rw[e4]at h;exact h.elim
    |some d=>
     rw[e4]at h;obtain⟨a,xs,p1,p2,p3⟩:=h1.seq er e3;obtain⟨w,p4,p5⟩:=qfy p3 e4;rcases p2 with p2|p2
     ·exact qhR value slice pins st Z' H x y v u Q I rx ry ⟨a,xs,i,w,p1,h2.int e1,by rw[gd.hK];exact p2,p4,h w G H (Po.refl er) p5⟩ hs
     ·exact qj8 value slice pins st Z' H x y v u Q I rx ry ⟨a,xs,i,w,p1,h2.int e1,by rw[gd.hK];exact p2,p4,h w G H (Po.refl er) p5⟩ hs
theorem qkH(gd:Gd U K ε k X L):L2.SlR X (qpr U K Ξ Gv Hv):=by
 rintro pins st Z' H x v vl vu lo hi sl Q I rx hs pl pu ⟨N,Z,G,Hb,r,er,h1,h⟩;unfold sliceD at h
 cases e2:r.str? with
 |some z=>rw[e2]at h;dsimp only at h;obtain⟨hz,h⟩:=Wx.iff h;exact qkr pins st Z' H x v vl vu lo hi sl Q I rx hs pl pu ⟨z,h1.str e2,hz,h _ G H (Po.refl er) (by simp![RvR,Rep])⟩
 |none=>rw[e2]at h;dsimp only at h;obtain⟨l,e1,h⟩:=Wx.of (Wx.th h);obtain⟨a,xs,p1,p2,p3⟩:=h1.list er e1;refine qhS pins st Z' H x v vl vu lo hi sl Q I rx hs pl pu ⟨a,xs,p1,by rw[gd.hK];exact p2,λp hp=>?_⟩;obtain⟨z1,z2⟩:=er.newList hp (qfz (lo:=lo) (hi:=hi) p3);exact h _ _ _ z1 z2
theorem qkI(gd:Gd U K ε k X L):zc X (.builtin "len") (rC1 U K Ξ Gv Hv lenD):=by
 rintro pins st Z' H xs us Q I rs ⟨N,Z,G,Hb,r,x,hx,er,h1,h⟩;unfold lenD at h
 cases e2:r.str? with
 |some z=>rw[e2]at h;dsimp only at h;obtain⟨hz,h⟩:=Wx.iff h;exact Zx pins st Z' H xs us Q I rs ⟨z,by rw[hx,h1.str e2],hz,h _ G H (Po.refl er) (by simp![RvR,Rep])⟩
 |none=>
  rw[e2]at h;dsimp only at h
  cases e3:seqD r with
  |none=>rw[e3]at h;exact h.elim
  |some l=>rw[e3]at h;obtain⟨a,ys,p1,p2,p3⟩:=h1.seq er e3;refine Jp pins st Z' H xs us Q I rs ⟨a,ys,by rw[hx,p1],by rw[gd.hK];exact p2,?_⟩;rw[<-p3.len];exact h _ G H (Po.refl er) (by simp![RvR,Rep])
theorem qir(gd:Gd U K ε k X L):zc X (.type "list") (rC1 U K Ξ Gv Hv listD):=by
 rintro pins st Z' H xs us Q I rs ⟨N,Z,G,Hb,r,x,hx,er,h1,h⟩;unfold listD at h
 cases e3:seqD r with
 |none=>rw[e3]at h;exact h.elim
 |some l=>rw[e3]at h;obtain⟨a,ys,p1,p2,p3⟩:=h1.seq er e3;refine jO pins st Z' H xs us Q I rs ⟨a,ys,by rw[hx,p1],by rw[gd.hK];exact p2,λp hp=>?_⟩;obtain⟨z1,z2⟩:=er.newList hp p3;exact h _ _ _ z1 z2
def qcv(a b c:Int×Int)(h1:ZK a b=true)(h2:ZK b c=true):ZK a c=true:=by
 simp![ZK,Bool.or_eq_true,Bool.and_eq_true,decide_eq_true_eq]at *
 lia
def qcw(a b:Int×Int):(ZK a b||ZK b a)=true:=by
 simp![ZK,Bool.or_eq_true,Bool.and_eq_true,decide_eq_true_eq]at *
 lia
def qfA{ps qs:List (Int×Int)}(p:qs.Perm ps)(s:qs.Pairwise qdq):yN ps=qs:=by
 have s1:(yN ps).Pairwise λa b=>ZK a b=true:=List.pairwise_mergeSort qcv qcw ps
 have s2:qs.Pairwise λa b=>ZK a b=true:=s.imp λ{a b} h=>by simp![ZK,Bool.or_eq_true,Bool.and_eq_true,decide_eq_true_eq];exact h
 refine List.Perm.eq_of_pairwise (λa b _ _ h1 h2=>?_) s1 s2 ((List.mergeSort_perm ps ZK).trans p.symm);simp![ZK,Bool.or_eq_true,Bool.and_eq_true,decide_eq_true_eq]at h1 h2;exact Prod.ext (1:) (1:)
theorem qbx{G:Hp}:∀{l:List D} {xs:List V} {ps:List (Int×Int)},qp U G l xs->qgM l=some ps->Paired (λx (p:Int×Int)=>∃a,x=V.ref a/\G a=some (.tup [.int p.1,.int p.2])) xs ps
 |[],xs,ps,r,h=>by simp![qp]at r;subst r;cases h;exact .nil
 | d::l,xs,ps,r,h=>by
  simp![qp]at r;obtain⟨x,us,rfl,r1,r2⟩:=r;unfold qgM at h
  cases e1:prD d with
  |none=>rw[e1]at h;cases h
  |some p=>
   cases e2:qgM l with
   |none=>rw[e1,e2]at h;cases h
   |some qs=>
    rw[e1,e2]at h;cases h;refine .cons ?_ (qbx r2 e2);unfold prD at e1
    split at e1
    ·cases e1;simp![Rep,qp]at r1;obtain⟨a,ys,rfl,h1,x1,z1,rfl,rfl,x2,z2,rfl,rfl,rfl⟩:=r1;exact⟨a,rfl,h1⟩
    ·cases e1
theorem Paired.memL{α M:Type}{R:α->M->Prop}:∀{l:List α} {m:List M},Paired R l m->∀a∈l,∃b,R a b
 |_,_,.nil,a,h=>by cases h
 |_,_,.cons r rs,a,h=>by
  cases h with
  |head=>exact{_,r}
  |tail _ h=>exact Paired.memL rs a h
theorem qcx{G H:Hp}(sub:qq G H){xs:List V}(f:∀x∈xs,∃p:Int×Int,∃a,x=V.ref a/\G a=some (.tup [.int p.1,.int p.2])){ys:List V}{qs:List (Int×Int)}(hm:∀y∈ys,y∈xs)(h:Paired (P2 K H) ys qs):qp U G (qs.map pD) ys:=by
 induction h with
 |nil=>exact .nil
 |cons r rs ih=>refine .cons ?_ (ih λz hz=>hm z (List.mem_cons_of_mem _ hz));obtain⟨p,a,rfl,ga⟩:=f _ (hm _ (List.mem_cons_self ..));obtain⟨b,eb,hb⟩:=r;cases eb;rw[sub _ _ ga]at hb;rw[hb]at ga;simp![pD,Rep,qp];exact{a,_,rfl,ga,_,_,rfl,rfl,_,_,rfl,rfl,rfl}
theorem qdN(gd:Gd U K ε k X L):zc X (.builtin "sorted") (rC1 U K Ξ Gv Hv QA):=by
 rintro pins st Z' H xs us Q I rs ⟨N,Z,G,Hb,r,x,hx,er,h1,h⟩;unfold QA at h
 cases e3:r.list? with
 |none=>rw[e3]at h;exact h.elim
 |some l=>
  rw[e3]at h;dsimp only at h
  cases e4:qgM l with
  |none=>rw[e4]at h;exact h.elim
  |some ps=>
   rw[e4]at h;dsimp only at h;obtain⟨h64,h⟩:=Wx.iff h;obtain⟨a,ys,p1,p2,p3⟩:=h1.list er e3;have pr:=qbx p3 e4
   have hlen:ys.length < 64:=by
    have:∀{xs:List V} {ps:List (Int×Int)} {R:V->Int×Int->Prop},Paired R xs ps->xs.length=ps.length:=by
     intro xs ps R q
     induction q with
     |nil=>rfl
     |cons _ _ ih=>simp[ih]
    rw[this pr];exact h64
   have pr2:Paired (P2 X.K H) ys ps:=by
    have:∀{ys:List V} {ps:List (Int×Int)},Paired (λx (p:Int×Int)=>∃a,x=V.ref a/\G a=some (.tup [.int p.1,.int p.2])) ys ps->Paired (P2 X.K H) ys ps:=by
     intro ys ps q
     induction q with
     |nil=>exact .nil
     |cons r rs ih=>obtain⟨a,e,ga⟩:=r;exact .cons ⟨a,e,er.sub _ _ ga⟩ ih
    exact this pr
   refine Qy pins st Z' H xs us Q I rs ⟨a,ys,ps,by rw[hx,p1],by rw[gd.hK];exact p2,hlen,pr2,λp zs qs hp z1 z2 z3 z4=>?_⟩;have e5:yN ps=qs:=qfA z3 z4
   have rr:qp U G ((yN ps).map pD) zs:=by rw[e5];refine qcx (K:=X.K) er.sub (λx hx=>?_) (λy hy=>z2.mem_iff.mp hy) z1;obtain⟨p,hp⟩:=Paired.memL pr x hx;exact⟨p,hp⟩
   obtain⟨w1,w2⟩:=er.newList hp rr;exact h _ _ _ w1 w2
def qkJ(gd:Gd U K ε k X L):zc X (.builtin "sum") (rC1 U K Ξ Gv Hv qol):=by rintro pins st Z' H xs us Q I rs ⟨N,Z,G,Hb,r,x,hx,er,h1,h⟩;exact False.elim h
def qkK(gd:Gd U K ε k X L):zc X (.builtin "all") (rC1 U K Ξ Gv Hv qom):=by rintro pins st Z' H xs us Q I rs ⟨N,Z,G,Hb,r,x,hx,er,h1,h⟩;exact h.elim
def qkL(gd:Gd U K ε k X L):zc X (.builtin "any") (rC1 U K Ξ Gv Hv qon):=by rintro pins st Z' H xs us Q I rs ⟨N,Z,G,Hb,r,x,hx,er,h1,h⟩;exact h.elim
def qkM:zc X (.type "str") (rC1 U K Ξ Gv Hv strD):=by rintro pins st Z' H xs us Q I rs ⟨N,Z,G,Hb,r,x,hx,er,h1,h⟩;exact False.elim h
def qfB(gd:Gd U K ε k X L):zc X (.type "tuple") (rC1 U K Ξ Gv Hv tupD):=by rintro pins st Z' H xs us Q I rs ⟨N,Z,G,Hb,r,x,hx,er,h1,h⟩;exact False.elim h
def qkN:zc X (.type "int") (rC1 U K Ξ Gv Hv intD):=by rintro pins st Z' H xs us Q I rs ⟨N,Z,G,Hb,r,x,hx,er,h1,h⟩;exact False.elim h
def qkO(gd:Gd U K ε k X L):zc X (.builtin "max") (rC2 U K Ξ Gv Hv maxD):=by rintro pins st Z' H xs us Q I rs ⟨N,Z,G,Hb,Hc,r,s,x,y,hx,er,h1,h2,h⟩;obtain⟨i,j,e1,e2,h⟩:=qaK h;exact qc4 gd.calm pins st Z' H xs us Q I rs ⟨i,j,by rw[hx,h1.int e1,h2.int e2],h _ G H (Po.refl er) (by simp![RvR,Rep])⟩
def qkP(gd:Gd U K ε k X L):zc X (.builtin "min") (rC2 U K Ξ Gv Hv minD):=by rintro pins st Z' H xs us Q I rs ⟨N,Z,G,Hb,Hc,r,s,x,y,hx,er,h1,h2,h⟩;obtain⟨i,j,e1,e2,h⟩:=qaK h;exact qc5 gd.calm pins st Z' H xs us Q I rs ⟨i,j,by rw[hx,h1.int e1,h2.int e2],h _ G H (Po.refl er) (by simp![RvR,Rep])⟩
theorem qfC(gd:Gd U K ε k X L){G H Hb:Hp}{N:Env}{Z:St}{r:Rv}{x:V}{b:Bool}(er:ER U K Gv Hv G H N Z)(h:RvR U K Hv Hb G H N Z r x)(e:truthD r=some b):qmN X.K x H b:=by
 have sq:∀{r:Rv},RvR U K Hv Hb G H N Z r x->(seqD r).map (λl=>!l.isEmpty)=some b->qmN X.K x H b:=λ{r} h e=>by
  obtain⟨l,e1,rfl⟩:=Option.map_eq_some_iff.mp e;obtain⟨a,xs,rfl,p2,p3⟩:=h.seq er e1
  have hl:(!l.isEmpty) = !xs.isEmpty:=by
   have:=p3.len
   cases l<;>cases xs<;>simp_all
  rw[hl,gd.hK];rcases p2 with p2|p2
  ·exact .inl ⟨xs,p2,rfl⟩
  ·exact .inr (.inl ⟨xs,p2,rfl⟩)
 cases r with
 |val d=>
  cases d with
  |non=>simp![RvR,Rep]at h;subst h;simp![truthD]at e;cases e;exact rfl
  |bl c=>simp![RvR,Rep]at h;subst h;simp![truthD]at e;cases e;exact rfl
  |int c=>simp![RvR,Rep]at h;subst h;simp![truthD]at e;cases e;exact rfl
  |str c=>
   simp![RvR,Rep]at h;subst h;simp![truthD]at e
   by_cases hz:c.length<=sizeLine
   ·rw[if_pos hz]at e;cases e;exact⟨hz,rfl⟩
   ·rw[if_neg hz]at e;cases e
  |lst l=>exact sq h e
  |tup l=>exact sq h e
  |ins c ns l=>exact sq h e
  |exc c ns l=>exact sq h e
  |dct ns l=>exact sq h e
 |tmp l=>exact sq h e
 |cell l=>exact sq h e
 |scr l=>exact sq h e
end
open PySem.Spec PyProof.Rows
structure All(U:KC)(K:Frag)(ε:XK)(k:Nat)(X:Cx)(L:Ct)(m:Nat):Prop where
 r:∀Gv Hv e x,cE m L e=some x->PE X e (tR U K ε Gv Hv (iR L.k x))
 e:∀Gv Hv e x,cX m L e=some x->PE X e (tE U K ε Gv Hv (jM x (iR L.k x)))
 t:∀Gv Hv e x,cT m L e=some x->PT X e (tT U K ε Gv Hv (iT L.k x))
 es:∀Gv Hv e x,cEs m L e=some x->PA X e (tEs U K ε Gv Hv (iEs L.k x))
 as:∀Gv Hv e x,cAs m L e=some x->PA X e (tAs U K ε Gv Hv (iAs L.k x))
 o:∀Gv Hv e x,cO m L e=some x->PO X e (tO U K ε Gv Hv (iO L.k x))
 f:∀Gv Hv e x,cF m L e=some x->PIf X e (tT U K ε Gv Hv (iF L.k x))
 l:∀Gv Hv e x,cL m L e=some x->PE X e (tL U K ε Gv Hv (yP x (iR L.k x)))
 i:∀Gv Hv tg e x,cI m L (qft tg) e=some x->PI X tg e (tI U K ε Gv Hv (iI L.k x))
section
variable{U:KC}{ε:XK}{K:Frag}{Gv Hv:Hp}{k m:Nat}{X:Cx}{L:Ct}{x:E}
def qps:All U K ε k X L 0:={ r:=(λ_ _ _ _ h=>nomatch h),e:=(λ_ _ _ _ h=>nomatch h),t:=(λ_ _ _ _ h=>nomatch h),es:=(λ_ _ _ _ h=>nomatch h),as:=(λ_ _ _ _ h=>nomatch h),o:=(λ_ _ _ _ h=>nomatch h),f:=(λ_ _ _ _ h=>nomatch h),l:=(λ_ _ _ _ h=>nomatch h),i:=(λ_ _ _ _ _ h=>nomatch h) }
theorem qfD(c:Const)(j:Nat)(pos:Pos)(h:qgQ c=some x):PE X (.Constant c j pos) (tR U K ε Gv Hv (iR L.k x)):=by
 cases c with
 |none=>cases h;exact PE.imp qjM λZ H Q ⟨N,G,er,h⟩=>h _ G H (Po.refl er) (by simp![RvR,Rep])
 |bool b=>cases h;exact PE.imp qm0 λZ H Q ⟨N,G,er,h⟩=>h _ G H (Po.refl er) (by simp![RvR,Rep])
 |int b=>cases h;exact PE.imp qbd λZ H Q ⟨N,G,er,h⟩=>h _ G H (Po.refl er) (by simp![RvR,Rep])
 |str b=>cases h;exact PE.imp qgA λZ H Q ⟨N,G,er,h⟩=>h _ G H (Po.refl er) (by simp![RvR,Rep])
 |_=>cases h
def qfE(A:All U K ε k X L m)(a b:Expr)(op:Operator)(pos:Pos)(h:cE (m+1) L (.BinOp a op b pos)=some x):PE X (.BinOp a op b pos) (tR U K ε Gv Hv (iR L.k x)):=by obtain⟨a',b',h1,h2,rfl⟩:=ql h;refine PE.imp (qnc (qkF (Ξ:=XP U Gv Hv ε) (U:=U) (K:=K) (Gv:=Gv) (Hv:=Hv) op) (A.r Gv Hv _ _ h1) (A.r Gv Hv _ _ h2)) λZ H Q hq1=>?_;obtain⟨N,G,er,h⟩:=hq1;refine{N,G,er,Wx.mono (Wx.th (x:=iR L.k a' N) h) λx h v G1 H1 p1 r1=>{x.2,G1,p1.er,Wx.mono (Wx.th (x:=iR L.k b' x.2) h) λy h w G2 H2 p2 r2=>?_}};exact{y.2,Z,G2,H,H1,x.1,y.1,p2.er,r1.keep p2,r2,Wx.mono (Wx.th h) λz h u G3 H3 p3 r3=>h u G3 H3 (p1.trans (p2.trans p3)) (r3.back (p1.trans p2).hs)}
theorem qkQ(A:All U K ε k X L m)(a:Expr)(pos:Pos)(h:cE (m+1) L (.UnaryOp .USub a pos)=some x):PE X (.UnaryOp .USub a pos) (tR U K ε Gv Hv (iR L.k x)):=by
 obtain⟨a',h1,rfl⟩:=qm h;refine PE.imp (qnd qj2 (A.r Gv Hv _ _ h1)) λZ H Q hq1=>?_;obtain⟨N,G,er,h⟩:=hq1;refine{N,G,er,Wx.mono (Wx.th (x:=iR L.k a' N) h) λx h v G1 H1 p1 r1=>?_};obtain⟨rv,N1⟩:=x
 cases rv with
 |val d=>
  cases d with
  |int i=>exact{i,by simpa only[RvR,Rep] using r1,h _ G1 H1 p1 (by simp![RvR,Rep])}
  |_=>exact False.elim h
 |_=>exact False.elim h
theorem qis(A:All U K ε k X L m)(a:Expr)(pos:Pos)(h:cE (m+1) L (.UnaryOp .Not a pos)=some x):PE X (.UnaryOp .Not a pos) (tR U K ε Gv Hv (iR L.k x)):=by
 obtain⟨a',h1,rfl⟩:=qm h;refine PE.imp (qjQ (A.r Gv Hv _ _ h1)) λZ H Q hq1=>?_;obtain⟨N,G,er,h⟩:=hq1;refine{N,G,er,Wx.mono (Wx.th (x:=iR L.k a' N) h) λx h v G1 H1 p1 r1=>?_};obtain⟨rv,N1⟩:=x
 cases rv with
 |val d=>
  cases d with
  |bl i=>exact{i,by simpa only[RvR,Rep] using r1,h _ G1 H1 p1 (by simp![RvR,Rep])}
  |_=>exact False.elim h
 |_=>exact False.elim h
def qit(gd:Gd U K ε k X L)(A:All U K ε k X L m)(a b:Expr)(op:CmpOp)(pos:Pos)(h:cE (m+1) L (.Compare a [op] [b] pos)=some x):PE X (.Compare a [op] [b] pos) (tR U K ε Gv Hv (iR L.k x)):=by obtain⟨hm,h⟩:=qi h;obtain⟨a',b',h1,h2,rfl⟩:=ql h;refine PE.imp (qhG (qgV (Gv:=Gv) (Hv:=Hv) gd op) (A.r Gv Hv _ _ h1) (A.r Gv Hv _ _ h2) (-hm:)) λZ H Q hq1=>?_;obtain⟨N,G,er,h⟩:=hq1;refine{N,G,er,Wx.mono (Wx.th (x:=iR L.k a' N) h) λx h v G1 H1 p1 r1=>{x.2,G1,p1.er,Wx.mono (Wx.th (x:=iR L.k b' x.2) h) λy h w G2 H2 p2 r2=>?_}};obtain⟨c,e,h⟩:=Wx.of (Wx.th h);exact{y.2,Z,G2,H,H1,x.1,y.1,c,p2.er,r1.keep p2,r2,e,h _ G2 H2 (p1.trans p2) (by simp![RvR,Rep])}
def qiu(gd:Gd U K ε k X L)(A:All U K ε k X L m)(a b:Expr)(op:CmpOp)(pos:Pos){x:T}(h:cT (m+1) L (.Compare a [op] [b] pos)=some x):PT X (.Compare a [op] [b] pos) (tT U K ε Gv Hv (iT L.k x)):=by obtain⟨hm,h⟩:=qi h;obtain⟨a',b',h1,h2,rfl⟩:=ql h;refine PT.imp (qhH (qgV (Gv:=Gv) (Hv:=Hv) gd op) (A.r Gv Hv _ _ h1) (A.r Gv Hv _ _ h2) (-hm:)) λZ H Q hq1=>?_;obtain⟨N,G,er,h⟩:=hq1;refine{N,G,er,Wx.mono (Wx.th (x:=iR L.k a' N) h) λx h v G1 H1 p1 r1=>{x.2,G1,p1.er,Wx.mono (Wx.th (x:=iR L.k b' x.2) h) λy h w G2 H2 p2 r2=>?_}};obtain⟨c,e,h⟩:=Wx.of (Wx.th h);exact{y.2,Z,G2,H,H1,x.1,y.1,c,p2.er,r1.keep p2,r2,e,c,rfl,h G2 H2 (p1.trans p2)}
theorem qkR(A:All U K ε k X L m)(a b:Expr)(l:List Expr)(pos:Pos)(h:cE (m+1) L (.BoolOp .And (a::b::l) pos)=some x):PE X (.BoolOp .And (a::b::l) pos) (tR U K ε Gv Hv (iR L.k x)):=by
 obtain⟨a',b',h1,h2,rfl⟩:=ql h;refine PE.imp (qjP (A.r Gv Hv _ _ h1) (A.r Gv Hv _ _ h2)) λZ H Q hq1=>?_;obtain⟨N,G,er,h⟩:=hq1;refine{N,G,er,Wx.mono (Wx.th (x:=iR L.k a' N) h) λx h v G1 H1 p1 r1=>?_};obtain⟨rv,N1⟩:=x
 cases rv with
 |val d=>
  cases d with
  |bl c=>
   refine{c,by simpa only[RvR,Rep] using r1,?_}
   cases c with
   |true=>rw[if_pos rfl];exact{N1,G1,p1.er,Wx.mono h λy h w G2 H2 p2 r2=>h w G2 H2 (p1.trans p2) (r2.back p1.hs)}
   |false=>rw[if_neg (λz=>by cases z)];exact h _ G1 H1 p1 (by simp![RvR,Rep])
  |_=>exact False.elim h
 |_=>exact False.elim h
theorem qnG(A:All U K ε k X L m)(a b:Expr)(l:List Expr)(pos:Pos)(h:cE (m+1) L (.BoolOp .Or (a::b::l) pos)=some x):PE X (.BoolOp .Or (a::b::l) pos) (tR U K ε Gv Hv (iR L.k x)):=by
 obtain⟨a',b',h1,h2,rfl⟩:=ql h;refine PE.imp (qm3 (A.r Gv Hv _ _ h1) (A.r Gv Hv _ _ h2)) λZ H Q hq1=>?_;obtain⟨N,G,er,h⟩:=hq1;refine{N,G,er,Wx.mono (Wx.th (x:=iR L.k a' N) h) λx h v G1 H1 p1 r1=>?_};obtain⟨rv,N1⟩:=x
 cases rv with
 |val d=>
  cases d with
  |bl c=>
   refine{c,by simpa only[RvR,Rep] using r1,?_}
   cases c with
   |false=>rw[if_neg (λz=>by cases z)];exact{N1,G1,p1.er,Wx.mono h λy h w G2 H2 p2 r2=>h w G2 H2 (p1.trans p2) (r2.back p1.hs)}
   |true=>rw[if_pos rfl];exact h _ G1 H1 p1 (by simp![RvR,Rep])
  |_=>exact False.elim h
 |_=>exact False.elim h
theorem qkS(A:All U K ε k X L m)(c a b:Expr)(pos:Pos)(h:cE (m+1) L (.IfExp c a b pos)=some x):PE X (.IfExp c a b pos) (tR U K ε Gv Hv (iR L.k x)):=by
 obtain⟨c',q,h1,h2,rfl⟩:=ql h;obtain⟨a',b',h3,h4,rfl⟩:=ql h2;refine PE.imp (qe3 (A.t Gv Hv _ _ h1) (A.r Gv Hv _ _ h3) (A.r Gv Hv _ _ h4)) λZ H Q hq1=>?_;obtain⟨N,G,er,h⟩:=hq1;refine{N,G,er,Wx.mono (Wx.th (x:=iT L.k c' N) h) λx h G1 H1 p1=>?_};obtain⟨d,N1⟩:=x
 cases d with
 |true=>rw[if_pos rfl];exact{N1,G1,p1.er,Wx.mono h λy h w G2 H2 p2 r2=>h w G2 H2 (p1.trans p2) (r2.back p1.hs)}
 |false=>rw[if_neg (λz=>by cases z)];exact{N1,G1,p1.er,Wx.mono h λy h w G2 H2 p2 r2=>h w G2 H2 (p1.trans p2) (r2.back p1.hs)}
def qcy{b:Expr}(h:∀lo hi st p,b≠.Slice lo hi st p):qda b:=λo i=>by cases b<;>first|rfl|exact absurd rfl (h _ _ _ _)
theorem qkT(gd:Gd U K ε k X L)(A:All U K ε k X L m)(a b:Expr)(pos:Pos)(h:cE (m+1) L (.Subscript a b pos)=some x):PE X (.Subscript a b pos) (tR U K ε Gv Hv (iR L.k x)):=by
 have gen:(∀lo hi st p,b≠.Slice lo hi st p)->o2 (cE m L a) (cE m L b) .idx=some x->PE X (.Subscript a b pos) (tR U K ε Gv Hv (iR L.k x)):=λhb h=>by obtain⟨a',b',h1,h2,rfl⟩:=ql h;refine PE.imp (qnk (qkG (Ξ:=XP U Gv Hv ε) (Gv:=Gv) (Hv:=Hv) gd) (A.r Gv Hv _ _ h1) (A.r Gv Hv _ _ h2) (qcy hb)) λZ H Q hq1=>?_;obtain⟨N,G,er,h⟩:=hq1;refine{N,G,er,Wx.mono (Wx.th (x:=iR L.k a' N) h) λx h v G1 H1 p1 r1=>{x.2,G1,p1.er,Wx.mono (Wx.th (x:=iR L.k b' x.2) h) λy h w G2 H2 p2 r2=>?_}};exact{y.2,Z,G2,H,H1,x.1,y.1,p2.er,r1.keep p2,r2,Wx.mono (Wx.th h) λz h u G3 H3 p3 r3=>h u G3 H3 (p1.trans (p2.trans p3)) (r3.back (p1.trans p2).hs)}
 cases b with
 |Slice lo hi st p=>
  cases st with
  |some st=>cases h
  |none=>obtain⟨a',q,h1,h2,rfl⟩:=ql h;obtain⟨l',u',h3,h4,rfl⟩:=ql h2;refine PE.imp (qff (qkH (Ξ:=XP U Gv Hv ε) (Gv:=Gv) (Hv:=Hv) gd) (A.r Gv Hv _ _ h1) (A.o Gv Hv _ _ h3) (A.o Gv Hv _ _ h4)) λZ H Q hq1=>?_;obtain⟨N,G,er,h⟩:=hq1;refine{N,G,er,Wx.mono (Wx.th (x:=iR L.k a' N) h) λx h v G1 H1 p1 r1=>{x.2,G1,p1.er,Wx.mono (Wx.th (x:=iO L.k l' x.2) h) λy h G2 H2 p2=>{y.2,G2,p2.er,Wx.mono (Wx.th (x:=iO L.k u' y.2) h) λz h G3 H3 p3=>?_}}};exact{z.2,Z,G3,H,x.1,p3.er,(r1.keep p2).keep p3,Wx.mono (Wx.th h) λu h w G4 H4 p4 r4=>h w G4 H4 (p1.trans (p2.trans (p3.trans p4))) (r4.back (p1.trans (p2.trans p3)).hs)}
 |_=>exact gen (λ_ _ _ _ z=>by cases z) h
def qkU(A:All U K ε k X L m)(es:List Expr)(pos:Pos)(h:cE (m+1) L (.List es pos)=some x):PE X (.List es pos) (tR U K ε Gv Hv (iR L.k x)):=by obtain⟨l,h1,rfl⟩:=qm h;refine PE.imp (qj6 (A.es Gv Hv _ _ h1)) λZ H Q hq1=>?_;obtain⟨N,G,er,h⟩:=hq1;refine{N,G,er,Wx.mono (Wx.th (x:=iEs L.k l N) h) λx h vs G1 H1 p1 r1=>?_};obtain⟨hz,h⟩:=Wx.iff h;refine{by rw[<-r1.len];exact hz,λp hp=>?_};obtain⟨z1,z2⟩:=p1.er.newList hp r1;exact h _ _ _ (p1.trans z1) (z2.back p1.hs)
def qkV(A:All U K ε k X L m)(es:List Expr)(j:Nat)(pos:Pos)(h:cE (m+1) L (.Tuple es j pos)=some x):PE X (.Tuple es j pos) (tR U K ε Gv Hv (iR L.k x)):=by obtain⟨l,h1,rfl⟩:=qm h;refine PE.imp (qgC (A.es Gv Hv _ _ h1)) λZ H Q hq1=>?_;obtain⟨N,G,er,h⟩:=hq1;refine{N,G,er,Wx.mono (Wx.th (x:=iEs L.k l N) h) λx h vs G1 H1 p1 r1=>?_};obtain⟨hz,h⟩:=Wx.iff h;refine{by rw[<-r1.len];exact hz,λp hp=>?_};have z1:=Po.lay (o:=.tup vs) p1.er hp;refine h _ _ _ (p1.trans z1) ?_;simp![RvR,Rep];exact{p,vs,rfl,qf,r1.same z1.gs}
theorem qpt(gd:Gd U K ε k X L)(A:All U K ε k X L m)(e:Expr)(x:E)(h:cX (m+1) L e=some x):PE X e (tE U K ε Gv Hv (jM x (iR L.k x))):=by
 have gen:(cE m L e).bind ZM=some x->PE X e (tE U K ε Gv Hv (jM x (iR L.k x))):=λh=>by
  obtain⟨y,h1,h2⟩:=Option.bind_eq_some_iff.mp h;obtain⟨rfl,hv⟩:=z8 h2;refine PE.imp (A.r Gv Hv _ _ h1) λZ H Q hq1=>?_;obtain⟨N,G,er,h⟩:=hq1;rw[qil hv]at h;refine{N,G,er,Wx.mono (Wx.th h) λx h v G1 H1 p1 r1=>?_};obtain⟨rv,N1⟩:=x
  cases rv with
  |val d=>exact h v G1 H1 p1 r1
  |tmp l=>obtain⟨a,xs,rfl,h1,h2,h3,h4,h5,h6⟩:=r1;have p2:=p1.freeze h1 h2 h3 h4 h5;refine h _ _ H1 p2 ?_;simp![Rep];exact{a,xs,rfl,qf,h6.same (qq.upd h4)}
  |_=>exact False.elim h
 cases e with
 |Name x pos=>exact qbv gd h pos
 |_=>exact gen h
theorem qnH(A:All U K ε k X L m):∀es x,cEs (m+1) L es=some x->PA X es (tEs U K ε Gv Hv (iEs L.k x))
 |[],_,h=>by cases h;exact PA.imp qx λZ H Q ⟨N,G,er,h⟩=>h [] G H (Po.refl er) .nil
 | e::l,_,h=>by obtain⟨hs,h⟩:=qi h;obtain⟨a',l',h1,h2,rfl⟩:=ql h;refine PA.imp (qj (A.e Gv Hv _ _ h1) (A.es Gv Hv _ _ h2) (qg (-hs:))) λZ H Q hq1=>?_;obtain⟨N,G,er,h⟩:=hq1;refine{N,G,er,Wx.mono (Wx.th (x:=jM a' (iR L.k a') N) h) λx h v G1 H1 p1 r1=>{x.2,G1,p1.er,Wx.mono (Wx.th (x:=iEs L.k l' x.2) h) λy h vs G2 H2 p2 r2=>?_}};exact h _ G2 H2 (p1.trans p2) (.cons (r1.same p2.gs) r2)
theorem qnI(A:All U K ε k X L m):∀es x,cAs (m+1) L es=some x->PA X es (tAs U K ε Gv Hv (iAs L.k x))
 |[],_,h=>by cases h;exact PA.imp qx λZ H Q ⟨N,G,er,h⟩=>h [] G H (Po.refl er) rfl
 | e::l,_,h=>by
  obtain⟨hs,h⟩:=qi h;obtain⟨a',l',h1,h2,rfl⟩:=ql h;refine PA.imp (qj (A.r Gv Hv _ _ h1) (A.as Gv Hv _ _ h2) (qg (-hs:))) λZ H Q hq1=>?_;obtain⟨N,G,er,h⟩:=hq1;refine{N,G,er,Wx.mono (Wx.th (x:=iR L.k a' N) h) λx h v G1 H1 p1 r1=>?_};have h:=Wx.th (x:=iAs L.k l' x.2) h;obtain⟨rv,N1⟩:=x
  cases rv with
  |val d=>exact{N1,G1,p1.er,Wx.mono h λy h vs G2 H2 p2 r2=>h _ G2 H2 (p1.trans p2) {v,vs,rfl,Rep.same p2.gs r1,r2}}
  |tmp ds=>obtain⟨a,xs,rfl,h1,h2,h3,h4,h5,h6⟩:=r1;have p1':=p1.freeze h1 h2 h3 h4 h5;refine{N1,_,p1'.er,Wx.mono h λy h vs G2 H2 p2 r2=>h _ G2 H2 (p1'.trans p2) {_,vs,rfl,?_,r2}};show Rep U G2 (.lst ds) (.ref a);simp![Rep];exact{a,xs,rfl,p2.gs _ _ qf,(h6.same (qq.upd h4)).same p2.gs}
  |cell ds=>obtain⟨a,xs,rfl,h1,h6⟩:=r1;exact{N1,G1,p1.er,Wx.mono h λy h vs G2 H2 p2 r2=>h _ G2 H2 (p1.trans p2) {_,vs,rfl,{a,xs,rfl,p2.hs _ _ h1,h6.same p2.gs},r2}}
  |scr ds=>obtain⟨a,xs,rfl,h1,h6⟩:=r1;exact{N1,G1,p1.er,Wx.mono h λy h vs G2 H2 p2 r2=>h _ G2 H2 (p1.trans p2) {_,vs,rfl,{a,xs,rfl,p2.hs.seq h1,h6.same p2.gs},r2}}
theorem qpu(A:All U K ε k X L m):∀o x,cO (m+1) L o=some x->PO X o (tO U K ε Gv Hv (iO L.k x))
 |none,_,h=>by cases h;exact PO.imp qhP λZ H Q ⟨N,G,er,h⟩=>h G H (Po.refl er)
 |some e,_,h=>by
  obtain⟨a',h1,rfl⟩:=qm h;refine PO.imp (qhQ (A.r Gv Hv _ _ h1)) λZ H Q hq1=>?_;obtain⟨N,G,er,h⟩:=hq1;refine{N,G,er,Wx.mono (Wx.th (x:=iR L.k a' N) h) λx h v G1 H1 p1 r1=>?_};obtain⟨rv,N1⟩:=x
  cases rv with
  |val d=>
   cases d with
   |int i=>exact{i,by simpa only[RvR,Rep] using r1,h G1 H1 p1}
   |_=>exact False.elim h
  |_=>exact False.elim h
theorem qpv(A:All U K ε k X L m):∀es x,cF (m+1) L es=some x->PIf X es (tT U K ε Gv Hv (iF L.k x))
 |[],_,h=>by cases h;exact PIf.imp qh0 λZ H Q ⟨N,G,er,h⟩=>h G H (Po.refl er)
 |[c],_,h=>by obtain⟨a',h1,rfl⟩:=qm h;exact qh1 (A.t Gv Hv _ _ h1)
 | _::_::_,_,h=>by cases h
def qgW:Expr->Bool
 |.UnaryOp .Not _ _=>false
 |.BoolOp ..=>false
 |.IfExp ..=>false
 |.Compare ..=>false
 |_=>true
theorem qdO{e:Expr}(h:qgW e=true)(env:PySem.Env):∀whole,isTrue e env whole=(do let v<-whole;standAt e.pos;holding [v] (truthy v)):=by
 intro whole
 cases e with
 |UnaryOp op a pos=>cases op<;>first|rfl|cases h
 |BoolOp=>cases h
 |IfExp=>cases h
 |Compare=>cases h
 |_=>rfl
theorem qpw(gd:Gd U K ε k X L)(A:All U K ε k X L m)(e:Expr)(x:T)(h:cT (m+1) L e=some x):PT X e (tT U K ε Gv Hv (iT L.k x)):=by
 have gen:qgW e=true->(cE m L e).map .val=some x->PT X e (tT U K ε Gv Hv (iT L.k x)):=λhp h=>by obtain⟨a',h1,rfl⟩:=qm h;refine PT.imp (qe7 (A.r Gv Hv _ _ h1) (qdO hp X.env)) λZ H Q hq1=>?_;obtain⟨N,G,er,h⟩:=hq1;refine{N,G,er,Wx.mono (Wx.th (x:=iR L.k a' N) h) λx h v G1 H1 p1 r1=>?_};obtain⟨b,e1,h⟩:=Wx.of (Wx.th h);exact{b,qfC gd p1.er r1 e1,h G1 H1 p1}
 cases e with
 |UnaryOp op a pos=>
  cases op with
  |Not=>obtain⟨a',h1,rfl⟩:=qm h;refine PT.imp (Zk (A.t Gv Hv _ _ h1)) λZ H Q hq1=>?_;obtain⟨N,G,er,h⟩:=hq1;exact{N,G,er,Wx.mono (Wx.th (x:=iT L.k a' N) h) λx h G1 H1 p1=>h G1 H1 p1}
  |_=>exact gen rfl h
 |BoolOp op vs pos=>
  cases vs with
  |nil=>cases op<;>cases h
  |cons a vs=>
   cases vs with
   |nil=>
    cases op with
    |And=>obtain⟨a',h1,rfl⟩:=qm h;exact PT.imp (PW.pt (qhz (A.t Gv Hv _ _ h1))) λZ H Q h=>h
    |Or=>obtain⟨a',h1,rfl⟩:=qm h;exact PT.imp (PW.pt (qjN (A.t Gv Hv _ _ h1))) λZ H Q h=>h
   |cons b l=>
    cases op with
    |And=>
     obtain⟨a',b',h1,h2,rfl⟩:=ql h;intro pins s Z H Q I hw;obtain⟨N,G,er,h⟩:=hw;refine isTrue_and (thn (A.t Gv Hv _ _ h1 pins s Z H (λc H1=>if c=true then tT U K ε Gv Hv (iT L.k b') Z H1 Q else Q false H1) I ?_) λc s1 ⟨H1,I1,q1⟩=>?_)
     ·refine{N,G,er,Wx.mono (Wx.th (x:=iT L.k a' N) h) λx h G1 H1 p1=>?_};obtain⟨d,N1⟩:=x
      cases d with
      |true=>rw[if_pos rfl];exact{N1,G1,p1.er,Wx.mono h λy h G2 H2 p2=>h G2 H2 (p1.trans p2)}
      |false=>rw[if_neg (λz=>by cases z)];exact h G1 H1 p1
     ·cases c with
      |true=>exact A.t Gv Hv _ _ h2 pins s1 Z H1 Q I1 q1
      |false=>exact⟨H1,I1,q1⟩
    |Or=>
     obtain⟨a',b',h1,h2,rfl⟩:=ql h;intro pins s Z H Q I hw;obtain⟨N,G,er,h⟩:=hw;refine isTrue_or (thn (A.t Gv Hv _ _ h1 pins s Z H (λc H1=>if c=true then Q true H1 else tT U K ε Gv Hv (iT L.k b') Z H1 Q) I ?_) λc s1 ⟨H1,I1,q1⟩=>?_)
     ·refine{N,G,er,Wx.mono (Wx.th (x:=iT L.k a' N) h) λx h G1 H1 p1=>?_};obtain⟨d,N1⟩:=x
      cases d with
      |false=>rw[if_neg (λz=>by cases z)];exact{N1,G1,p1.er,Wx.mono h λy h G2 H2 p2=>h G2 H2 (p1.trans p2)}
      |true=>rw[if_pos rfl];exact h G1 H1 p1
     ·cases c with
      |true=>exact⟨H1,I1,q1⟩
      |false=>exact A.t Gv Hv _ _ h2 pins s1 Z H1 Q I1 q1
 |IfExp c a b pos=>cases h
 |Compare a ops bs pos=>
  match ops,bs,h with
  |[op],[b],h=>exact qiu gd A a b op pos h
  |[_,_],[_,_],h=>cases h
  |[],[],h=>cases h
  | [],_::_,h=>cases h
  |[_],[],h=>cases h
  | [_],_::_::_,h=>cases h
  |[_,_],[],h=>cases h
  |[_,_],[_],h=>cases h
  | [_,_],_::_::_::_,h=>cases h
  | _::_::_::_,_,h=>cases h
 |_=>exact gen rfl h
end
section
variable{U:KC}{ε:XK}{K:Frag}{Gv Hv:Hp}{k m:Nat}{X:Cx}{L:Ct}
def qkW{tg l:Expr}{tl:TE}(hl:PE X l tl):PI X tg l (λZ H R=>tl Z H λx H1=>(∃a,x=.ref a/\(((∃xs,SqL X.K H1 a xs)/\R (Itl X.K a) H1)\/((∃xs,SqT X.K H1 a xs)/\R (Itt X.K a) H1)))\/∃z,x=.str z/\R (Its z) H1):=by
 intro pins s Z H R I h;refine thn (hl pins s Z H _ I h) λv s1 hq1=>?_;obtain⟨x,H1,I1,r1,q1⟩:=hq1;rcases q1 with ⟨a,e,q⟩|⟨x,rfl,q⟩
 ·subst e;cases r1;rcases q with ⟨⟨xs,hq⟩,q⟩|⟨⟨xs,hq⟩,q⟩
  ·obtain⟨its,rv,p,hz⟩:=I1.list hq;refine wpAny_pyIter_list p.isList ?_;refine{s1.heap.objs.size,[s1.heap.objs.size],_,_,H1,rfl,I1.kept (t':=s1.toks) λb o e=>Heap.get?_push_of_some _ e,qcZ a _,{_,Heap.get?_push_size _ rfl,rfl,rfl},λb hb=>?_,q};have e:b=s1.heap.objs.size:=(-hb:)
   subst e;exact I1.fpOk (Nat.le_refl _) (I1.hok.fresh (Nat.le_refl _))
  ·obtain⟨its,rv,p,hz⟩:=I1.tuple hq;refine wpAny_pyIter_tuple (show s1.heap.IsTuple a its.toArray from p) ?_;refine{s1.heap.objs.size,[s1.heap.objs.size],_,_,H1,rfl,I1.kept (t':=s1.toks) λb o e=>Heap.get?_push_of_some _ e,qcb a _,{_,Heap.get?_push_size _ rfl,rfl,rfl},λb hb=>?_,q};have e:b=s1.heap.objs.size:=(-hb:)
   subst e;exact I1.fpOk (Nat.le_refl _) (I1.hok.fresh (Nat.le_refl _))
 ·obtain⟨t,rfl⟩:=r1
  have fin:∀(T:String) (o:Obj),(T = "str_ascii_iterator"\/T = "str_iterator")->(∀A':Around,A'.handled=none->Walks X.prog X.w A' s1.heap.objs.size [s1.heap.objs.size] [s1.heap.objs.size] x.cps.size (SignAt x) (λi h=>h.IsStrIter s1.heap.objs.size T x t i))->
    (s1.heap.push o).IsStrIter s1.heap.objs.size T x t 0->PIE X pins Z tg R (.ref s1.heap.objs.size) { s1 with heap:=s1.heap.push o }:=λT o hT W st=>by
   refine{s1.heap.objs.size,[s1.heap.objs.size],_,_,H1,rfl,I1.kept (t':=s1.toks) λb o e=>Heap.get?_push_of_some _ e,qfo hT W,st,λb hb=>?_,q};have e:b=s1.heap.objs.size:=(-hb:)
   subst e;exact I1.fpOk (Nat.le_refl _) (I1.hok.fresh (Nat.le_refl _))
  cases ha:x.cps.all (· < 128)
  ·exact wpAny_pyIter_wide ha (fin _ _ (.inr rfl) (λA' hA=>Walks.strWide hA _ x t) ⟨_,Heap.get?_push_size _ rfl,rfl,rfl⟩)
  ·exact wpAny_pyIter_ascii ha (fin _ _ (.inl rfl) (λA' hA=>Walks.strAscii hA _ x t) ⟨_,Heap.get?_push_size _ rfl,rfl,rfl⟩)
theorem qfF(gd:Gd U K ε k X L){x:Str}{i:Nat}(hi:qeX L x=some i)(pos:Pos):PE X (.Name x pos) (tL U K ε Gv Hv (yP (.var i) (iR L.k (.var i)))):=by
 refine PE.imp (qbu gd hi pos) λZ H Q hq1=>?_;obtain⟨N,G,er,h⟩:=hq1;have h:Wx _ (slL N i) _:=h;unfold slL at h
 cases q:N[i]? with
 |none=>rw[q]at h;exact False.elim h
 |some s=>
  rw[q]at h;have w:=er.sl i s q
  cases s with
  |no=>exact False.elim h
  |val d=>
   obtain⟨v,z,r⟩:=w
   cases d with
   |lst l=>simp![Rep]at r;obtain⟨a,xs,rfl,r1,r2⟩:=r;exact{_,z,h _ G H (Po.refl er) {a,xs,rfl,r2,.inl r1}}
   |str y=>simp![Rep]at r;subst r;exact{_,z,h _ G H (Po.refl er) ⟨y,rfl,rfl⟩}
   |tup l=>simp![Rep]at r;obtain⟨a,xs,rfl,r1,r2⟩:=r;exact{_,z,h _ G H (Po.refl er) ⟨a,xs,rfl,r2,r1⟩}
   |_=>exact False.elim h
  |own l=>obtain⟨a,xs,z,p,r⟩:=er.froze q;simp![Rep]at r;obtain⟨a',xs',e,r1,r2⟩:=r;cases e;exact{_,z,h _ _ H p {a,xs',rfl,r2,.inl r1}}
  |bor l=>obtain⟨a,xs,z,r1,r4⟩:=w;exact{_,z,h _ G H (Po.refl er) {a,xs,rfl,r4,.inr (SqL.of r1)}}
  |scr l=>obtain⟨a,xs,z,r1,r4⟩:=w;exact{_,z,h _ G H (Po.refl er) {a,xs,rfl,r4,.inr r1}}
theorem qpx(gd:Gd U K ε k X L)(A:All U K ε k X L m)(e:Expr)(x:E)(h:cL (m+1) L e=some x):PE X e (tL U K ε Gv Hv (yP x (iR L.k x))):=by
 have gen:(cE m L e).bind ZM=some x->PE X e (tL U K ε Gv Hv (yP x (iR L.k x))):=λh=>by
  obtain⟨y,h1,h2⟩:=Option.bind_eq_some_iff.mp h;obtain⟨rfl,hv⟩:=z8 h2;refine PE.imp (A.r Gv Hv _ _ h1) λZ H Q hq1=>?_;obtain⟨N,G,er,h⟩:=hq1;rw[qim hv]at h;refine{N,G,er,Wx.mono (Wx.th h) λx h v G1 H1 p1 r1=>?_};obtain⟨rv,N1⟩:=x
  cases rv with
  |val d=>
   cases d with
   |lst l=>simp![RvR,Rep]at r1;obtain⟨a,xs,rfl,q1,q2⟩:=r1;exact h _ G1 H1 p1 ⟨a,xs,rfl,q2,.inl q1⟩
   |str y=>simp![RvR,Rep]at r1;subst r1;exact h _ G1 H1 p1 ⟨y,rfl,rfl⟩
   |tup l=>simp![RvR,Rep]at r1;obtain⟨a,xs,rfl,q1,q2⟩:=r1;exact h _ G1 H1 p1 ⟨a,xs,rfl,q2,q1⟩
   |_=>exact False.elim h
  |tmp l=>obtain⟨a,xs,rfl,h1,h2,h3,h4,h5,h6⟩:=r1;exact h _ _ H1 (p1.freeze h1 h2 h3 h4 h5) ⟨a,xs,rfl,h6.same (qq.upd h4),.inl qf⟩
  |_=>exact False.elim h
 cases e with
 |Name x pos=>obtain⟨i,h1,rfl⟩:=qm h;exact qfF gd h1 pos
 |_=>exact gen h
def qkX{G:Hp}{a:Addr}{xs:List V}{l:List D}(h:G a=some (.lst xs)\/SqL K Hv a xs)(r:qp U G l xs):ItR U Hv G (Itl K a) l:=by
 intro i G1 H1 s1 s2 s3;have hq:SqL K H1 a xs:=h.elim (λz=>SqL.of (s3 _ _ (s1 _ _ z))) λz=>s2.seq z;refine{λd e=>?_,λe=>{xs,hq,by rw[<-r.len];omega}};obtain⟨v,e1,e2⟩:=r.atD e;refine{⟨xs,v,hq,e1⟩,λx H' ⟨z1,z2⟩=>{G1,by rw[z1];exactλ_ _ q=>q,λ_ _ q=>q,by rw[z1];exact s3,λ_ o q=>.inl ⟨o,q⟩,?_}}
 have:=z2 xs hq
 rw[e1]at this;cases this;exact e2.same s1
def qkY{G:Hp}{a:Addr}{xs:List V}{l:List D}(h:G a=some (.lst xs)\/SqL K Hv a xs)(r:qp U G l xs):ItR U Hv G (Itv K a xs) l.reverse:=by
 intro i G1 H1 s1 s2 s3;have hq:SqL K H1 a xs:=h.elim (λz=>SqL.of (s3 _ _ (s1 _ _ z))) λz=>s2.seq z;have hl:=r.len;refine{λd e=>?_,λe=>{hq,by simp at e;omega}};have hi:i < l.length:=by simpa using (List.getElem?_eq_some_iff.mp e).1
 rw[List.getElem?_reverse hi]at e;obtain⟨v,e1,e2⟩:=r.atD e;refine{{hq,by omega},λx H' ⟨z1,z2⟩=>{G1,by rw[z1];exactλ_ _ q=>q,λ_ _ q=>q,by rw[z1];exact s3,λ_ o q=>.inl ⟨o,q⟩,?_}};rw[<-hl,e1]at z2;cases z2;exact e2.same s1
def qkZ{G:Hp}{a:Addr}{xs:List V}{l:List D}(h:G a=some (.tup xs))(r:qp U G l xs):ItR U Hv G (Itt K a) l:=by
 intro i G1 H1 s1 s2 s3;have hq:SqT K H1 a xs:=SqT.of (s3 _ _ (s1 _ _ h));refine{λd e=>?_,λe=>{xs,hq,by rw[<-r.len];omega}};obtain⟨v,e1,e2⟩:=r.atD e;refine{⟨xs,v,hq,e1⟩,λx H' ⟨z1,z2⟩=>{G1,by rw[z1];exactλ_ _ q=>q,λ_ _ q=>q,by rw[z1];exact s3,λ_ o q=>.inl ⟨o,q⟩,?_}}
 have:=z2 xs hq
 rw[e1]at this;cases this;exact e2.same s1
def qk0{G:Hp}{x:Str}:ItR U Hv G (Its x) (qcr x):=by
 intro i G1 H1 s1 s2 s3;have hl:(qcr x).length=x.cps.size:=by simp[qcr]
 refine{λd e=>?_,λe=>by rw[<-e,hl];rfl};unfold qcr at e;rw[List.getElem?_map]at e;obtain⟨c,e1,rfl⟩:=Option.map_eq_some_iff.mp e;rw[Array.getElem?_toList]at e1;refine{(Array.getElem?_eq_some_iff.mp e1).1,λv H' ⟨z1,c',z2,z3⟩=>{G1,by rw[z1];exactλ_ _ q=>q,λ_ _ q=>q,by rw[z1];exact s3,λ_ o q=>.inl ⟨o,q⟩,?_}};rw[e1]at z2;cases z2;rw[z3];simp![Rep]
def qgX{G:Hp}{lo hi:Int}:ItR U Hv G (Itr lo (hi - lo).toNat) (zZ lo hi):=by
 intro i G1 H1 s1 s2 s3;refine{λd e=>?_,λe=>?_}
 ·unfold zZ at e;rw[List.getElem?_map]at e;obtain⟨j,e1,rfl⟩:=Option.map_eq_some_iff.mp e;obtain⟨h1,h2⟩:=List.getElem?_eq_some_iff.mp e1;have hi':i < (hi - lo).toNat:=(-h1:)
  have hj:j=i:=by rw[<-h2];simp
  subst hj;refine{hi',λx H' ⟨z1,z2⟩=>{G1,by rw[z1];exactλ_ _ q=>q,λ_ _ q=>q,by rw[z1];exact s3,λ_ o q=>.inl ⟨o,q⟩,?_}};rw[z2];simp![Rep]
 ·have hl:(zZ lo hi).length=(hi - lo).toNat:=by simp![zZ,List.length_map,List.length_range]
  show(hi - lo).toNat<=i;omega
def qdP{G H:Hp}{T:Addr}{x y:V}{d e:D}(sub:qq G H)(hT:H T=none)(hx:Rep U G d x)(hy:Rep U G e y) :
  ∃G',qq H (upd H T (.tup [x,y]))/\qq G G'/\qq G' (upd H T (.tup [x,y]))/\(∀a o,G' a=some o->(∃o',G a=some o')\/H a=none)/\Rep U G' (.tup [d,e]) (.ref T):=by
 have gT:G T=none:=qq.none sub hT;have gs:qq G (upd G T (.tup [x,y])):=qq.upd gT;refine{upd G T (.tup [x,y]),qq.upd hT,gs,λb u q=>?_,λb u q=>?_,?_}
 ·by_cases hb:b=T
  ·subst hb;rw[qf]at q ⊢;exact q
  ·rw[qe hb]at q ⊢;exact sub b u q
 ·by_cases hb:b=T
  ·subst hb;exact .inr hT
  ·rw[qe hb]at q;exact .inl ⟨u,q⟩
 ·simp![Rep];exact{T,_,rfl,qf,.cons (hx.same gs) %[hy.same gs|0]}
def qk1{G:Hp}{a:Addr}{xs:List V}{l:List D}(h:G a=some (.lst xs)\/SqL K Hv a xs)(r:qp U G l xs):ItR U Hv G (Ite K a) (J5 l):=by
 intro i G1 H1 s1 s2 s3;have hq:SqL K H1 a xs:=h.elim (λz=>SqL.of (s3 _ _ (s1 _ _ z))) λz=>s2.seq z;have hlen:(J5 l).length=l.length:=by simp[J5]
 refine{λd e=>?_,λe=>{xs,hq,by rw[<-r.len];omega}};have hi:i < l.length:=by rw[<-hlen];exact(List.getElem?_eq_some_iff.mp e).1
 have e0:(J5 l)[i]?=some (.tup [.int i,l[i]]):=by unfold J5;rw[List.getElem?_zipWith];simp[hi]
 rw[e0]at e;cases e;obtain⟨v,e1,e2⟩:=r.atD (List.getElem?_eq_getElem hi);refine{⟨xs,v,hq,e1⟩,λx H' z=>?_};obtain⟨T,x',rfl,hT,rfl,z2⟩:=z
 have:=z2 xs hq
 rw[e1]at this;cases this;exact qdP s3 hT (by simp![Rep]) (e2.same s1)
def qk2{G:Hp}{a b:Addr}{xs ys:List V}{l n:List D}(h:G a=some (.lst xs)\/SqL K Hv a xs)(r:qp U G l xs)(h':G b=some (.lst ys)\/SqL K Hv b ys)(r':qp U G n ys):ItR U Hv G (Itz K a b) (qct l n):=by
 intro i G1 H1 s1 s2 s3;have hq:SqL K H1 a xs:=h.elim (λz=>SqL.of (s3 _ _ (s1 _ _ z))) λz=>s2.seq z;have hq':SqL K H1 b ys:=h'.elim (λz=>SqL.of (s3 _ _ (s1 _ _ z))) λz=>s2.seq z;have hlen:(qct l n).length=min l.length n.length:=by simp[qct]
 have l1:=r.len;have l2:=r'.len;refine{λd e=>?_,λe=>{xs,ys,hq,hq',by omega}};have hi:i < min l.length n.length:=by rw[<-hlen];exact(List.getElem?_eq_some_iff.mp e).1
 have i1:i < l.length:=by omega
 have i2:i < n.length:=by omega
 have e0:(qct l n)[i]?=some (.tup [l[i],n[i]]):=by unfold qct;rw[List.getElem?_zipWith];simp[i1,i2]
 rw[e0]at e;cases e;obtain⟨v,e1,e2⟩:=r.atD (List.getElem?_eq_getElem i1);obtain⟨w,e3,e4⟩:=r'.atD (List.getElem?_eq_getElem i2);refine{⟨xs,ys,v,w,hq,hq',e1,e3⟩,λx H' z=>?_};obtain⟨T,x',y',rfl,hT,rfl,z2⟩:=z;obtain⟨z3,z4⟩:=z2 xs ys hq hq';rw[e1]at z3;rw[e3]at z4;cases z3;cases z4;exact qdP s3 hT (e2.same s1) (e4.same s1)
def J6{i:Int}(h:zf i=true):-(2 ^ 62)<=i/\i < 2 ^ 62:=by
 unfold zf at h
 simpa [Bool.and_eq_true] using h
theorem qfG(gd:Gd U K ε k X L)(A:All U K ε k X L m)(tg e:Expr)(x:I)(h:(cL m L e).map .seq=some x):PI X tg e (tI U K ε Gv Hv (iI L.k x)):=by
 obtain⟨a',h1,rfl⟩:=qm h;refine PI.imp (qkW (A.l Gv Hv _ _ h1)) λZ H Q hq1=>?_;obtain⟨N,G,er,h⟩:=hq1;refine{N,G,er,Wx.mono (Wx.th (x:=yP a' (iR L.k a') N) h) λx h v G1 H1 p1 r1=>?_};obtain⟨⟨b,l⟩,N1⟩:=x
 cases b with
 |str=>obtain⟨y,rfl,rfl⟩:=r1;exact .inr ⟨y,rfl,h _ G1 H1 p1 qk0⟩
 |tup=>obtain⟨a,xs,rfl,r2,r3⟩:=r1;exact .inl ⟨a,rfl,.inr ⟨⟨xs,SqT.of (p1.er.sub _ _ r3)⟩,h _ G1 H1 p1 (by rw[gd.hK];exact qkZ r3 r2)⟩⟩
 |lst=>obtain⟨a,xs,rfl,r2,r3⟩:=r1;refine .inl ⟨a,rfl,.inl ⟨⟨xs,?_⟩,h _ G1 H1 p1 (by rw[gd.hK];exact qkX r3 r2)⟩⟩;rw[gd.hK];exact r3.elim (λz=>SqL.of (p1.er.sub _ _ z)) λz=>p1.er.base.seq z
def qby{a b:Expr}{env:PySem.Env}(h1:qD a=false)(h2:qD b=false):starEach [a,b] env=[(false,eval a env),(false,eval b env)]:=by rw[qg h1,qg h2];rfl
def qdQ{G H:Hp}{N:Env}{Z:L2.St}{a:Addr}{xs:List V}(gd:Gd U K ε k X L)(er:ER U K Gv Hv G H N Z)(r:G a=some (.lst xs)\/SqL K Hv a xs):∃xs,SqL X.K H a xs:=by rw[gd.hK];exact{xs,r.elim (λz=>SqL.of (er.sub _ _ z)) λz=>er.base.seq z}
def qiv(gd:Gd U K ε k X L)(A:All U K ε k X L m)(tg a:Expr)(f:Str)(p q:Pos)(x:I)(hg:Gl X f)(h:oif (!qD a) (if f = "range" then (cE m L a).map .rng else if f = "enumerate" then oif (qft tg) ((cL m L a).map .enum) else if f = "reversed" then (cL m L a).map .rev else none)=some x) :
  PI X tg (.Call (.Name f p) [a] [] q) (tI U K ε Gv Hv (iI L.k x)):=by
 obtain⟨hs,h⟩:=qi h;have hs:qD a=false:=(-hs:)
 by_cases h1:f = "range"
 ·subst h1;rw[if_pos rfl]at h;obtain⟨a',h1,rfl⟩:=qm h;refine PI.imp (qc0 hg (gd.blt _ (2:)) (qj (A.r Gv Hv _ _ h1) qx (qg hs)) (qg hs)) λZ H Q hq1=>?_;obtain⟨N,G,er,h⟩:=hq1;refine{N,G,er,Wx.mono (Wx.th (x:=iR L.k a' N) h) λx h v G1 H1 p1 r1=>?_}
  cases e1:x.1.int? with
  |none=>rw[e1]at h;exact False.elim h
  |some n=>
   rw[e1]at h;obtain⟨hz,h⟩:=Wx.iff h;obtain⟨z1,z2⟩:=J6 hz;refine{n,by rw[r1.int e1],z1,z2,h _ G1 H1 p1 ?_}
   have:=qgX (U:=U) (Hv:=Hv) (G:=G1) (lo:=0) (hi:=n)
   rw[Int.sub_zero]at this;exact this
 rw[if_neg h1]at h
 by_cases h2:f = "enumerate"
 ·subst h2;rw[if_pos rfl]at h;obtain⟨ht,h⟩:=qi h;obtain⟨a',h1,rfl⟩:=qm h
  cases tg with
  |Tuple es j tp=>
   refine PI.imp (qia hg (gd.blt _ (2:)) (qj (A.l Gv Hv _ _ h1) qx (qg hs)) (qg hs)) λZ H Q hq1=>?_;obtain⟨N,G,er,h⟩:=hq1;refine{N,G,er,Wx.mono (Wx.th (x:=yP a' (iR L.k a') N) h) λx h v G1 H1 p1 r1=>?_};obtain⟨⟨b,l⟩,N1⟩:=x
   cases b with
   |lst=>obtain⟨c,xs,rfl,r2,r3⟩:=r1;exact{c,rfl,qdQ gd p1.er r3,h _ G1 H1 p1 (by rw[gd.hK];exact qk1 r3 r2)}
   |_=>exact False.elim h
  |_=>cases ht
 rw[if_neg h2]at h
 by_cases h3:f = "reversed"
 ·subst h3;rw[if_pos rfl]at h;obtain⟨a',h1,rfl⟩:=qm h;refine PI.imp (qks hg (gd.blt _ (2:)) (qj (A.l Gv Hv _ _ h1) qx (qg hs)) (qg hs)) λZ H Q hq1=>?_;obtain⟨N,G,er,h⟩:=hq1;refine{N,G,er,Wx.mono (Wx.th (x:=yP a' (iR L.k a') N) h) λx h v G1 H1 p1 r1=>?_};obtain⟨⟨b,l⟩,N1⟩:=x
  cases b with
  |lst=>obtain⟨c,xs,rfl,r2,r3⟩:=r1;refine{c,xs,rfl,?_,h _ G1 H1 p1 (by rw[gd.hK];exact qkY r3 r2)};rw[gd.hK];exact r3.elim (λz=>SqL.of (p1.er.sub _ _ z)) λz=>p1.er.base.seq z
  |_=>exact False.elim h
 rw[if_neg h3]at h;cases h
def qiw(gd:Gd U K ε k X L)(A:All U K ε k X L m)(tg a b:Expr)(f:Str)(p q:Pos)(x:I)(hg:Gl X f)(h:oif (!(qD a||qD b)) (if f = "range" then o2 (cE m L a) (cE m L b) .rng2 else if f = "zip" then oif (qft tg) (o2 (cL m L a) (cL m L b) .zip) else none)=some x) :
  PI X tg (.Call (.Name f p) [a,b] [] q) (tI U K ε Gv Hv (iI L.k x)):=by
 obtain⟨hs,h⟩:=qi h;have hs:(qD a||qD b)=false:=(-hs:)
 rw[Bool.or_eq_false_iff]at hs;obtain⟨s1,s2⟩:=hs
 by_cases h1:f = "range"
 ·subst h1;rw[if_pos rfl]at h;obtain⟨a',b',h1,h2,rfl⟩:=ql h;refine PI.imp (qc1 hg (gd.blt _ (2:)) (qj (A.r Gv Hv _ _ h1) (qj (A.r Gv Hv _ _ h2) qx (qg s2)) (qg s1)) (qby s1 s2) (qg s2)) λZ H Q hq1=>?_;obtain⟨N,G,er,h⟩:=hq1;refine{N,G,er,Wx.mono (Wx.th (x:=iR L.k a' N) h) λx h v G1 H1 p1 r1=>{x.2,G1,p1.er,Wx.mono (Wx.th (x:=iR L.k b' x.2) h) λy h w G2 H2 p2 r2=>?_}}
  cases e1:x.1.int? with
  |none=>rw[e1]at h;exact False.elim h
  |some i=>
   cases e2:y.1.int? with
   |none=>rw[e1,e2]at h;exact False.elim h
   |some j=>rw[e1,e2]at h;obtain⟨hz,h⟩:=Wx.iff h;obtain⟨z1,z2⟩:=J6 hz.1;obtain⟨z3,z4⟩:=J6 hz.2;exact{i,j,by rw[r1.int e1,r2.int e2],⟨z1,z2,z3,z4⟩,h _ G2 H2 (p1.trans p2) qgX}
 rw[if_neg h1]at h
 by_cases h2:f = "zip"
 ·subst h2;rw[if_pos rfl]at h;obtain⟨ht,h⟩:=qi h;obtain⟨a',b',h1,h2,rfl⟩:=ql h
  cases tg with
  |Tuple es j tp=>
   refine PI.imp (qkq hg (gd.blt _ (2:)) (qj (A.l Gv Hv _ _ h1) (qj (A.l Gv Hv _ _ h2) qx (qg s2)) (qg s1)) (qby s1 s2) (qg s2)) λZ H Q hq1=>?_;obtain⟨N,G,er,h⟩:=hq1;refine{N,G,er,Wx.mono (Wx.th (x:=yP a' (iR L.k a') N) h) λx h v G1 H1 p1 r1=>{x.2,G1,p1.er,Wx.mono (Wx.th (x:=yP b' (iR L.k b') x.2) h) λy h w G2 H2 p2 r2=>?_}};obtain⟨⟨bx,l⟩,N1⟩:=x;obtain⟨⟨by',n⟩,N2⟩:=y
   cases bx with
   |lst=>
    cases by' with
    |lst=>obtain⟨c,xs,rfl,r3,r4⟩:=r1;obtain⟨d,ys,rfl,r5,r6⟩:=r2;have r4':G2 c=some (.lst xs)\/SqL K Hv c xs:=r4.imp (λz=>p2.gs _ _ z) id;exact{c,d,rfl,qdQ gd p2.er r4',qdQ gd p2.er r6,h _ G2 H2 (p1.trans p2) (by rw[gd.hK];exact qk2 r4' (r3.same p2.gs) r6 r5)}
    |_=>exact False.elim h
   |_=>exact False.elim h
  |_=>cases ht
 rw[if_neg h2]at h;cases h
theorem qpy(gd:Gd U K ε k X L)(A:All U K ε k X L m)(tg e:Expr)(x:I)(h:cI (m+1) L (qft tg) e=some x):PI X tg e (tI U K ε Gv Hv (iI L.k x)):=by
 cases e with
 |Call fn es kws q=>
  cases fn with
  |Name f p=>
   cases kws with
   |nil=>
    have h:(if (decide (f = "range")||decide (f = "enumerate")||decide (f = "zip")||decide (f = "reversed"))=true then _ else _)=some x:=h
    by_cases hf:(decide (f = "range")||decide (f = "enumerate")||decide (f = "zip")||decide (f = "reversed"))=true
    ·rw[if_pos hf]at h;obtain⟨hn,h⟩:=qi h;simp![Bool.and_eq_true]at hn;have hg:=gd.glo _ hn.1.2
     match es,h with
     |[a],h=>exact qiv gd A tg a f p q x hg h
     |[a,b],h=>exact qiw gd A tg a b f p q x hg h
     |[_,_,_],h=>cases h
     |[],h=>cases h
     | _::_::_::_::_,h=>cases h
    ·rw[if_neg hf]at h;exact qfG gd A tg _ x h
   |cons kw kws=>exact qfG gd A tg _ x h
  |_=>exact qfG gd A tg _ x h
 |_=>exact qfG gd A tg _ x h
end
section
variable{U:KC}{ε:XK}{K:Frag}{Gv Hv:Hp}{k m:Nat}{X:Cx}{L:Ct}{x:E}
theorem ZQ:∀{m:Nat} {es:List Expr} {l:Es},cAs m L es=some l->es.any qD=false
 |0,_,_,h=>nomatch h
 | m+1,[],_,_=>rfl
 | m+1,e::es,_,h=>by
  obtain⟨hs,h⟩:=qi h;obtain⟨a,b,_,h2,_⟩:=ql h;rw[List.any_cons,ZQ h2,Bool.or_false]
  simpa using hs
def qaL{m:Nat}{l:Es}(h:cAs m L []=some l):l=.nil:=by
 cases m<;>cases h
 rfl
theorem ju{env:PySem.Env}{pos:Pos}:∀{es:List Expr},es.any qD=false->(backTo pos (starEach es env)).any (·.1)=false
 |[],_=>rfl
 | e::l,h=>by simp![List.any_cons,Bool.or_eq_false_iff]at h;rw[qg h.1];show(false||(backTo pos (starEach l env)).any (·.1))=false;rw[ju h.2];rfl
def XP.call{G H G1 H1:Hp}{N N1:Env}{Z:L2.St}(p:Po U K Gv Hv Z G H N G1 H1 N1):∀c l,XP U Gv Hv ε c l->XP U G1 H1 ε c l:=λc l h od G' H' h1 g1 s n x=>
 h od G' H' (λb o q=>h1 b o (p.er.base b o q)) (λb o q=>g1 b o (p.er.g0 b o q)) s (λa o q=>by
  rcases n a o q with ⟨o',z⟩|z
  ·exact p.er.fresh a o' z
  ·exact .inr (qq.none p.er.base z)) x
theorem ReR.rv{G H G1 H1 G2 H2:Hp}{N N1:Env}{Z:L2.St}{r:Rv}{v:V}(p:Po U K Gv Hv Z G H N G1 H1 N1)(hs:qq H1 H2)(gs:qq G1 G2)(sub:qq G2 H2)(new:∀a o,G2 a=some o->(∃o',G1 a=some o')\/H1 a=none)(h:ReR U G2 H2 H1 r v) :
  Po U K Gv Hv Z G H N G2 H2 N1/\RvR U K Hv H G2 H2 N1 Z r v:=by
 refine{p.trans (Po.more p.er hs gs sub new),?_}
 cases r with
 |val d=>exact h
 |tmp ds=>obtain⟨a,xs,rfl,h1,h2,h3,h4⟩:=h;exact{a,xs,rfl,h1,qq.none p.hs h2,qq.none p.er.base h2,h3,p.er.notOwn h2,h4}
 |cell ds=>exact False.elim h
 |scr ds=>exact False.elim h
theorem qfH(gd:Gd U K ε k X L)(A:All U K ε k X L m)(f:Str)(es:List Expr)(p q:Pos)(hok:qO f=true)(hgl:glB L.sc f=true)(ht:L.tab.contains f=true)(h:(cAs m L es).map (.call f)=some x):PE X (.Call (.Name f p) es [] q) (tR U K ε Gv Hv (iR L.k x)):=by
 obtain⟨l',h1,rfl⟩:=qm h;have hs:=ZQ h1;obtain⟨fa,fd,ps,F,hm,hk,hb⟩:=gd.fns f ht;obtain⟨n1,n2,n3⟩:=qv hok
 have key:∀Z H Q,tR U K ε Gv Hv (iR L.k (.call f l')) Z H Q->qfb (spF U K L.cl f) [] ε (tAs U K ε Gv Hv (iAs L.k l')) Z H Q:=λZ H Q ⟨N,G,er,h⟩=>by refine{N,G,er,Wx.mono (Wx.th (x:=iAs L.k l' N) h) λx h vs G1 H1 p1 r1=>?_};show spF U K L.cl f (vs++[]) H1 Q ε;rw[List.append_nil];refine{G1,x.1,p1.er.sub,r1,Wx.mono2 (Wx.th h) (XP.call p1) λr h v G2 H2 hs gs sub new rr=>?_};obtain⟨z1,z2⟩:=ReR.rv p1 hs gs sub new rr;exact h v G2 H2 z1 z2
 cases es with
 |nil=>cases qaL h1;refine PE.imp (qfc F gd.room (gd.glo f hgl) hm hk hb .nil gd.ps n1) λZ H Q h=>?_;obtain⟨N,G,er,h⟩:=key Z H Q h;exact h [] G H (Po.refl er) rfl
 |cons e l=>simp![List.any_cons,Bool.or_eq_false_iff]at hs;exact PE.imp (Jd F gd.room (gd.glo f hgl) hm hk hb .nil gd.ps (A.as Gv Hv _ _ h1) n1 (qg hs.1) (ju hs.2)) key
theorem qdR:∀{m:Nat} {es:List Expr} {l:Es},cEs m L es=some l->es.any qD=false
 |0,_,_,h=>nomatch h
 | m+1,[],_,_=>rfl
 | m+1,e::es,_,h=>by
  obtain⟨hs,h⟩:=qi h;obtain⟨a,b,_,h2,_⟩:=ql h;rw[List.any_cons,qdR h2,Bool.or_false]
  simpa using hs
def qfI(gd:Gd U K ε k X L)(A:All U K ε k X L m)(f:Str)(a:Expr)(p q:Pos)(hgl:glB L.sc f=true)(h:oif (!qD a) (o2 (qnz f) (cE m L a) E.b1)=some x):PE X (.Call (.Name f p) [a] [] q) (tR U K ε Gv Hv (iR L.k x)):=by
 obtain⟨hs,h⟩:=qi h;have s1:qD a=false:=(-hs:)
 obtain⟨y,a',h1,h2,rfl⟩:=ql h
 have key:∀Z H Q,tR U K ε Gv Hv (iR L.k (.b1 y a')) Z H Q->tCB (rC1 U K (XP U Gv Hv ε) Gv Hv y.go) (qfa (tR U K ε Gv Hv (iR L.k a')) qjA) Z H Q:=λZ H Q ⟨N,G,er,h⟩=>{N,G,er,Wx.mono (Wx.th (x:=iR L.k a' N) h) λx h v G1 H1 p1 r1=>{x.2,Z,G1,H,x.1,v,rfl,p1.er,r1,Wx.mono (Wx.th h) λz h u G2 H2 p2 r2=>h u G2 H2 (p1.trans p2) (r2.back p1.hs)}}
 have pa:=qj (A.r Gv Hv _ _ h2) qx (qg s1);unfold qnz at h1
 split at h1
 ·rename_i e;cases h1;subst e;exact PE.imp (qL (qkI (Ξ:=XP U Gv Hv ε) (Gv:=Gv) (Hv:=Hv) gd) (gd.glo _ hgl) (gd.blt _ (2:)) PySem.boot_len pa (2:) (2:) (qg s1) rfl) key
 split at h1
 ·rename_i e;cases h1;subst e;exact PE.imp (zA (qir (Ξ:=XP U Gv Hv ε) (Gv:=Gv) (Hv:=Hv) gd) (gd.glo _ hgl) (gd.blt _ (2:)) PyProof.Rows.boot_list pa (2:) (2:) (qg s1) rfl) key
 split at h1
 ·rename_i e;cases h1;subst e;exact PE.imp (zA (qkN (Ξ:=XP U Gv Hv ε) (U:=U) (K:=K) (Gv:=Gv) (Hv:=Hv)) (gd.glo _ hgl) (gd.blt _ (2:)) PyProof.Rows.boot_int pa (2:) (2:) (qg s1) rfl) key
 split at h1
 ·rename_i e;cases h1;subst e;exact PE.imp (qL (qdN (Ξ:=XP U Gv Hv ε) (Gv:=Gv) (Hv:=Hv) gd) (gd.glo _ hgl) (gd.blt _ (2:)) PyProof.Rows.boot_sorted pa (2:) (2:) (qg s1) rfl) key
 split at h1
 ·rename_i e;cases h1;subst e;exact PE.imp (qL (qkJ (Ξ:=XP U Gv Hv ε) (Gv:=Gv) (Hv:=Hv) gd) (gd.glo _ hgl) (gd.blt _ (2:)) PyProof.Rows.boot_sum pa (2:) (2:) (qg s1) rfl) key
 split at h1
 ·rename_i e;cases h1;subst e;exact PE.imp (qL (qkK (Ξ:=XP U Gv Hv ε) (Gv:=Gv) (Hv:=Hv) gd) (gd.glo _ hgl) (gd.blt _ (2:)) PyProof.Rows.boot_all pa (2:) (2:) (qg s1) rfl) key
 split at h1
 ·rename_i e;cases h1;subst e;exact PE.imp (zA (qkM (Ξ:=XP U Gv Hv ε) (U:=U) (K:=K) (Gv:=Gv) (Hv:=Hv)) (gd.glo _ hgl) (gd.blt _ (2:)) PyProof.Rows.boot_str pa (2:) (2:) (qg s1) rfl) key
 split at h1
 ·rename_i e;cases h1;subst e;exact PE.imp (zA (qfB (Ξ:=XP U Gv Hv ε) (Gv:=Gv) (Hv:=Hv) gd) (gd.glo _ hgl) (gd.blt _ (2:)) PyProof.Rows.boot_tuple pa (2:) (2:) (qg s1) rfl) key
 split at h1
 ·rename_i e;cases h1;subst e;exact PE.imp (qL (qkL (Ξ:=XP U Gv Hv ε) (Gv:=Gv) (Hv:=Hv) gd) (gd.glo _ hgl) (gd.blt _ (2:)) PyProof.Rows.boot_any pa (2:) (2:) (qg s1) rfl) key
 cases h1
def qfJ(gd:Gd U K ε k X L)(A:All U K ε k X L m)(f:Str)(a b:Expr)(p q:Pos)(hgl:glB L.sc f=true)(h:oif (!(qD a||qD b)) (o2 (qnA f) (o2 (cE m L a) (cE m L b) Prod.mk) λf p=>E.b2 f p.1 p.2)=some x):PE X (.Call (.Name f p) [a,b] [] q) (tR U K ε Gv Hv (iR L.k x)):=by
 obtain⟨hs,h⟩:=qi h;have hs:(qD a||qD b)=false:=(-hs:)
 rw[Bool.or_eq_false_iff]at hs;obtain⟨s1,s2⟩:=hs;obtain⟨y,z,h1,h2,rfl⟩:=ql h;obtain⟨a',b',h3,h4,rfl⟩:=ql h2
 have key:∀Z H Q,tR U K ε Gv Hv (iR L.k (.b2 y a' b')) Z H Q->tCB (rC2 U K (XP U Gv Hv ε) Gv Hv y.go) (qfa (tR U K ε Gv Hv (iR L.k a')) (qfa (tR U K ε Gv Hv (iR L.k b')) qjA)) Z H Q:=λZ H Q ⟨N,G,er,h⟩=>{N,G,er,Wx.mono (Wx.th (x:=iR L.k a' N) h) λx h v G1 H1 p1 r1=>{x.2,G1,p1.er,Wx.mono (Wx.nox (Wx.th (x:=noX (iR L.k b' x.2)) h)) λy h w G2 H2 p2 r2=>{y.2,Z,G2,H,H1,x.1,y.1,v,w,rfl,p2.er,r1.keep p2,r2,Wx.mono (Wx.th h) λz h u G3 H3 p3 r3=>h u G3 H3 (p1.trans (p2.trans p3)) (r3.back (p1.trans p2).hs)}}}
 have sa:(backTo q (starEach [b] X.env)).any (·.1)=false:=ju (by simp[s2]);have pa:=qj (A.r Gv Hv _ _ h3) (qj (A.r Gv Hv _ _ h4) qx (qg s2)) (qg s1);unfold qnA at h1
 split at h1
 ·rename_i e;cases h1;subst e;exact PE.imp (qL (qkO (Ξ:=XP U Gv Hv ε) (Gv:=Gv) (Hv:=Hv) gd) (gd.glo _ hgl) (gd.blt _ (2:)) PyProof.Rows.boot_max pa (2:) (2:) (qg s1) sa) key
 split at h1
 ·rename_i e;cases h1;subst e;exact PE.imp (qL (qkP (Ξ:=XP U Gv Hv ε) (Gv:=Gv) (Hv:=Hv) gd) (gd.glo _ hgl) (gd.blt _ (2:)) PyProof.Rows.boot_min pa (2:) (2:) (qg s1) sa) key
 cases h1
def qix:bootBuiltins "ValueError" = some (.type "ValueError"):=(3:)
def tyN:D->String
 |.non=>"NoneType" |.bl _=>"bool" |.int _=>"int" |.str _=>"str" |.lst _=>"list" |.tup _=>"tuple" |.ins ..=>"object" |.exc ..=>"object" |.dct ..=>"object"
def Ty.nm:Ty->String
 |.int=>"int" |.bool=>"bool" |.str=>"str" |.list=>"list" |.tuple=>"tuple"
theorem qnJ{G H Hb:Hp}{N:Env}{Z:L2.St}{r:Rv}{x:V}{t:Ty}{b:Bool}(er:ER U K Gv Hv G H N Z)(h:RvR U K Hv Hb G H N Z r x)(e:t.go r=some b):TyOf K H x (.type (tyN r.data)):=by
 cases r with
 |val d=>
  cases d<;>simp![RvR,Rep]at h
  ·subst h;exact .non
  ·subst h;exact .bl _
  ·subst h;exact .int _
  ·subst h;exact .str _
  ·obtain⟨a,xs,rfl,h1,_⟩:=h;exact .lst (er.sub _ _ h1)
  ·obtain⟨a,xs,rfl,h1,_⟩:=h;exact .tup (er.sub _ _ h1)
  ·cases t<;>cases e
  ·cases t<;>cases e
  ·cases t<;>cases e
 |tmp l=>obtain⟨a,xs,rfl,h1,_⟩:=h;exact .lst h1
 |cell l=>obtain⟨a,xs,rfl,h1,_⟩:=h;exact .lst h1
 |scr l=>cases e
theorem qk3{r:Rv}{t:Ty}{b:Bool}(e:t.go r=some b):PySem.W.kitOne K (.type (tyN r.data)) (.type t.nm)=some b:=by
 have main:∀d:D,t.of d=some b->PySem.W.kitOne K (.type (tyN d)) (.type t.nm)=some b:=λd e=>by cases t<;>cases d<;>cases e<;>rfl
 cases r with
 |val d=>exact main d e
 |tmp l=>exact main (.lst l) e
 |cell l=>exact main (.lst l) e
 |scr l=>cases e
def qdS{X:Cx}:zc X (.builtin "isinstance") (λvs H Q=>∃x c t cv b,vs=[x,c]/\TyOf X.K H x t/\qI c cv/\(∀u,qI c u->u=cv)/\PySem.W.kitOne X.K t cv=some b/\Q (.bl b) H):=by intro pins s Z H xs us Q I r h;obtain⟨x,c,t,cv,b,rfl,ty,rc,uq,e,q⟩:=h;obtain⟨u,v,rfl,ru,rv⟩:=Qs r;obtain rfl:v=cv:=uq v rv;exact Zp I ru ty e λtk=>{.bl b,H,I.tok tk,rfl,q}
theorem qk4(gd:Gd U K ε k X L)(A:All U K ε k X L m)(a:Expr)(t:Str)(p tp q:Pos)(hgl:glB L.sc "isinstance" = true)
  (h:oif (qO t&&glB L.sc t&&(qcT L.N t).isNone&&!qD a) (match qmR t with |some y=>(cE m L a).map (E.isi y) |none=>(cE m L a).map (.isc t))=some x):PE X (.Call (.Name "isinstance" p) [a,.Name t tp] [] q) (tR U K ε Gv Hv (iR L.k x)):=by
 obtain⟨hc,h⟩:=qi h;simp![Bool.and_eq_true,Bool.not_eq_true']at hc;obtain⟨⟨⟨c1,c2⟩,c3⟩,s1⟩:=hc
 cases hy:qmR t with
 |some y=>
  rw[hy]at h;obtain⟨a',h1,rfl⟩:=qm h
  have hb:PE X (.Name t tp) (tC (.ty y.nm)):=by
   unfold qmR at hy
   split at hy
   ·rename_i e;cases hy;subst e;exact Jb (gd.glo _ c2) (gd.blt _ (2:)) PyProof.Rows.boot_int rfl
   split at hy
   ·rename_i e;cases hy;subst e;exact Jb (gd.glo _ c2) (gd.blt _ (2:)) PyProof.Rows.boot_bool rfl
   split at hy
   ·rename_i e;cases hy;subst e;exact Jb (gd.glo _ c2) (gd.blt _ (2:)) PyProof.Rows.boot_str rfl
   split at hy
   ·rename_i e;cases hy;subst e;exact Jb (gd.glo _ c2) (gd.blt _ (2:)) PyProof.Rows.boot_list rfl
   split at hy
   ·rename_i e;cases hy;subst e;exact Jb (gd.glo _ c2) (gd.blt _ (2:)) PyProof.Rows.boot_tuple rfl
   cases hy
  refine PE.imp (qL qfm (gd.glo _ hgl) (gd.blt _ (2:)) PyProof.Rows.boot_isinstance (qj (A.r Gv Hv _ _ h1) (qj hb qx rfl) (qg s1)) (2:) (2:) (qg s1) rfl) λZ H Q hq1=>?_;obtain⟨N,G,er,h⟩:=hq1;refine{N,G,er,Wx.mono (Wx.th (x:=iR L.k a' N) h) λx h v G1 H1 p1 r1=>?_};obtain⟨b,e1,h⟩:=Wx.of (Wx.th h);exact{v,y.nm,_,b,rfl,by rw[gd.hK];exact qnJ p1.er r1 e1,by rw[gd.hK];exact qk3 e1,h _ G1 H1 p1 (by simp![RvR,Rep])}
 |none=>
  rw[hy]at h;obtain⟨a',h1,rfl⟩:=qm h;rintro pins s Z H Q I ⟨N,G,er,h⟩;have h2:=Wx.th (x:=noX (iR L.k a' N)) h
  cases e1:iR L.k a' N with
  |exc c l=>rw[e1]at h2;exact False.elim h2
  |no=>rw[e1]at h2;exact False.elim h2
  |ok x=>
   rw[e1]at h2;obtain⟨b,e2,h3⟩:=Wx.of (Wx.th (x:=R.of (qcs L.cs x.1 t)) h2)
   have e2:(∃c ns ds,x.1=.val (.ins c ns ds)/\L.cs.sub c t=some b)\/∃C ns ds,x.1=.val (.exc C ns ds)/\L.cs.xs C t=some b:=by
    obtain⟨r,env⟩:=x
    cases r with
    |val d=>
     cases d with
     |ins c ns ds=>exact .inl ⟨c,ns,ds,rfl,e2⟩
     |exc c ns ds=>exact .inr ⟨c,ns,ds,rfl,e2⟩
     |_=>cases e2
    |_=>cases e2
   rcases e2 with ⟨c,ns,ds,ex,e2⟩|⟨C,ns,ds,ex,e2⟩
   case inr=>
    obtain⟨hC,hT⟩:=gd.xsubs C t b e2
    have go:∀(c:V) (cv:Value),PE X (.Name t tp) (tC c)->qI c cv->(∀u,qI c u->u=cv)->PySem.W.kitOne X.K (.ref C) cv=some b->wpAny (model X.prog X.w) X.A (eval (.Call (.Name "isinstance" p) [a,.Name t tp] [] q) X.env) (EP X pins Z Q) X.xe s:=λc cv pc rc uq kt=>by
     refine(qL qdy (gd.glo _ hgl) (gd.blt _ (2:)) PyProof.Rows.boot_isinstance (qj (A.r Gv Hv _ _ h1) (qj pc qx rfl) (qg s1)) (2:) (2:) (qg s1) rfl) pins s Z H Q I ⟨N,G,er,?_⟩;rw[e1];intro v G1 H1 p1 r1;rw[ex]at r1;simp![RvR,Rep]at r1;obtain⟨p',od,xs,rfl,h4,h5,_⟩:=r1;refine{p',C,od,c,cv,b,rfl,{p1.er.sub _ _ h4,λdd hdd=>?_},hC,rc,uq,kt,h3 _ G1 H1 p1 (by simp![RvR,Rep])};rcases h5 with ⟨z,_⟩|⟨d2,z,z2⟩
     ·rw[z]at hdd;cases hdd
     ·rw[z]at hdd;cases hdd;exact{_,p1.er.sub _ _ z2}
    rcases hT with ⟨T,hT,kt⟩|⟨hT,rfl,kt⟩
    ·exact go (.ref T) (.ref T) (Ja (v:=.ref T) (gd.glo _ c2) hT rfl (qv c1).1) rfl (λu hu=>hu) kt
    ·exact go (.ty "ValueError") (.type "ValueError") (Jb (gd.glo _ c2) hT qix rfl) rfl (λu hu=>hu) kt
   obtain⟨C,T,hC,hty,hT,kt⟩:=gd.subs c t b e2;refine(qL qdS (gd.glo _ hgl) (gd.blt _ (2:)) PyProof.Rows.boot_isinstance (qj (A.r Gv Hv _ _ h1) (qj (Ja (v:=.ref T) (gd.glo _ c2) hT rfl (qv c1).1) qx rfl) (qg s1)) (2:) (2:) (qg s1) rfl) pins s Z H Q I ⟨N,G,er,?_⟩;rw[e1];intro v G1 H1 p1 r1;rw[ex]at r1;simp![RvR,Rep]at r1;obtain⟨p',dx,C',xs,hc',rfl,h4,hl,h5⟩:=r1;rw[hC]at hc';cases hc';exact{.ref p',.ref T,.ref C,.ref T,b,rfl,hty _ _ _ _ (p1.er.sub _ _ h4),rfl,λu hu=>hu,kt,h3 _ G1 H1 p1 (by simp![RvR,Rep])}
theorem ZU:∀{Ts:List Addr} {its:List Value},qF (List.map V.ref Ts) its->its=List.map Value.ref Ts
 |[],_,h=>by cases h;rfl
 | a::l,_,h=>by
  cases h with
  |cons h1 h2=>cases h1;rw[ZU h2];rfl
def qdT{X:Cx}:zc X (.builtin "isinstance") (λvs H Q=>∃x C od p Ts b,vs=[.ref x,.ref p]/\qfn H x C od/\ExcIs X.K C/\H p=some (.tup (List.map V.ref Ts))/\PySem.W.kitAny X.K (.ref C) (List.map Value.ref Ts)=some b/\Q (.bl b) H):=by intro pins s Z H xs us Q I r h;obtain⟨x,C,od,p,Ts,b,rfl,hx,hC,hp,e,q⟩:=h;obtain⟨u,v,rfl,ru,rv⟩:=Qs r;cases ru;cases rv;obtain⟨_,its,hv,ht⟩:=(show qQ X.prog X.w H s.heap p (.tup (List.map V.ref Ts)) from I.hok p _ hp);have ei:=ZU hv;subst ei;obtain⟨⟨c,dd,da,sl⟩,h1,h2,n,h3⟩:=ht;cases h2;cases h3;exact PySem.W.kia_tup (qdx hC) I.kIn (hx.inst I) h1 e (λz=>nomatch z) λtk=>{.bl b,H,I.tok tk,rfl,q}
theorem qgY(gd:Gd U K ε k X L){C:Addr}:∀(bs:List Expr) (ts:List Str) (b:Bool),cNm L bs=some ts->qmO L.cs C ts=some b->∃Ts:List Addr,PA X bs (λZ H Q=>Q (List.map V.ref Ts) H)/\PySem.W.kitAny X.K (.ref C) (List.map Value.ref Ts)=some b/\Ts.length=bs.length/\(bs≠[]->ExcIs X.K C)
 |[],ts,b,h1,h2=>by cases h1;cases h2;exact{[],qx,rfl,rfl,λz=>absurd rfl z}
 | e::bs,ts,b,h1,h2=>by
  cases e with
  |Name t tp=>
   obtain⟨hc,h1⟩:=qi h1;obtain⟨l,h3,rfl⟩:=qm h1;simp![Bool.and_eq_true,decide_eq_true_eq]at hc;obtain⟨b1,h4,h5⟩:=Option.bind_eq_some_iff.mp h2;obtain⟨b2,h6,rfl⟩:=qm h5;obtain⟨Ts,i1,i2,i3,_⟩:=qgY gd bs l b2 h3 h6;obtain⟨hC,⟨T,hT,kt⟩|⟨_,z,_⟩⟩:=gd.xsubs C t b1 h4
   ·refine{T::Ts,qj (Ja (v:=.ref T) (gd.glo _ hc.1.2) hT rfl (qv hc.1.1).1) i1,?_,by simp[i3],λ_=>hC};rw[List.map_cons];unfold PySem.W.kitAny;rw[kt]
    cases b1 with
    |true=>rfl
    |false=>exact i2
   ·exact absurd z hc.2
  |_=>cases h1
theorem qk5(gd:Gd U K ε k X L)(A:All U K ε k X L m)(a:Expr)(bs:List Expr)(j:Nat)(p tp q:Pos)(hgl:glB L.sc "isinstance" = true)
  (h:oif (!qD a&&!bs.isEmpty&&decide (bs.length < 100)) (o2 (cNm L bs) (cE m L a) E.isn)=some x):PE X (.Call (.Name "isinstance" p) [a,.Tuple bs j tp] [] q) (tR U K ε Gv Hv (iR L.k x)):=by
 obtain⟨hc,h⟩:=qi h;obtain⟨ts,a',h0,h1,rfl⟩:=ql h;simp![Bool.and_eq_true,Bool.not_eq_true',decide_eq_true_eq,List.isEmpty_eq_false_iff]at hc;obtain⟨⟨s1,ne⟩,hl⟩:=hc;rintro pins s Z H Q I ⟨N,G,er,h⟩;have h2:=Wx.th (x:=noX (iR L.k a' N)) h
 cases e1:iR L.k a' N with
 |exc c l=>rw[e1]at h2;exact False.elim h2
 |no=>rw[e1]at h2;exact False.elim h2
 |ok x=>
  rw[e1]at h2;obtain⟨b,e2,h3⟩:=Wx.of (Wx.th (x:=R.of (qjD L.cs x.1 ts)) h2)
  obtain⟨C,ns,ds,ex,e2⟩:∃C ns ds,x.1=.val (.exc C ns ds)/\qmO L.cs C ts=some b:=by
   obtain⟨r,env⟩:=x
   cases r with
   |val d=>
    cases d with
    |exc c ns ds=>exact⟨c,ns,ds,rfl,e2⟩
    |_=>cases e2
   |_=>cases e2
  obtain⟨Ts,i1,i2,i3,i4⟩:=qgY gd bs ts b h0 e2;refine(qL qdT (gd.glo _ hgl) (gd.blt _ (2:)) PyProof.Rows.boot_isinstance (qj (A.r Gv Hv _ _ h1) (qj (qgC i1) qx rfl) (qg s1)) (2:) (2:) (qg s1) rfl) pins s Z H Q I ⟨N,G,er,?_⟩;rw[e1];intro v G1 H1 p1 r1;refine{by rw[List.length_map,i3];exact Nat.le_trans (Nat.le_of_lt hl) (3:),λpp hp=>?_};have p2:=Po.room p1.er (qq.upd (o:=HO.tup (List.map V.ref Ts)) hp);rw[ex]at r1;simp![RvR,Rep]at r1;obtain⟨p',od,xs,rfl,h4,h5,_⟩:=r1;refine{p',C,od,pp,Ts,b,rfl,{p2.er.sub _ _ h4,λdd hdd=>?_},i4 ne,qf,i2,h3 _ G1 _ (p1.trans p2) (by simp![RvR,Rep])};rcases h5 with ⟨z,_⟩|⟨d2,z,z2⟩
  ·rw[z]at hdd;cases hdd
  ·rw[z]at hdd;cases hdd;exact{_,p2.er.sub _ _ z2}
def qaM{o:Expr}(h:yM o=true)(x:Str)(env:PySem.Env):attributeBase o x env (eval o env)=eval o env:=by cases o<;>first|rfl|(simp[yM]at h)
theorem qiy{cs:Cs}{r:Rv}{x:Str}{d:D}(h:qay cs r x=some d):(∃c ns ds,r=.val (.ins c ns ds)/\cs.fld c x=true/\(ns.zip ds).lookup x=some d)\/∃C ns ds,r=.val (.exc C ns ds)/\cs.xg C x=true/\(ns.zip ds).lookup x=some d:=by
 cases r with
 |val e=>
  cases e with
  |ins c ns ds=>
   have h:(if cs.fld c x=true then (ns.zip ds).lookup x else none)=some d:=h
   by_cases hf:cs.fld c x=true
   ·rw[if_pos hf]at h;exact .inl ⟨c,ns,ds,rfl,hf,h⟩
   ·rw[if_neg hf]at h;cases h
  |exc c ns ds=>
   have h:(if cs.xg c x=true then (ns.zip ds).lookup x else none)=some d:=h
   by_cases hf:cs.xg c x=true
   ·rw[if_pos hf]at h;exact .inr ⟨c,ns,ds,rfl,hf,h⟩
   ·rw[if_neg hf]at h;cases h
  |_=>cases h
 |_=>cases h
theorem qk6{cs:Cs}{r:Rv}{x f:Str}(h:mtD cs r x=some f):∃c ns ds,r=.val (.ins c ns ds)/\ns.contains x=false/\cs.mt c x=some f:=by
 cases r with
 |val e=>
  cases e with
  |ins c ns ds=>
   have h:(if ns.contains x=true then none else cs.mt c x)=some f:=h
   by_cases hf:ns.contains x=true
   ·rw[if_pos hf]at h;cases h
   ·rw[if_neg hf]at h;exact{c,ns,ds,rfl,(-hf:),h}
  |_=>cases h
 |_=>cases h
theorem qbz{x:Str}:∀{ns:List Str} {xs:List V},ns.contains x=false->(ns.zip xs).lookup x=none
 |[],_,_=>by simp
 | n::ns,[],_=>by simp
 | n::ns,v::xs,h=>by simp![List.contains_cons,Bool.or_eq_false_iff]at h;rw[List.zip_cons_cons,List.lookup_cons,h.1];exact qbz h.2
theorem qk7(gd:Gd U K ε k X L)(A:All U K ε k X L m)(o:Expr)(y:Str)(pos:Pos)(h:cE (m+1) L (.Attribute o y pos)=some x):PE X (.Attribute o y pos) (tR U K ε Gv Hv (iR L.k x)):=by
 obtain⟨ho,h⟩:=qi h;obtain⟨a',h1,rfl⟩:=qm h;rintro pins s Z H Q I ⟨N,G,er,h⟩;have h2:=Wx.th (x:=noX (iR L.k a' N)) h
 cases e0:iR L.k a' N with
 |exc c l=>rw[e0]at h2;exact False.elim h2
 |no=>rw[e0]at h2;exact False.elim h2
 |ok z=>
  rw[e0]at h2;obtain⟨d,e1,h⟩:=Wx.of (Wx.th (x:=R.of (qay L.cs z.1 y)) h2);rcases qiy e1 with ⟨c,ns,ds,e2,e3,e4⟩|⟨C,ns,ds,e2,e3,e4⟩
  ·refine qj5 (A.r Gv Hv _ _ h1) (qaM ho y X.env) pins s Z H Q I ⟨N,G,er,?_⟩;rw[e0];intro v G1 H1 p1 r1;rw[e2]at r1;simp![RvR,Rep]at r1;obtain⟨p,dx,C,xs,hc,rfl,h1,hl,h2⟩:=r1;obtain⟨u,e5,ru⟩:=QH h2 e4;exact{p,C,dx,_,u,rfl,p1.er.sub _ _ h1,gd.cls c C hc,gd.flds c y C e3 hc,e5,h u G1 H1 p1 ru}
  ·refine qii (A.r Gv Hv _ _ h1) (qaM ho y X.env) pins s Z H Q I ⟨N,G,er,?_⟩;rw[e0];intro v G1 H1 p1 r1;rw[e2]at r1;simp![RvR,Rep]at r1;obtain⟨p,od,xs,rfl,h1,h3,h2⟩:=r1;obtain⟨u,e5,ru⟩:=QH h2 e4;rcases h3 with ⟨_,z⟩|⟨dd,rfl,h3⟩
   ·rw[z]at e4;simp at e4
   ·exact{p,C,dd,_,u,rfl,p1.er.sub _ _ h1,p1.er.sub _ _ h3,gd.xgs C y e3,e5,h u G1 H1 p1 ru}
def J7{o:Expr}{x:Str}{ap q:Pos}{es:List Expr}{env:PySem.Env}(ho:yM o=true)(hs:es.any qD=false)(hl:es.length < 30)(hp:(ap.endLine == q.line)=true) :
  eval (.Call (.Attribute o x ap) es [] q) env=(do
   let ov<-eval o env
   standAt ap.atName
   let (f,first)<-holding [ov] (getMethod ov x (do return (<-importBound o env).getD true))
   callWith q f first (backTo q (starEach es env)) (backToKw q (keywordEach [] env))):=by
 have hm:methodCallForm (es.length+([]:List Keyword).length) (backTo q (starEach es env)) (backToKw q (keywordEach [] env))=true:=by
  have e:=ju (pos:=q) (env:=env) hs;unfold methodCallForm;simp![Bool.and_eq_true,decide_eq_true_eq];refine{{?_,rfl},?_}
  ·rw[List.all_eq_true];intro y hy
   have:=List.any_eq_false.mp e y hy
   simpa using this
  ·show es.length+0+0 < 30;omega
 show(do
  let ov<-attributeBase o x env (eval o env)
  standAt ap.atName
  methodCall o x ap q env ov (es.length+([]:List Keyword).length) (backTo q (starEach es env)) (backToKw q (keywordEach [] env)))=_
 rw[qaM ho];unfold methodCall;simp![hm,calleeOf,methodCallPos,if_true,hp,Bool.not_true,Bool.false_or];rfl
theorem qfK{pins:PP}{s:Shared}{Z:L2.St}{H G:Hp}{Q:VK}{N:Env}{y:Rv×Env}{o:Expr}{ap q:Pos}{es:List Expr}{a':E}{l':Es}(A:All U K ε k X L m)(ho:yM o=true)(hp:(ap.endLine == q.line)=true)(hl:es.length < 30)(h1:cE m L o=some a')(h2:cAs m L es=some l')
  (er:ER U K Gv Hv G H N Z) (e1:iR L.k a' N=.ok y) (h:Wx X0 (iAs L.k l' y.2) (λz=>Wx X0 ((ixM y.1 z.1).th λr=>R.ok (r,z.2)) (λx=>∀v G' H',Po U K Gv Hv Z G H N G' H' x.2->RvR U K Hv H G' H' x.2 Z x.1 v->Q v H'))) (I:Inv X pins Z H s) :
  wpAny (model X.prog X.w) X.A (eval (.Call (.Attribute o "index" ap) es [] q) X.env) (EP X pins Z Q) X.xe s:=by
 refine False.elim ?_
 cases e4:iAs L.k l' y.2 with
 |ok z=>rw[e4]at h;exact h
 |exc c l=>rw[e4]at h;exact h
 |no=>rw[e4]at h;exact h
theorem qiz{pins:PP}{s:Shared}{Z:L2.St}{H G:Hp}{Q:VK}{N N1:Env}{a nm:Str}{o:Expr}{ap q:Pos}{es:List Expr}{a':E}{l':Es}(A:All U K ε k X L m)(gd:Gd U K ε k X L)(ho:yM o=true)(hp:(ap.endLine == q.line)=true)(hl:es.length < 30)(h1:cE m L o=some a')(h2:cAs m L es=some l')
  (er:ER U K Gv Hv G H N Z) (e1:iR L.k a' N=.ok (.val (.str a),N1)) (h:Wx X0 (iAs L.k l' N1) (λz=>Wx X0 ((bmD nm (.val (.str a)) z.1).th λr=>R.ok (r,z.2)) (λx=>∀v G' H',Po U K Gv Hv Z G H N G' H' x.2->RvR U K Hv H G' H' x.2 Z x.1 v->Q v H'))) (I:Inv X pins Z H s) :
  wpAny (model X.prog X.w) X.A (eval (.Call (.Attribute o nm ap) es [] q) X.env) (EP X pins Z Q) X.xe s:=by
 have hs:=ZQ h2
 cases e4:iAs L.k l' N1 with
 |exc c l=>rw[e4]at h;exact False.elim h
 |no=>rw[e4]at h;exact False.elim h
 |ok z=>
 rw[e4]at h;exact False.elim h
theorem qiA(gd:Gd U K ε k X L)(A:All U K ε k X L m)(o:Expr)(y:Str)(ap:Pos)(es:List Expr)(q:Pos)(h:cE (m+1) L (.Call (.Attribute o y ap) es [] q)=some x):PE X (.Call (.Attribute o y ap) es [] q) (tR U K ε Gv Hv (iR L.k x)):=by
 have h:(if (yM o&&(ap.endLine == q.line)&&decide (es.length < 30))=true then _ else none)=_:=h
 by_cases hc:(yM o&&(ap.endLine == q.line)&&decide (es.length < 30))=true
 case neg=>rw[if_neg hc]at h;cases h
 rw[if_pos hc]at h;obtain⟨a',l',h1,h2,rfl⟩:=ql h;rintro pins s Z H Q I ⟨N,G,er,h⟩;have h:=Wx.th (x:=noX (iR L.k a' N)) h;simp![Bool.and_eq_true,decide_eq_true_eq]at hc;obtain⟨⟨ho,hp⟩,hl⟩:=hc
 cases e1:iR L.k a' N with
 |exc c l=>rw[e1]at h;exact False.elim h
 |no=>rw[e1]at h;exact False.elim h
 |ok w=>
  rw[e1]at h
  have h:Wx _ (match mtD L.cs w.1 y with
   |some f=>(iAs L.k l' w.2).th λz=>(L.cl f (toAr w.1::z.1)).th λr=>R.ok (r,z.2)
   |none=>(noX (iAs L.k l' w.2)).th λz=>(noX (bmD y w.1 z.1)).th λr=>R.ok (r,z.2)) _:=h
  cases e2:mtD L.cs w.1 y with
  |none=>
   rw[e2]at h;have h0:=Wx.nox (Ξ':=X0) (Wx.th (x:=noX (iAs L.k l' w.2)) h);have h:Wx X0 (iAs L.k l' w.2) λz=>Wx X0 ((bmD y w.1 z.1).th λr=>R.ok (r,z.2)) λx=>∀v G' H',Po U K Gv Hv Z G H N G' H' x.2->RvR U K Hv H G' H' x.2 Z x.1 v->Q v H':=Wx.mono h0 λz hz=>Wx.ht (Wx.mono (Wx.nox (Wx.th (x:=noX (bmD y w.1 z.1)) hz)) λr hr=>hr);clear h0;obtain⟨wr,wρ⟩:=w
   by_cases hs:∃a,wr=.val (.str a)
   ·obtain⟨a,rfl⟩:=hs;exact qiz A gd ho hp hl h1 h2 er e1 h I
   ·have hb:∀as,bmD y wr as=if y = "index" then ixM wr as else .no:=by
     cases wr with
     |val d=>
      cases d with
      |str a=>exact absurd ⟨a,rfl⟩ hs
      |_=>intro as;rfl
     |_=>intro as;rfl
    by_cases hx:y = "index"
    ·subst hx;refine qfK A ho hp hl h1 h2 er e1 (Wx.mono h λz hz=>?_) I;rw[hb,if_pos rfl]at hz;exact hz
    ·refine False.elim ?_
     cases e4:iAs L.k l' wρ with
     |ok z=>rw[e4]at h;have h:Wx _ ((bmD y wr z.1).th _) _:=h;rw[hb,if_neg hx]at h;exact h
     |exc c l=>rw[e4]at h;exact h
     |no=>rw[e4]at h;exact h
  |some f=>
  rw[e2]at h;obtain⟨c,ns,ds,e3,e4,e5⟩:=qk6 e2;obtain⟨C,fa,fd,ps,hC,M,F,B⟩:=gd.mts c y f e5;have h:=Wx.th (x:=iAs L.k l' w.2) h;have hs:=ZQ h2;have hs0:=hs
  have all:qhK C y (spF U K L.cl f) [] ε (tR U K ε Gv Hv (iR L.k a')) (tAs U K ε Gv Hv (iAs L.k l')) Z H Q:=by
   refine{N,G,er,?_};rw[e1];intro v G1 H1 p1 r1;have r1':=r1;rw[e3]at r1';simp![RvR,Rep]at r1';obtain⟨p',dx,C',xs,hc',rfl,h4,hl,h5⟩:=r1';rw[hC]at hc';cases hc';refine{p',dx,_,rfl,p1.er.sub _ _ h4,qbz e4,w.2,G1,p1.er,Wx.mono h λz h vs G2 H2 p2 r2=>?_};show spF U K L.cl f (V.ref p'::(vs++[])) H2 Q ε;rw[List.append_nil];refine{G2,toAr w.1::z.1,p2.er.sub,{_,_,rfl,?_,r2},Wx.mono2 (Wx.th h) (XP.call p2) λr h v G3 H3 hs gs sub new rr=>?_}
   ·rw[e3]at r1 ⊢;exact Rep.same p2.gs r1
   ·obtain⟨z1,z2⟩:=ReR.rv (p1.trans p2) hs gs sub new rr;exact h v G3 H3 z1 z2
  cases es with
  |nil=>cases qaL h2;refine qfd (A.r Gv Hv _ _ h1) (gd.cls c C hC) M F gd.room B .nil gd.ps (ht:=J7 ho hs0 hl hp) pins s Z H Q I ?_;obtain⟨N',G',er',z⟩:=all;refine{N',G',er',Wx.mono z λx z v G1 H1 p1 r1=>?_};obtain⟨a,dx,fs,z1,z2,z3,N2,G2,er2,z⟩:=z v G1 H1 p1 r1;exact{a,dx,fs,z1,z2,z3,z [] G2 H1 (Po.refl er2) rfl}
  |cons e l=>simp![List.any_cons,Bool.or_eq_false_iff]at hs;exact qhM (A.r Gv Hv _ _ h1) (gd.cls c C hC) M F gd.room B .nil gd.ps (A.as Gv Hv _ _ h2) (qg hs.1) (ju hs.2) (ht:=J7 ho hs0 hl hp) pins s Z H Q I all
theorem qiB(gd:Gd U K ε k X L)(A:All U K ε k X L m)(f:Str)(es:List Expr)(p q:Pos)(hok:qO f=true)(hgl:glB L.sc f=true)(ht:L.cs.tab.contains f=true)(h:(cAs m L es).map (.new f)=some x):PE X (.Call (.Name f p) es [] q) (tR U K ε Gv Hv (iR L.k x)):=by
 obtain⟨l',h1,rfl⟩:=qm h;have hs:=ZQ h1;rcases gd.mks f ht with hno|⟨C,fa,fd,ps,sp,M,F,hm,hb,hk,hsp⟩
 ·rintro pins s Z H Q I ⟨N,G,er,h⟩;have h:=Wx.th (x:=noX (iAs L.k l' N)) h
  cases e1:iAs L.k l' N with
  |ok x=>rw[e1]at h;have h:Wx _ ((L.nw f x.1).th _) _:=h;rw[hno]at h;exact False.elim h
  |exc c l=>rw[e1]at h;exact False.elim h
  |no=>rw[e1]at h;exact False.elim h
 obtain⟨n1,n2,n3⟩:=qv hok
 have rm:Room (k - 1+1) X.A:=by rw[show k - 1+1=k by omega];exact gd.room
 have key:∀Z H Q,tR U K ε Gv Hv (iR L.k (.new f l')) Z H Q->qhL C sp [] ε (tAs U K ε Gv Hv (iAs L.k l')) Z H Q:=λZ H Q ⟨N,G,er,h⟩=>by refine{N,G,er,Wx.mono (Wx.nox (Wx.th (x:=noX (iAs L.k l' N)) h)) λx h vs G1 H1 p1 r1=>?_};show∀x dx,H1 x=none->H1 dx=none->dx≠x->sp (.ref x::(vs++[])) _ _ ε;rw[List.append_nil];refine hsp vs H1 Q ε ⟨G1,x.1,p1.er.sub,r1,Wx.mono2 (Wx.th h) (XP.call p1) λr h v G2 H2 hs gs sub new rr=>?_⟩;obtain⟨z1,z2⟩:=ReR.rv p1 hs gs sub new rr;exact h v G2 H2 z1 z2
 cases es with
 |nil=>cases qaL h1;refine PE.imp (qfe M F rm (gd.glo f hgl) hm hb .nil gd.ps n1) λZ H Q h=>?_;obtain⟨N,G,er,h⟩:=key Z H Q h;exact h [] G H (Po.refl er) rfl
 |cons e l=>simp![List.any_cons,Bool.or_eq_false_iff]at hs;exact PE.imp (qhN M F rm (gd.glo f hgl) hm hb .nil gd.ps (A.as Gv Hv _ _ h1) n1 (qg hs.1) (ju hs.2)) key
end
def gT(U:KC)(K:Frag)(Ξ:XW)(t:Tg):TG:=λv Z H Q=>∃(Gv Hv:Hp) (N:Env) (G:Hp) (d:D),ER U K Gv Hv G H N Z/\Rep U G d v/\Wx Ξ (t.go d N) λN'=>∀Z',ER U K Gv Hv G H N' Z'->Q Z' H
def gNs(U:KC)(K:Frag)(Ξ:XW)(l:List Nat):TGs:=λvs Z H Q=>∃(Gv Hv:Hp) (N:Env) (G:Hp) (ds:List D),ER U K Gv Hv G H N Z/\qp U G ds vs/\Wx Ξ (QC l ds N) λN'=>∀Z',ER U K Gv Hv G H N' Z'->Q Z' H
def PG.imp{X:Cx}{tg:Expr}{t t':TG}(h:PG X tg t')(i:∀v Z H Q,t v Z H Q->t' v Z H Q):PG X tg t:=λpins s Z H v u Q I r hw=>h pins s Z H v u Q I r (i v Z H Q hw)
def PGs.imp{X:Cx}{tg:List Expr}{t t':TGs}(h:PGs X tg t')(i:∀v Z H Q,t v Z H Q->t' v Z H Q):PGs X tg t:=λpins s Z H v u Q I r hw=>h pins s Z H v u Q I r (i v Z H Q hw)
section
variable{U:KC}{ε:XK}{Ξ:XW}{K:Frag}{Gv Hv:Hp}{k m:Nat}{X:Cx}{L:Ct}{x:E}
def qbA(gd:Gd U K ε k X L){y:Str}{i:Nat}(h:qfv L y=some i):L2.Loc X.env.scope y/\(X.fn y=true\/X.env.scope.names.lookup y=some .local)/\X.N.Nodup/\X.N[i]?=some y:=by unfold qfv at h;obtain⟨hc,h⟩:=qi h;rw[Bool.and_eq_true]at hc;obtain⟨l1,l2⟩:=gd.loc y hc.1;exact{l1,l2,by rw[gd.hN];exact gd.nd,by rw[gd.hN];exact QD h}
def qk8(gd:Gd U K ε k X L){y:Str}{i:Nat}(h:qfv L y=some i)(pos:Pos):PG X (.Name y pos) (gT U K Ξ (.one i)):=by obtain⟨l1,l2,l3,l4⟩:=qbA gd h;refine PG.imp (qhC (i:=i) l3 l4 l1 l2) λv Z H Q hq1=>?_;obtain⟨Gv,Hv,N,G,d,er,r,h⟩:=hq1;exact h _ (er.setVal r)
theorem qbB{e:Expr}{es:List Expr}{j:Nat}{p:Pos}{xs:List Str}(h:zB (.Tuple (e::es) j p)=some xs):∃x pos r,e=.Name x pos/\xs=x::r/\zB (.Tuple es j p)=some r:=by
 have q0:zB (.Tuple es j p)=(es.foldr (λe r=>match e,r with |.Name x _,some l=>some (x::l) |_,_=>none) (some []):Option (List Str)):=rfl
 cases e with
 |Name x pos=>
  cases q:(es.foldr (λe r=>match e,r with |.Name x _,some l=>some (x::l) |_,_=>none) (some []):Option (List Str)) with
  |none=>have h':(match (Expr.Name x pos:Expr),(es.foldr (λe r=>match e,r with |.Name x _,some l=>some (x::l) |_,_=>none) (some []):Option (List Str)) with |.Name x _,some l=>some (x::l) |_,_=>none)=some xs:=h;rw[q]at h';cases h'
  |some l=>have h':(match (Expr.Name x pos:Expr),(es.foldr (λe r=>match e,r with |.Name x _,some l=>some (x::l) |_,_=>none) (some []):Option (List Str)) with |.Name x _,some l=>some (x::l) |_,_=>none)=some xs:=h;rw[q]at h';cases h';exact{x,pos,l,rfl,rfl,q0.trans q}
 |_=>cases h
theorem qgZ(gd:Gd U K ε k X L){j:Nat}{p:Pos}:∀{es:List Expr} {xs:List Str} {l:List Nat},zB (.Tuple es j p)=some xs->qfw L xs=some l->PGs X es (gNs U K Ξ l)
 | [],xs,l,h,h'=>by
  have e:xs=[]:=by unfold zB at h;cases h;rfl
  subst e;cases h';refine PGs.imp qhD λvs Z H Q hq1=>?_;obtain⟨Gv,Hv,N,G,ds,er,r,h⟩:=hq1
  cases ds with
  |nil=>simp![qp]at r;exact{r,h Z er}
  |cons d ds=>exact False.elim h
 | e::es,xs,l,h,h'=>by
  obtain⟨x,pos,r,rfl,rfl,h0⟩:=qbB h;obtain⟨i,l,h1,h2,rfl⟩:=ql h';refine PGs.imp (qe5 (qk8 (Ξ:=Ξ) gd h1 pos) (qgZ gd h0 h2)) λvs Z H Q hq1=>?_;obtain⟨Gv,Hv,N,G,ds,er,rr,h⟩:=hq1
  cases ds with
  |nil=>exact False.elim h
  |cons d ds=>simp![qp]at rr;obtain⟨v,vr,rfl,r1,r2⟩:=rr;exact{v,vr,rfl,Gv,Hv,N,G,d,er,r1,λZ1 er1=>{Gv,Hv,_,G,ds,er1,r2,h}}
theorem ZV{env:PySem.Env}{j:Nat}{p:Pos}:∀{es:List Expr} {xs:List Str} {l:List Nat},zB (.Tuple es j p)=some xs->qfw L xs=some l->(assignEach es env).length=l.length/\(assignEach es env).findIdx? (·.1)=none
 | [],xs,l,h,h'=>by unfold zB at h;cases h;cases h';exact⟨rfl,rfl⟩
 | e::es,xs,l,h,h'=>by obtain⟨x,pos,r,rfl,rfl,h0⟩:=qbB h;obtain⟨i,l,h1,h2,rfl⟩:=ql h';obtain⟨h1,h2⟩:=ZV (env:=env) h0 h2;have e:assignEach (.Name x pos::es) env=(false,assign (.Name x pos) env)::assignEach es env:=rfl;rw[e];refine{by simp[h1],?_};rw[List.findIdx?_cons];simp[h2]
theorem ZX{Ξ:XW}:∀{l:List Nat} {ds:List D} {N:Env} {F:Env->Prop},Wx Ξ (QC l ds N) F->ds.length=l.length
 |[],[],_,_,_=>rfl
 | [],_::_,_,_,h=>False.elim h
 | _::_,[],_,_,h=>False.elim h
 | i::l,d::ds,N,F,h=>congrArg (· + 1) (ZX (l:=l) (ds:=ds) (N:=N.set i (.val d)) h)
theorem qfL(gd:Gd U K ε k X L)(tg:Expr){t:Tg}(h:cTg L tg=some t):PG X tg (gT U K Ξ t):=by
 cases tg with
 |Name x pos=>obtain⟨i,h1,rfl⟩:=qm h;exact qk8 gd h1 pos
 |Tuple es j p=>
  obtain⟨hs,h⟩:=qi h
  cases hx:zB (.Tuple es j p) with
  |none=>rw[hx]at h;cases h
  |some xs=>
   rw[hx]at h;obtain⟨l,h2,rfl⟩:=qm h;obtain⟨t1,t2⟩:=ZV (env:=X.env) hx h2;refine PG.imp (qjT (n:=l.length) gd.calm (qgZ (Ξ:=Ξ) gd hx h2) t1 t2) λv Z H Q hq1=>?_;obtain⟨Gv,Hv,N,G,d,er,r,h⟩:=hq1
   cases d with
   |tup ds=>have h:Wx _ (QC l ds N) _:=h;simp![Rep]at r;obtain⟨a,ys,rfl,r1,r2⟩:=r;exact{a,ys,rfl,SqT.of (er.sub _ _ r1),by rw[<-r2.len];exact ZX h,Gv,Hv,N,G,ds,er,r2,h}
   |_=>exact False.elim h
 |_=>cases h
theorem qg0{env:PySem.Env}:∀{names:List (Str×NameKind)} {x:Str},names.lookup x=some .globalImplicit->
  (names.map λ(n,k)=>if (k == NameKind.free&&env.scope.kind == .function&&env.kindOf n == some .cell) then (n,NameKind.cell) else (n,k)).lookup x=some .globalImplicit
 |[],_,h=>by simp at h
 | (n,k)::r,x,h=>by
  simp![List.map_cons]
  by_cases hx:x=n
  ·subst hx;simp[List.lookup_cons]at h;subst h;rw[if_neg (5:)];simp[List.lookup_cons]
  ·have hb:(x == n)=false:=(-hx:)
   rw[List.lookup_cons,hb]at h;have ih:=qg0 (env:=env) h
   by_cases hc:(k == NameKind.free&&env.scope.kind == .function&&env.kindOf n == some .cell)=true
   ·rw[if_pos hc];simp![List.lookup_cons,hb];exact ih
   ·rw[if_neg hc];simp![List.lookup_cons,hb];exact ih
def ZZ(gd:Gd U K ε k X L){own:List Str}{fr:List Nat}{sc:Scope}(h:JM L.sc L.N fr sc=true):BlkScope X own fr sc:=by
 unfold JM at h;simp![Bool.and_eq_true,List.all_eq_true]at h;obtain⟨⟨hk,hn⟩,hf⟩:=h;refine{by simpa using hk,λx hx=>by simpa using (hn x hx).1.1,λx hx e=>?_,λx hx e=>?_,λi hi=>?_}
 ·have:=(hn x hx).1.2
  simpa [e] using this
 ·have:=(hn x hx).2
  exact gd.cf x.1 (by simpa [e] using this)
 ·rw[gd.hN]
  simpa using hf i hi
def qk9:zN (CX1 X.prog X.w) X E0:=λpins Z H s e s' I c=>by obtain⟨x,T,C,od,H',_,_,_,_,_,_,_,_,_,_,z⟩:=c;exact False.elim z
def Y2(gd:Gd U K ε k X L){own:List Str}{fr:List Nat}{sc:Scope}(B:BlkScope X own fr sc)(hnd:(own++fr.map λi=>L.N.getD i "").Nodup)(cl:List (Str×Addr))(C:Addr)(fp:List Addr)(s2:Shared)(H2:Hp) :
  Gd U K E0 k (blk X (Jq X own fr) sc cl C fp s2 H2) { L with N:=own++fr.map λi=>L.N.getD i "",sc:=sc } where
 ps:=qk9
 hN:=by show Jq X own fr=_;unfold Jq;rw[gd.hN]
 vis:=λx h=>by
  have h:=qgS h;rcases h with h|h|h
  ·exact .inl (lookup_relabel_local h)
  ·exact absurd rfl (B.nocell _ (PySem.mem_of_lookup h))
  ·rcases JL (env:=X.env) h with z|z
   ·exact .inr (.inl z)
   ·exact .inr (.inr z)
 loc:=λx h=>by
  have h:=qdM h;rcases h with h|h
  ·have z:(relabel sc X.env).names.lookup x=some .local:=lookup_relabel_local h;exact{.inl z,.inr z}
  ·exact absurd rfl (B.nocell _ (PySem.mem_of_lookup h))
 glo:=λx h=>by unfold glB at h;exact qg0 (env:=X.env) (-h:)
 cf:=λx h=>by
  rcases h with h|h
  ·exact absurd rfl (B.nocell _ (PySem.mem_of_lookup h))
  ·exact JL (env:=X.env) h
 nd:=hnd
 calm:=gd.calm
 hK:=gd.hK
 room:=gd.room
 fns:=gd.fns
 blt:=gd.blt
 gl:=gd.gl
 cls:=gd.cls
 flds:=gd.flds
 xsubs:=gd.xsubs
 xgs:=gd.xgs
 mts:=gd.mts
 mks:=gd.mks
 subs:=gd.subs
def qla{G H:Hp}{N:Env}{Z:L2.St}(er:ER U K Gv Hv G H N Z)(own:List Str)(fr:List Nat):ER U K G H G H (qaz own.length fr N) (YO own fr Z):=by
 refine{by simp[qaz,YO],er.sub,λ_ _ e=>e,λ_ _ e=>e,λa o e=>.inl ⟨o,e⟩,λi s e=>?_,λi j a l n e1=>?_}
 ·unfold qaz at e;unfold YO
  by_cases hi:i < own.length
  ·rw[List.getElem?_append_left (-hi:)]at e;obtain rfl:=List.eq_of_mem_replicate (List.mem_of_getElem? e);trivial
  ·rw[List.getElem?_append_right (-hi:)]at e ⊢;simp![List.length_map,List.length_replicate]at e ⊢;rw[List.getElem?_map]at e ⊢;obtain⟨j,e1,rfl⟩:=Option.map_eq_some_iff.mp e;rw[e1];show SlR U K G H H (qkA (N.getD j .no)) (some (Z[j]?).join)
   cases q:N[j]? with
   |none=>rw[List.getD_eq_getElem?_getD,q];trivial
   |some s=>
    rw[List.getD_eq_getElem?_getD,q];have w:=er.sl j s q
    cases s with
    |no=>trivial
    |val d=>obtain⟨v,z,r⟩:=w;exact{v,by rw[z];rfl,r}
    |own l=>obtain⟨a,xs,z,r1,r2,r3,r4⟩:=w;exact{a,xs,by rw[z];rfl,r1,r4}
    |bor l=>obtain⟨a,xs,z,r1,r4⟩:=w;exact{a,xs,by rw[z];rfl,er.base _ _ r1,r4}
    |scr l=>obtain⟨a,xs,z,r1,r4⟩:=w;exact{a,xs,by rw[z];rfl,er.base.seq r1,r4}
 ·exfalso;unfold qaz at e1
  by_cases hi:i < own.length
  ·rw[List.getElem?_append_left (-hi:)]at e1
   cases List.eq_of_mem_replicate (List.mem_of_getElem? e1)
  ·rw[List.getElem?_append_right (-hi:),List.getElem?_map]at e1;obtain⟨j,_,z⟩:=Option.map_eq_some_iff.mp e1
   cases q:N.getD j .no<;>rw[q]at z<;>cases z
def qaN{it:Expr}(h:ZL it=true)(env:PySem.Env):∀x,foldedSetIterable it env x=pure x:=by
 intro x
 cases it<;>first|rfl|(simp[ZL]at h)
def qlb(A:All U K ε k X L m)(e:Expr){x:E}(hx:cX m L e=some x):PE X e (λZ H Q=>∃Gv Hv,tE U K ε Gv Hv (jM x (iR L.k x)) Z H Q):=λpins s Z H Q I ⟨Gv,Hv,h⟩=>A.e Gv Hv e x hx pins s Z H Q I h
def qg1(A:All U K ε k X L m)(es:List Expr){x:F}(hx:cF m L es=some x):PIf X es (λZ H Q=>∃Gv Hv,tT U K ε Gv Hv (iF L.k x) Z H Q):=λpins s Z H Q I ⟨Gv,Hv,h⟩=>A.f Gv Hv es x hx pins s Z H Q I h
structure CompS(L:Ct)(m:Nat)(elt tg it:Expr)(ifs:List Expr)(sc:Scope)(own:List Str)(el:E)(src:I)(t:Tg)(c:F):Prop where
 chk:JM L.sc L.N (Y1 L.N sc) sc=true
 nd:(own++(Y1 L.N sc).map λi=>L.N.getD i "").Nodup
 fold:ZL it=true
 src:cC L it (cI m L (qft tg) it)=some src
 tg:cTg { L with N:=own++(Y1 L.N sc).map λi=>L.N.getD i "",sc:=sc } tg=some t
 c:cF m { L with N:=own++(Y1 L.N sc).map λi=>L.N.getD i "",sc:=sc } ifs=some c
 el:cX m { L with N:=own++(Y1 L.N sc).map λi=>L.N.getD i "",sc:=sc } elt=some el
theorem qlc{elt:Expr}{gs:List Comprehension}{sc:Scope}{pos:Pos}(h:cE (m+1) L (.ListComp elt gs sc pos)=some x):∃tg it ifs own el src t c,gs=[⟨tg,it,ifs,0⟩]/\CompS L m elt tg it ifs sc own el src t c/\x=.comp el src t c own.length (Y1 L.N sc):=by
 match gs,h with
 |[⟨tg,it,ifs,as⟩],h=>
  obtain⟨ha,h⟩:=qi h;obtain rfl:as=0:=of_decide_eq_true ha;dsimp only at h
  cases hx:zB tg with
  |none=>rw[hx]at h;cases h
  |some own=>rw[hx]at h;obtain⟨hc,h⟩:=qi h;obtain⟨p1,p2,h1,h2,rfl⟩:=ql h;obtain⟨src,t,h3,h4,rfl⟩:=ql h1;obtain⟨c,el,h5,h6,rfl⟩:=ql h2;simp![Bool.and_eq_true]at hc;exact{tg,it,ifs,own,el,src,t,c,rfl,{hc.1.1,of_decide_eq_true hc.1.2,hc.2,h3,h4,h5,h6},rfl}
 |[],h=>cases h
 | _::_::_,h=>cases h
def tC(U:KC)(K:Frag)(ε:XK)(Gv Hv:Hp)(f:Env->R (List D×Env)):TI:=λZ H Q=>∃N G,ER U K Gv Hv G H N Z/\Wx (XP U Gv Hv ε) (f N) λx=>∀J G' H',Po U K Gv Hv Z G H N G' H' x.2->ItR U H' G' J x.1->Q J H'
def qoo(gd:Gd U K ε k X L)(A:All U K ε k X L m)(tg it:Expr){src:I}(hs:cC L it (cI m L (qft tg) it)=some src):PI X tg it (tC U K ε Gv Hv (iI L.k src)):=by rintro pins s Z H Q I ⟨N,G,er,h⟩;have hs:cI m L (qft tg) it=some src:=hs;exact A.i Gv Hv tg it src hs pins s Z H Q I ⟨N,G,er,Wx.mono h λx h J G' H' p it1=>h J G' H' p λi G2 H2 g hh sub=>it1 i G2 H2 g (λb o e=>hh b o (p.er.base b o e)) sub⟩
def qbC{elt tg it:Expr}{ifs:List Expr}{sc:Scope}{own:List Str}{el:E}{src:I}{t:Tg}{c:F}(S:CompS L m elt tg it ifs sc own el src t c):∀Z H Q,tR U K ε Gv Hv (iR L.k (.comp el src t c own.length (Y1 L.N sc))) Z H Q->
  qh2 own (Y1 L.N sc) (tC U K ε Gv Hv (iI L.k src)) (gT U K X0 t) (λZ H Q=>∃Gv Hv,tT U K E0 Gv Hv (iF L.k c) Z H Q) (λZ H Q=>∃Gv Hv,tE U K E0 Gv Hv (jM el (iR L.k el)) Z H Q) Z H Q:=λZ H Q ⟨N,G,er,h⟩=>by
 refine{N,G,er,Wx.mono (Wx.th (x:=iI L.k src N) h) λx h J G1 H1 p1 it1=>?_};obtain⟨hz,h⟩:=Wx.iff h;have h:=Wx.nox (Ξ':=X0) (Wx.th h)
 refine{λi mm ys Z' H'=>mm=x.1.length - i/\i<=x.1.length/\∃Nb Gb ds,ER U K G1 H1 Gb H' Nb Z'/\qp U Gb ds ys/\ds.length<=i/\
   Wx X0 (qdI t.go (λN1=>iF L.k c N1) (jM el (iR L.k el)) (x.1.drop i) Nb ds)
    (λl=>∀v G' H',Po U K Gv Hv Z G H N G' H' x.2->RvR U K Hv H G' H' x.2 Z (.tmp l) v->Q v H'),
  {x.1.length,by simp,Nat.zero_le _,qaz own.length (Y1 L.N sc) x.2,G1,[],qla p1.er own (Y1 L.N sc),.nil,Nat.le_refl _,?_},?_}
 ·rw[List.drop_zero];exact h
 rintro i mm ys Z' H' ⟨rfl,hi,Nb,Gb,ds,erb,rds,hdl,hw⟩;have it2:=it1 i Gb H' erb.g0 erb.base erb.sub
 by_cases hlt:i < x.1.length
 ·obtain⟨go,yl⟩:=it2.1 x.1[i] (List.getElem?_eq_getElem hlt);have hyl:=rds.len;refine .inr ⟨go,by lia,_,λys' Z2 H2 w=>{x.1.length - (i+1),by lia,w},λv H2 hy=>?_⟩;obtain⟨G',hs,gs,sub,new,rep⟩:=yl v H2 hy;have p2:=Po.more erb hs gs sub new;rw[List.drop_eq_getElem_cons hlt]at hw;refine{G1,H1,Nb,G',x.1[i],p2.er,rep,Wx.mono (Wx.th hw) λN1 hw Z1 er1=>{G1,H1,N1,G',er1,Wx.mono2 (Wx.th hw) (λ_ _ z=>False.elim z) λbt hw G2 H3 p3=>?_}};obtain⟨b,N2⟩:=bt
  cases b with
  |true=>rw[if_pos rfl];refine{G1,H1,N2,G2,p3.er,Wx.mono2 (Wx.th hw) (λ_ _ z=>False.elim z) λy hw w G3 H4 p4 rep4=>{rfl,hlt,y.2,G3,ds++[y.1],p4.er,?_,by simp;lia,(Wx.iff hw).2}};exact(((rds.same gs).same p3.gs).same p4.gs).snoc rep4
  |false=>rw[if_neg (λz=>by cases z)];exact{rfl,hlt,N2,G2,ds,p3.er,(rds.same gs).same p3.gs,by lia,hw}
 ·have e:i=x.1.length:=by lia
  subst e;refine .inl ⟨it2.2 rfl,λp hp=>?_⟩;rw[List.drop_length]at hw;have p2:=p1.trans (Po.more p1.er erb.base erb.g0 erb.sub erb.fresh);obtain⟨z1,z2⟩:=p2.er.newList hp rds;exact hw _ _ _ (p2.trans z1) (z2.back p2.hs)
def qiC(gd:Gd U K ε k X L)(A:All U K ε k X L m)(ih:∀ε' X' L',Gd U K ε' k X' L'->All U K ε' k X' L' m)(elt:Expr)(gs:List Comprehension)(sc:Scope)(pos:Pos)(h:cE (m+1) L (.ListComp elt gs sc pos)=some x):PE X (.ListComp elt gs sc pos) (tR U K ε Gv Hv (iR L.k x)):=by
 obtain⟨tg,it,ifs,own,el,src,t,c,rfl,S,rfl⟩:=qlc h;have B:BlkScope X own (Y1 L.N sc) sc:=ZZ gd S.chk
 exact PE.imp (qh4 own (Y1 L.N sc) gd.calm B (qoo (Gv:=Gv) (Hv:=Hv) gd A tg it S.src) (λcl C fp s2 H2=>qfL (Y2 gd B S.nd cl C fp s2 H2) tg S.tg) (λcl C fp s2 H2=>qg1 (ih _ _ _ (Y2 gd B S.nd cl C fp s2 H2)) ifs S.c)
  (λcl C fp s2 H2=>qlb (ih _ _ _ (Y2 gd B S.nd cl C fp s2 H2)) elt S.el) (qaN S.fold X.env)) (qbC S)
theorem qiD(gd:Gd U K ε k X L)(A:All U K ε k X L m)(f:Str)(es:List Expr)(p q:Pos)(h:cE (m+1) L (.Call (.Name f p) es [] q)=some x):PE X (.Call (.Name f p) es [] q) (tR U K ε Gv Hv (iR L.k x)):=by
 obtain⟨hn,h⟩:=qi h;simp![Bool.and_eq_true]at hn;obtain⟨⟨h1,h2⟩,h3⟩:=hn
 by_cases hi:f = "isinstance"
 ·subst hi;rw[if_pos rfl]at h
  match es,h with
  |[a,b],h=>
   cases b with
   |Name t tp=>exact qk4 gd A a t p tp q h2 h
   |Tuple bs j tp=>exact qk5 gd A a bs j p tp q h2 h
   |_=>cases h
  |[],h=>cases h
  |[_],h=>cases h
  | _::_::_::_,h=>cases h
 rw[if_neg hi]at h
 by_cases ht:L.tab.contains f=true
 ·rw[if_pos ht]at h;exact qfH gd A f es p q h1 h2 ht h
 rw[if_neg ht]at h
 by_cases hk:L.cs.tab.contains f=true
 ·rw[if_pos hk]at h;exact qiB gd A f es p q h1 h2 hk h
 rw[if_neg hk]at h
 match es,h with
 |[a],h=>exact qfI gd A f a p q h2 h
 |[a,b],h=>exact qfJ gd A f a b p q h2 h
 |[],h=>cases h
 | _::_::_::_,h=>cases h
theorem qpz(gd:Gd U K ε k X L)(A:All U K ε k X L m)(ih:∀ε' X' L',Gd U K ε' k X' L'->All U K ε' k X' L' m)(e:Expr)(x:E)(h:cE (m+1) L e=some x):PE X e (tR U K ε Gv Hv (iR L.k x)):=by
 cases e with
 |Name x pos=>exact qfx gd h pos
 |Constant c j pos=>exact qfD c j pos h
 |BinOp a op b pos=>exact qfE A a b op pos h
 |UnaryOp op a pos=>
  cases op with
  |USub=>exact qkQ A a pos h
  |Not=>exact qis A a pos h
  |_=>cases h
 |BoolOp op vs pos=>
  match vs,h with
  |[],h=>cases op<;>cases h
  |[a],h=>cases op<;>(obtain⟨a',h1,rfl⟩:=qm h;exact PE.imp (qjO (A.r Gv Hv _ _ h1)) λZ H Q h=>h)
  | a::b::l,h=>
   cases op with
   |And=>exact qkR A a b l pos h
   |Or=>exact qnG A a b l pos h
 |Compare a ops bs pos=>
  match ops,bs,h with
  |[op],[b],h=>exact qit gd A a b op pos h
  |[],_,h=>cases h
  |[_],[],h=>cases h
  | [_],_::_::_,h=>cases h
  | _::_::_,_,h=>cases h
 |IfExp c a b pos=>exact qkS A c a b pos h
 |Subscript a b pos=>exact qkT gd A a b pos h
 |List es pos=>exact qkU A es pos h
 |Tuple es j pos=>exact qkV A es j pos h
 |Call fn es kws q=>
  cases fn with
  |Name f p=>
   cases kws with
   |nil=>exact qiD gd A f es p q h
   |cons kw kws=>cases h
  |Attribute o x ap=>
   cases kws with
   |nil=>exact qiA gd A o x ap es q h
   |cons kw kws=>cases h
  |_=>cases h
 |Attribute o x pos=>exact qk7 gd A o x pos h
 |ListComp elt gens sc pos=>exact qiC gd A ih elt gens sc pos h
 |_=>cases h
theorem all:∀(m:Nat) (ε:XK) (X:Cx) (L:Ct),Gd U K ε k X L->All U K ε k X L m
 |0,_,_,_,_=>qps
 | m+1,ε,X,L,gd=>
  have A:=all m ε X L gd
  ⟨λGv Hv=>qpz gd A (all m),λGv Hv=>qpt gd A,λGv Hv=>qpw gd A,λGv Hv=>qnH A,λGv Hv=>qnI A,λGv Hv=>qpu A,λGv Hv=>qpv A,λGv Hv=>qpx gd A,λGv Hv=>qpy gd A⟩
end
section
variable(U:KC)(K:Frag)(Gv Hv:Hp)
def FlP(G:Hp)(D:Ends):Fl->Prop
 | .next N'=>∀Z' G' H',ER U K Gv Hv G' H' N' Z'->qq G G'->D.nx Z' H'
 |.ret r=>∀v G' H',qq Hv H'->qq Gv G'->qq G' H'->(∀a o,G' a=some o->(∃o',Gv a=some o')\/Hv a=none)->ReR U G' H' Hv r v->D.rt v H'
def tS(ε:XK)(f:Env->R Fl):TS:=λD Z H=>∃N G,ER U K Gv Hv G H N Z/\Wx (XP U Gv Hv ε) (f N) (FlP U K Gv Hv G D)
end
def qld(C:Addr)(ns:List Str):Sp:=λvs H Q _=>∃x us,vs=.ref x::us/\H x=some (JC x C none)/\us.length=ns.length/\(∀u∈us,qic u)/\∀dd,H dd=none->dd≠x->Q .non (upd (upd H dd (xD dd (ns.zip us))) x (JC x C (some dd)))
structure Gs(U:KC)(K:Frag)(ε:XK)(k:Nat)(X:Cx)(L:Ct):Prop extends Gd U K ε k X L where
 own:L.z=false->PassesOwn (model X.prog X.w) X.A X.env X.xe
 rs:L.z=false->Qz X ε
 ex:X.ex=[]
 stk:X.stack=X.env::X.outer/\X.env.frame=some X.env.locals
 xn1:L.x=true->∀n ns,L.cs.xn n=some ns->ns≠[]->∃fI fd j,k=j+1/\X.mg n=some (.ref (L.cs.xa n))/\XcC X.K (L.cs.xa n) fI/\FnOk X.prog X.w X.K X.mg X.base CX0 j fI fd ("self" :: ns) (qld (L.cs.xa n) ns)/\qR X.K fd ("self" :: ns) []
 xhs:∀C (t:Str) b,t≠("ValueError" : Str)->L.cs.xs C t=some b->∃D,X.mg t=some (.ref D)/\PySem.W.exmOne X.K (.ref C) (.ref D)=some b
 sceq:X.env.scope=L.sc
 fnk:L.sc.kind=.function
def PS.imp{X:Cx}{st:Stmt}{t t':TS}(h:PS X st t')(i:∀D Z H,t D Z H->t' D Z H):PS X st t:=λpins s Z H D I hw=>h pins s Z H D I (i D Z H hw)
def PSs.imp{X:Cx}{st:List Stmt}{t t':TS}(h:PSs X st t')(i:∀D Z H,t D Z H->t' D Z H):PSs X st t:=λpins s Z H D I hw=>h pins s Z H D I (i D Z H hw)
def Jr{e:Expr}(h:yv e=true)(t:Option Expr)(l:Nat)(env:PySem.Env):swapsWith e t l env=pure false:=by cases e<;>first|rfl|(simp[yv]at h)
section
variable{U:KC}{ε:XK}{K:Frag}{Gv Hv:Hp}{k m w:Nat}{X:Cx}{L:Ct}
def jv{N:Env}{i:Nat}{l:List D}(h:zx N i=some l):N[i]?=some (.own l):=by
 unfold zx at h
 split at h
 ·rename_i e;cases h;exact e
 ·cases h
def ER.ownSlot{G H:Hp}{N:Env}{Z:L2.St}{i:Nat}{l:List D}(er:ER U K Gv Hv G H N Z)(e:N[i]?=some (.own l)):∃a xs,Z[i]?=some (some (.ref a))/\H a=some (.lst xs)/\qp U G l xs:=by obtain⟨a,xs,z,h1,h2,h3,h4⟩:=er.sl i _ e;exact⟨a,xs,z,h1,h4⟩
theorem qdU(gd:Gd U K ε k X L)(A:All U K ε k X L m)(x:Str)(a:Expr)(xp ap cp p:Pos){i:Nat}{a':E}(hl:(ap.endLine == cp.line)=true)(s1:qD a=false)(hi:qeX L x=some i)(ha:cX m L a=some a') :
  PS X (.Expr (.Call (.Attribute (.Name x xp) "append" ap) [a] [] cp) p) (tS U K Gv Hv ε (iS L.k w (.app i a'))):=by
 have few:((backTo cp (starEach [a] X.env)).all (λx=>!x.1)&&(backToKw cp (keywordEach [] X.env)).all (λx=>x.1.isSome)&&decide (([a]:List Expr).length+([]:List Keyword).length+(if ([]:List Keyword).isEmpty then 0 else 1) < 30))=true:=by rw[qg s1];rfl
 refine PS.imp (yr (qkc PySem.F.plainAttrs_list PySem.F.slot_list_append PySem.F.type_list_append qdc (qbu gd hi xp) (qj (A.e Gv Hv _ _ ha) qx (qg s1)) rfl few hl (qg s1) rfl) rfl) λD Z H hq1=>?_;obtain⟨N,G,er,h⟩:=hq1;have h:Wx _ (α:=Fl) (match zx N i with |none=>R.no |some _=>(jM a' (iR L.k a') N).th λy=>match zx y.2 i with |some l=>if l.length < sizeLine then .ok (.next (y.2.set i (.own (l++[y.1])))) else .no |none=>.no) _:=h
 cases e1:zx N i with
 |none=>rw[e1]at h;exact False.elim h
 |some l0=>
  rw[e1]at h;obtain⟨b,xs,z,h1,h2⟩:=er.ownSlot (jv e1);refine{_,z,.inl {rfl,xs,SqL.of h1},N,G,er,Wx.mono (Wx.th h) λy h v G1 H1 p1 r1=>?_}
  cases e2:zx y.2 i with
  |none=>rw[e2]at h;exact False.elim h
  |some l=>rw[e2]at h;obtain⟨hz,h⟩:=Wx.iff h;obtain⟨b',ys,z',h3,h4⟩:=p1.er.ownSlot (jv e2);rw[z]at z';cases z';refine{b,ys,v,rfl,rfl,h3,by rw[<-h4.len];exact hz,?_};exact h Z G1 _ (p1.er.write (jv e2) z (h4.snoc r1)) p1.gs
theorem qdV(gd:Gd U K ε k X L)(A:All U K ε k X L m)(x:Str)(a:Expr)(xp ap cp p:Pos){i:Nat}{a':E}(hl:(ap.endLine == cp.line)=true)(s1:qD a=false)(hi:qeX L x=some i)(ha:cE m L a=some a') :
  PS X (.Expr (.Call (.Attribute (.Name x xp) "extend" ap) [a] [] cp) p) (tS U K Gv Hv ε (iS L.k w (.ext i a'))):=by
 have few:((backTo cp (starEach [a] X.env)).all (λx=>!x.1)&&(backToKw cp (keywordEach [] X.env)).all (λx=>x.1.isSome)&&decide (([a]:List Expr).length+([]:List Keyword).length+(if ([]:List Keyword).isEmpty then 0 else 1) < 30))=true:=by rw[qg s1];rfl
 refine PS.imp (yr (qkc PySem.F.plainAttrs_list PySem.F.slot_list_extend PySem.F.type_list_extend qdd (qbu gd hi xp) (qj (A.r Gv Hv _ _ ha) qx (qg s1)) rfl few hl (qg s1) rfl) rfl) λD Z H hq1=>?_;obtain⟨N,G,er,h⟩:=hq1;have h:Wx _ (α:=Fl) (match zx N i with |none=>R.no |some _=>(iR L.k a' N).th λy=>match zx y.2 i,y.1.plain? with |some l,some n=>if l.length+n.length<=sizeLine then .ok (.next (y.2.set i (.own (l++n)))) else .no |_,_=>.no) _:=h
 cases e1:zx N i with
 |none=>rw[e1]at h;exact False.elim h
 |some l0=>
  rw[e1]at h;obtain⟨b,xs,z,h1,h2⟩:=er.ownSlot (jv e1);refine{_,z,.inl {rfl,xs,SqL.of h1},N,G,er,Wx.mono (Wx.th h) λy h v G1 H1 p1 r1=>?_}
  cases e2:zx y.2 i with
  |none=>rw[e2]at h;exact False.elim h
  |some l=>
   cases e3:y.1.plain? with
   |none=>rw[e2,e3]at h;exact False.elim h
   |some n=>rw[e2,e3]at h;obtain⟨hz,h⟩:=Wx.iff h;obtain⟨b',ys,z',h3,h4⟩:=p1.er.ownSlot (jv e2);obtain⟨c,zs,rfl,h5,h6⟩:=r1.plain p1.er e3;rw[z]at z';cases z';refine{b,c,ys,zs,rfl,rfl,h3,h5,by rw[<-h4.len,<-h6.len];exact hz,?_};exact h Z G1 _ (p1.er.write (jv e2) z (h4.app h6)) p1.gs
theorem qle(gd:Gd U K ε k X L)(A:All U K ε k X L m)(e:Expr)(p:Pos){z:E}(h:cV m L e=some z):PS X (.Return (some e) p) (tS U K Gv Hv ε (iS L.k w (.ret z))):=by
 have gen:(cE m L e).bind ZM=some z->PS X (.Return (some e) p) (tS U K Gv Hv ε (iS L.k w (.ret z))):=λh=>by
  obtain⟨y,h1,h2⟩:=Option.bind_eq_some_iff.mp h;obtain⟨rfl,hv⟩:=z8 h2;refine PS.imp (qcV (A.r Gv Hv _ _ h1)) λD Z H hq1=>?_;obtain⟨N,G,er,h⟩:=hq1;have h:=Wx.th (x:=qfu y (iR L.k y) N) h;rw[qin hv]at h;refine{N,G,er,Wx.mono (Wx.th h) λx h v G1 H1 p1 r1=>?_};obtain⟨rv,N1⟩:=x
  cases rv with
  |val d=>exact h v G1 H1 p1.er.base p1.er.g0 p1.er.sub p1.er.fresh r1
  |tmp l=>obtain⟨a,xs,rfl,h1,h2,h3,h4,h5,h6⟩:=r1;exact h _ G1 H1 p1.er.base p1.er.g0 p1.er.sub p1.er.fresh ⟨a,xs,rfl,h1,h3,h4,h6⟩
  |_=>exact False.elim h
 cases e with
 |Name x pos=>
  rcases QE gd h pos with ⟨i,rfl,P⟩|⟨d,v,rfl,e3,P⟩
  ·refine PS.imp (qcV P) λD Z H hq1=>?_;obtain⟨N,G,er,h⟩:=hq1;have h:=Wx.th (x:=slX N i) h;unfold slX at h
   cases q:N[i]? with
   |none=>rw[q]at h;exact False.elim h
   |some s=>
    rw[q]at h;have w:=er.sl i s q
    cases s with
    |val d=>obtain⟨v,z,r⟩:=w;exact{v,z,h v G H er.base er.g0 er.sub er.fresh r}
    |own l=>obtain⟨a,xs,z,r1,r2,r3,r4⟩:=w;exact{_,z,h _ G H er.base er.g0 er.sub er.fresh ⟨a,xs,rfl,r1,r2,r3,r4⟩}
    |_=>exact False.elim h
  ·exact PS.imp (qcV P) λD Z H ⟨N,G,er,h⟩=>h v G H er.base er.g0 er.sub er.fresh (e3 G)
 |_=>exact gen h
def AsR(U:KC)(K:Frag)(Hv G H:Hp)(N:Env)(Z:L2.St):Sl->V->Prop
 |.val d,v=>Rep U G d v
 |.own l,v=>∃a xs,v=.ref a/\H a=some (.lst xs)/\Hv a=none/\G a=none/\¬ qcq N Z a/\qp U G l xs
 |_,_=>False
def tA(U:KC)(K:Frag)(ε:XK)(Gv Hv:Hp)(f:Env->R (Sl×Env)):TE:=λZ H Q=>∃N G,ER U K Gv Hv G H N Z/\Wx (XP U Gv Hv ε) (f N) λs=>∀v G' H',Po U K Gv Hv Z G H N G' H' s.2->AsR U K Hv G' H' s.2 Z s.1 v->Q v H'
theorem qiE{G H:Hp}{N:Env}{Z:L2.St}{s:Sl}{v:V}{i:Nat}(er:ER U K Gv Hv G H N Z)(h:AsR U K Hv G H N Z s v):ER U K Gv Hv G H (N.set i s) (Z.set i (some v)):=by
 cases s with
 |val d=>exact er.setVal h
 |own l=>obtain⟨a,xs,rfl,h1,h2,h3,h4,h5⟩:=h;exact er.setOwn h1 h2 h3 h4 h5
 |_=>exact False.elim h
theorem qop{z:E}(hv:∀i,z≠.var i)(Z:L2.St)(H:Hp)(Q:VK)(h:tA U K ε Gv Hv (qcu z (iR L.k z)) Z H Q):tR U K ε Gv Hv (iR L.k z) Z H Q:=by
 obtain⟨N,G,er,h⟩:=h;rw[qio hv]at h;refine{N,G,er,Wx.mono (Wx.th h) λx h v G1 H1 p1 r1=>?_};obtain⟨rv,N1⟩:=x
 cases rv with
 |val d=>exact h v G1 H1 p1 r1
 |tmp l=>obtain⟨a,xs,rfl,h1,h2,h3,h4,h5,h6⟩:=r1;exact h _ G1 H1 p1 ⟨a,xs,rfl,h1,h3,h4,h5,h6⟩
 |_=>exact False.elim h
theorem qoq(gd:Gd U K ε k X L)(A:All U K ε k X L m)(e:Expr){z:E}(h:cV m L e=some z):PE X e (tA U K ε Gv Hv (qcu z (iR L.k z))):=by
 have gen:(cE m L e).bind ZM=some z->PE X e (tA U K ε Gv Hv (qcu z (iR L.k z))):=λh=>by obtain⟨y,h1,h2⟩:=Option.bind_eq_some_iff.mp h;obtain⟨rfl,hv⟩:=z8 h2;exact PE.imp (A.r Gv Hv _ _ h1) (qop hv)
 cases e with
 |Name x pos=>
  have P:=qbv (Gv:=Gv) (Hv:=Hv) gd h pos;rcases QE gd h pos with ⟨i,rfl,_⟩|⟨d,v,rfl,_,_⟩
  ·refine PE.imp P λZ H Q hq1=>?_;obtain⟨N,G,er,h⟩:=hq1;exact{N,G,er,Wx.mono (Wx.th (x:=slE N i) h) λy h v G1 H1 p1 r1=>h v G1 H1 p1 r1}
  ·exact PE.imp P λZ H Q ⟨N,G,er,h⟩=>⟨N,G,er,h⟩
 |_=>exact gen h
theorem qlf(gs:Gs U K ε k X L)(A:All U K ε k X L m)(x:Str)(e:Expr)(xp p:Pos){i:Nat}{z:E}(hi:qfv L x=some i)(hz:cV m L e=some z):PS X (.Assign [.Name x xp] e p) (tS U K Gv Hv ε (iS L.k w (.set i z))):=by
 have gd:=gs.toGd;obtain⟨l1,l2,hN,hxi⟩:=qbA gd hi
 have fin:∀(D:Ends) (Z:L2.St) (H:Hp),tS U K Gv Hv ε (iS L.k w (.set i z)) D Z H->tA U K ε Gv Hv (qcu z (iR L.k z)) Z H (λy H1=>qe4 i y Z H1 D.nx):=λD Z H ⟨N,G,er,h⟩=>{N,G,er,Wx.mono (Wx.th (x:=qcu z (iR L.k z) N) h) λs h v G1 H1 p1 r1=>h _ G1 H1 (qiE p1.er r1) p1.gs}
 by_cases hn:yv e=true
 ·exact PS.imp (qcX (i:=i) hN hxi l1 (qoq gd A e hz) (Jr hn _ _ _) l2) fin
 cases e with
 |ListComp elt gens sc cp=>
  have hsw:∀b:Bool,(X.env.blockKind == .function&&X.env.kindOf x == some .local&&xp.line == cp.line&&!(sc.names.any λ(n,k)=>n == x&&(k == .local||k == .cell)))=b->swapsWith (.ListComp elt gens sc cp) (some (.Name x xp)) p.line X.env=pure b:=λb hb=>by rw[<-hb];rfl
  cases hb:(X.env.blockKind == .function&&X.env.kindOf x == some .local&&xp.line == cp.line&&!(sc.names.any λ(n,k)=>n == x&&(k == .local||k == .cell))) with
  |false=>exact PS.imp (qcX (i:=i) hN hxi l1 (qoq gd A _ hz) (hsw false hb) l2) fin
  |true=>
   have hloc:X.env.scope.names.lookup x=some .local:=by
    simp![Bool.and_eq_true]at hb
    have:=hb.1.1.2
    unfold PySem.Env.kindOf at this
    simpa using this
   obtain⟨y,h1,h2⟩:=Option.bind_eq_some_iff.mp hz;obtain⟨rfl,hv⟩:=z8 h2
   cases m with
   |zero=>cases h1
   |succ m=>
    obtain⟨tg,it,ifs,own,el,src,t,c,rfl,S,rfl⟩:=qlc h1;have B:BlkScope X own (Y1 L.N sc) sc:=ZZ gd S.chk
    exact PS.imp (qh5 (i:=i) own (Y1 L.N sc) hN hxi hloc gd.calm B (qoo (Gv:=Gv) (Hv:=Hv) gd (all m _ X L gd) tg it S.src) (λcl C fp s2 H2=>qfL (Y2 gd B S.nd cl C fp s2 H2) tg S.tg) (λcl C fp s2 H2=>qg1 (all m _ _ _ (Y2 gd B S.nd cl C fp s2 H2)) ifs S.c)
     (λcl C fp s2 H2=>qlb (all m _ _ _ (Y2 gd B S.nd cl C fp s2 H2)) elt S.el) (hsw true hb) (qaN S.fold X.env)) λD Z H h=>qbC S Z H _ (qop hv Z H _ (fin D Z H h))
 |SetComp=>cases m<;>cases hz
 |DictComp=>cases m<;>cases hz
 |_=>exact absurd rfl hn
theorem qic.of{G:Hp}{d:D}{v:V}(h:Zi d=true)(r:Rep U G d v):qic v:=by
 cases d with
 |int i=>simp![Rep]at r;subst r;exact of_decide_eq_true (p:=i.natAbs.log2 < 1920) h
 |non=>simp![Rep]at r;subst r;trivial
 |_=>cases h
theorem qdW{G:Hp}:∀{ds:List D} {vs:List V},ds.all Zi=true->qp U G ds vs->∀u∈vs,qic u
 |[],vs,_,r=>by simp![qp]at r;subst r;simp
 | d::ds,vs,h,r=>by
  simp![qp]at r;obtain⟨v,us,rfl,r1,r2⟩:=r;rw[List.all_cons,Bool.and_eq_true]at h;intro u hu;rcases List.mem_cons.mp hu with rfl|hu
  ·exact qic.of h.1 r1
  ·exact qdW h.2 r2 u hu
theorem qfM(gs:Gs U K ε k X L)(A:All U K ε k X L m)(hz:L.z=false)(n:Str)(e:Expr)(es:List Expr)(np cp p:Pos){l:Es}(hc:xnB L n=true)(h1:cEs m L (e::es)=some l) :
  PS X (.Raise (some (.Call (.Name n np) (e::es) [] cp)) none p) (tS U K Gv Hv ε (iS L.k w (.rai n l))):=by
 rw[xnB,Bool.and_eq_true]at hc;obtain⟨n1,n2,n3⟩:=qv hc.1;have gd:=gs.toGd;have hg:Gl X n:=gd.glo n hc.2;have hs:=qdR h1;simp![List.any_cons,Bool.or_eq_false_iff]at hs;have pa:PA X (e::es) (tEs U K ε Gv Hv (iEs L.k l)):=A.es Gv Hv _ _ h1;intro pins s Z H D I hq;obtain⟨N,G,er,hw⟩:=hq;have hw:=Wx.nox (Ξ':=X0) (Wx.th (x:=noX (iEs L.k l N)) hw)
 have no:(∀v,mkX L.x L.cs n v=.no)->False:=λq=>by
  cases e1:iEs L.k l N with
  |ok v=>rw[e1]at hw;have hv:Wx (XP U Gv Hv ε) (mkX L.x L.cs n v.1) _:=hw;rw[q]at hv;exact hv
  |exc c l=>rw[e1]at hw;exact hw
  |no=>rw[e1]at hw;exact hw
 cases e0:L.cs.xn n with
 |none=>exact(no λv=>by unfold mkX;rw[e0]).elim
 |some ns=>
  cases ns with
  |nil=>exact(no λv=>by unfold mkX;rw[e0]).elim
  |cons a ns=>
   by_cases gx:L.x=true
   case neg=>exact(no λv=>by unfold mkX;rw[e0];exact if_neg λz=>gx (by simp![Bool.and_eq_true]at z;exact z.1.1.1)).elim
   obtain⟨fI,fd,j,hj,hm,hk,F,hb⟩:=gs.xn1 gx n _ e0 (5:);subst hj;refine qdH gs.ex (gs.rs hz) gd.calm hg hm hk F gd.room hb pa (qg hs.1) (ju hs.2) n1 pins s Z H D I ⟨N,G,er,Wx.mono2 hw (λ_ _ z=>False.elim z) λv hv vs G1 H1 p1 r1=>?_⟩;have hv:Wx (XP U Gv Hv ε) (mkX L.x L.cs n v.1) _:=hv;unfold mkX at hv;rw[e0]at hv;dsimp only at hv
   by_cases hl:(L.x&&decide (v.1.length=(a::ns).length)&&decide (v.1.length<=sizeLine)&&v.1.all Zi)=true
   case neg=>rw[if_neg hl]at hv;exact False.elim hv
   rw[if_pos hl]at hv;simp![Bool.and_eq_true,decide_eq_true_eq]at hl;obtain⟨⟨⟨_,l1⟩,l2⟩,l3⟩:=hl;refine{by rw[<-r1.len];exact l2,λx hx=>{x,vs,rfl,qf,by rw[<-r1.len];exact l1,qdW l3 r1,λdd hd ne=>{rfl,some dd,qf,?_}}};rw[qe ne]at hd;have gdd:G1 dd=none:=qq.none p1.er.sub hd;have gx1:G1 x=none:=qq.none p1.er.sub hx
   have old:∀{b:Addr} {o:HO},H1 b=some o->rem (upd (upd (upd H1 x (JC x (L.cs.xa n) none)) dd (xD dd ((a::ns).zip vs))) x (JC x (L.cs.xa n) (some dd))) x b=some o:=λ{b o} q=>by
    have b1:b≠x:=λz=>by rw[z,hx]at q;cases q
    have b2:b≠dd:=λz=>by rw[z,hd]at q;cases q
    rw[qbt b1,qe b1,qe b2,qe b1];exact q
   have fz:((a::ns).zip v.1).map (·.1)=a::ns:=by rw[List.map_fst_zip];lia
   have sz:((a::ns).zip v.1).map (·.2)=v.1:=by rw[List.map_snd_zip];lia
   have gs1:qq G1 (upd G1 dd (xD dd ((a::ns).zip vs))):=qq.upd gdd;refine hv (some dd) (upd G1 dd (xD dd ((a::ns).zip vs))) _ (λb o q=>old (p1.er.base b o q)) (λb o q=>gs1 b o (p1.er.g0 b o q)) (λb o q=>?_) (λb o q=>?_) (.inr ⟨dd,vs,rfl,by rw[fz];exact qf,by rw[sz];exact r1.same gs1⟩)
   ·by_cases hb:b=dd
    ·subst hb;rw[qf]at q;cases q;rw[qbt ne,qe ne,qf]
    ·rw[qe hb]at q;exact old (p1.er.sub b o q)
   ·by_cases hb:b=dd
    ·subst hb;exact .inr (qq.none p1.er.base hd)
    ·rw[qe hb]at q;exact p1.er.fresh b o q
end
structure AllS(U:KC)(K:Frag)(ε:XK)(X:Cx)(L:Ct)(m w:Nat):Prop where
 s:∀Gv Hv st x,cS m L st=some x->PS X st (tS U K Gv Hv ε (iS L.k w x))
 ss:∀Gv Hv l x,cSs m L l=some x->PSs X l (tS U K Gv Hv ε (iSs L.k w x))
noncomputable abbrev atX(X:Cx)(pins:PP)(E1:PQ):Cx:={ X with pn:=X.pn++pins,xe:=E1 }
section
variable{U:KC}{ε:XK}{K:Frag}{Gv Hv:Hp}{k m w:Nat}{X:Cx}{L:Ct}{pins pins':PP}{E1:PQ}{Z:L2.St}{H:Hp}{s:Shared}
def qlg(ok:X.Ok):(atX X pins E1).Ok:=⟨ok.mod,ok.kind,ok.glob,ok.blt,ok.above,ok.inj,ok.has,ok.cab,ok.hd,ok.frames,ok.stk,ok.exf,ok.bs,ok.bsz,ok.noex,ok.exfs,ok.funs,ok.frf⟩
def qlh(ok:(atX X pins E1).Ok):X.Ok:=⟨ok.mod,ok.kind,ok.glob,ok.blt,ok.above,ok.inj,ok.has,ok.cab,ok.hd,ok.frames,ok.stk,ok.exf,ok.bs,ok.bsz,ok.noex,ok.exfs,ok.funs,ok.frf⟩
def qli(I:L2.Inv X pins Z H s):L2.Inv (atX X pins E1) [] Z H s:={qlg I.ok,I.os,I.bare,I.base,I.loc,I.cell,I.free,I.freeC,λp hp=>I.pin p (-hp:),I.hok,I.len}
def Z0(I:L2.Inv (atX X pins E1) pins' Z H s):L2.Inv X pins Z H s:={qlh I.ok,I.os,I.bare,I.base,I.loc,I.cell,I.free,I.freeC,λp hp=>I.pin p (List.mem_append_left _ hp),I.hok,I.len}
theorem qlj{D:Ends}{f:Flow}(h:SP (atX X pins E1) [] D f s):SP X pins D f s:=by
 cases f with
 |next=>obtain⟨Z',H',I,q⟩:=h;exact{Z',H',Z0 I,q}
 |brk=>obtain⟨Z',H',I,q⟩:=h;exact{Z',H',Z0 I,q}
 |cont=>obtain⟨Z',H',I,q⟩:=h;exact{Z',H',Z0 I,q}
 |ret u=>obtain⟨v,Z',H',I,r,q⟩:=h;exact{v,Z',H',Z0 I,r,q}
def qlk{E1:PQ}{ε':XK}(gs:Gs U K ε k X L)(ps:zN (CX1 X.prog X.w) (atX X pins E1) ε'):Gs U K ε' k (atX X pins E1) { L with z:=true }:=
 { ps:=ps,own:=λz=>(by cases z),rs:=λz=>(by cases z),ex:=gs.ex,stk:=gs.stk,xn1:=gs.xn1,xhs:=gs.xhs,hN:=gs.hN,vis:=gs.vis,loc:=gs.loc,glo:=gs.glo,cf:=gs.cf,nd:=gs.nd,calm:=gs.calm,hK:=gs.hK,room:=gs.room,fns:=gs.fns,blt:=gs.blt,gl:=gs.gl,cls:=gs.cls,flds:=gs.flds,mts:=gs.mts,mks:=gs.mks,xsubs:=gs.xsubs,xgs:=gs.xgs,subs:=gs.subs,sceq:=gs.sceq,fnk:=gs.fnk }
theorem qnK(gs:Gs U K ε k X L){x T C:Addr}{od:Option Addr}{G2:Hp}{hh:Heap}{l:List (Str×D)}{D:Ends}{G:Hp}{n:Nat}{Ξ:XW}(hn:Z.length=n)(Hd:Held X pins Z H s x T C od hh)
  (h1:qq Hv H) (h2:qq Gv G2) (h3:qq G2 H) (h4:∀a o,G2 a=some o->(∃o',Gv a=some o')\/Hv a=none) (h5:qnD U G2 od l) (g:qq G G2) :
  ∀(hs:List ExceptHandler) (hs':List (Str×Nat×Nat)),cHs L hs=some hs'->Wx Ξ (yf L.cs n C l hs') (FlP U K Gv Hv G D)->wpAny (model X.prog X.w) X.A (handleBy (.ref x) X.env hs) (SP X pins D) X.xe { s with heap:=hh }:=by
 intro hs
 induction hs with
 |nil=>intro hs' hc hw;cases hc;exact False.elim hw
 |cons hd hs ih=>
  intro hs' hc hw
  ·obtain⟨⟨t,n,v,n2⟩,hH,hc⟩:=bind_some hc;obtain⟨tp,vp,np,ap,hp,rfl⟩:=qnC hH;obtain⟨hb,hc⟩:=qi hc;obtain⟨q,r',h6,h7,rfl⟩:=ql hc;obtain⟨i,j,h8,h9,rfl⟩:=ql h6;simp![Bool.and_eq_true,decide_eq_true_eq,beq_iff_eq]at hb;obtain⟨⟨⟨⟨⟨⟨b1,b2⟩,b3⟩,b4⟩,b5⟩,b6⟩,b7⟩:=hb;subst b1;have hg:Gl X t:=gs.glo t b5;obtain⟨n1,n2',n3⟩:=qv b4;obtain⟨m1,m2,m3⟩:=qv b6;have hw:Wx Ξ (match L.cs.xs C t with |some true=>R.ok (Fl.next ((List.replicate n Sl.no).set j (.val (.exc C (l.map (·.1)) (l.map (·.2)))))) |some false=>yf L.cs n C l r' |none=>.no) (FlP U K Gv Hv G D):=hw
   cases ex:L.cs.xs C t with
   |none=>rw[ex]at hw;exact False.elim hw
   |some b=>
    obtain⟨Dc,hm,hq⟩:=gs.xhs C t b b3 ex
    cases b with
    |false=>rw[ex]at hw;exact qaG Hd gs.ex hg hm hq (ih r' h7 hw) n1
    |true=>
     rw[ex]at hw;obtain⟨i1,i2,hN,hxi⟩:=qbA gs.toGd h8;obtain⟨j1,j2,_,hxj⟩:=qbA gs.toGd h9;have hN:X.N.Nodup:=hN;have hxi:X.N[i]?=some n2:=hxi;have hxj:X.N[j]?=some v:=hxj;have hl:X.env.scope.names.lookup n2=some .local:=by rw[show X.env.scope=L.sc from gs.sceq];exact b7
     have hij:i≠j:=λz=>by rw[z,hxj]at hxi;exact b2 (Option.some.inj hxi)
     have hlen:X.N.length=n:=by rw[<-hn];exact Hd.inv.len.symm
     have hi:i < n:=by rw[<-hlen];exact(List.getElem?_eq_some_iff.mp hxi).1
     have hj:j < n:=by rw[<-hlen];exact(List.getElem?_eq_some_iff.mp hxj).1
     refine qcl Hd gs.ex hg hm hq hN hxi hl (jt (qcX (X:=X.mark (.ref x)) (i:=j) hN hxj j1 (yG (X:=X.mark (.ref x)) (i:=i) hxi (.inl hl) m1 m2) (Jr rfl _ _ _) j2)) ⟨.ref x,by rw[List.getElem?_set_self (by rw[hn];exact hi)],?_⟩ n1;have hHx:H x=none:=Hd.mine.hx;have gx2:G2 x=none:=qq.none h3 hHx;have gs2:qq G2 (upd G2 x (qeW x C od)):=qq.upd gx2;refine hw _ (upd G2 x (qeW x C od)) _ ⟨by simp[hn],λb o q=>?_,λb o q=>?_,λb o q=>gs2 b o (h2 b o q),λb o q=>?_,λi' sl q=>?_,λi1' j1' a l' m' q1=>?_⟩ λb o q=>gs2 b o (g b o q)
     ·by_cases hb:b=x
      ·subst hb;rw[qf]at q ⊢;exact q
      ·rw[qe hb]at q ⊢;exact h3 b o q
     ·rw[qe (λz=>by rw[z]at q;have:=h1 _ _ q;rw[hHx]at this;cases this)];exact h1 b o q
     ·by_cases hb:b=x
      ·subst hb;exact .inr (qq.none h1 hHx)
      ·rw[qe hb]at q;exact h4 b o q
     ·by_cases he:j=i'
      ·subst he;rw[List.getElem?_set_self (-hj:)]at q;cases q;refine{.ref x,?_,?_}
       ·rw[List.getElem?_set_ne hij,List.getElem?_set_self (by simp[hn];exact hj)]
       ·simp![Rep];rcases h5 with ⟨z1,z2⟩|⟨dd,xs,z1,z2,z3⟩
        ·exact{x,od,[],rfl,qf,.inl {z1,by rw[z2];rfl},by rw[z2];exact .nil}
        ·exact{x,od,xs,rfl,qf,.inr {dd,z1,gs2 _ _ z2},z3.same gs2}
      ·rw[List.getElem?_set_ne he]at q
       have:=List.eq_of_mem_replicate (List.mem_of_getElem? q)
       subst this;trivial
     ·exfalso
      by_cases he:j=i1'
      ·subst he;rw[List.getElem?_set_self (-hj:)]at q1;cases q1
      ·rw[List.getElem?_set_ne he]at q1
       have:=List.eq_of_mem_replicate (List.mem_of_getElem? q1)
       cases this
def ER.now{G:Hp}{N:Env}(er:ER U K Gv Hv G H N Z):ER U K G Hv G H N Z:={er.len,er.sub,er.base,λ_ _ e=>e,λa o e=>.inl ⟨o,e⟩,er.sl,er.ap}
def ER.thn{G G' H':Hp}{N N':Env}{Z':L2.St}(er:ER U K Gv Hv G H N Z)(e:ER U K G Hv G' H' N' Z'):ER U K Gv Hv G' H' N' Z':=
 ⟨e.len,e.sub,e.base,λb o q=>e.g0 b o (er.g0 b o q),λa o q=>by
  rcases e.fresh a o q with ⟨o',z⟩|z
  ·exact er.fresh a o' z
  ·exact .inr z,e.sl,e.ap⟩
def qll(gs:Gs U K ε k X L)(S:∀ε' X',Gs U K ε' k X' { L with z:=true }->AllS U K ε' X' { L with z:=true } m w)(body:List Stmt)(h0:ExceptHandler)(hs:List ExceptHandler)(p:Pos){b:Ss}(h1:cSs m { L with z:=true } body=some b) :
  PS X (.Try body (h0::hs) [] [] p) (tS U K Gv Hv ε (iS L.k w (.try_ b ((cHs L (h0::hs)).getD [])))):=by
 intro pins s Z H D I hq;obtain⟨N,G,er,hw⟩:=hq;generalize hg:(cHs L (h0::hs)).getD []=hs' at hw;have hw:Wx (XP U Gv Hv ε) (match iSs L.k w b N with |.exc C l=>yf L.cs N.length C l hs' |r=>r) (FlP U K Gv Hv G D):=hw
 let E':XK:=λcv od H2=>∃C l G2,cv=.ref C/\qq Hv H2/\qq G G2/\qq G2 H2/\(∀a o,G2 a=some o->(∃o',G a=some o')\/Hv a=none)/\qnD U G2 od l/\Wx (XP U Gv Hv ε) (yf L.cs N.length C l hs') (FlP U K Gv Hv G D)
 let E1:Value->Shared->Prop:=λe s'=>∃pins' Z' H1 s1,L2.Inv (atX X pins (λ_ _=>True)) pins' Z' H1 s1/\CX1 X.prog X.w X.stack H1 s1 E' e s'
 have gs':Gs U K E' k (atX X pins E1) { L with z:=true }:=qlk gs λpins' Z' H1 s1 e s' I' c=>{pins',Z',H1,s1,{⟨I'.ok.mod,I'.ok.kind,I'.ok.glob,I'.ok.blt,I'.ok.above,I'.ok.inj,I'.ok.has,I'.ok.cab,I'.ok.hd,I'.ok.frames,I'.ok.stk,I'.ok.exf,I'.ok.bs,I'.ok.bsz,I'.ok.noex,I'.ok.exfs,I'.ok.funs,I'.ok.frf⟩,I'.os,I'.bare,I'.base,I'.loc,I'.cell,I'.free,I'.freeC,I'.pin,I'.hok,I'.len},c}
 have B:=(S _ _ gs').ss G Hv body b h1 [] s Z H D (qli I) ⟨N,G,er.now,by
  show Wx (XP U G Hv E') (iSs L.k w b N) _
  cases e1:iSs L.k w b N with
  |ok f=>
   rw[e1]at hw
   cases f with
   | next N'=>exactλZ' G' H' q g=>hw Z' G' H' (er.thn q) g
   |ret r=>
    refineλv G' H' q1 q2 q3 q4=>hw v G' H' q1 (λb o q=>q2 b o (er.g0 b o q)) q3 λa o q=>?_;rcases q4 a o q with ⟨o',z⟩|z
    ·exact er.fresh a o' z
    ·exact .inr z
  |no=>rw[e1]at hw;exact hw
  |exc C l=>rw[e1]at hw;exactλod G' H' q1 q2 q3 q4 q5=>⟨C,l,G',rfl,q1,q2,q3,q4,q5,hw⟩⟩
 refine wpAny_Try_except (wpAny_mono B (λf s1 q=>?_) λe s1 hq=>?_)
 ·have q:=qlj q
  cases f with
  |next=>exact wpAny_execs_nil q
  |_=>exact q
 ·obtain⟨pins',Z',H1,s2,I2,c⟩:=hq
  exact qpf (D:=D) gs.stk gs.ex (Z0 I2) c λx T C od H2 hh q Hd=>by
   obtain⟨C',l,G2,ec,q1,q2,q3,q4,q5,q6⟩:=q;cases ec
   cases h2:cHs L (h0::hs) with
   |none=>rw[h2]at hg;subst hg;exact False.elim q6
   |some hs2=>
    rw[h2]at hg;subst hg
    exact qnK gs (by rw[er.len,I.len];exact Hd.inv.len) Hd q1 (λb o q=>q2 b o (er.g0 b o q)) q3 (λa o q=>by
     rcases q4 a o q with ⟨o',z⟩|z
     ·exact er.fresh a o' z
     ·exact .inr z) q5 q2 (h0::hs) hs2 h2 q6
end
section
variable{U:KC}{ε:XK}{K:Frag}{Gv Hv:Hp}{k m w:Nat}{X:Cx}{L:Ct}
theorem FlP.back{G G1:Hp}{D:Ends}{f:Fl}(h:FlP U K Gv Hv G D f)(g:qq G G1):FlP U K Gv Hv G1 D f:=by
 cases f with
 |next N=>exactλZ' G' H' er g'=>h Z' G' H' er λb o e=>g' b o (g b o e)
 |ret r=>exact h
def qfN{e:Expr}(h:qdJ e=true)(es:List Expr)(j:Nat)(p:Pos)(env:PySem.Env):swappedStores [.Tuple es j p] e env=pure none:=by cases e<;>first|rfl|(simp[qdJ]at h)
def qdX(gd:Gd U K ε k X L)(A:All U K ε k X L m)(es:List Expr)(j:Nat)(tp:Pos)(e:Expr)(p:Pos){x:S}(h:cS (m+1) L (.Assign [.Tuple es j tp] e p)=some x):PS X (.Assign [.Tuple es j tp] e p) (tS U K Gv Hv ε (iS L.k w x)):=by obtain⟨hc,h⟩:=qi h;obtain⟨t,a',h1,h2,rfl⟩:=ql h;rw[Bool.and_eq_true]at hc;refine PS.imp (qgB (A.e Gv Hv _ _ h2) (qfL (Ξ:=XP U Gv Hv ε) gd (.Tuple es j tp) h1) (show swapsWithSole [.Tuple es j tp] e p.line X.env=pure false from Jr hc.1 (some (.Tuple es j tp)) p.line X.env) (qfN hc.2 es j tp _) rfl) λD Z H hq1=>?_;obtain⟨N,G,er,h⟩:=hq1;refine{N,G,er,Wx.mono (Wx.th (x:=jM a' (iR L.k a') N) h) λx h v G1 H1 p1 r1=>?_};exact{Gv,Hv,x.2,G1,x.1,p1.er,r1,Wx.mono (Wx.th h) λN1 h Z1 er1=>h Z1 G1 H1 er1 p1.gs}
def qnL(r:Env->R (Rv×Env))(i:Nat)(d:D)(N:Env):R Fl:=match zx N i with
 |none=>.no
 |some _=>(r N).th λz=>match zx z.2 i,z.1.int? with
  |some l,some n=>(match ixN l.length n with
   |some k=>.ok (.next (z.2.set i (.own (l.set k d))))
   |none=>.no)
  |_,_=>.no
def gS(U:KC)(K:Frag)(ε:XK)(Gv Hv:Hp)(r:Env->R (Rv×Env))(i:Nat):TG:=λv Z H Q=>∃(N:Env) (G:Hp) (d:D) (D:Ends),ER U K Gv Hv G H N Z/\Rep U G d v/\Wx (XP U Gv Hv ε) (qnL r i d N) (FlP U K Gv Hv G D)/\∀H',D.nx Z H'->Q Z H'
theorem qnM(gd:Gd U K ε k X L)(A:All U K ε k X L m)(x:Str)(i:Expr)(xp p:Pos)(hs:QB i=true){j:Nat}{i':E}(hj:qeX L x=some j)(hi:cE m L i=some i'):PG X (.Subscript (.Name x xp) i p) (gS U K ε Gv Hv (iR L.k i') j):=by
 refine PG.imp (qjU (qbu gd hj xp) (A.r Gv Hv _ _ hi) qfh (λv=>by cases i<;>first|rfl |(simp[QB]at hs))) λv Z H Q hq1=>?_;obtain⟨N,G,d,D,er,r,h,hQ⟩:=hq1;unfold qnL at h
 cases e1:zx N j with
 |none=>rw[e1]at h;exact False.elim h
 |some l0=>
  rw[e1]at h;obtain⟨b,xs,z,h1,h2⟩:=er.ownSlot (jv e1);refine{_,z,N,G,er,Wx.mono (Wx.th h) λy h u G1 H1 p1 r1=>?_}
  cases e2:zx y.2 j with
  |none=>rw[e2]at h;exact False.elim h
  |some l=>
   cases e3:y.1.int? with
   |none=>rw[e2,e3]at h;exact False.elim h
   |some n=>
    rw[e2,e3]at h;dsimp only at h
    cases e4:ixN l.length n with
    |none=>rw[e4]at h;exact False.elim h
    |some c=>rw[e4]at h;obtain⟨b',ys,z',h3,h4⟩:=p1.er.ownSlot (jv e2);rw[z]at z';cases z';refine{b,ys,n,c,rfl,r1.int e3,h3,by rw[<-h4.len];exact e4,hQ _ ?_};exact h Z G1 _ (p1.er.write (jv e2) z (h4.set c (r.same p1.gs))) p1.gs
def qdY(gd:Gd U K ε k X L)(A:All U K ε k X L m)(x:Str)(i e:Expr)(xp sp p:Pos){y:S}(h:cS (m+1) L (.Assign [.Subscript (.Name x xp) i sp] e p)=some y):PS X (.Assign [.Subscript (.Name x xp) i sp] e p) (tS U K Gv Hv ε (iS L.k w y)):=by obtain⟨hc,h⟩:=qi h;obtain⟨j,q,h1,h2,rfl⟩:=ql h;obtain⟨i',a',h3,h4,rfl⟩:=ql h2;rw[Bool.and_eq_true]at hc;refine PS.imp (qgB (A.e Gv Hv _ _ h4) (qnM (Gv:=Gv) (Hv:=Hv) gd A x i xp sp hc.2 h1 h3) (show swapsWithSole [.Subscript (.Name x xp) i sp] e p.line X.env=pure false from Jr hc.1 (some (.Subscript (.Name x xp) i sp)) p.line X.env) rfl rfl) λD Z H hq1=>?_;obtain⟨N,G,er,h⟩:=hq1;exact{N,G,er,Wx.mono (Wx.th (x:=jM a' (iR L.k a') N) h) λy h v G1 H1 p1 r1=>{y.2,G1,y.1,D,p1.er,r1,Wx.mono (show Wx _ (qnL (iR L.k i') j y.1 y.2) _ from h) λf hf=>hf.back p1.gs,λ_ h=>h}}
theorem qnN(A:All U K ε k X L m)(S:AllS U K ε X L m w)(c:Expr)(a b:List Stmt)(p:Pos){x:DE.S}(h:cS (m+1) L (.If c a b p)=some x):PS X (.If c a b p) (tS U K Gv Hv ε (iS L.k w x)):=by
 obtain⟨c',q,h1,h2,rfl⟩:=ql h;obtain⟨a',b',h3,h4,rfl⟩:=ql h2;refine PS.imp (qcW (A.t Gv Hv _ _ h1) (S.ss Gv Hv _ _ h3) (S.ss Gv Hv _ _ h4)) λD Z H hq1=>?_;obtain⟨N,G,er,h⟩:=hq1;refine{N,G,er,Wx.mono (Wx.th (x:=iT L.k c' N) h) λt h G1 H1 p1=>?_};obtain⟨d,N1⟩:=t
 cases d with
 |true=>rw[if_pos rfl];exact{N1,G1,p1.er,Wx.mono h λf hf=>hf.back p1.gs}
 |false=>rw[if_neg (λz=>by cases z)];exact{N1,G1,p1.er,Wx.mono h λf hf=>hf.back p1.gs}
def qlm(gs:Gs U K ε k X L)(A:All U K ε k X L m)(S:AllS U K ε X L m w)(tg it:Expr)(body:List Stmt)(p:Pos){x:DE.S}(h:cS (m+1) L (.For tg it body [] p)=some x):PS X (.For tg it body [] p) (tS U K Gv Hv ε (iS L.k w x)):=by
 obtain⟨hf,h⟩:=qi h;rw[Bool.and_eq_true]at hf;obtain⟨hz,hf⟩:=hf;have hz:L.z=false:=(-hz:)
 obtain⟨q,b',h1,h2,rfl⟩:=ql h;obtain⟨t,src,h3,h4,rfl⟩:=ql h1;refine PS.imp (qjW (gs.own hz) gs.calm (A.i Gv Hv _ _ _ h4) (qfL (Ξ:=XP U Gv Hv ε) gs.toGd tg h3) (S.ss Gv Hv _ _ h2) (qaN hf X.env)) λD Z H hq1=>?_;obtain⟨N,G,er,h⟩:=hq1;refine{N,G,er,Wx.mono (Wx.th (x:=iI L.k src N) h) λx h J G1 H1 p1 it1=>?_}
 refine{λi mm Z' H'=>mm=x.1.length - i/\i<=x.1.length/\∃Nb Gb,ER U K Gv Hv Gb H' Nb Z'/\qq G1 Gb/\Wx (XP U Gv Hv ε) (qgP (λd N1=>(t.go d N1).th λN2=>iSs L.k w b' N2) (x.1.drop i) Nb) (FlP U K Gv Hv G D),
  {x.1.length,by simp,Nat.zero_le _,x.2,G1,p1.er,λ_ _ e=>e,by rw[List.drop_zero];exact h},?_}
 rintro i mm Z' H' ⟨rfl,hi,Nb,Gb,erb,g1,hw⟩;have it2:=it1 i Gb H' g1 erb.base erb.sub
 by_cases hlt:i < x.1.length
 ·obtain⟨go,yl⟩:=it2.1 x.1[i] (List.getElem?_eq_getElem hlt);refine .inr ⟨go,_,λZ2 H2 w=>{x.1.length - (i+1),by omega,w},λv H2 hy=>?_⟩;obtain⟨G',hs,gss,sub,new,rep⟩:=yl v H2 hy;have p2:=Po.more erb hs gss sub new;rw[List.drop_eq_getElem_cons hlt]at hw;refine{Gv,Hv,Nb,G',x.1[i],p2.er,rep,Wx.mono (Wx.th (Wx.th hw)) λN2 hw Z2 er2=>{N2,G',er2,Wx.mono hw λf hf=>?_}}
  cases f with
  |next N3=>exactλZ3 G3 H3 er3 g3=>{rfl,hlt,N3,G3,er3,λb o e=>g3 b o (gss b o (g1 b o e)),hf}
  |ret r=>exact hf
 ·have e:i=x.1.length:=by omega
  subst e;rw[List.drop_length]at hw;exact .inl ⟨it2.2 rfl,hw Z' Gb H' erb λb o e=>g1 b o (p1.gs b o e)⟩
theorem qfO(gs:Gs U K ε k X L)(A:All U K ε k X L m)(S:AllS U K ε X L m w)(c:Expr)(body:List Stmt)(p:Pos){x:DE.S}(h:cS (m+1) L (.While c body [] p)=some x):PS X (.While c body [] p) (tS U K Gv Hv ε (iS L.k w x)):=by
 obtain⟨hz,h⟩:=qi h;have hz:L.z=false:=(-hz:)
 obtain⟨c',b',h1,h2,rfl⟩:=ql h;refine PS.imp (qe6 (gs.own hz) (A.t Gv Hv _ _ h1) (S.ss Gv Hv _ _ h2)) λD Z H hq1=>?_;obtain⟨N,G,er,h⟩:=hq1;refine{λn Z' H'=>∃Nb Gb,ER U K Gv Hv Gb H' Nb Z'/\qq G Gb/\Wx (XP U Gv Hv ε) (whL (λN1=>iT L.k c' N1) (λN1=>iSs L.k w b' N1) n Nb) (FlP U K Gv Hv G D),{w,N,G,er,λ_ _ e=>e,h},?_};rintro n Z' H' ⟨Nb,Gb,erb,g1,hw⟩
 cases n with
 |zero=>exact False.elim hw
 |succ n=>
  refine{Nb,Gb,erb,Wx.mono (Wx.th (x:=iT L.k c' Nb) hw) λb hw G2 H2 p2=>?_};obtain⟨d,N2⟩:=b
  cases d with
  |false=>rw[if_neg (λz=>by cases z)];exact hw Z' G2 H2 p2.er λb o e=>p2.gs b o (g1 b o e)
  |true=>
   rw[if_pos rfl];refine{_,λZ3 H3 w=>{n,Nat.lt_succ_self n,w},N2,G2,p2.er,Wx.mono (Wx.th hw) λf hf=>?_}
   cases f with
   |next N3=>exactλZ3 G3 H3 er3 g3=>{N3,G3,er3,λb o e=>g3 b o (p2.gs b o (g1 b o e)),hf}
   |ret r=>exact hf
theorem qiF(gd:Gd U K ε k X L)(A:All U K ε k X L m)(e:Expr)(p:Pos){x:S}(h:cS (m+1) L (.Expr e p)=some x):PS X (.Expr e p) (tS U K Gv Hv ε (iS L.k w x)):=by
 have gen:oif (yv e) ((cE m L e).map .expr)=some x->PS X (.Expr e p) (tS U K Gv Hv ε (iS L.k w x)):=λh=>by obtain⟨hn,h⟩:=qi h;obtain⟨a',h1,rfl⟩:=qm h;refine PS.imp (yr (A.r Gv Hv _ _ h1) (Jr hn _ _ _)) λD Z H hq1=>?_;obtain⟨N,G,er,h⟩:=hq1;exact{N,G,er,Wx.mono (Wx.th (x:=iR L.k a' N) h) λx h v G1 H1 p1 r1=>h Z G1 H1 p1.er p1.gs}
 cases e with
 |Call fn es kws cp=>
  cases fn with
  |Attribute o meth ap=>
   cases o with
   |Name y yp=>
    cases kws with
    |cons kw kws=>exact match es,h,gen with |[],h,gen=>gen h |[_],h,gen=>gen h|_::_::_,h,gen=>gen h
    |nil=>
     match es,h,gen with
     |[a],h,gen=>
      obtain⟨hc,h⟩:=qi h;rw[Bool.and_eq_true]at hc;have hs:qD a=false:=(-hc.2:)
      by_cases h1:meth = "append"
      ·subst h1;rw[if_pos rfl]at h;obtain⟨i,a',h2,h3,rfl⟩:=ql h;exact qdU gd A y a yp ap cp p hc.1 hs h2 h3
      rw[if_neg h1]at h
      by_cases h2:meth = "extend"
      ·subst h2;rw[if_pos rfl]at h;obtain⟨i,a',h2,h3,rfl⟩:=ql h;exact qdV gd A y a yp ap cp p hc.1 hs h2 h3
      rw[if_neg h2]at h;cases h
     |[],h,gen=>cases h
     | _::_::_,h,gen=>exact gen h
   |_=>exact gen h
  |_=>exact gen h
 |_=>exact gen h
theorem qpA(gs:Gs U K ε k X L)(A:All U K ε k X L m)(S:AllS U K ε X L m w)(Sz:∀ε' X',Gs U K ε' k X' { L with z:=true }->AllS U K ε' X' { L with z:=true } m w)(st:Stmt)(x:DE.S)(h:cS (m+1) L st=some x):PS X st (tS U K Gv Hv ε (iS L.k w x)):=by
 cases st with
 |Pass p=>cases h;exact PS.imp qhA λD Z H ⟨N,G,er,h⟩=>h Z G H er λ_ _ e=>e
 |Raise ex ca p=>
  have stuck:∀{y:DE.S},y=.stuck->PS X (.Raise ex ca p) (tS U K Gv Hv ε (iS L.k w y)):=λ{y} e=>by subst e;exactλpins s Z H D I ⟨N,G,er,h⟩=>False.elim h
  replace h:=(Option.some.inj h).symm
  cases e:ex.bind cN with
  |none=>rw[e]at h;exact stuck h
  |some t=>
   rw[e]at h
   cases ca with
   |some _=>exact stuck h
   |none=>
    dsimp only at h
    by_cases hc:(!L.z&&xnB L t.1)=true
    case neg=>rw[if_neg hc]at h;exact stuck h
    rw[if_pos hc]at h;simp![Bool.and_eq_true,Bool.not_eq_true']at hc
    cases e2:cEs m L (t.2.1::t.2.2) with
    |none=>rw[e2]at h;exact stuck h
    |some l=>rw[e2]at h;subst h;obtain⟨y,rfl,e⟩:=bind_some e;obtain⟨np,cp,rfl⟩:=qnB e;exact qfM gs A hc.1 t.1 t.2.1 t.2.2 np cp p hc.2 e2
 |Expr e p=>exact qiF gs.toGd A e p h
 |Return o p=>
  cases o with
  |some e=>obtain⟨y,h1,rfl⟩:=qm h;exact qle gs.toGd A e p h1
  |none=>cases h;exact PS.imp qhB λD Z H ⟨N,G,er,h⟩=>h .non G H er.base er.g0 er.sub er.fresh (by simp![ReR,Rep])
 |Assign tgs e p=>
  match tgs,h with
  |[],h=>cases h
  | _::_::_,h=>cases h
  |[tg],h=>
   cases tg with
   |Name x xp=>obtain⟨i,z,h1,h2,rfl⟩:=ql h;exact qlf gs A x e xp p h1 h2
   |Tuple es j tp=>exact qdX gs.toGd A es j tp e p h
   |Subscript o i sp=>
    cases o with
    |Name x xp=>exact qdY gs.toGd A x i e xp sp p h
    |_=>cases h
   |_=>cases h
 |If c a b p=>exact qnN A S c a b p h
 |Try body hs orelse fin p=>
  cases hs with
  |nil=>cases h
  |cons h0 hs=>
   cases orelse with
   |cons _ _=>cases h
   |nil=>
    cases fin with
    |cons _ _=>cases h
    |nil=>obtain⟨_,h⟩:=qi h;obtain⟨b,h1,rfl⟩:=qm h;exact qll gs Sz body h0 hs p h1
 |For tg it body orelse p=>
  cases orelse with
  |nil=>exact qlm gs A S tg it body p h
  |cons s l=>cases h
 |While c body orelse p=>
  cases orelse with
  |nil=>exact qfO gs A S c body p h
  |cons s l=>cases h
 |_=>cases h
theorem qnO(S:AllS U K ε X L m w):∀l x,cSs (m+1) L l=some x->PSs X l (tS U K Gv Hv ε (iSs L.k w x))
 |[],_,h=>by cases h;exact PSs.imp Jc λD Z H ⟨N,G,er,h⟩=>h Z G H er λ_ _ e=>e
 | st::l,_,h=>by
  obtain⟨s',l',h1,h2,rfl⟩:=ql h;refine PSs.imp (qK (S.s Gv Hv _ _ h1) (S.ss Gv Hv _ _ h2)) λD Z H hq1=>?_;obtain⟨N,G,er,h⟩:=hq1;refine{N,G,er,Wx.mono (Wx.th (x:=iS L.k w s' N) h) λf hf=>?_}
  cases f with
  |next N1=>exactλZ1 G1 H1 er1 g1=>{N1,G1,er1,Wx.mono hf λf hf=>hf.back g1}
  |ret r=>exact hf
theorem qnP:∀(m:Nat) (ε:XK) (X:Cx) (L:Ct),Gs U K ε k X L->AllS U K ε X L m w
 |0,_,_,_,_=>{(λ_ _ _ _ h=>nomatch h),(λ_ _ _ _ h=>nomatch h)}
 | m+1,ε,X,L,gs=>
  have S:=qnP m ε X L gs
  ⟨λGv Hv=>qpA gs (all m _ X L gs.toGd) S λε' X' g=>qnP m ε' X' _ g,λGv Hv=>qnO S⟩
end
def YK(st:Stmt):List Str:=(qW st).args.map (·.arg)
def fnN(st:Stmt):List Str:=YK st++(qh st).names.filterMap λx=>if ((x.2 == .local||x.2 == .cell)&&!(YK st).contains x.1)=true then some x.1 else none
def yw(st:Stmt):Bool:=(qh st).kind == .function&&!(qh st).isCoroutine&&!(qh st).isGenerator&&decide (fnN st).Nodup&&(YK st).all (qkz (qh st))&&(qh st).names.all λy=>y.2 != .free
def toSl:Ar->Sl
 |.val d=>.val d
 |.bor l=>.bor l
 |.scr l=>.scr l
def yx(N:List Str)(args:List Ar):Env:=args.map toSl++List.replicate (N.length - args.length) .no
structure Pg where
 defs:List (Str×Stmt)
 gl:Str->Option D
 m:Nat
 w:Nat
 meths:List (Str×Stmt):=[]
 cs:Cs:=Cs.non
 nw:Nat->Str->List Ar->R Rv:=λ_ _ _=>.no
 xx:Xs:={}
def Pg.ct(pg:Pg)(k:Nat)(cl:Str->List Ar->R Rv)(st:Stmt):Ct:={fnN st,qh st,pg.defs.map (·.1),pg.gl,cl,pg.cs,pg.nw k,false,decide (2<=k)}
def flR:Fl->R Rv
 |.next _=>.ok (.val .non)
 |.ret r=>.ok r
def evF(pg:Pg)(k:Nat)(cl:Str->List Ar->R Rv)(st:Stmt)(args:List Ar):R Rv:=
 if (yw st&&args.length == (YK st).length)=true then (match cSs pg.m (pg.ct k cl st) (qw st) with
  |some b=>(iSs (pg.ct k cl st).k pg.w b (yx (fnN st) args)).th flR
  |none=>.no) else .no
def clK(pg:Pg):Nat->Str->List Ar->R Rv
 |0,_,_=>.no
 | k+1,f,args=>match (pg.defs++pg.meths).lookup f with
  |some st=>evF pg k (clK pg k) st args
  |none=>.no
def FnF(K:Frag)(mg:PR)(f:Str)(st:Stmt):Prop:=∃fa fd,Fun K f f st fa fd/\mg f=some (.ref fa)/\qR K fd (YK st) []
inductive AllF(K:Frag)(mg:PR):List (Str×Stmt)->Prop where
 | nil:AllF K mg []
 | cons {f:Str} {st:Stmt} {l:List (Str×Stmt)} (h:FnF K mg f st) (t:AllF K mg l):AllF K mg ((f,st)::l)
theorem AllF.mem{K:Frag}{mg:PR}:∀{l:List (Str×Stmt)} {f:Str} {st:Stmt},AllF K mg l->(f,st)∈l->FnF K mg f st
 |_,_,_,.nil,h=>by cases h
 |_,_,_,.cons h t,m=>by
  cases m with
  |head=>exact h
  |tail _ m=>exact t.mem m
def Zj(P:Program)(wd:World)(U:KC)(K:Frag)(mg:PR)(base:Heap)(pg:Pg)(k:Nat):Prop:=
 (∀(f:Str) (st:Stmt),pg.defs.lookup f=some st->∃fa fd,FnOk P wd K mg base (CX1 P wd) k fa fd (YK st) (spF U K (clK pg k) f)/\mg f=some (.ref fa)/\PySem.W.keepIn K (.ref fa)=true/\qR K fd (YK st) [])/\
 (∀(f:Str) (st:Stmt),pg.meths.lookup f=some st->pg.defs.lookup f=none->∀nm fa fd,Fun K nm f st fa fd->FnOk P wd K mg base (CX1 P wd) k fa fd (YK st) (spF U K (clK pg k) f))
structure PgOk(U:KC)(K:Frag)(mg:PR)(pg:Pg):Prop where
 fn:AllF K mg pg.defs
 blt:∀f∈qdL,mg f=none
 gl:∀x d,pg.gl x=some d->∃v u,mg x=some u/\qI v u/\∀G,Rep U G d v
 cls:∀c C,U c=some C->Cls K C
 flds:∀c x C,pg.cs.fld c x=true->U c=some C->zd K C x
 mts:∀c x f,pg.cs.mt c x=some f->∃C fa fd st nm,U c=some C/\Meth K C x fa/\pg.meths.lookup f=some st/\pg.defs.lookup f=none/\Fun K nm f st fa fd/\qR K fd (YK st) []
 mks:∀P wd base k,(∀j,j < k->Zj P wd U K mg base pg j)->∀f,pg.cs.tab.contains f=true->(∀args,pg.nw k f args=.no)\/∃C fa fd ps sp,Mk K C fa/\FnOk P wd K mg base (CX1 P wd) (k - 1) fa fd ps sp/\mg f=some (.ref C)/\qR K fd ps []/\0 < k/\
  ∀vs H Q E,spF U K (pg.nw k) f vs H Q E->∀x dx,H x=none->H dx=none->dx≠x->sp (.ref x::vs) (upd (upd H dx (.own x)) x (.ins C dx [])) (λv H2=>v=.non/\Q (.ref x) H2) E
 xsubs:∀C t b,pg.cs.xs C t=some b->ExcIs K C/\((∃T,mg t=some (.ref T)/\PySem.W.kitOne K (.ref C) (.ref T)=some b)\/(mg t=none/\t = "ValueError"/\PySem.W.kitOne K (.ref C) (.type "ValueError")=some b)):=by exactλ_ _ _ h=>by cases h
 xgs:∀C x,pg.cs.xg C x=true->XcG K C x:=by exactλ_ _ h=>by cases h
 xn1:∀n ns,pg.cs.xn n=some ns->ns≠[]->∀P wd base j,∃fI fd,mg n=some (.ref (pg.cs.xa n))/\XcC K (pg.cs.xa n) fI/\FnOk P wd K mg base CX0 (j+1) fI fd ("self" :: ns) (qld (pg.cs.xa n) ns)/\qR K fd ("self" :: ns) []:=by exactλ_ _ h=>by cases h
 xhs:∀C (t:Str) b,t≠("ValueError" : Str)->pg.cs.xs C t=some b->∃D,mg t=some (.ref D)/\PySem.W.exmOne K (.ref C) (.ref D)=some b:=by exactλ_ _ _ _ h=>by cases h
 subs:∀c t b,pg.cs.sub c t=some b->∃C T,U c=some C/\(∀H p dx fs,H p=some (HO.ins C dx fs)->TyOf K H (.ref p) (.ref C))/\mg t=some (.ref T)/\PySem.W.kitOne K (.ref C) (.ref T)=some b
section
variable{P:Program}{wd:World}{U:KC}{K:Frag}{mg:PR}{base:Heap}{pg:Pg}
theorem JO.len{G H:Hp}:∀{args:List Ar} {vs:List V},JO U K G H args vs->args.length=vs.length
 |[],vs,h=>by simp![JO]at h;subst h;rfl
 | a::l,vs,h=>by simp![JO]at h;obtain⟨v,r,rfl,_,h2⟩:=h;simp[JO.len h2]
theorem JO.at{G H:Hp}:∀{args:List Ar} {vs:List V} {i:Nat} {a:Ar},JO U K G H args vs->args[i]?=some a->∃v,vs[i]?=some v/\ArR U K G H a v
 |[],vs,i,a,h,e=>by simp at e
 | b::l,vs,0,a,h,e=>by simp![JO]at h;obtain⟨v,r,rfl,h1,h2⟩:=h;simp at e;subst e;exact⟨v,rfl,h1⟩
 | b::l,vs,i+1,a,h,e=>by simp![JO]at h;obtain⟨v,r,rfl,h1,h2⟩:=h;obtain⟨v',e1,e2⟩:=JO.at (i:=i) h2 (-e:);exact{v',(-e1:),e2}
def qfP{G H:Hp}{args:List Ar}{vs:List V}{N:List Str}(sub:qq G H)(h:JO U K G H args vs):ER U K G H G H (yx N args) (L2.yu N vs):=by
 have hl:=h.len;refine{by simp[yx,L2.yu,hl],sub,λ_ _ e=>e,λ_ _ e=>e,λa o e=>.inl ⟨o,e⟩,λi s e=>?_,λi j a l n e1=>?_}
 ·unfold yx at e;unfold L2.yu
  by_cases hi:i < args.length
  ·rw[List.getElem?_append_left (-hi:),List.getElem?_map]at e;obtain⟨b,e1,rfl⟩:=Option.map_eq_some_iff.mp e;obtain⟨v,e2,e3⟩:=h.at e1;rw[List.getElem?_append_left (by rw[List.length_map,<-hl];exact hi),List.getElem?_map,e2]
   cases b with
   |val d=>exact⟨v,rfl,e3⟩
   |bor l=>obtain⟨a,xs,rfl,h1,h2⟩:=e3;exact⟨a,xs,rfl,h1,h2⟩
   |scr l=>obtain⟨a,xs,rfl,h1,h2⟩:=e3;exact⟨a,xs,rfl,h1,h2⟩
  ·rw[List.getElem?_append_right (-hi:)]at e
   have:s=.no:=by
    have:=List.mem_of_getElem? e
    exact List.eq_of_mem_replicate this
   subst this;trivial
 ·exfalso;unfold yx at e1
  by_cases hi:i < args.length
  ·rw[List.getElem?_append_left (-hi:),List.getElem?_map]at e1;obtain⟨b,_,z⟩:=Option.map_eq_some_iff.mp e1
   cases b<;>cases z
  ·rw[List.getElem?_append_right (-hi:)]at e1
   have:=List.eq_of_mem_replicate (List.mem_of_getElem? e1)
   cases this
def Je{st:Stmt}(h:yw st=true):FnScope (fnN st) (YK st) (qh st):=by unfold yw at h;simp![Bool.and_eq_true,Bool.not_eq_true',List.all_eq_true]at h;obtain⟨⟨⟨⟨⟨h1,h2⟩,h3⟩,h4⟩,h5⟩,h6⟩:=h;refine{by simpa using h1,h2,h3,of_decide_eq_true h4,by simp[fnN],λx hx=>qdM (h5 x hx),λy hy=>by simpa using h6 y hy}
def JP{k:Nat}{f:Str}{st:Stmt}{args:List Ar}(h:(pg.defs++pg.meths).lookup f=some st):clK pg (k+1) f args=evF pg k (clK pg k) st args:=by show(match (pg.defs++pg.meths).lookup f with |some st=>_ |none=>R.no)=_;rw[h]
theorem qdZ{f:Str}{st:Stmt}:∀{l m:List (Str×Stmt)},l.lookup f=some st->(l++m).lookup f=some st
 |[],m,h=>by cases h
 | (g,s)::l,m,h=>by
  rw[List.lookup_cons]at h;rw[List.cons_append,List.lookup_cons]
  cases e:(f == g) with
  |true=>rw[e]at h;exact h
  |false=>rw[e]at h;exact qdZ h
theorem qg2{f:Str}:∀{l m:List (Str×Stmt)},l.lookup f=none->(l++m).lookup f=m.lookup f
 |[],m,h=>rfl
 | (g,s)::l,m,h=>by
  rw[List.lookup_cons]at h;rw[List.cons_append,List.lookup_cons]
  cases e:(f == g) with
  |true=>rw[e]at h;cases h
  |false=>rw[e]at h;exact qg2 h
theorem Z1{f:Str}:∀{l:List (Str×Stmt)},(l.map (·.1)).contains f=true->∃st,l.lookup f=some st
 |[],h=>by simp at h
 | (g,st)::l,h=>by
  by_cases e:f=g
  ·subst e;exact{st,by simp[List.lookup_cons]}
  ·have hb:(f == g)=false:=(-e:)
   obtain⟨s,hs⟩:=Z1 (l:=l) (f:=f) (by simp![List.map_cons,List.contains_cons,hb,Bool.false_or]at h;exact h)
   exact{s,by rw[List.lookup_cons,hb];exact hs}
def qnQ(ok:PgOk U K mg pg){k:Nat}(ih:∀j,j<=k->Zj P wd U K mg base pg j){f:Str}{st:Stmt}{fa:Addr}{cdv:Value}{A:Around}{outer:List PySem.Env}{s:Shared}{H:Hp}{E:XK}(S:FnScope (fnN st) (YK st) (qh st))(hr:Room k (A.deeper (envOfC f (qh st) s.heap.objs.size fa cdv))) :
  Gs U K E k (Zh (CX1 P wd) P wd K mg base (fnN st) f (qh st) fa cdv A outer s H E) (pg.ct k (clK pg k) st):=
 {ps:=qh9 λ_ _ _ q=>q
  hN:=rfl
  vis:=λx h=>qgS h
  loc:=λx h=>{qdM h,.inl rfl}
  glo:=λx h=>by have h:((qh st).names.lookup x == some NameKind.globalImplicit)=true:=h;exact(by simpa using h:(qh st).names.lookup x=some .globalImplicit)
  cf:=λx h=>h
  nd:=S.nd
  calm:=rfl
  hK:=rfl
  room:=hr
  fns:=λg hg=>by obtain⟨st',hl⟩:=Z1 (l:=pg.defs) hg;obtain⟨ga,gd,G1,G2,G3,G4⟩:=(ih k (Nat.le_refl k)).1 g st' hl;exact{ga,gd,YK st',G1,G2,G3,G4}
  blt:=ok.blt
  gl:=ok.gl
  cls:=ok.cls
  flds:=ok.flds
  mts:=λc x f h=>by obtain⟨C,fa,fd,st',nm,m1,m2,m3,m4,m5,m6⟩:=ok.mts c x f h;exact{C,fa,fd,_,m1,m2,(ih k (Nat.le_refl k)).2 f st' m3 m4 nm fa fd m5,m6}
  mks:=ok.mks P wd base k λj hj=>ih j (Nat.le_of_lt hj)
  xsubs:=ok.xsubs
  xgs:=ok.xgs
  subs:=ok.subs
  own:=λ_=>PassesOwn.leaving
  rs:=λ_=>qdG
  ex:=rfl
  stk:=⟨rfl,rfl⟩
  xn1:=λhk n ns e1 e2=>by have hk:2<=k:=of_decide_eq_true hk;obtain⟨j,rfl⟩:∃j,k=j+2:={k - 2,by omega};obtain⟨fI,fd,q1,q2,q3,q4⟩:=ok.xn1 n ns e1 e2 P wd base j;exact{fI,fd,j+1,rfl,q1,q2,q3,q4}
  xhs:=ok.xhs
  sceq:=rfl
  fnk:=S.kind }
def qbD{k:Nat}{fa:Addr}{fd:FuncData}{ps:List Str}{sp sp':Sp}(F:FnOk P wd K mg base (CX1 P wd) k fa fd ps sp)(h:∀vs H Q E,sp' vs H Q E->sp vs H Q E0):FnOk P wd K mg base CX0 k fa fd ps sp':=
 ⟨λvs H Q E q=>F.len vs H Q E0 (h vs H Q E q),λA outer s H args us vs Q E hr he hb hv hs=>codeAny_mono (F.run A outer s H args us vs Q E0 hr he hb hv (h vs H Q E hs)) λr s' q=>by
  cases r with
  |error e=>obtain⟨x,T,C,od,H',_,_,_,_,_,_,_,_,_,_,z⟩:=(show CX1 P wd outer H s E0 e s' from q);exact z.elim
  |ok fl=>cases fl<;>exact q⟩
def qd0{k:Nat}{st:Stmt}{args:List Ar}{cl:Str->List Ar->R Rv}{Ξ:XW}{g:Rv->Prop}(z:Wx Ξ (evF pg k cl st args) g):(yw st=true/\args.length=(YK st).length)/\
  Wx Ξ (match cSs pg.m (pg.ct k cl st) (qw st) with |some b=>(iSs (pg.ct k cl st).k pg.w b (yx (fnN st) args)).th flR |none=>.no) g:=by
 unfold evF at z;obtain⟨hc,z⟩:=Wx.iff z;simp![Bool.and_eq_true,beq_iff_eq]at hc;exact⟨hc,z⟩
def qaO(ok:PgOk U K mg pg){k:Nat}(ih:∀j,j<=k->Zj P wd U K mg base pg j){nm f:Str}{st:Stmt}{fa:Addr}{fd:FuncData}(F:Fun K nm f st fa fd)(h:(pg.defs++pg.meths).lookup f=some st):FnOk P wd K mg base (CX1 P wd) (k+1) fa fd (YK st) (spF U K (clK pg (k+1)) f):=by
 by_cases hc:yw st=true
 case neg=>
  have no:∀{vs:List V} {H:Hp} {Q:VK} {E:XK},spF U K (clK pg (k+1)) f vs H Q E->False:=λ{vs H Q E} ⟨G,args,_,_,z⟩=>by rw[JP h]at z;exact hc (qd0 z).1.1
  exact{λvs H Q E z=>(no z).elim,λA outer s H args us vs Q E _ _ _ _ z=>(no z).elim}
 refine F.okx (Je hc) (λvs H Q E z=>?_) (λcdv A outer s H vs Q E hr z=>?_)
 ·obtain⟨G,args,_,ha,z⟩:=z;rw[JP h]at z;rw[<-ha.len];exact(qd0 z).1.2
 ·obtain⟨G,args,sub,ha,z⟩:=z;rw[JP h]at z;have z:=(qd0 z).2;have gs:Gs U K E k (Zh (CX1 P wd) P wd K mg base (fnN st) f (qh st) fa cdv A outer s H E) (pg.ct k (clK pg k) st):=qnQ ok ih (Je hc) hr
  cases hb:cSs pg.m (pg.ct k (clK pg k) st) (qw st) with
  |none=>rw[hb]at z;exact z.elim
  |some b=>
   rw[hb]at z;refine{_,(qnP (w:=pg.w) pg.m _ _ _ gs).ss G H (qw st) b hb,yx (fnN st) args,G,qfP sub ha,Wx.mono (Wx.th z) λfl hf=>?_}
   cases fl with
   |next N=>exactλZ' G' H' er g'=>hf .non G' H' er.base er.g0 er.sub er.fresh (by simp![ReR,Rep])
   |ret r=>exact hf
theorem qln(ok:PgOk U K mg pg):∀k j:Nat,j<=k->Zj P wd U K mg base pg j:=by
 have zero:Zj P wd U K mg base pg 0:=by
  refine{λf st h=>?_,λf st h _ nm fa fd F=>{λvs H Q E ⟨G,args,_,_,z⟩=>False.elim z,λA outer s H args us vs Q E _ _ _ _ ⟨G,args',_,_,z⟩=>False.elim z}}
  ·obtain⟨fa,fd,F,hm,hb⟩:=ok.fn.mem (PySem.mem_of_lookup h);exact{fa,fd,{λvs H Q E ⟨G,args,_,_,z⟩=>False.elim z,λA outer s H args us vs Q E _ _ _ _ ⟨G,args',_,_,z⟩=>False.elim z},hm,F.kp,hb}
 intro k
 induction k with
 |zero=>intro j hj;rw[Nat.le_zero.mp hj];exact zero
 |succ k ih=>
  intro j hj;rcases Nat.lt_or_ge j (k+1) with h|h
  ·exact ih j (Nat.le_of_lt_succ h)
  ·obtain rfl:j=k+1:=Nat.le_antisymm hj h;refine{λf st h=>?_,λf st h h0 nm fa fd F=>?_}
   ·obtain⟨fa,fd,F,hm,hb⟩:=ok.fn.mem (PySem.mem_of_lookup h);exact{fa,fd,qaO ok ih F (qdZ h),hm,F.kp,hb}
   ·exact qaO ok ih F ((qg2 h0).trans h)
theorem Z2(G:Hp):∀ns:List Int,qp U G (ns.map D.int) (ns.map V.int)
 |[]=>.nil
 | n::ns=>.cons (by simp![Rep]) (Z2 G ns)
def spL(U:KC)(K:Frag)(pg:Pg)(k:Nat):Sp:=λvs H Q _=>spF U K (clK pg k) "law" vs H Q E0
def qlo{st:Stmt}{k:Nat}{fa:Addr}{fd:FuncData}(ok:PgOk U K mg pg)(F:Fun K "law" "law" st fa fd)(hl:pg.defs.lookup ("law" : Str)=some st)(hp:YK st=(["_law_script"]:List Str)) :
  FnOk P wd K mg base CX0 (k+1) fa fd (["_law_script"]:List Str) (spL U K pg (k+1)):=by
 have:=qaO (P:=P) (wd:=wd) (base:=base) ok (qln ok k) F (qdZ hl)
 rw[hp]at this;exact qbD this λ_ _ _ _ z=>z
def qlp{k:Nat}{H:Hp}{a:Addr}{ns:List Int}(hq:SqL K H a (ns.map V.int))(h:clK pg k "law" [.scr (ns.map D.int)]=.ok (.val (.bl true))):spL U K pg k [.ref a] H (λv _=>v=.bl true) λ_ _ _=>False:=by
 refine{λ_=>none,[.scr (ns.map D.int)],λ_ _ e=>(by cases e),⟨_,_,rfl,⟨a,_,rfl,hq,Z2 _ ns⟩,rfl⟩,?_};rw[h];intro v G' H' _ _ _ _ r
 simpa only[ReR,Rep] using r
end
def qpB(pg:Pg)(k:Nat)(cl:Str->List Ar->R Rv)(st:Stmt):Option (Nat×Nat×Ss):=oif (yw st) ((cSs pg.m (pg.ct k cl st) (qw st)).map λb=>((YK st).length,(fnN st).length,b))
def slN(n:Nat)(args:List Ar):Env:=args.map toSl++List.replicate (n - args.length) .no
def runD(cl:Cl)(w:Nat)(c:Nat×Nat×Ss)(args:List Ar):R Rv:=if args.length=c.1 then (iSs cl w c.2.2 (slN c.2.1 args)).th flR else .no
def Pg.kk(pg:Pg)(k:Nat):Cl:={clK pg k,pg.cs,pg.nw k,decide (2<=k)}
@[simp] def qpC{pg:Pg}{k:Nat}:(pg.kk (k+2)).x=true:=decide_eq_true (Nat.le_add_left 2 k)
def qo{pg:Pg}{f:Str}{st:Stmt}{c:Nat×Nat×Ss}(hl:(pg.defs++pg.meths).lookup f=some st)(hc:∀k cl,qpB pg k cl st=some c)(k:Nat)(args:List Ar):clK pg (k+1) f args=runD (pg.kk k) pg.w c args:=by
 obtain⟨h1,h2⟩:=qi (hc k (clK pg k));obtain⟨b,h3,rfl⟩:=qm h2;rw[JP hl];unfold evF runD
 by_cases hn:args.length=(YK st).length
 ·rw[if_pos (by rw[h1,hn];simp),if_pos hn];rw[h3];rfl
 ·rw[if_neg (by simp[hn]),if_neg hn]
variable{cl:Cl}{w:Nat}
def th_ok{α M:Type}(a:α)(f:α->R M):(R.ok a).th f=f a:=(rfl)
def of_some{α:Type}(a:α):R.of (some a)=.ok a:=(rfl)
def jP(cl:Cl)(w:Nat)(tg:Tg)(b:Ss)(l:List D)(N:Env):R Fl:=qgP (λd N1=>(tg.go d N1).th λN2=>iSs cl w b N2) l N
def whD(cl:Cl)(w:Nat)(c:T)(b:Ss)(n:Nat)(N:Env):R Fl:=whL (λN1=>iT cl c N1) (λN1=>iSs cl w b N1) n N
def ja(cl:Cl)(e:E)(tg:Tg)(c:F)(l:List D)(N:Env)(acc:List D):R (List D):=qdI tg.go (λN1=>iF cl c N1) (jM e (iR cl e)) l N acc
def qcz(f:Fl)(g:Env->R Fl):R Fl:=match f with
 |.next N1=>g N1
 |.ret r=>.ok (.ret r)
section
variable(cl:Cl)(w:Nat)(N:Env)
def jw(tg:Tg)(b:Ss):jP cl w tg b [] N=.ok (.next N):=(rfl)
def qd1(tg:Tg)(b:Ss)(d:D)(l:List D):jP cl w tg b (d::l) N=((tg.go d N).th λN2=>iSs cl w b N2).th λf=>qcz f λN1=>jP cl w tg b l N1:=(rfl)
def qfQ(c:T)(b:Ss)(n:Nat):whD cl w c b (n+1) N=(iT cl c N).th λt=>if t.1=true then (iSs cl w b t.2).th λf=>qcz f λN1=>whD cl w c b n N1 else .ok (.next t.2):=(rfl)
def zg(e:E)(tg:Tg)(c:F)(acc:List D):ja cl e tg c [] N acc=.ok acc:=(rfl)
def qcA(e:E)(tg:Tg)(c:F)(d:D)(l acc:List D):ja cl e tg c (d::l) N acc=(tg.go d N).th λN1=>(iF cl c N1).th λbt=>if bt.1=true then (jM e (iR cl e) bt.2).th λx=>if acc.length < sizeLine then ja cl e tg c l x.2 (acc++[x.1]) else .no else ja cl e tg c l bt.2 acc:=(rfl)
def qiG(e:E):iS cl w (.expr e) N=(iR cl e N).th λx=>.ok (.next x.2):=(rfl)
def qlq(i:Nat)(e:E):iS cl w (.app i e) N=(match zx N i with
  |none=>.no
  |some _=>(jM e (iR cl e) N).th λy=>(match zx y.2 i with
   |some l=>if l.length < sizeLine then .ok (.next (y.2.set i (.own (l++[y.1])))) else .no
   |none=>.no)):=(rfl)
def qlr(i:Nat)(e:E):iS cl w (.ext i e) N=(match zx N i with
  |none=>.no
  |some _=>(iR cl e N).th λy=>(match zx y.2 i,y.1.plain? with
   |some l,some n=>if l.length+n.length<=sizeLine then .ok (.next (y.2.set i (.own (l++n)))) else .no
   |_,_=>.no)):=(rfl)
def qls(e:E):iS cl w (.ret e) N=(qfu e (iR cl e) N).th λr=>.ok (.ret r):=(rfl)
def qlt(i:Nat)(e:E):iS cl w (.set i e) N=(qcu e (iR cl e) N).th λs=>.ok (.next (s.2.set i s.1)):=(rfl)
def qiH(tg:Tg)(e:E):iS cl w (.setT tg e) N=(jM e (iR cl e) N).th λx=>(tg.go x.1 x.2).th λN1=>.ok (.next N1):=(rfl)
def qiI(i:Nat)(x e:E):iS cl w (.setI i x e) N=(jM e (iR cl e) N).th λy=>(match zx y.2 i with
  |none=>.no
  |some _=>(iR cl x y.2).th λz=>(match zx z.2 i,z.1.int? with
   |some l,some n=>(match ixN l.length n with
    |some k=>.ok (.next (z.2.set i (.own (l.set k y.1))))
    |none=>.no)
   |_,_=>.no)):=(rfl)
def qlu(c:T)(a b:Ss):iS cl w (.ite c a b) N=(iT cl c N).th λt=>if t.1=true then iSs cl w a t.2 else iSs cl w b t.2:=(rfl)
def qlv(tg:Tg)(src:I)(b:Ss):iS cl w (.for_ tg src b) N=(iI cl src N).th λx=>jP cl w tg b x.1 x.2:=(rfl)
def qmT(cl:Cl)(hs:List (Str×Nat×Nat))(n:Nat)(r:R Fl):R Fl:=match r with
 |.exc C l=>yf cl.cs n C l hs
 |r=>r
def qlw(n:Str)(l:Es):iS cl w (.rai n l) N=(noX (iEs cl l N)).th λx=>mkX cl.x cl.cs n x.1:=(rfl)
def qlx(b:Ss)(hs:List (Str×Nat×Nat)):iS cl w (.try_ b hs) N=qmT cl hs N.length (iSs cl w b N):=by
 show(match iSs cl w b N with |.exc C l=>_ |r=>r)=_
 cases iSs cl w b N<;>rfl
def qfR(s:S)(l:Ss):iSs cl w (.cons s l) N=(iS cl w s N).th λf=>qcz f λN1=>iSs cl w l N1:=(rfl)
def qly(op:Operator)(a b:E):iR cl (.bin op a b) N=(iR cl a N).th λx=>(iR cl b x.2).th λy=>(JN op x.1 y.1).th λr=>.ok (r,y.2):=(rfl)
def qlz(a:E):iR cl (.neg a) N=(iR cl a N).th λx=>match x.1 with
  |.val (.int i)=>.ok (.val (.int (-i)),x.2)
  |_=>.no:=(rfl)
def qlA(a:E):iR cl (.not a) N=(iR cl a N).th λx=>match x.1 with
  |.val (.bl b)=>.ok (.val (.bl (!b)),x.2)
  |_=>.no:=(rfl)
def qlB(a b:E):iR cl (.and a b) N=(iR cl a N).th λx=>match x.1 with
  |.val (.bl true)=>iR cl b x.2
  |.val (.bl false)=>.ok (.val (.bl false),x.2)
  |_=>.no:=(rfl)
def qnR(a b:E):iR cl (.or a b) N=(iR cl a N).th λx=>match x.1 with
  |.val (.bl false)=>iR cl b x.2
  |.val (.bl true)=>.ok (.val (.bl true),x.2)
  |_=>.no:=(rfl)
def qlC(op:CmpOp)(a b:E):iR cl (.cmp op a b) N=(iR cl a N).th λx=>(iR cl b x.2).th λy=>(R.of (J4 op x.1 y.1)).th λr=>.ok (.val (.bl r),y.2):=(rfl)
def qlD(c:T)(a b:E):iR cl (.ite c a b) N=(iT cl c N).th λt=>if t.1=true then iR cl a t.2 else iR cl b t.2:=(rfl)
def qlE(a i:E):iR cl (.idx a i) N=(iR cl a N).th λx=>(iR cl i x.2).th λy=>(idxD x.1 y.1).th λr=>.ok (r,y.2):=(rfl)
def qlF(a:E)(lo hi:O):iR cl (.sli a lo hi) N=(iR cl a N).th λx=>(iO cl lo x.2).th λl=>(iO cl hi l.2).th λh=>(sliceD x.1 l.1 h.1).th λr=>.ok (r,h.2):=(rfl)
def qlG(l:Es):iR cl (.lst l) N=(iEs cl l N).th λx=>if x.1.length<=sizeLine then .ok (.tmp x.1,x.2) else .no:=(rfl)
def qlH(l:Es):iR cl (.tup l) N=(iEs cl l N).th λx=>if x.1.length<=sizeLine then .ok (.val (.tup x.1),x.2) else .no:=(rfl)
def qiJ(f:Str)(l:Es):iR cl (.call f l) N=(iAs cl l N).th λx=>(cl f x.1).th λr=>.ok (r,x.2):=(rfl)
def qnS(f:B1)(a:E):iR cl (.b1 f a) N=(iR cl a N).th λx=>(f.go x.1).th λr=>.ok (r,x.2):=(rfl)
def qnT(f:B2)(a b:E):iR cl (.b2 f a b) N=(iR cl a N).th λx=>(noX (iR cl b x.2)).th λy=>(f.go x.1 y.1).th λr=>.ok (r,y.2):=(rfl)
def qlI(t:Ty)(a:E):iR cl (.isi t a) N=(iR cl a N).th λx=>(R.of (t.go x.1)).th λb=>.ok (.val (.bl b),x.2):=(rfl)
def qlJ(ts:List Str)(a:E):iR cl (.isn ts a) N=(noX (iR cl a N)).th λx=>(R.of (qjD cl.cs x.1 ts)).th λb=>.ok (.val (.bl b),x.2):=(rfl)
def qlK(t:Str)(a:E):iR cl (.isc t a) N=(noX (iR cl a N)).th λx=>(R.of (qcs cl.cs x.1 t)).th λb=>.ok (.val (.bl b),x.2):=(rfl)
def qlL(a:E)(x:Str):iR cl (.fld a x) N=(noX (iR cl a N)).th λy=>(R.of (qay cl.cs y.1 x)).th λd=>.ok (.val d,y.2):=(rfl)
def goM(cl:Cl)(x:Str)(l:Es)(v:Rv)(N:Env):Option Str->R (Rv×Env)
 |some f=>(iAs cl l N).th λz=>(cl f (toAr v::z.1)).th λr=>.ok (r,z.2)
 |none=>(noX (iAs cl l N)).th λz=>(noX (bmD x v z.1)).th λr=>.ok (r,z.2)
def qlM(a:E)(x:Str)(l:Es):iR cl (.met a x l) N=(noX (iR cl a N)).th λy=>goM cl x l y.1 y.2 (mtD cl.cs y.1 x):=by
 show(noX (iR cl a N)).th _=_
 congr 1
def qlN(f:Str)(l:Es):iR cl (.new f l) N=(noX (iAs cl l N)).th λx=>(cl.nw f x.1).th λr=>.ok (r,x.2):=(rfl)
def qiK(e:E)(src:I)(tg:Tg)(c:F)(n:Nat)(fr:List Nat):iR cl (.comp e src tg c n fr) N=(iI cl src N).th λx=>if x.1.length<=sizeLine then (noX (ja cl e tg c x.1 (qaz n fr x.2) [])).th λl=>.ok (.tmp l,x.2) else .no:=(rfl)
def qlO(a:T):iT cl (.not a) N=(iT cl a N).th λt=>.ok (!t.1,t.2):=(rfl)
def qlP(a b:T):iT cl (.and a b) N=(iT cl a N).th λt=>if t.1=true then iT cl b t.2 else .ok (false,t.2):=(rfl)
def qnU(a b:T):iT cl (.or a b) N=(iT cl a N).th λt=>if t.1=true then .ok (true,t.2) else iT cl b t.2:=(rfl)
def qlQ(op:CmpOp)(a b:E):iT cl (.cmp op a b) N=(iR cl a N).th λx=>(iR cl b x.2).th λy=>(R.of (J4 op x.1 y.1)).th λr=>.ok (r,y.2):=(rfl)
def qlR(a:E):iT cl (.val a) N=(iR cl a N).th λx=>(R.of (truthD x.1)).th λb=>.ok (b,x.2):=(rfl)
def qfS(e:E)(l:Es):iEs cl (.cons e l) N=(jM e (iR cl e) N).th λx=>(iEs cl l x.2).th λy=>.ok (x.1::y.1,y.2):=(rfl)
def qfT(e:E)(l:Es):iAs cl (.cons e l) N=(iR cl e N).th λx=>(iAs cl l x.2).th λy=>.ok (toAr x.1::y.1,y.2):=(rfl)
def qiL(e:E):iO cl (.some e) N=(iR cl e N).th λx=>match x.1 with
  |.val (.int i)=>.ok (some i,x.2)
  |_=>.no:=(rfl)
def qlS(a:E):iI cl (.seq a) N=(yP a (iR cl a) N).th λx=>.ok (x.1.2,x.2):=(rfl)
def qlT(a:E):iI cl (.rng a) N=(iR cl a N).th λx=>(match x.1.int? with
  |some n=>if zf n=true then .ok (zZ 0 n,x.2) else .no
  |none=>.no):=(rfl)
def qiM(a:E):iI cl (.enum a) N=(yP a (iR cl a) N).th λx=>match x.1.1 with |.lst=>.ok (J5 x.1.2,x.2) |_=>.no:=(rfl)
def qlU(a:E):iI cl (.rev a) N=(yP a (iR cl a) N).th λx=>match x.1.1 with |.lst=>.ok (x.1.2.reverse,x.2) |_=>.no:=(rfl)
def qlV(a b:E):iI cl (.zip a b) N=(yP a (iR cl a) N).th λx=>(yP b (iR cl b) x.2).th λy=>match x.1.1,y.1.1 with |.lst,.lst=>.ok (qct x.1.2 y.1.2,y.2) |_,_=>.no:=(rfl)
variable(s:Sl)(i:Nat)(d:D)(l:List D)
def slR_s:slR (s::N) (i+1)=slR N i:=(rfl)
def slR_v:slR (.val d::N) 0=.ok (.val d):=(rfl)
def slR_o:slR (.own l::N) 0=.ok (.cell l):=(rfl)
def slR_b:slR (.bor l::N) 0=.ok (.cell l):=(rfl)
def slR_c:slR (.scr l::N) 0=.ok (.scr l):=(rfl)
def slX_s:slX (s::N) (i+1)=slX N i:=(rfl)
def slX_v:slX (.val d::N) 0=.ok (.val d):=(rfl)
def slX_o:slX (.own l::N) 0=.ok (.tmp l):=(rfl)
theorem qnV:slE (s::N) (i+1)=(slE N i).th λx=>.ok (x.1,s::x.2):=by
 show(match N[i]? with |some (.val d)=>_ |some (.own l)=>_ |_=>_)=R.th (match N[i]? with |some (.val d)=>_ |some (.own l)=>_ |_=>_) _
 cases N[i]? with
 |none=>rfl
 |some z=>cases z<;>rfl
theorem qnW:slL (s::N) (i+1)=(slL N i).th λx=>.ok (x.1,s::x.2):=by
 show(match N[i]? with |some (.val (.lst l))=>_ |some (.val (.tup l))=>_ |some (.val (.str z))=>_ |some (.own l)=>_ |some (.bor l)=>_ |some (.scr l)=>_ |_=>_)=R.th (match N[i]? with |some (.val (.lst l))=>_ |some (.val (.tup l))=>_ |some (.val (.str z))=>_ |some (.own l)=>_ |some (.bor l)=>_ |some (.scr l)=>_ |_=>_) _
 cases N[i]? with
 |none=>rfl
 |some z=>
  cases z with
  |val d=>cases d<;>rfl
  |_=>rfl
def ownI_s:zx (s::N) (i+1)=zx N i:=(rfl)
def ownI_o:zx (.own l::N) 0=some l:=(rfl)
end
mutual
def okD:D->Bool
 |.str s=>PyData.strOk s
 |.lst l=>qeZ l
 |.tup l=>qeZ l
 |.ins ..=>false
 |.exc ..=>false
 |.dct ..=>false
 |.non=>true
 |.bl _=>true
 |.int _=>true
def qeZ:List D->Bool
 |[]=>true
 | d::l=>okD d&&qeZ l
end
mutual
def dpD:D->Nat
 |.lst l=>qd2 l+1
 |.tup l=>qd2 l+1
 |.str _=>0
 |.ins ..=>0
 |.exc ..=>0
 |.dct ..=>0
 |.non=>0
 |.bl _=>0
 |.int _=>0
def qd2:List D->Nat
 |[]=>0
 | d::l=>max (dpD d) (qd2 l)
end
mutual
theorem qg3:∀d:D,okD d=true->∃p,toP d=some p/\p.canLay0=true/\p.depth=dpD d/\PyData.eqv p p=true
 |.non,_=>{_,by rw[toP],by rw[PyData.canLay0],by rw[PyData.depth,dpD],by rw[PyData.eqv]}
 |.bl b,_=>{_,by rw[toP],by rw[PyData.canLay0],by rw[PyData.depth,dpD],by rw[PyData.eqv];simp}
 |.int n,_=>{_,by rw[toP],by rw[PyData.canLay0],by rw[PyData.depth,dpD],by rw[PyData.eqv];simp}
 |.str s,h=>{_,by rw[toP],by rw[PyData.canLay0];rw[okD]at h;exact h,by rw[PyData.depth,dpD],by rw[PyData.eqv];simp}
 |.lst l,h=>by rw[okD]at h;obtain⟨p,h1,h2,h3,h4⟩:=qaP l h;exact{.list p,by rw[toP,h1];rfl,by rw[PyData.canLay0];exact h2,by rw[PyData.depth,dpD,h3],by rw[PyData.eqv];exact h4}
 |.tup l,h=>by rw[okD]at h;obtain⟨p,h1,h2,h3,h4⟩:=qaP l h;exact{.tuple p,by rw[toP,h1];rfl,by rw[PyData.canLay0];exact h2,by rw[PyData.depth,dpD,h3],by rw[PyData.eqv];exact h4}
 |.ins ..,h=>by rw[okD]at h;cases h
 |.exc ..,h=>by rw[okD]at h;cases h
 |.dct ..,h=>by rw[okD]at h;cases h
theorem qaP:∀l:List D,qeZ l=true->∃p,qcS l=some p/\PyData.canLayAll0 p=true/\PyData.depthAll p=qd2 l/\PyData.eqvAll p p=true
 |[],_=>{[],by rw[qcS],by rw[PyData.canLayAll0],by rw[PyData.depthAll,qd2],by rw[PyData.eqvAll]}
 | d::l,h=>by rw[qeZ,Bool.and_eq_true]at h;obtain⟨p,h1,h2,h3,h4⟩:=qg3 d h.1;obtain⟨q,h5,h6,h7,h8⟩:=qaP l h.2;exact{p::q,by rw[qcS,h1,h5];rfl,by rw[PyData.canLayAll0,h2,h6];rfl,by rw[PyData.depthAll,qd2,h3,h7],by rw[PyData.eqvAll,h4,h8];rfl}
end
def qg4{d:D}(h:okD d=true)(hd:dpD d<=64):∃p,toP d=some p/\SeqAt.shaped p=true/\PyData.eqv p p=true:=by obtain⟨p,h1,h2,h3,h4⟩:=qg3 d h;exact{p,h1,by unfold SeqAt.shaped;rw[h2,h3];simpa using hd,h4}
def qfU{d:D}(h:okD d=true)(hd:dpD d<=64):eqD d d=some true:=by obtain⟨p,h1,h2,h3⟩:=qg4 h hd;unfold eqD;rw[h1];dsimp only;rw[h2,h3];rfl
def qiN{a b:Str}(ha:PyData.strOk a=true)(hb:PyData.strOk b=true):eqD (.str a) (.str b)=some (a == b):=by unfold eqD;simp![toP];rw[show SeqAt.shaped (.str a)=true by unfold SeqAt.shaped;simp[PyData.canLay0,PyData.depth,ha],show SeqAt.shaped (.str b)=true by unfold SeqAt.shaped;simp[PyData.canLay0,PyData.depth,hb]];simp[PyData.eqv]
def qlW:SeqAt.shaped .none=true:=by unfold SeqAt.shaped;simp[PyData.canLay0,PyData.depth]
def qlX(n:Int):SeqAt.shaped (.int n)=true:=by unfold SeqAt.shaped;simp[PyData.canLay0,PyData.depth]
def qlY{a:Str}(ha:PyData.strOk a=true):SeqAt.shaped (.str a)=true:=by unfold SeqAt.shaped;simp[PyData.canLay0,PyData.depth,ha]
def qE(a b:Int):eqD (.int a) (.int b)=some (a == b):=by unfold eqD;simp![toP,qlX,Bool.and_self,if_true,PyData.eqv]
def qlZ{a:Str}(ha:PyData.strOk a=true):eqD (.str a) .non=some false:=by unfold eqD;simp![toP,qlW,qlY ha,Bool.and_self,if_true,PyData.eqv]
theorem qd3{l:List D}(h:qeZ l=true)(hd:qd2 l<=63):eqD (.lst l) (.lst [])=some l.isEmpty:=by
 obtain⟨p,h1,h2,h3⟩:=qg4 (d:=.lst l) (by rw[okD];exact h) (by rw[dpD];lia);unfold eqD;have e:toP (.lst [])=some (.list []):=by simp[toP,qcS]
 rw[h1,e];dsimp only;rw[h2,show SeqAt.shaped (.list [])=true by unfold SeqAt.shaped;simp[PyData.canLay0,PyData.canLayAll0,PyData.depth,PyData.depthAll]];rw[toP]at h1;obtain⟨q,h4,rfl⟩:=Option.map_eq_some_iff.mp h1
 cases l with
 |nil=>rw[qcS]at h4;cases h4;simp[PyData.eqv,PyData.eqvAll]
 |cons d l=>rw[qcS]at h4;obtain⟨x,h5,h6⟩:=Option.bind_eq_some_iff.mp h4;obtain⟨y,h7,rfl⟩:=Option.map_eq_some_iff.mp h6;simp[PyData.eqv,PyData.eqvAll]
def QI{α:Type}{l:List α}{i:Int}{j:Nat}(h:i=(j:Int))(hj:j < l.length):atI l i=some l[j]:=by subst h;unfold atI ixN;rw[if_pos (1:),if_pos (1:)];simp[hj]
def qfV{n:Nat}:ixN (n+1) (-1)=some n:=by unfold ixN;rw[if_neg (1:),if_pos (1:),show((-1:Int)+((n+1:Nat):Int)).toNat=n by lia]
def kk_f(pg:Pg)(k:Nat)(f:Str)(args:List Ar):(pg.kk k).f f args=clK pg k f args:=(rfl)
def kk_x2(pg:Pg)(k:Nat):(pg.kk (k+2)).x=true:=qpC
def kk_cs(pg:Pg)(k:Nat):(pg.kk k).cs=pg.cs:=(rfl)
def kk_nw(pg:Pg)(k:Nat)(f:Str)(args:List Ar):(pg.kk k).nw f args=pg.nw k f args:=(rfl)
def at_0{α:Type}(a:α)(l:List α):atI (a::l) 0=some a:=by exact QI (i:=0) (j:=0) rfl (5:)
def at_1{α:Type}(a b:α)(l:List α):atI (a::b::l) 1=some b:=by exact QI (i:=1) (j:=1) rfl (5:)
def at_2{α:Type}(a b c:α)(l:List α):atI (a::b::c::l) 2=some c:=by exact QI (i:=2) (j:=2) rfl (5:)
def qjE{α:Type}{l:List α}{j:Nat}{x:α}(h:l[j]?=some x):atI l (j:Int)=some x:=by obtain⟨h1,h2⟩:=List.getElem?_eq_some_iff.mp h;rw[QI rfl h1,h2]
def enF(i:Nat):List D->List D
 |[]=>[]
 | d::l=>.tup [.int i,d]::enF (i+1) l
theorem qg5:∀(l:List D) (i:Nat),(List.range' i l.length).zipWith (λ(i:Nat) d=>D.tup [.int i,d]) l=enF i l
 |[],i=>rfl
 | d::l,i=>by rw[List.length_cons,List.range'_succ,List.zipWith_cons_cons,qg5 l (i+1)];rfl
def QJ(l:List D):J5 l=enF 0 l:=by unfold J5;rw[List.range_eq_range',qg5]
def rgF(i:Int):Nat->List D
 |0=>[]
 | n+1=>.int i::rgF (i+1) n
theorem qg6:∀(n:Nat) (lo:Int) (s:Nat),(List.range' s n).map (λi:Nat=>D.int (lo+i))=rgF (lo+s) n
 |0,_,_=>rfl
 | n+1,lo,s=>by rw[List.range'_succ,List.map_cons,qg6 n lo (s+1)];show _=D.int (lo+s)::rgF (lo+s+1) n;rw[show lo+((s+1:Nat):Int)=lo+s+1 by lia]
def jb(lo hi:Int):zZ lo hi=rgF lo (hi - lo).toNat:=by
 unfold zZ;rw[List.range_eq_range',qg6]
 congr 1
 lia
def ixN_app{α:Type}(l:List α)(x:α):ixN (l++[x]).length (-1)=some l.length:=by rw[List.length_append];exact qfV
def set_app{α:Type}(l:List α)(x y:α):(l++[x]).set l.length y=l++[y]:=by simp
def emp_app{α:Type}(l:List α)(x:α):(l++[x]).isEmpty=false:=by cases l<;>rfl
def qg7{a b:D}(e:a=b)(h:okD a=true)(hd:dpD a<=64):eqD a b=some true:=by subst e;exact qfU h hd
def qc{α M γ:Type}(x:R α)(f:α->R M)(g:M->R γ):(x.th f).th g=x.th λa=>(f a).th g:=by cases x<;>rfl
def qk{α:Type}(x:R α):x.th R.ok=x:=by cases x<;>rfl
section
variable{M:Type}(cl:Cl)(w:Nat)
def Y3(N:Env)(K:Rv×Env->R M)(r:Rv):R M:=K (r,N)
def kBl(N:Env)(K:Rv×Env->R M)(b:Bool):R M:=K (.val (.bl b),N)
def kBo(N:Env)(K:Bool×Env->R M)(b:Bool):R M:=K (b,N)
def qnX(N:Env)(K:Rv×Env->R M)(l:List D):R M:=K (.tmp l,N)
def kB2(op:Operator)(u:Rv)(K:Rv×Env->R M)(y:Rv×Env):R M:=(JN op u y.1).th (Y3 y.2 K)
def kB1(op:Operator)(b:E)(K:Rv×Env->R M)(x:Rv×Env):R M:=(iR cl b x.2).th (kB2 op x.1 K)
def qor(K:Rv×Env->R M)(x:Rv×Env):R M:=R.th (match x.1 with
  |.val (.int i)=>.ok (.val (.int (-i)),x.2)
  |_=>.no) K
def qos(K:Rv×Env->R M)(x:Rv×Env):R M:=R.th (match x.1 with
  |.val (.bl b)=>.ok (.val (.bl (!b)),x.2)
  |_=>.no) K
def qot(b:E)(K:Rv×Env->R M)(x:Rv×Env):R M:=R.th (match x.1 with
  |.val (.bl true)=>iR cl b x.2
  |.val (.bl false)=>.ok (.val (.bl false),x.2)
  |_=>.no) K
def kOr(b:E)(K:Rv×Env->R M)(x:Rv×Env):R M:=R.th (match x.1 with
  |.val (.bl false)=>iR cl b x.2
  |.val (.bl true)=>.ok (.val (.bl true),x.2)
  |_=>.no) K
def kC2(op:CmpOp)(u:Rv)(K:Rv×Env->R M)(y:Rv×Env):R M:=(R.of (J4 op u y.1)).th (kBl y.2 K)
def kC1(op:CmpOp)(b:E)(K:Rv×Env->R M)(x:Rv×Env):R M:=(iR cl b x.2).th (kC2 op x.1 K)
def kIf(a b:E)(K:Rv×Env->R M)(t:Bool×Env):R M:=if t.1=true then (iR cl a t.2).th K else (iR cl b t.2).th K
def kI2(u:Rv)(K:Rv×Env->R M)(y:Rv×Env):R M:=(idxD u y.1).th (Y3 y.2 K)
def kI1(b:E)(K:Rv×Env->R M)(x:Rv×Env):R M:=(iR cl b x.2).th (kI2 x.1 K)
def kS3(v:Rv)(l:Option Int)(K:Rv×Env->R M)(h:Option Int×Env):R M:=(sliceD v l h.1).th (Y3 h.2 K)
def kS2(v:Rv)(hi:O)(K:Rv×Env->R M)(l:Option Int×Env):R M:=(iO cl hi l.2).th (kS3 v l.1 K)
def kS1(lo hi:O)(K:Rv×Env->R M)(x:Rv×Env):R M:=(iO cl lo x.2).th (kS2 cl x.1 hi K)
def qou(K:Rv×Env->R M)(x:List D×Env):R M:=if x.1.length<=sizeLine then K (.tmp x.1,x.2) else .no
def qov(K:Rv×Env->R M)(x:List D×Env):R M:=if x.1.length<=sizeLine then K (.val (.tup x.1),x.2) else .no
def ql0(f:Str)(K:Rv×Env->R M)(x:List Ar×Env):R M:=(cl f x.1).th (Y3 x.2 K)
def kF1(f:B1)(K:Rv×Env->R M)(x:Rv×Env):R M:=(f.go x.1).th (Y3 x.2 K)
def kG2(f:B2)(u:Rv)(K:Rv×Env->R M)(y:Rv×Env):R M:=(f.go u y.1).th (Y3 y.2 K)
def kG1(f:B2)(b:E)(K:Rv×Env->R M)(x:Rv×Env):R M:=(noX (iR cl b x.2)).th (kG2 f x.1 K)
def qow(t:Str)(K:Rv×Env->R M)(x:Rv×Env):R M:=(R.of (qcs cl.cs x.1 t)).th (kBl x.2 K)
def qox(t:List Str)(K:Rv×Env->R M)(x:Rv×Env):R M:=(R.of (qjD cl.cs x.1 t)).th (kBl x.2 K)
def qnY(N:Env)(K:Rv×Env->R M)(d:D):R M:=K (.val d,N)
def qoy(x:Str)(K:Rv×Env->R M)(y:Rv×Env):R M:=(R.of (qay cl.cs y.1 x)).th (qnY y.2 K)
def qnZ(f:Str)(v:Rv)(K:Rv×Env->R M)(z:List Ar×Env):R M:=(cl f (toAr v::z.1)).th (Y3 z.2 K)
def qn0(v:Rv)(l:Es)(N:Env)(K:Rv×Env->R M)(f:Str):R M:=(iAs cl l N).th (qnZ cl f v K)
def qpD(x:Str)(v:Rv)(K:Rv×Env->R M)(z:List Ar×Env):R M:=(noX (bmD x v z.1)).th (Y3 z.2 K)
def qn1(x:Str)(v:Rv)(l:Es)(N:Env)(K:Rv×Env->R M)(o:Option Str):R M:=match o with
 |some f=>qn0 cl v l N K f
 |none=>(noX (iAs cl l N)).th (qpD x v K)
def qn2(x:Str)(l:Es)(K:Rv×Env->R M)(y:Rv×Env):R M:=qn1 cl x y.1 l y.2 K (mtD cl.cs y.1 x)
def qoz(f:Str)(K:Rv×Env->R M)(x:List Ar×Env):R M:=(cl.nw f x.1).th (Y3 x.2 K)
def qoA(t:Ty)(K:Rv×Env->R M)(x:Rv×Env):R M:=(R.of (t.go x.1)).th (kBl x.2 K)
def ql1(e:E)(tg:Tg)(c:F)(n:Nat)(fr:List Nat)(K:Rv×Env->R M)(x:List D×Env):R M:=if x.1.length<=sizeLine then (noX (ja cl e tg c x.1 (qaz n fr x.2) [])).th (qnX x.2 K) else .no
def kTn(K:Bool×Env->R M)(t:Bool×Env):R M:=K (!t.1,t.2)
def kTa(b:T)(K:Bool×Env->R M)(t:Bool×Env):R M:=if t.1=true then (iT cl b t.2).th K else K (false,t.2)
def kTo(b:T)(K:Bool×Env->R M)(t:Bool×Env):R M:=if t.1=true then K (true,t.2) else (iT cl b t.2).th K
def kD2(op:CmpOp)(u:Rv)(K:Bool×Env->R M)(y:Rv×Env):R M:=(R.of (J4 op u y.1)).th (kBo y.2 K)
def kD1(op:CmpOp)(b:E)(K:Bool×Env->R M)(x:Rv×Env):R M:=(iR cl b x.2).th (kD2 op x.1 K)
def kTv(K:Bool×Env->R M)(x:Rv×Env):R M:=(R.of (truthD x.1)).th (kBo x.2 K)
def kE2(d:D)(K:List D×Env->R M)(y:List D×Env):R M:=K (d::y.1,y.2)
def kE1(l:Es)(K:List D×Env->R M)(x:D×Env):R M:=(iEs cl l x.2).th (kE2 x.1 K)
def kA2(v:Rv)(K:List Ar×Env->R M)(y:List Ar×Env):R M:=K (toAr v::y.1,y.2)
def kA1(l:Es)(K:List Ar×Env->R M)(x:Rv×Env):R M:=(iAs cl l x.2).th (kA2 x.1 K)
def kO(K:Option Int×Env->R M)(x:Rv×Env):R M:=R.th (match x.1 with
  |.val (.int i)=>.ok (some i,x.2)
  |_=>.no) K
def qoB(K:List D×Env->R M)(x:(Sk×List D)×Env):R M:=K (x.1.2,x.2)
def qoC(K:List D×Env->R M)(x:Rv×Env):R M:=R.th (match x.1.int? with
  |some n=>if zf n=true then .ok (zZ 0 n,x.2) else .no
  |none=>.no) K
def kR2(u:Rv)(K:List D×Env->R M)(y:Rv×Env):R M:=R.th (match u.int?,y.1.int? with
  |some i,some j=>if zf i=true/\zf j=true then .ok (zZ i j,y.2) else .no
  |_,_=>.no) K
def ql2(K:List D×Env->R M)(x:(Sk×List D)×Env):R M:=R.th (match x.1.1 with |.lst=>.ok (J5 x.1.2,x.2) |_=>.no) K
def qoD(K:List D×Env->R M)(x:(Sk×List D)×Env):R M:=R.th (match x.1.1 with |.lst=>.ok (x.1.2.reverse,x.2) |_=>.no) K
def kZ2(x:Sk×List D)(K:List D×Env->R M)(y:(Sk×List D)×Env):R M:=R.th (match x.1,y.1.1 with |.lst,.lst=>.ok (qct x.2 y.1.2,y.2) |_,_=>.no) K
def kZ1(b:E)(K:List D×Env->R M)(x:(Sk×List D)×Env):R M:=(yP b (iR cl b) x.2).th (kZ2 x.1 K)
def qn3(K:D×Env->R M)(x:Rv×Env):R M:=(qmP x).th K
def qd4(K:(Sk×List D)×Env->R M)(x:Rv×Env):R M:=(qmQ x).th K
def kX(K:Rv->R M)(x:Rv×Env):R M:=R.th (match x.1 with
  |.val d=>.ok (.val d)
  |.tmp l=>.ok (.tmp l)
  |_=>.no) K
def kAv(K:Sl×Env->R M)(x:D×Env):R M:=K (.val x.1,x.2)
def kAx(K:Sl×Env->R M)(x:Rv×Env):R M:=R.th (match x.1 with
  |.val d=>.ok (.val d,x.2)
  |.tmp l=>.ok (.own l,x.2)
  |_=>.no) K
def qiO{α:Type}(s:Sl)(K:α×Env->R M)(x:α×Env):R M:=K (x.1,s::x.2)
def ql3(K:Fl->R M)(x:Rv×Env):R M:=K (.next x.2)
def oGo(o:Option (List D))(x:R M):R M:=match o with
 |none=>.no
 |some _=>x
def qiP(i:Nat)(d:D)(N:Env)(K:Fl->R M)(o:Option (List D)):R M:=R.th (match o with
   |some l=>if l.length < sizeLine then .ok (.next (N.set i (.own (l++[d])))) else .no
   |none=>.no) K
def qoE(i:Nat)(K:Fl->R M)(y:D×Env):R M:=qiP i y.1 y.2 K (zx y.2 i)
def qiQ(i:Nat)(N:Env)(K:Fl->R M)(o p:Option (List D)):R M:=R.th (match o,p with
   |some l,some n=>if l.length+n.length<=sizeLine then .ok (.next (N.set i (.own (l++n)))) else .no
   |_,_=>.no) K
def qoF(i:Nat)(K:Fl->R M)(y:Rv×Env):R M:=qiQ i y.2 K (zx y.2 i) y.1.plain?
def kRt(K:Fl->R M)(r:Rv):R M:=K (.ret r)
def qoG(i:Nat)(K:Fl->R M)(s:Sl×Env):R M:=K (.next (s.2.set i s.1))
def kNx(K:Fl->R M)(N:Env):R M:=K (.next N)
def kST(tg:Tg)(K:Fl->R M)(x:D×Env):R M:=(tg.go x.1 x.2).th (kNx K)
def qn4(i:Nat)(d:D)(N:Env)(K:Fl->R M)(l:List D)(o:Option Nat):R M:=R.th (match o with
    |some k=>.ok (.next (N.set i (.own (l.set k d))))
    |none=>.no) K
def qmU(i:Nat)(d:D)(N:Env)(K:Fl->R M)(o:Option (List D))(v:Option Int):R M:=match o,v with
 |some l,some n=>qn4 i d N K l (ixN l.length n)
 |_,_=>.no
def qn5(i:Nat)(d:D)(K:Fl->R M)(z:Rv×Env):R M:=qmU i d z.2 K (zx z.2 i) z.1.int?
def kSI(i:Nat)(x:E)(K:Fl->R M)(y:D×Env):R M:=oGo (zx y.2 i) ((iR cl x y.2).th (qn5 i y.1 K))
def qoH(a b:Ss)(K:Fl->R M)(t:Bool×Env):R M:=if t.1=true then (iSs cl w a t.2).th K else (iSs cl w b t.2).th K
def qoI(tg:Tg)(b:Ss)(K:Fl->R M)(x:List D×Env):R M:=(jP cl w tg b x.1 x.2).th K
def qiR(l:Ss)(K:Fl->R M)(f:Fl):R M:=(qcz f λN1=>iSs cl w l N1).th K
def qmV(tg:Tg)(b:Ss)(l:List D)(K:Fl->R M)(f:Fl):R M:=(qcz f λN1=>jP cl w tg b l N1).th K
def qoJ(tg:Tg)(b:Ss)(l:List D)(K:Fl->R M)(N:Env):R M:=(iSs cl w b N).th (qmV cl w tg b l K)
def qn6(c:T)(b:Ss)(n:Nat)(K:Fl->R M)(f:Fl):R M:=(qcz f λN1=>whD cl w c b n N1).th K
def qoK(c:T)(b:Ss)(n:Nat)(K:Fl->R M)(t:Bool×Env):R M:=if t.1=true then (iSs cl w b t.2).th (qn6 cl w c b n K) else K (.next t.2)
def kP3(e:E)(tg:Tg)(c:F)(l acc:List D)(K:List D->R M)(x:D×Env):R M:=if acc.length < sizeLine then (ja cl e tg c l x.2 (acc++[x.1])).th K else .no
def kP2(e:E)(tg:Tg)(c:F)(l acc:List D)(K:List D->R M)(t:Bool×Env):R M:=if t.1=true then (jM e (iR cl e) t.2).th (kP3 cl e tg c l acc K) else (ja cl e tg c l t.2 acc).th K
def kP1(e:E)(tg:Tg)(c:F)(l acc:List D)(K:List D->R M)(N:Env):R M:=(iF cl c N).th (kP2 cl e tg c l acc K)
def jc{α:Type}{c:Prop}[Decidable c](x y:R α)(K:α->R M):(if c then x else y).th K=if c then x.th K else y.th K:=by split<;>rfl
def qy{α:Type}(x:R α){f g:α->R M}(h:∀a,f a=g a):x.th f=x.th g:=by cases x<;>first|rfl|exact h _
section
variable(N:Env)(K:Rv×Env->R M)
def xR_var(i:Nat):(iR cl (.var i) N).th K=(slR N i).th (Y3 N K):=(qc (slR N i) _ _)
def xR_con(d:D):(iR cl (.con d) N).th K=K (.val d,N):=(rfl)
def xR_bin(op:Operator)(a b:E):(iR cl (.bin op a b) N).th K=(iR cl a N).th (kB1 cl op b K):=by rw[qly,qc];refine qy _ λx=>?_;rw[qc];refine qy _ λy=>?_;rw[qc];rfl
def xR_neg(a:E):(iR cl (.neg a) N).th K=(iR cl a N).th (qor K):=by rw[qlz,qc];rfl
def xR_not(a:E):(iR cl (.not a) N).th K=(iR cl a N).th (qos K):=by rw[qlA,qc];rfl
def xR_one(a:E):(iR cl (.one a) N).th K=(iR cl a N).th K:=(rfl)
def xR_and(a b:E):(iR cl (.and a b) N).th K=(iR cl a N).th (qot cl b K):=by rw[qlB,qc];rfl
def xR_or(a b:E):(iR cl (.or a b) N).th K=(iR cl a N).th (kOr cl b K):=by rw[qnR,qc];rfl
def xR_cmp(op:CmpOp)(a b:E):(iR cl (.cmp op a b) N).th K=(iR cl a N).th (kC1 cl op b K):=by rw[qlC,qc];refine qy _ λx=>?_;rw[qc];refine qy _ λy=>?_;rw[qc];rfl
def xR_ite(c:T)(a b:E):(iR cl (.ite c a b) N).th K=(iT cl c N).th (kIf cl a b K):=by rw[qlD,qc];refine qy _ λt=>?_;rw[jc];rfl
def xR_idx(a b:E):(iR cl (.idx a b) N).th K=(iR cl a N).th (kI1 cl b K):=by rw[qlE,qc];refine qy _ λx=>?_;rw[qc];refine qy _ λy=>?_;rw[qc];rfl
def xR_sli(a:E)(lo hi:O):(iR cl (.sli a lo hi) N).th K=(iR cl a N).th (kS1 cl lo hi K):=by rw[qlF,qc];refine qy _ λx=>?_;rw[qc];refine qy _ λy=>?_;rw[qc];refine qy _ λz=>?_;rw[qc];rfl
def xR_lst(l:Es):(iR cl (.lst l) N).th K=(iEs cl l N).th (qou K):=by rw[qlG,qc];refine qy _ λx=>?_;rw[jc];rfl
def xR_tup(l:Es):(iR cl (.tup l) N).th K=(iEs cl l N).th (qov K):=by rw[qlH,qc];refine qy _ λx=>?_;rw[jc];rfl
def xR_call(f:Str)(l:Es):(iR cl (.call f l) N).th K=(iAs cl l N).th (ql0 cl f K):=by rw[qiJ,qc];refine qy _ λx=>?_;rw[qc];rfl
def xR_b1(f:B1)(a:E):(iR cl (.b1 f a) N).th K=(iR cl a N).th (kF1 f K):=by rw[qnS,qc];refine qy _ λx=>?_;rw[qc];rfl
def xR_b2(f:B2)(a b:E):(iR cl (.b2 f a b) N).th K=(iR cl a N).th (kG1 cl f b K):=by rw[qnT,qc];refine qy _ λx=>?_;rw[qc];refine qy _ λy=>?_;rw[qc];rfl
def xR_isc(t:Str)(a:E):(iR cl (.isc t a) N).th K=(noX (iR cl a N)).th (qow cl t K):=by rw[qlK,qc];refine qy _ λx=>?_;rw[qc];rfl
def xR_isn(t:List Str)(a:E):(iR cl (.isn t a) N).th K=(noX (iR cl a N)).th (qox cl t K):=by rw[qlJ,qc];refine qy _ λx=>?_;rw[qc];rfl
def xR_fld(a:E)(x:Str):(iR cl (.fld a x) N).th K=(noX (iR cl a N)).th (qoy cl x K):=by rw[qlL,qc];refine qy _ λy=>?_;rw[qc];rfl
theorem xR_met(a:E)(x:Str)(l:Es):(iR cl (.met a x l) N).th K=(noX (iR cl a N)).th (qn2 cl x l K):=by
 rw[qlM,qc];refine qy _ λy=>?_;unfold qn2
 cases mtD cl.cs y.1 x with
 |some f=>unfold goM;rw[qc];refine qy _ λz=>?_;rw[qc];rfl
 |none=>unfold goM;rw[qc];refine qy _ λz=>?_;rw[qc];rfl
def xR_new(f:Str)(l:Es):(iR cl (.new f l) N).th K=(noX (iAs cl l N)).th (qoz cl f K):=by rw[qlN,qc];refine qy _ λx=>?_;rw[qc];rfl
def xR_isi(t:Ty)(a:E):(iR cl (.isi t a) N).th K=(iR cl a N).th (qoA t K):=by rw[qlI,qc];refine qy _ λx=>?_;rw[qc];rfl
def xR_comp(e:E)(src:I)(tg:Tg)(c:F)(n:Nat)(fr:List Nat):(iR cl (.comp e src tg c n fr) N).th K=(iI cl src N).th (ql1 cl e tg c n fr K):=by rw[qiK,qc];refine qy _ λx=>?_;rw[jc,qc];rfl
def n_ok{α:Type}(a:α):noX (R.ok a)=.ok a:=(rfl)
def n_R(e:E):noX (iR cl e N)=noX ((iR cl e N).th R.ok):=by rw[qk]
def n_Es(l:Es):noX (iEs cl l N)=noX ((iEs cl l N).th R.ok):=by rw[qk]
def n_As(l:Es):noX (iAs cl l N)=noX ((iAs cl l N).th R.ok):=by rw[qk]
theorem n_var(i:Nat):(noX (iR cl (.var i) N)).th K=(slR N i).th (Y3 N K):=by
 show(noX ((slR N i).th _)).th K=_
 cases e:slR N i with
 |ok r=>rfl
 |no=>rfl
 |exc c l=>unfold slR at e;split at e<;>cases e
end
section
variable(N:Env)(K:Rv×Env->R M)(v u:Rv)
def yRet:Y3 N K v=K (v,N):=(rfl)
def yBl(b:Bool):kBl N K b=K (.val (.bl b),N):=(rfl)
def yTmp(l:List D):qnX N K l=K (.tmp l,N):=(rfl)
def yB1(op:Operator)(b:E):kB1 cl op b K (v,N)=(iR cl b N).th (kB2 op v K):=(rfl)
def yB2(op:Operator):kB2 op u K (v,N)=(JN op u v).th (Y3 N K):=(rfl)
def yNeg(i:Int):qor K (.val (.int i),N)=K (.val (.int (-i)),N):=(rfl)
def yNot(b:Bool):qos K (.val (.bl b),N)=K (.val (.bl (!b)),N):=(rfl)
def yAnd(b:E)(t:Bool):qot cl b K (.val (.bl t),N)=if t=true then (iR cl b N).th K else K (.val (.bl false),N):=by cases t<;>rfl
def yOr(b:E)(t:Bool):kOr cl b K (.val (.bl t),N)=if t=true then K (.val (.bl true),N) else (iR cl b N).th K:=by cases t<;>rfl
def yC1(op:CmpOp)(b:E):kC1 cl op b K (v,N)=(iR cl b N).th (kC2 op v K):=(rfl)
def yC2(op:CmpOp):kC2 op u K (v,N)=(R.of (J4 op u v)).th (kBl N K):=(rfl)
def yIf(a b:E)(t:Bool):kIf cl a b K (t,N)=if t=true then (iR cl a N).th K else (iR cl b N).th K:=(rfl)
def yI1(b:E):kI1 cl b K (v,N)=(iR cl b N).th (kI2 v K):=(rfl)
def yI2:kI2 u K (v,N)=(idxD u v).th (Y3 N K):=(rfl)
def yS1(lo hi:O):kS1 cl lo hi K (v,N)=(iO cl lo N).th (kS2 cl v hi K):=(rfl)
def yS2(hi:O)(l:Option Int):kS2 cl v hi K (l,N)=(iO cl hi N).th (kS3 v l K):=(rfl)
def yS3(l h:Option Int):kS3 v l K (h,N)=(sliceD v l h).th (Y3 N K):=(rfl)
def yLst(l:List D):qou K (l,N)=if l.length<=sizeLine then K (.tmp l,N) else .no:=(rfl)
def yTup(l:List D):qov K (l,N)=if l.length<=sizeLine then K (.val (.tup l),N) else .no:=(rfl)
def yCall(f:Str)(l:List Ar):ql0 cl f K (l,N)=(cl f l).th (Y3 N K):=(rfl)
def yF1(f:B1):kF1 f K (v,N)=(f.go v).th (Y3 N K):=(rfl)
def yG1(f:B2)(b:E):kG1 cl f b K (v,N)=(noX (iR cl b N)).th (kG2 f v K):=(rfl)
def yG2(f:B2):kG2 f u K (v,N)=(f.go u v).th (Y3 N K):=(rfl)
def yIsc(t:Str):qow cl t K (v,N)=(R.of (qcs cl.cs v t)).th (kBl N K):=(rfl)
def yIsn(t:List Str):qox cl t K (v,N)=(R.of (qjD cl.cs v t)).th (kBl N K):=(rfl)
def yDat(d:D):qnY N K d=K (.val d,N):=(rfl)
def yFld(x:Str):qoy cl x K (v,N)=(R.of (qay cl.cs v x)).th (qnY N K):=(rfl)
def yMt3(f:Str)(l:List Ar):qnZ cl f v K (l,N)=(cl f (toAr v::l)).th (Y3 N K):=(rfl)
def yMt2(f:Str)(l:Es):qn0 cl v l N K f=(iAs cl l N).th (qnZ cl f v K):=(rfl)
def yMt1(x:Str)(l:Es):qn2 cl x l K (v,N)=qn1 cl x v l N K (mtD cl.cs v x):=(rfl)
def yMtO(x:Str)(l:Es)(f:Str):qn1 cl x v l N K (some f)=qn0 cl v l N K f:=(rfl)
def yNew(f:Str)(l:List Ar):qoz cl f K (l,N)=(cl.nw f l).th (Y3 N K):=(rfl)
def yIsi(t:Ty):qoA t K (v,N)=(R.of (t.go v)).th (kBl N K):=(rfl)
def yComp(e:E)(tg:Tg)(c:F)(n:Nat)(fr:List Nat)(l:List D):ql1 cl e tg c n fr K (l,N)=if l.length<=sizeLine then (noX (ja cl e tg c l (qaz n fr N) [])).th (qnX N K) else .no:=(rfl)
end
section
variable(N:Env)(K:Bool×Env->R M)(v u:Rv)(t:Bool)
def xT_not(a:T):(iT cl (.not a) N).th K=(iT cl a N).th (kTn K):=by rw[qlO,qc];rfl
def xT_one(a:T):(iT cl (.one a) N).th K=(iT cl a N).th K:=(rfl)
def xT_and(a b:T):(iT cl (.and a b) N).th K=(iT cl a N).th (kTa cl b K):=by rw[qlP,qc];refine qy _ λt=>?_;rw[jc];rfl
def xT_or(a b:T):(iT cl (.or a b) N).th K=(iT cl a N).th (kTo cl b K):=by rw[qnU,qc];refine qy _ λt=>?_;rw[jc];rfl
def xT_cmp(op:CmpOp)(a b:E):(iT cl (.cmp op a b) N).th K=(iR cl a N).th (kD1 cl op b K):=by rw[qlQ,qc];refine qy _ λx=>?_;rw[qc];refine qy _ λy=>?_;rw[qc];rfl
def xT_val(a:E):(iT cl (.val a) N).th K=(iR cl a N).th (kTv K):=by rw[qlR,qc];refine qy _ λx=>?_;rw[qc];rfl
def yBo:kBo N K t=K (t,N):=(rfl)
def yTn:kTn K (t,N)=K (!t,N):=(rfl)
def yTa(b:T):kTa cl b K (t,N)=if t=true then (iT cl b N).th K else K (false,N):=(rfl)
def yTo(b:T):kTo cl b K (t,N)=if t=true then K (true,N) else (iT cl b N).th K:=(rfl)
def yD1(op:CmpOp)(b:E):kD1 cl op b K (v,N)=(iR cl b N).th (kD2 op v K):=(rfl)
def yD2(op:CmpOp):kD2 op u K (v,N)=(R.of (J4 op u v)).th (kBo N K):=(rfl)
def yTv:kTv K (v,N)=(R.of (truthD v)).th (kBo N K):=(rfl)
def xF_yes:(iF cl .yes N).th K=K (true,N):=(rfl)
def xF_test(c:T):(iF cl (.test c) N).th K=(iT cl c N).th K:=(rfl)
end
section
variable(N:Env)
def xEs_nil(K:List D×Env->R M):(iEs cl .nil N).th K=K ([],N):=(rfl)
def xEs_cons(K:List D×Env->R M)(e:E)(l:Es):(iEs cl (.cons e l) N).th K=(jM e (iR cl e) N).th (kE1 cl l K):=by rw[qfS,qc];refine qy _ λx=>?_;rw[qc];rfl
def yE1(K:List D×Env->R M)(l:Es)(d:D):kE1 cl l K (d,N)=(iEs cl l N).th (kE2 d K):=(rfl)
def yE2(K:List D×Env->R M)(d:D)(ds:List D):kE2 d K (ds,N)=K (d::ds,N):=(rfl)
def xAs_nil(K:List Ar×Env->R M):(iAs cl .nil N).th K=K ([],N):=(rfl)
def xAs_cons(K:List Ar×Env->R M)(e:E)(l:Es):(iAs cl (.cons e l) N).th K=(iR cl e N).th (kA1 cl l K):=by rw[qfT,qc];refine qy _ λx=>?_;rw[qc];rfl
def yA1(K:List Ar×Env->R M)(l:Es)(v:Rv):kA1 cl l K (v,N)=(iAs cl l N).th (kA2 v K):=(rfl)
def yA2(K:List Ar×Env->R M)(v:Rv)(l:List Ar):kA2 v K (l,N)=K (toAr v::l,N):=(rfl)
def xO_none(K:Option Int×Env->R M):(iO cl .none N).th K=K (none,N):=(rfl)
def xO_some(K:Option Int×Env->R M)(e:E):(iO cl (.some e) N).th K=(iR cl e N).th (kO K):=by rw[qiL,qc];rfl
def yO(K:Option Int×Env->R M)(i:Int):kO K (.val (.int i),N)=K (some i,N):=(rfl)
variable(K:List D×Env->R M)
def xI_seq(a:E):(iI cl (.seq a) N).th K=(yP a (iR cl a) N).th (qoB K):=by rw[qlS,qc];rfl
def xI_rng(a:E):(iI cl (.rng a) N).th K=(iR cl a N).th (qoC K):=by rw[qlT,qc];rfl
def xI_rev(a:E):(iI cl (.rev a) N).th K=(yP a (iR cl a) N).th (qoD K):=by rw[qlU,qc];rfl
def xI_enum(a:E):(iI cl (.enum a) N).th K=(yP a (iR cl a) N).th (ql2 K):=by rw[qiM,qc];rfl
def xI_zip(a b:E):(iI cl (.zip a b) N).th K=(yP a (iR cl a) N).th (kZ1 cl b K):=by rw[qlV,qc];refine qy _ λx=>?_;rw[qc];rfl
def ySeq(s:Sk)(l:List D):qoB K ((s,l),N)=K (l,N):=(rfl)
def yRng(n:Int):qoC K (.val (.int n),N)=if zf n=true then K (zZ 0 n,N) else .no:=by show R.th (if zf n=true then _ else _) K=_;rw[jc];rfl
def yRev(l:List D):qoD K ((.lst,l),N)=K (l.reverse,N):=(rfl)
def yEnum(l:List D):ql2 K ((.lst,l),N)=K (J5 l,N):=(rfl)
def yZ1(b:E)(x:Sk×List D):kZ1 cl b K (x,N)=(yP b (iR cl b) N).th (kZ2 x K):=(rfl)
def yZ2(l n:List D):kZ2 (.lst,l) K ((.lst,n),N)=K (qct l n,N):=(rfl)
end
section
variable(N:Env)(s:Sl)(i:Nat)(d:D)(l:List D)
def yVal(K:D×Env->R M):qn3 K (.val d,N)=K (d,N):=(rfl)
def yValt(K:D×Env->R M):qn3 K (.tmp l,N)=K (.lst l,N):=(rfl)
def yValL(K:(Sk×List D)×Env->R M):qd4 K (.val (.lst l),N)=K ((.lst,l),N):=(rfl)
def yValLt(K:(Sk×List D)×Env->R M):qd4 K (.val (.tup l),N)=K ((.tup,l),N):=(rfl)
def yValLs(K:(Sk×List D)×Env->R M)(z:Str):qd4 K (.val (.str z),N)=K ((.str,qcr z),N):=(rfl)
def yValLm(K:(Sk×List D)×Env->R M):qd4 K (.tmp l,N)=K ((.lst,l),N):=(rfl)
def yX(K:Rv->R M):kX K (.val d,N)=K (.val d):=(rfl)
def yXt(K:Rv->R M):kX K (.tmp l,N)=K (.tmp l):=(rfl)
def yAv(K:Sl×Env->R M):kAv K (d,N)=K (.val d,N):=(rfl)
def yAx(K:Sl×Env->R M):kAx K (.val d,N)=K (.val d,N):=(rfl)
def yAxt(K:Sl×Env->R M):kAx K (.tmp l,N)=K (.own l,N):=(rfl)
def yCons{α:Type}(K:α×Env->R M)(x:α):qiO s K (x,N)=K (x,s::N):=(rfl)
def xE_s(K:D×Env->R M):(slE (s::N) (i+1)).th K=(slE N i).th (qiO s K):=by rw[qnV,qc];rfl
def xE_v(K:D×Env->R M):(slE (.val d::N) 0).th K=K (d,.val d::N):=(rfl)
def xE_o(K:D×Env->R M):(slE (.own l::N) 0).th K=K (.lst l,.val (.lst l)::N):=(rfl)
variable(K:(Sk×List D)×Env->R M)
def xL_s:(slL (s::N) (i+1)).th K=(slL N i).th (qiO s K):=by rw[qnW,qc];rfl
def xL_l:(slL (.val (.lst l)::N) 0).th K=K ((.lst,l),.val (.lst l)::N):=(rfl)
def xL_z(z:Str):(slL (.val (.str z)::N) 0).th K=K ((.str,qcr z),.val (.str z)::N):=(rfl)
def xL_o:(slL (.own l::N) 0).th K=K ((.lst,l),.val (.lst l)::N):=(rfl)
end
section
variable(N:Env)(K:Fl->R M)(i:Nat)
def xS_expr(e:E):(iS cl w (.expr e) N).th K=(iR cl e N).th (ql3 K):=by rw[qiG,qc];rfl
def yExpr(v:Rv):ql3 K (v,N)=K (.next N):=(rfl)
def oGo_some(l:List D)(x:R M):oGo (some l) x=x:=(rfl)
theorem xS_app(e:E):(iS cl w (.app i e) N).th K=oGo (zx N i) ((jM e (iR cl e) N).th (qoE i K)):=by
 rw[qlq]
 cases zx N i with
 |none=>rfl
 |some l=>show R.th (R.th (jM e (iR cl e) N) _) K=_;rw[qc];rfl
def yApp(d:D):qoE i K (d,N)=qiP i d N K (zx N i):=(rfl)
def yApp2(d:D)(l:List D):qiP i d N K (some l)=if l.length < sizeLine then K (.next (N.set i (.own (l++[d])))) else .no:=by show R.th (if l.length < sizeLine then _ else _) K=_;rw[jc];rfl
theorem xS_ext(e:E):(iS cl w (.ext i e) N).th K=oGo (zx N i) ((iR cl e N).th (qoF i K)):=by
 rw[qlr]
 cases zx N i with
 |none=>rfl
 |some l=>show R.th (R.th (iR cl e N) _) K=_;rw[qc];rfl
def yExt(v:Rv):qoF i K (v,N)=qiQ i N K (zx N i) v.plain?:=(rfl)
def yExt2(l n:List D):qiQ i N K (some l) (some n)=if l.length+n.length<=sizeLine then K (.next (N.set i (.own (l++n)))) else .no:=by show R.th (if l.length+n.length<=sizeLine then _ else _) K=_;rw[jc];rfl
def xS_ret(e:E):(iS cl w (.ret e) N).th K=(qfu e (iR cl e) N).th (kRt K):=by rw[qls,qc];rfl
def yRt(r:Rv):kRt K r=K (.ret r):=(rfl)
def xS_set(e:E):(iS cl w (.set i e) N).th K=(qcu e (iR cl e) N).th (qoG i K):=by rw[qlt,qc];rfl
def ySet(s:Sl):qoG i K (s,N)=K (.next (N.set i s)):=(rfl)
def xS_setT(tg:Tg)(e:E):(iS cl w (.setT tg e) N).th K=(jM e (iR cl e) N).th (kST tg K):=by rw[qiH,qc];refine qy _ λx=>?_;rw[qc];rfl
def yST(tg:Tg)(d:D):kST tg K (d,N)=(tg.go d N).th (kNx K):=(rfl)
def yNx:kNx K N=K (.next N):=(rfl)
theorem xS_setI(x e:E):(iS cl w (.setI i x e) N).th K=(jM e (iR cl e) N).th (kSI cl i x K):=by
 rw[qiI,qc];refine qy _ λy=>?_;show R.th (match zx y.2 i with |none=>_ |some _=>_) K=oGo (zx y.2 i) _
 cases zx y.2 i with
 |none=>rfl
 |some l=>
  show R.th (R.th (iR cl x y.2) _) K=R.th _ _;rw[qc];refine qy _ λz=>?_;show R.th (match zx z.2 i,z.1.int? with |some l,some n=>_ |_,_=>_) K=qmU i y.1 z.2 K (zx z.2 i) z.1.int?
  cases zx z.2 i with
  |none=>rfl
  |some l=>cases z.1.int?<;>rfl
def ySI(x:E)(d:D):kSI cl i x K (d,N)=oGo (zx N i) ((iR cl x N).th (qn5 i d K)):=(rfl)
def ySI2(d:D)(v:Rv):qn5 i d K (v,N)=qmU i d N K (zx N i) v.int?:=(rfl)
def ySI3(d:D)(l:List D)(n:Int):qmU i d N K (some l) (some n)=qn4 i d N K l (ixN l.length n):=(rfl)
def ySI4(d:D)(l:List D)(k:Nat):qn4 i d N K l (some k)=K (.next (N.set i (.own (l.set k d)))):=(rfl)
def xS_ite(c:T)(a b:Ss):(iS cl w (.ite c a b) N).th K=(iT cl c N).th (qoH cl w a b K):=by rw[qlu,qc];refine qy _ λt=>?_;rw[jc];rfl
def yIte(a b:Ss)(t:Bool):qoH cl w a b K (t,N)=if t=true then (iSs cl w a N).th K else (iSs cl w b N).th K:=(rfl)
def xS_for(tg:Tg)(src:I)(b:Ss):(iS cl w (.for_ tg src b) N).th K=(iI cl src N).th (qoI cl w tg b K):=by rw[qlv,qc];rfl
def yFor(tg:Tg)(b:Ss)(l:List D):qoI cl w tg b K (l,N)=(jP cl w tg b l N).th K:=(rfl)
def xS_whl(c:T)(b:Ss):(iS cl w (.whl c b) N).th K=(whD cl w c b w N).th K:=(rfl)
def qoL(n:Str)(K:Fl->R M)(x:List D×Env):R M:=(mkX cl.x cl.cs n x.1).th K
def xS_rai(n:Str)(l:Es):(iS cl w (.rai n l) N).th K=(noX (iEs cl l N)).th (qoL cl n K):=by rw[qlw,qc];rfl
def yRai(n:Str)(l:List D):qoL cl n K (l,N)=(mkX cl.x cl.cs n l).th K:=(rfl)
def xS_try(b:Ss)(hs:List (Str×Nat×Nat)):(iS cl w (.try_ b hs) N).th K=(qmT cl hs N.length ((iSs cl w b N).th R.ok)).th K:=by rw[qlx,qk]
def yTry_ok(hs:List (Str×Nat×Nat))(n:Nat)(f:Fl):qmT cl hs n (.ok f)=.ok f:=(rfl)
def yTry_exc(hs:List (Str×Nat×Nat))(n:Nat)(C:Addr)(l:List (Str×D)):qmT cl hs n (.exc C l)=yf cl.cs n C l hs:=(rfl)
def th_exc{α:Type}(c:Addr)(l:List (Str×D))(K:α->R M):(R.exc c l:R α).th K=.exc c l:=(rfl)
def xSs_nil:(iSs cl w .nil N).th K=K (.next N):=(rfl)
def xSs_cons(s:S)(l:Ss):(iSs cl w (.cons s l) N).th K=(iS cl w s N).th (qiR cl w l K):=by rw[qfR,qc];rfl
def yNext(l:Ss):qiR cl w l K (.next N)=(iSs cl w l N).th K:=(rfl)
def yNextr(l:Ss)(r:Rv):qiR cl w l K (.ret r)=K (.ret r):=(rfl)
def xFo_nil(tg:Tg)(b:Ss):(jP cl w tg b [] N).th K=K (.next N):=(rfl)
def xFo_cons(tg:Tg)(b:Ss)(d:D)(l:List D):(jP cl w tg b (d::l) N).th K=(tg.go d N).th (qoJ cl w tg b l K):=by rw[qd1,qc,qc];refine qy _ λN2=>?_;rfl
def yFo1(tg:Tg)(b:Ss)(l:List D):qoJ cl w tg b l K N=(iSs cl w b N).th (qmV cl w tg b l K):=(rfl)
def yFo2(tg:Tg)(b:Ss)(l:List D):qmV cl w tg b l K (.next N)=(jP cl w tg b l N).th K:=(rfl)
def yFo2r(tg:Tg)(b:Ss)(l:List D)(r:Rv):qmV cl w tg b l K (.ret r)=K (.ret r):=(rfl)
def xWh(c:T)(b:Ss)(n:Nat):(whD cl w c b (n+1) N).th K=(iT cl c N).th (qoK cl w c b n K):=by rw[qfQ,qc];refine qy _ λt=>?_;rw[jc,qc];rfl
def yWh1(c:T)(b:Ss)(n:Nat)(t:Bool):qoK cl w c b n K (t,N)=if t=true then (iSs cl w b N).th (qn6 cl w c b n K) else K (.next N):=(rfl)
def yWh2(c:T)(b:Ss)(n:Nat):qn6 cl w c b n K (.next N)=(whD cl w c b n N).th K:=(rfl)
end
section
variable(N:Env)(K:List D->R M)(e:E)(tg:Tg)(c:F)(l acc:List D)(d:D)
def xP_cons:(ja cl e tg c (d::l) N acc).th K=(tg.go d N).th (kP1 cl e tg c l acc K):=by
 rw[qcA,qc];refine qy _ λN1=>?_;rw[qc];refine qy _ λbt=>?_;rw[jc,qc];show(if bt.1=true then _ else _)=(if bt.1=true then _ else _)
 by_cases h:bt.1=true
 ·rw[if_pos h,if_pos h];refine qy _ λx=>?_;rw[jc];rfl
 ·rw[if_neg h,if_neg h]
def yP1:kP1 cl e tg c l acc K N=(iF cl c N).th (kP2 cl e tg c l acc K):=(rfl)
def yP2(t:Bool):kP2 cl e tg c l acc K (t,N)=if t=true then (jM e (iR cl e) N).th (kP3 cl e tg c l acc K) else (ja cl e tg c l N acc).th K:=(rfl)
def yP3:kP3 cl e tg c l acc K (d,N)=if acc.length < sizeLine then (ja cl e tg c l N (acc++[d])).th K else .no:=(rfl)
end
end
def vc:E->Bool
 |.var _=>true
 |.con _=>true
 |_=>false
def vc_bin(op:Operator)(a b:E):vc (.bin op a b)=false:=(rfl)
def vc_neg(a:E):vc (.neg a)=false:=(rfl)
def vc_and(a b:E):vc (.and a b)=false:=(rfl)
def vc_or(a b:E):vc (.or a b)=false:=(rfl)
def vc_cmp(op:CmpOp)(a b:E):vc (.cmp op a b)=false:=(rfl)
def vc_ite(c:T)(a b:E):vc (.ite c a b)=false:=(rfl)
def vc_idx(a b:E):vc (.idx a b)=false:=(rfl)
def vc_sli(a:E)(lo hi:O):vc (.sli a lo hi)=false:=(rfl)
def vc_lst(l:Es):vc (.lst l)=false:=(rfl)
def vc_tup(l:Es):vc (.tup l)=false:=(rfl)
def vc_call(f:Str)(l:Es):vc (.call f l)=false:=(rfl)
def vc_b1(f:B1)(a:E):vc (.b1 f a)=false:=(rfl)
def vc_b2(f:B2)(a b:E):vc (.b2 f a b)=false:=(rfl)
def vc_fld(a:E)(x:Str):vc (.fld a x)=false:=(rfl)
def vc_met(a:E)(x:Str)(l:Es):vc (.met a x l)=false:=(rfl)
def vc_new(f:Str)(l:Es):vc (.new f l)=false:=(rfl)
def vc_comp(e:E)(src:I)(tg:Tg)(c:F)(n:Nat)(fr:List Nat):vc (.comp e src tg c n fr)=false:=(rfl)
section
variable{M:Type}(r:Env->R (Rv×Env))(N:Env)
def eE_g{e:E}(h:vc e=false)(K:D×Env->R M):(jM e r N).th K=(r N).th (qn3 K):=by rw[show jM e r N=(r N).th qmP from(by cases e<;>first|rfl|(cases h)),qc];rfl
def eL_g{e:E}(h:vc e=false)(K:(Sk×List D)×Env->R M):(yP e r N).th K=(r N).th (qd4 K):=by rw[show yP e r N=(r N).th qmQ from(by cases e<;>first|rfl|(cases h)),qc];rfl
def eX_g{e:E}(h:vc e=false)(K:Rv->R M):(qfu e r N).th K=(r N).th (kX K):=by rw[show qfu e r N=(r N).th λx=>match x.1 with |.val d=>R.ok (.val d) |.tmp l=>.ok (.tmp l) |_=>.no from(by cases e<;>first|rfl|(cases h)),qc];rfl
def eA_g{e:E}(h:vc e=false)(K:Sl×Env->R M):(qcu e r N).th K=(r N).th (kAx K):=by rw[show qcu e r N=(r N).th λx=>match x.1 with |.val d=>R.ok (.val d,x.2) |.tmp l=>.ok (.own l,x.2) |_=>.no from(by cases e<;>first|rfl|(cases h)),qc];rfl
def eE_var(K:D×Env->R M)(i:Nat):(jM (.var i) r N).th K=(slE N i).th K:=(rfl)
def eE_con(K:D×Env->R M)(d:D):(jM (.con d) r N).th K=K (d,N):=(rfl)
def eL_var(K:(Sk×List D)×Env->R M)(i:Nat):(yP (.var i) r N).th K=(slL N i).th K:=(rfl)
def eX_var(K:Rv->R M)(i:Nat):(qfu (.var i) r N).th K=(slX N i).th K:=(rfl)
def eX_con(K:Rv->R M)(d:D):(qfu (.con d) r N).th K=K (.val d):=(rfl)
def eA_var(K:Sl×Env->R M)(i:Nat):(qcu (.var i) r N).th K=(slE N i).th (kAv K):=qc (slE N i) _ _
def eA_con(K:Sl×Env->R M)(d:D):(qcu (.con d) r N).th K=K (.val d,N):=(rfl)
end
def bAdd(a b:Int):JN .Add (.val (.int a)) (.val (.int b))=.ok (.val (.int (a+b))):=(rfl)
def bAdds(a b:Str):JN .Add (.val (.str a)) (.val (.str b))=if a.length+b.length<=sizeLine then .ok (.val (.str (a++b))) else .no:=(rfl)
def bAddtt(a b:List D):JN .Add (.tmp a) (.tmp b)=if a.length+b.length<=sizeLine then .ok (.tmp (a++b)) else .no:=(rfl)
def bAddct(a b:List D):JN .Add (.cell a) (.tmp b)=if a.length+b.length<=sizeLine then .ok (.tmp (a++b)) else .no:=(rfl)
def bAddvt(a b:List D):JN .Add (.val (.lst a)) (.tmp b)=if a.length+b.length<=sizeLine then .ok (.tmp (a++b)) else .no:=(rfl)
def bSub(a b:Int):JN .Sub (.val (.int a)) (.val (.int b))=.ok (.val (.int (a - b))):=(rfl)
def bMult(a b:Int):JN .Mult (.val (.int a)) (.val (.int b))=if ZJ a b=true then .ok (.val (.int (a * b))) else .no:=(rfl)
def bDiv(a b:Int):JN .FloorDiv (.val (.int a)) (.val (.int b))=if 0 < b/\b < 1073741824 then .ok (.val (.int (a / b))) else .no:=(rfl)
def bMod(a b:Int):JN .Mod (.val (.int a)) (.val (.int b))=if 0 < b then .ok (.val (.int (a % b))) else .no:=(rfl)
def bPow(a b:Int):JN .Pow (.val (.int a)) (.val (.int b))=if 0<=b/\b<=1000000/\a.natAbs < 2 ^ 64 then .ok (.val (.int (a ^ b.toNat))) else .no:=(rfl)
def cEq(x y:Rv):J4 .Eq x y=eqD x.data y.data:=(rfl)
def cNe(x y:Rv):J4 .NotEq x y=(eqD x.data y.data).map (!·):=(rfl)
def cLt(a b:Int):J4 .Lt (.val (.int a)) (.val (.int b))=some (decide (a < b)):=(rfl)
def cLe(a b:Int):J4 .LtE (.val (.int a)) (.val (.int b))=some (decide (a<=b)):=(rfl)
def cGt(a b:Int):J4 .Gt (.val (.int a)) (.val (.int b))=some (decide (b < a)):=(rfl)
def cGe(a b:Int):J4 .GtE (.val (.int a)) (.val (.int b))=some (decide (b<=a)):=(rfl)
def cIs(x:Rv):J4 .Is x (.val .non)=some x.non?:=(rfl)
def cIsN(x:Rv):J4 .IsNot x (.val .non)=some (!x.non?):=(rfl)
def cIn(x y:Rv):J4 .In x y=qeY x y:=(rfl)
def cNi(x y:Rv):J4 .NotIn x y=(qeY x y).map (!·):=(rfl)
def mIn(a b:Str):qeY (.val (.str a)) (.val (.str b))=some (qij a b):=(rfl)
def rgoV(i:Nat)(d:D)(N:Env):Tg.go (.one i) d N=.ok (N.set i (.val d)):=(rfl)
def rgoT(l:List Nat)(ds:List D)(N:Env):Tg.go (.many l) (.tup ds) N=QC l ds N:=(rfl)
def setIs_nil(N:Env):QC [] [] N=.ok N:=(rfl)
def setIs_cons(i:Nat)(l:List Nat)(d:D)(ds:List D)(N:Env):QC (i::l) (d::ds) N=QC l ds (N.set i (.val d)):=(rfl)
section
variable{α M:Type}(f:α->M)(a b:α)(l m:List α)(n:Nat)
def g_mapc:List.map f (a::l)=f a::List.map f l:=(rfl)
def g_mapn:List.map f []=[]:=(rfl)
def g_lenc:(a::l).length=l.length+1:=(rfl)
def g_lenn:([]:List α).length=0:=(rfl)
def g_rep0:List.replicate 0 a=[]:=(rfl)
def g_reps:List.replicate (n+1) a=a::List.replicate n a:=(rfl)
def g_appc:(a::l)++m=a::(l++m):=(rfl)
def g_appn:[]++m=m:=(rfl)
def g_set0:(a::l).set 0 b=b::l:=(rfl)
def g_sets:(a::l).set (n+1) b=a::l.set n b:=(rfl)
def g_last(l:List α)(x:α):atI (l++[x]) (-1)=some x:=L2.qfg ..
def g_nott:(!true)=false:=(rfl)
def g_notf:(!false)=true:=(rfl)
def g_omap:Option.map f (some a)=some (f a):=(rfl)
def g_fe:(false=true)=False:=Bool.false_eq_true
def g_and(p:Prop):(p/\p)=p:=and_self p
def g_dt(h:Decidable True):@decide True h=true:=decide_true ..
def g_df(h:Decidable False):@decide False h=false:=decide_false ..
end
def aL(b:Bool)(l:List D):Ar:=match b with
 |true=>.bor l
 |false=>.val (.lst l)
def rA(b:Bool)(l:List D):Rv:=match b with
 |true=>.cell l
 |false=>.val (.lst l)
def pS(b:Bool)(l:List D):Sl:=match b with
 |true=>.bor l
 |false=>.val (.lst l)
def qg8(b:Bool)(l:List D):Sl:=match b with
 |true=>.own l
 |false=>.val (.lst l)
section
variable{M:Type}(b:Bool)(l:List D)(N:DE.Env)
def lend_v(d:D):qkA (.val d)=.val d:=(rfl)
def lend_o:qkA (.own l)=.bor l:=(rfl)
def lend_s:qkA (.scr l)=.scr l:=(rfl)
def qmW:qg8 true l=.own l:=rfl
def qmX:qg8 false l=.val (.lst l):=rfl
def J8:aL true l=.bor l:=rfl
def YM:aL false l=.val (.lst l):=rfl
def sA_p:toSl (aL b l)=pS b l:=by cases b<;>rfl
def sA_R:slR (pS b l::N) 0=.ok (rA b l):=by cases b<;>rfl
def sA_L(K:(Sk×List D)×DE.Env->R M):(slL (pS b l::N) 0).th K=K ((.lst,l),pS b l::N):=by cases b<;>rfl
def sL_L(K:(Sk×List D)×DE.Env->R M):(slL (qg8 b l::N) 0).th K=K ((.lst,l),.val (.lst l)::N):=by cases b<;>rfl
def sL_R:slR (qg8 b l::N) 0=.ok (rA b l):=by cases b<;>rfl
def rA_a:toAr (rA b l)=aL b l:=by cases b<;>rfl
def rA_l:(rA b l).list?=some l:=by cases b<;>rfl
def rA_s:(rA b l).str?=none:=by cases b<;>rfl
def rA_t:(rA b l).tup?=none:=by cases b<;>rfl
def rA_b:truthD (rA b l)=some (!l.isEmpty):=by cases b<;>rfl
def rA_y:Ty.list.go (rA b l)=some true:=by cases b<;>rfl
end
noncomputable abbrev RW(pg:Pg)(f:Str)(c:Nat×Nat×Ss):Prop:=∀(k:Nat) (args:List Ar),clK pg (k+1) f args=runD (pg.kk k) 1000 c args
noncomputable abbrev USs(b c:Ss):Prop:=∀{M:Type} (cl:Cl) (w:Nat) (N:DE.Env) (K:Fl->R M),(iSs cl w b N).th K=(iSs cl w c N).th K
noncomputable abbrev UT(b c:T):Prop:=∀{M:Type} (cl:Cl) (N:DE.Env) (K:Bool×DE.Env->R M),(iT cl b N).th K=(iT cl c N).th K
noncomputable abbrev UE(b c:E):Prop:=∀{M:Type} (cl:Cl) (N:DE.Env) (K:D×DE.Env->R M),(jM b (iR cl b) N).th K=(jM c (iR cl c) N).th K
abbrev sf:Str:="self"
def atE(e:Expr):Option (Expr×Str×Pos):=(vE e).bind (·.elim (λ_=>none) (·.elim (λ_=>none) (·.elim some λ_=>none)))
theorem qg9{e:Expr}{t:Expr×Str×Pos}(h:atE e=some t):e=.Attribute t.1 t.2.1 t.2.2:=by
 obtain⟨u,h1,h2⟩:=bind_some h
 have:=qdK h1
 match u,h2 with
 |.inr (.inr (.inl t)),h2=>cases h2;exact this
 |.inl _,h2=>cases h2
 |.inr (.inl _),h2=>cases h2
 |.inr (.inr (.inr _)),h2=>cases h2
def jsE(e:Expr):Option (List Expr×Pos):=(vE e).bind (·.elim (λ_=>none) (·.elim (λ_=>none) (·.elim (λ_=>none) (·.elim some λ_=>none))))
theorem ql4{e:Expr}{t:List Expr×Pos}(h:jsE e=some t):e=.JoinedStr t.1 t.2:=by
 obtain⟨u,h1,h2⟩:=bind_some h
 have:=qdK h1
 match u,h2 with
 |.inr (.inr (.inr (.inl t))),h2=>cases h2;exact this
 |.inl _,h2=>cases h2
 |.inr (.inl _),h2=>cases h2
 |.inr (.inr (.inl _)),h2=>cases h2
 |.inr (.inr (.inr (.inr _))),h2=>cases h2
def inA(st:Stmt):Option (Str×Str×Str):=(aN st).bind λq=>(atE q.1).bind λa=>(nmE a.1).bind λs=>(nmE q.2).bind λb=>some (s,a.2.1,b)
def qha{st:Stmt}{t:Str×Str×Str}(h:inA st=some t):∃sp ap bp p,st=.Assign [.Attribute (.Name t.1 sp) t.2.1 ap] (.Name t.2.2 bp) p:=by obtain⟨q,h1,h2⟩:=bind_some h;clear h;obtain⟨a,h3,h4⟩:=bind_some h2;clear h2;obtain⟨s,h5,h6⟩:=bind_some h4;clear h4;obtain⟨b,h7,h8⟩:=bind_some h6;clear h6;obtain⟨p,e1⟩:=qkC h1;have e2:=qg9 h3;obtain⟨sp,e3⟩:=yQ h5;obtain⟨bp,e4⟩:=yQ h7;clear h1 h3 h5 h7;cases h8;exact{sp,a.2.2,bp,p,by rw[e1,e2,e3,e4]}
def ql5:List Stmt->Option (List Str)
 |[]=>some []
 | st::l=>(inA st).bind λt=>if t.1=sf/\t.2.2=t.2.1 then (ql5 l).map (t.2.1 :: ·) else none
def pkE(e:Expr):Option (Str ⊕ Str):=(vE e).bind (·.elim (λ_=>none) (·.elim (λ_=>none) (·.elim (λ_=>none) (·.elim (λ_=>none) (·.elim (λt=>oif (decide (t.2.1 = -1)&&t.2.2.1.isNone) ((nmE t.1).map .inr)) λt=>(match t.1 with |.str z=>some (.inl z) |_=>none))))))
theorem ql6{e:Expr}{t:Str ⊕ Str}(h:pkE e=some t):t.elim (λz=>∃j p,e=.Constant (.str z) j p) λx=>∃np p,e=.FormattedValue (.Name x np) (-1) none p:=by
 obtain⟨u,h1,h2⟩:=bind_some h
 have:=qdK h1
 clear h h1
 match u,h2 with
 |.inl _,h2=>cases h2
 |.inr (.inl _),h2=>cases h2
 |.inr (.inr (.inl _)),h2=>cases h2
 |.inr (.inr (.inr (.inl _))),h2=>cases h2
 |.inr (.inr (.inr (.inr (.inl (y,i,f,p))))),h2=>obtain⟨hc,h2⟩:=qi h2;obtain⟨x,h3,rfl⟩:=qm h2;obtain⟨np,e1⟩:=yQ h3;rw[Bool.and_eq_true,decide_eq_true_eq]at hc;have e2:f=none:=Option.isNone_iff_eq_none.mp hc.2;have e3:i = -1:=hc.1;exact{np,p,by rw[this,<-e1,<-e3,<-e2];rfl}
 |.inr (.inr (.inr (.inr (.inr (c,j,p))))),h2=>cases c<;>first|(cases h2;exact⟨j,p,this⟩)|cases h2
def QK(ns:List Str):List Expr->Bool
 |[]=>true
 | e::l=>(pkE e).elim false λt=>t.elim (λz=>decide (z.length<=3000)) (λx=>ns.contains x&&qO x)&&QK ns l
def exS(s:Stmt):Option Expr:=(vS s).bind (·.elim (λ_=>none) λt=>some t.1)
theorem ql7{s:Stmt}{x:Expr}(h:exS s=some x):∃p,s=.Expr x p:=by
 obtain⟨u,h1,h2⟩:=bind_some h
 have:=vsb s
 rw[h1]at this
 cases u with
 |inl u=>cases h2
 |inr u=>cases h2;exact{_,this}
def inX(st:Stmt):Option (Str×Str×Str×List Expr×Bool):=(exS st).bind λx=>(caE x).bind λt=>(atE t.1).bind λa=>(nmE a.1).bind λd=>oif (t.2.2.1.isEmpty&&decide (t.2.1.length=2)) (t.2.1[0]?.bind λs0=>t.2.1[1]?.bind λj=>(nmE s0).bind λs=>(jsE j).bind λq=>some (d,a.2.1,s,q.1,a.2.2.endLine == t.2.2.2.line))
theorem ql8{α:Type}{l:List α}{a b:α}(h:l.length=2)(h0:l[0]?=some a)(h1:l[1]?=some b):l=[a,b]:=by
 match l,h with
 |[x,y],_=>cases h0;cases h1;rfl
def ql9{st:Stmt}{t:Str×Str×Str×List Expr×Bool}(h:inX st=some t):∃dp ap sp jp cp ep,st=.Expr (.Call (.Attribute (.Name t.1 dp) t.2.1 ap) [.Name t.2.2.1 sp,.JoinedStr t.2.2.2.1 jp] [] cp) ep/\t.2.2.2.2=(ap.endLine == cp.line):=by obtain⟨x,h1,h2⟩:=bind_some h;clear h;obtain⟨c,h3,h4⟩:=bind_some h2;clear h2;obtain⟨a,h5,h6⟩:=bind_some h4;clear h4;obtain⟨d,h7,h8⟩:=bind_some h6;clear h6;obtain⟨hc,h9⟩:=qi h8;clear h8;obtain⟨s0,g1,g2⟩:=bind_some h9;clear h9;obtain⟨j,g3,g4⟩:=bind_some g2;clear g2;obtain⟨s,g5,g6⟩:=bind_some g4;clear g4;obtain⟨q,g7,g8⟩:=bind_some g6;clear g6;rw[Bool.and_eq_true,decide_eq_true_eq]at hc;obtain⟨ep,e1⟩:=ql7 h1;have e2:=qgR h3;have e3:=qg9 h5;obtain⟨dp,e4⟩:=yQ h7;obtain⟨sp,e5⟩:=yQ g5;have e6:=ql4 g7;have e7:=ql8 hc.2 g1 g3;have e8:=List.isEmpty_iff.mp hc.1;clear h1 h3 h5 h7 g1 g3 g5 g7 hc;cases g8;exact{dp,a.2.2,sp,q.2,c.2.2.2,ep,by rw[e1,e2,e3,e4,e7,e5,e6,e8],rfl}
def qoM(D:Str)(ns:List Str)(st:Stmt):Bool:=match qw st with
 |[]=>false
 | s0::l=>(inX s0).elim false λt=>decide (t.1=D)&&decide (t.2.1 = "__init__")&&decide (t.2.2.1=sf)&&t.2.2.2.2&&QK ns t.2.2.2.1&&decide (2<=t.2.2.2.1.length)&&decide (t.2.2.2.1.length<=22)&&decide (ql5 l=some ns)&&decide (YK st=sf::ns)&&decide (fnN st=sf::ns)&&yw st&&qO D&&glB (qh st) D&&decide ns.Nodup&&ns.all qO&&!ns.contains sf&&decide (ns.length<=10)
theorem qbE{f:Str}{y:V}:∀{fs:List (Str×V)},f∉fs.map (·.1)->JV f y fs=fs++[(f,y)]
 |[],_=>rfl
 | (g,x)::r,h=>by have h1:g≠f:=λz=>h (by simp[z]);have h2:f∉r.map (·.1):=λz=>h (by simp[z]);show(if g=f then (g,y)::r else (g,x)::JV f y r)=_;rw[if_neg h1,qbE h2];rfl
section
variable{X:Cx}{C:Addr}
theorem Z3(vis:∀y,y∈X.N->Vis X.env.scope y)(h0:X.N[0]?=some sf)(hc:∀n,n∈X.N->n≠sf->XcS X.K C n/\qO n=true):∀(l:List Stmt) (ns:List Str),ql5 l=some ns->∀(j:Nat) (fs:List (Str×V)) (us:List V),(∀(i:Nat) (n:Str),ns[i]?=some n->X.N[j+i]?=some n/\n≠sf)->us.length=ns.length->(fs.map (·.1)++ns).Nodup->fs.length+ns.length < 1000->
  ∃t,PSs X l t/\∀(x dd:Addr) (D:Ends) (Z:L2.St) (H:Hp),Z[0]?=some (some (.ref x))->(∀(i:Nat) (u:V),us[i]?=some u->Z[j+i]?=some (some u))->H x=some (JC x C (some dd))->H dd=some (xD dd fs)->dd≠x->D.nx Z (upd H dd (xD dd (fs++ns.zip us)))->t D Z H
 |[],ns,h=>by cases h;intro j fs us _ hl _ _;refine{_,Jc,λx dd D Z H _ _ _ hd _ q=>?_};rw[List.zip_nil_left,List.append_nil,qbq hd]at q;exact q
 | st::l,ns,h=>by
  ·obtain⟨⟨s,a,b⟩,hA,h'⟩:=bind_some h;clear h;obtain⟨sp,ap,bp,p,rfl⟩:=qha hA;have h:(if s=sf/\b=a then (ql5 l).map (a :: ·) else none)=some ns:=h';clear h' hA;dsimp only
   by_cases hq:s=sf/\b=a
   case neg=>rw[if_neg hq]at h;cases h
   rw[if_pos hq]at h;obtain⟨ns,h1,rfl⟩:=qm h;obtain⟨rfl,rfl⟩:=hq;intro j fs us hN hl nd hz
   match us,hl with
   | u::us,hl=>
    obtain⟨n0,n1⟩:=hN 0 b rfl;rw[Nat.add_zero]at n0;obtain⟨cS,nok⟩:=hc b (List.mem_of_getElem? n0) n1;obtain⟨m1,m2,m3⟩:=qv nok
    have nb:b∉fs.map (·.1):=λz=>by
     have:=(List.nodup_append.mp nd).2.2 b z b (5:)
     exact this rfl
    obtain⟨t,ht,hr⟩:=Z3 vis h0 hc l ns h1 (j+1) (fs++[(b,u)]) us (λi n e=>by
     have:=hN (i+1) n (-e:)
     rw[show j+1+i=j+(i+1) by lia];exact this) (-hl:) (by rw[List.map_append,List.append_assoc];exact nd) (by simp![List.length_append,List.length_cons,List.length_nil]at hz ⊢;lia)
    refine{_,qK (qif (yG (i:=0) h0 (vis _ (List.mem_of_getElem? h0))) (yG (i:=j) n0 (vis _ (List.mem_of_getElem? n0)) m1 m2) (Jr rfl _ _ _)) ht,λx dd D Z H s0 su hx hd ne q=>?_};refine{u,by have:=su 0 u rfl;rwa[Nat.add_zero]at this,.ref x,s0,x,C,dd,fs,rfl,hx,hd,by lia,cS,?_};refine hr x dd D Z _ s0 (λi v e=>by rw[show j+1+i=j+(i+1) by lia];exact su (i+1) v (-e:)) (by rw[qe (Ne.symm ne)];exact hx) (by rw[qbE nb,qf]) ne ?_;rw[qhw,List.append_assoc];exact q
theorem QL{ns:List Str}(hN:X.N=sf::ns)(vis:∀y,y∈X.N->Vis X.env.scope y):∀es:List Expr,QK ns es=true->PJ X es (λZ=>∀i,i < ns.length->∃v,Z[i+1]?=some (some v)/\qic v)
 |[],_=>λpins s Z H acc I _ h=>qkt pins s Z H acc I trivial h
 | e::l,h=>by
  replace h:((pkE e).elim false λt=>t.elim (λz=>decide (z.length<=3000)) (λx=>ns.contains x&&qO x)&&QK ns l)=true:=h
  cases hc:pkE e with
  |none=>rw[hc]at h;cases h
  |some t=>
   rw[hc]at h
   replace h:=Bool.and_eq_true_iff.mp h
   have q:=ql6 hc;clear hc
   cases t with
   |inl z=>obtain⟨j,p,rfl⟩:=q;exact qku (of_decide_eq_true h.1) (QL hN vis l h.2)
   |inr y=>
    obtain⟨np,p,rfl⟩:=q;obtain⟨h,hr⟩:=h
    replace h:=Bool.and_eq_true_iff.mp h
    obtain⟨hy,hn⟩:=h;obtain⟨m1,m2,m3⟩:=qv hn;obtain⟨i,hi,e⟩:=List.getElem_of_mem (by simpa using hy:y∈ns);have hx:X.N[i+1]?=some y:=by rw[hN,List.getElem?_cons_succ,List.getElem?_eq_getElem hi,e]
    exactλpins s Z H acc I ht hl=>qkv (yG (i:=i+1) hx (vis _ (List.mem_of_getElem? hx)) m1 m2) (QL hN vis l hr) pins s Z H acc I ⟨ht i hi,ht⟩ hl
end
section
variable{P:Program}{wd:World}{K:Frag}{mg:PR}{base:Heap}
theorem qhb{D nm f:Str}{ns:List Str}{st:Stmt}{fI C aD:Addr}{fd:FuncData}(hb:qoM D ns st=true)(hne:ns≠[])(F:Fun K nm f st fI fd)(hD:ClsIni K aD)(mD:mg D=some (.ref aD))(ok:Y0 K C fI bV "ValueError.__new__" = true)(hs:∀n∈ns,XcS K C n)(j:Nat) :
  FnOk P wd K mg base CX0 (j+1) fI fd (sf::ns) (qld C ns):=by
 unfold qoM at hb
 cases hbody:qw st with
 |nil=>rw[hbody]at hb;cases hb
 |cons s0 l=>
 rw[hbody]at hb;dsimp only at hb
 cases hX:inX s0 with
 |none=>rw[hX]at hb;cases hb
 |some t=>
 rw[hX]at hb;dsimp only[Option.elim]at hb;obtain⟨d,i,s,vs0,b0⟩:=t;obtain⟨dp,ap,sp,jp,cp,ep,rfl,hl0⟩:=ql9 hX;clear hX;simp![Bool.and_eq_true,decide_eq_true_eq,Bool.not_eq_true',List.all_eq_true]at hb;obtain⟨⟨⟨⟨⟨⟨⟨⟨⟨⟨⟨⟨⟨⟨⟨⟨rfl,rfl⟩,rfl⟩,hl⟩,hp⟩,hr2⟩,hr⟩,hS⟩,hpar⟩,hfn⟩,hc⟩,dok⟩,dgl⟩,nd⟩,nok⟩,nos⟩,nl⟩:=hb
 obtain⟨v1,v2,rest,rfl⟩:∃v1 v2 rest,vs0=v1::v2::rest:=by
  match vs0,hr2 with
  | v1::v2::rest,_=>exact⟨v1,v2,rest,rfl⟩
 have hl:(ap.endLine == cp.line)=true:=by rw[<-hl0];exact hl
 have hr:rest.length<=20:=by simp![List.length_cons]at hr;lia
 have S:=Je hc;rw[hpar,hfn]at S;obtain⟨n1,n2,n3⟩:=qv dok;refine F.ok S (λvs H Q E z=>?_) (λcdv A outer s H vs Q E hrm z=>?_)
 ·obtain⟨x,us,rfl,_,h1,_⟩:=z;simp[h1]
 ·obtain⟨x,us,rfl,hx,h1,hf,q⟩:=z
  have vis:∀y,y∈(sf::ns:List Str)->Vis (qh st) y:=λy hy=>by
   rcases S.par y hy with k|k
   ·exact .inl k
   ·exact .inr (.inl k)
  have hg:Gl (Zh CX0 P wd K mg base (sf::ns) f (qh st) fI cdv A outer s H E).nox d:=by
   have:((qh st).names.lookup d == some NameKind.globalImplicit)=true:=dgl
   exact(by simpa using this:(qh st).names.lookup d=some .globalImplicit)
  have hN0:(Zh CX0 P wd K mg base (sf::ns) f (qh st) fI cdv A outer s H E).nox.N=sf::ns:=rfl
  obtain⟨a,ns',rfl⟩:∃a ns',ns=a::ns':=by
   cases ns with
   |nil=>exact absurd rfl hne
   |cons a l=>exact⟨a,l,rfl⟩
  match us,h1 with
  | u::us,h1=>
   match l,hS,hbody with
   |[],hS,_=>cases hS
   | st1::l,hS,hbody=>
    obtain⟨⟨s2,a2,b2⟩,hA,h'⟩:=bind_some hS;clear hS;obtain⟨sp2,ap2,bp2,p2,rfl⟩:=qha hA;have hS:(if s2=sf/\b2=a2 then (ql5 l).map (a2 :: ·) else none)=_:=h';clear h' hA;dsimp only at hbody
    by_cases hq:s2=sf/\b2=a2
    case neg=>rw[if_neg hq]at hS;cases hS
    rw[if_pos hq]at hS;obtain⟨ns2,hS2,e3⟩:=qm hS;injection e3 with e3 e4;subst e3 e4;obtain⟨rfl,rfl⟩:=hq
    have an:b2≠sf:=λz=>by rw[z]at nos;simp at nos
    obtain⟨m1,m2,m3⟩:=qv (nok b2 (5:))
    have hne2:∀n∈ns2,n≠sf:=λn hn z=>by
     rw[z]at hn
     have:(b2::ns2).contains sf=true:=by simp[hn]
     rw[nos]at this;cases this
    rw[hbody];have c0:(sf::b2::ns2:List Str)[0]?=some sf:=rfl;have c1:(sf::b2::ns2:List Str)[1]?=some b2:=rfl;have pv0:∀pos,PE (Zh CX0 P wd K mg base (sf::b2::ns2) f (qh st) fI cdv A outer s H E).nox (.Name sf pos) (qhy 0):=λpos=>yG (i:=0) c0 (vis _ (5:));have pv1:∀pos,PE (Zh CX0 P wd K mg base (sf::b2::ns2) f (qh st) fI cdv A outer s H E).nox (.Name b2 pos) (qhy 1):=λpos=>yG (i:=1) c1 (vis _ (5:)) m1 m2;have js:=qdD (pos:=jp) (QL (X:=(Zh CX0 P wd K mg base (sf::b2::ns2) f (qh st) fI cdv A outer s H E).nox) rfl vis _ hp) hr;have pa:=qj (pv0 sp) (qj js qx rfl) rfl;have hN1:∀(i:Nat) (n:Str),ns2[i]?=some n->(sf::b2::ns2:List Str)[2+i]?=some n/\n≠sf:=λi n e=>{by rw[show 2+i=i+2 by lia];exact e,hne2 n (List.mem_of_getElem? e)};have hlen:us.length=ns2.length:=(-h1:)
    obtain⟨t,ht,hst⟩:=Z3 (X:=(Zh CX0 P wd K mg base (sf::b2::ns2) f (qh st) fI cdv A outer s H E).nox) (C:=C) vis c0 (λn hn e=>{hs n (by
     rcases List.mem_cons.mp hn with z|z
     ·exact absurd z e
     ·exact z),nok n (by
     rcases List.mem_cons.mp hn with z|z
     ·exact absurd z e
     ·exact z)}) l ns2 hS2 2 [(b2,u)] us hN1 hlen nd (by simp![List.length_cons,List.length_nil]at nl ⊢;lia)
    refine{_,qK (yr (qfr hD hg mD pa n1 rfl rfl (J7 (o:=.Name d dp) (x:="__init__") (es:=[.Name sf sp,.JoinedStr (v1::v2::rest) jp]) rfl rfl (by show(2:Nat) < 30;decide) hl)) (Jr rfl _ _ _)) (qK (qie (pv0 sp2) (pv1 bp2) (Jr rfl _ _ _)) ht),?_};have g0:(L2.yu (sf::b2::ns2) (.ref x::u::us))[0]?=some (some (.ref x)):=rfl;have g1:(L2.yu (sf::b2::ns2) (.ref x::u::us))[1]?=some (some u):=rfl
    have g2:∀(i:Nat) (v:V),us[i]?=some v->(L2.yu (sf::b2::ns2) (.ref x::u::us))[2+i]?=some (some v):=λi v e=>by rw[show 2+i=i+2 by lia];show(us.map some++_)[i]?=_;have hi:i < us.length:=(List.getElem?_eq_some_iff.mp e).1;rw[List.getElem?_append_left (-hi:),List.getElem?_map,e];rfl
    refine{.ref x,g0,{λi hi=>?_,λz=>{x,C,fI,z,rfl,hx,ok,u,g1,.ref x,g0,x,C,rfl,hx,hs b2 (5:),λdd hd=>?_}}}
    ·cases i with
     |zero=>exact{u,g1,hf u (5:)}
     |succ i=>
      have hi2:i < us.length:=by simp![List.length_cons]at hi;lia
      exact{us[i],by have:=g2 i us[i] (List.getElem?_eq_getElem hi2);rwa[show 2+i=i+1+1 by lia]at this,hf _ (5:)}
    ·have ne:dd≠x:=λz=>by rw[z,hx]at hd;cases hd
     refine hst x dd _ _ _ g0 g2 qf (by rw[qe ne,qf]) ne ?_
     have e:upd (upd (upd H dd (xD dd [(b2,u)])) x (JC x C (some dd))) dd (xD dd ([(b2,u)]++ns2.zip us))=upd (upd H dd (xD dd ((b2::ns2).zip (u::us)))) x (JC x C (some dd)):=by
      funext b;unfold upd
      by_cases h1:b=dd
      ·subst h1;rw[if_pos rfl,if_neg ne,if_pos rfl];rfl
      ·rw[if_neg h1]
       by_cases h2:b=x
       ·rw[if_pos h2,if_pos h2]
       ·rw[if_neg h2,if_neg h2,if_neg h1,if_neg h1]
     rw[e];exact q dd hd ne
end
end DE
namespace DG
open PySem L2 DE
def rk(c:Str):Bool:=c == "Within" || c == "Since" || c == "InRow"
def pcs(x:Xs:={}):Cs where
 toXs:=x
 tab:=["Within","Since","InRow","Book"]
 fld:=λc x=>(rk c&&(x == "lands" || x == "most" || (x == "span" && c == "Within")||(x == "leave" && c != "Within")))||(c == "Book" && (x == "kept_rules" || x == "kept_papers"))
 mt:=λc x=>if rk c&&x == "weight" then some "Rule.weight" else if c == "Book" && x == "rules" then some "Book.rules" else if c == "Book" && x == "lifted" then some "Book.lifted" else if c == "Book" && x == "papers" then some "Book.papers" else none
 sub:=λc t=>if rk c&&t == "Within" then some (c == "Within") else if rk c&&t == "Since" then some (c != "Within") else none
def qcB(s:Str):Bool:=decide (1<=s.length)&&decide (s.length<=8)&&s.cps.toList.all λc=>decide (97<=c)&&decide (c<=122)
def qd5:D->Option (Str×Int)
 |.tup [.str s,.int w]=>if qcB s&&decide (1<=w)&&decide (w<=9) then some (s,w) else none
 |_=>none
def Y4:List Str->List D->Bool
 |_,[]=>true
 | acc,d::l=>match qd5 d with
  |some p=>!acc.contains p.1&&Y4 (acc++[p.1]) l
  |none=>false
def qB(l:List D):Bool:=decide (1<=l.length)&&decide (l.length<=6)&&Y4 [] l
def btw(n a b:Int):Bool:=decide (a<=n)&&decide (n<=b)
def Z4:D->Bool
 |.ins c _ _=>rk c
 |_=>false
def yg(many:Int):D->Bool
 |.tup [.int o,.int a,.int b]=>btw o 0 (many - 1)&&btw a 0 1000000000&&btw b 0 1000000000&&decide (a<=b)
 |_=>false
def arL:Ar->Option (List D)
 |.val (.lst l)=>some l
 |.bor l=>some l
 |_=>none
def arI:Ar->Option Int
 |.val (.int n)=>some n
 |_=>none
def qbF:List Ar->Option (List (Str×D))
 |[a,b]=>match arL a,arI b with
  |some l,some m=>if (qB l&&btw m 0 1000000000)=true then some [("lands",.tup l),("most",.int m)] else none
  |_,_=>none
 |_=>none
def jQ(x:Str):List Ar->Option (List (Str×D))
 |[a,b,c]=>match arL a,arI b,arI c with
  |some l,some m,some s=>if (qB l&&btw m 0 1000000000&&btw s 1 1000000000)=true then some [("lands",.tup l),("most",.int m),(x,.int s)] else none
  |_,_,_=>none
 |_=>none
def qcC:List Ar->Option (List (Str×D))
 |[a,b]=>match arL a,arI b with
  |some l,some m=>if (qB l&&btw m 0 1000000000)=true then some [("lands",.tup l),("most",.int m),("leave",.int 1)] else none
  |_,_=>none
 |_=>none
def Y5:List Ar->Option (List (Str×D))
 |[a,b]=>match arL a,arL b with
  |some l,some ps=>if ((decide (l.length<=8)&&l.all Z4)&&(decide (ps.length<=12)&&ps.all (yg l.length)))=true then some [("kept_rules",.lst l),("kept_papers",.lst ps)] else none
  |_,_=>none
 |_=>none
def qbG(c:Str):Option (List (Str×D))->R Rv
 |some fs=>.ok (.val (.ins c (fs.map (·.1)) (fs.map (·.2))))
 |none=>.no
def pnw(k:Nat)(f:Str)(args:List Ar):R Rv:=if k < 12 then .no else
 if f = "Within" then qbG "Within" (jQ "span" args) else if f = "Since" then qbG "Since" (jQ "leave" args) else if f = "InRow" then qbG "InRow" (qcC args) else if f = "Book" then qbG "Book" (Y5 args) else .no
def Jf:Nat×Nat×Ss:=(1,1,%[.ret (.and (.isi Ty.int (.var 0)) (.one (.not (.isi Ty.bool (.var 0)))))|0])
def zh:Nat×Nat×Ss:=(3,3,%[.ret (.and (.call "is_whole" %[0|0]) (.and (.cmp .LtE (.var 1) (.var 0)) (.one (.cmp .LtE (.var 0) (.var 2)))))|0])
def Y6:Nat×Nat×Ss:=(2,2,%[.ret (.and (.call "is_between" %[0,.con (.int 0),.con (.int 1000000000)|0]) (.and (.call "is_between" %[1,.con (.int 0),.con (.int 1000000000)|0]) (.one (.cmp .LtE (.var 0) (.var 1)))))|0])
noncomputable abbrev jR:Ss:=%[.ite (.cmp .NotIn (.var 2) (.var 1)) %[.ret (.con (.bl false))|0] .nil|0]
def q9:Ss:=jR
def jF:USs q9 jR:=λ_ _ _ _=>(rfl)
def jS:Nat×Nat×Ss:=(2,3,%[.for_ (.one 2) (.seq (.var 0)) q9,.ret (.con (.bl true))|0])
def jd:Nat×Nat×Ss:=(1,1,%[.ite (.not (.val (.isi Ty.str (.var 0)))) %[.ret (.con (.bl false))|0] .nil,.ret (.and (.cmp .LtE (.con (.int 1)) (.b1 .len (.var 0))) (.and (.cmp .LtE (.b1 .len (.var 0)) (.con (.int 8))) (.one (.call "is_made_of" %[0,.con (.str "abcdefghijklmnopqrstuvwxyz")|0]))))|0])
class CH(pg:Pg):Prop where
 r_is_whole:RW pg "is_whole" Jf
 r_is_between:RW pg "is_between" zh
 r_are_days:RW pg "are_days" Y6
 r_is_made_of:RW pg "is_made_of" jS
 r_is_name:RW pg "is_name" jd
def Z5:Nat×Nat×Ss:=(1,1,%[.ite (.or (.not (.val (.isi Ty.tuple (.var 0)))) (.one (.cmp .NotEq (.b1 .len (.var 0)) (.con (.int 3))))) %[.ret (.con (.bl false))|0] .nil,.ret (.and (.call "is_name" %[.idx (.var 0) (.con (.int 0))|0]) (.one (.call "are_days" %[.idx (.var 0) (.con (.int 1)),.idx (.var 0) (.con (.int 2))|0])))|0])
noncomputable abbrev yR:Ss:=%[.ite (.or (.not (.val (.call "is_stay" %[3|0]))) (.one (.cmp .LtE (.idx (.var 3) (.con (.int 1))) (.var 1)))) %[.rai "NoStay" %[2|0]|0] .nil,.set 1 (.idx (.var 3) (.con (.int 2)))|0]
def jT:Ss:=yR
def YQ:USs jT yR:=λ_ _ _ _=>(rfl)
def Y7:Nat×Nat×Ss:=(1,4,%[.ite (.not (.val (.isi Ty.list (.var 0)))) %[.rai "NoStay" %[.con .non|0]|0] .nil,.set 1 (.neg (.con (.int 1))),.for_ (.many [2,3]) (.enum (.var 0)) jT,.ite (.cmp .Gt (.b1 .len (.var 0)) (.con (.int 60))) %[.rai "NoStay" %[.con .non|0]|0] .nil,.ret (.b1 .list (.var 0))|0])
class ST(pg:Pg):Prop where
 r_is_stay:RW pg "is_stay" Z5
 r_stays_of:RW pg "stays_of" Y7
noncomputable abbrev J9:Ss:=%[.ite (.and (.val (.var 1)) (.one (.cmp .LtE (.var 2) (.bin .Add (.idx (.idx (.var 1) (.neg (.con (.int 1)))) (.con (.int 1))) (.con (.int 1)))))) %[.setI 1 (.neg (.con (.int 1))) (.tup %[.idx (.idx (.var 1) (.neg (.con (.int 1)))) (.con (.int 0)),.b2 .max (.idx (.idx (.var 1) (.neg (.con (.int 1)))) (.con (.int 1))) (.var 3)|0])|0] %[.app 1 (.tup %[2,3|0])|0]|0]
def Jg:Ss:=J9
def jU:USs Jg J9:=λ_ _ _ _=>(rfl)
def qbH:Nat×Nat×Ss:=(1,4,%[.set 1 (.lst .nil),.for_ (.many [2,3]) (.seq (.b1 .srt (.var 0))) Jg,.ret (.var 1)|0])
class SP(pg:Pg):Prop where
 r_spread:RW pg "spread" qbH
def Z6:Nat×Nat×Ss:=(1,1,%[.ite (.or (.not (.val (.isi Ty.tuple (.var 0)))) (.one (.cmp .NotEq (.b1 .len (.var 0)) (.con (.int 2))))) %[.ret (.con (.bl false))|0] .nil,.ret (.and (.call "is_name" %[.idx (.var 0) (.con (.int 0))|0]) (.one (.call "is_between" %[.idx (.var 0) (.con (.int 1)),.con (.int 1),.con (.int 9)|0])))|0])
noncomputable abbrev yh:Ss:=%[.ite (.or (.not (.val (.call "is_land" %[2|0]))) (.one (.cmp .In (.idx (.var 2) (.con (.int 0))) (.var 1)))) %[.ret (.con (.bl false))|0] .nil,.app 1 (.idx (.var 2) (.con (.int 0)))|0]
def jx:Ss:=yh
def Yb:USs jx yh:=λ_ _ _ _=>(rfl)
def Yc:Nat×Nat×Ss:=(1,3,%[.ite (.or (.not (.val (.isi Ty.list (.var 0)))) (.or (.cmp .Lt (.b1 .len (.var 0)) (.con (.int 1))) (.one (.cmp .Gt (.b1 .len (.var 0)) (.con (.int 6)))))) %[.ret (.con (.bl false))|0] .nil,.set 1 (.lst .nil),.for_ (.one 2) (.seq (.var 0)) jx,.ret (.con (.bl true))|0])
abbrev jG:Ss:=%[.ite (.cmp .Eq (.var 2) (.var 1)) %[.ret (.var 3)|0] .nil|0]
def zC:Ss:=jG
def je:USs zC jG:=λ_ _ _ _=>(rfl)
def jy:Nat×Nat×Ss:=(2,4,%[.for_ (.many [2,3]) (.seq (.fld (.var 0) "lands")) zC,.ret (.con (.int 0))|0])
class RU(pg:Pg):Prop where
 cs:pg.cs=pcs pg.xx
 nw:pg.nw=pnw
 r_is_land:RW pg "is_land" Z6
 r_are_lands:RW pg "are_lands" Yc
 r_Rule_weight:RW pg "Rule.weight" jy
noncomputable abbrev yi:Ss:=%[.ite (.and (.not (.val (.isc "Within" (.var 1)))) (.one (.not (.val (.isc "Since" (.var 1)))))) %[.ret (.con (.bl false))|0] .nil|0]
def jz:Ss:=yi
def jV:USs jz yi:=λ_ _ _ _=>(rfl)
def Yd:Nat×Nat×Ss:=(1,2,%[.ite (.or (.not (.val (.isi Ty.list (.var 0)))) (.one (.cmp .Gt (.b1 .len (.var 0)) (.con (.int 8))))) %[.ret (.con (.bl false))|0] .nil,.for_ (.one 1) (.seq (.var 0)) jz,.ret (.con (.bl true))|0])
def Y8:Nat×Nat×Ss:=(2,2,%[.ite (.or (.not (.val (.isi Ty.tuple (.var 0)))) (.one (.cmp .NotEq (.b1 .len (.var 0)) (.con (.int 3))))) %[.ret (.con (.bl false))|0] .nil,.ret (.and (.call "is_between" %[.idx (.var 0) (.con (.int 0)),.con (.int 0),.bin .Sub (.var 1) (.con (.int 1))|0]) (.one (.call "are_days" %[.idx (.var 0) (.con (.int 1)),.idx (.var 0) (.con (.int 2))|0])))|0])
noncomputable abbrev jf:Ss:=%[.ite (.not (.val (.call "is_paper" %[3,1|0]))) %[.rai "NoPaper" %[2|0]|0] .nil|0]
def zk:Ss:=jf
def yS:USs zk jf:=λ_ _ _ _=>(rfl)
def yj:Nat×Nat×Ss:=(2,4,%[.ite (.not (.val (.isi Ty.list (.var 0)))) %[.rai "NoPaper" %[.con .non|0]|0] .nil,.for_ (.many [2,3]) (.enum (.var 0)) zk,.ite (.cmp .Gt (.b1 .len (.var 0)) (.con (.int 12))) %[.rai "NoPaper" %[.con .non|0]|0] .nil|0])
def Js:Nat×Nat×Ss:=(1,1,%[.ret (.b1 .list (.fld (.var 0) "kept_rules"))|0])
def QM:Nat×Nat×Ss:=(1,1,%[.ret (.b1 .list (.fld (.var 0) "kept_papers"))|0])
abbrev jH:E:=(.tup %[1,2|0])
def zD:E:=jH
def jg:UE zD jH:=λ_ _ _=>(rfl)
def yT:Nat×Nat×Ss:=(2,2,%[.ret (.call "spread" %[.comp zD (.seq (.fld (.var 0) "kept_papers")) (.many [0,1,2]) (.test (.cmp .Eq (.var 0) (.var 3))) 3 [1]|0])|0])
class BO(pg:Pg):Prop where
 r_are_rules:RW pg "are_rules" Yd
 r_is_paper:RW pg "is_paper" Y8
 r_check_papers:RW pg "check_papers" yj
 r_Book_rules:RW pg "Book.rules" Js
 r_Book_papers:RW pg "Book.papers" QM
 r_Book_lifted:RW pg "Book.lifted" yT
noncomputable abbrev Z7:T:=(.and (.cmp .Lt (.var 3) (.b1 .len (.var 0))) (.one (.cmp .Lt (.var 4) (.b1 .len (.var 1)))))
def QN:T:=Z7
def yc:UT QN Z7:=λ_ _ _=>(rfl)
noncomputable abbrev Z8:Ss:=%[.set 5 (.b2 .max (.idx (.idx (.var 0) (.var 3)) (.con (.int 0))) (.idx (.idx (.var 1) (.var 4)) (.con (.int 0)))),.set 6 (.b2 .min (.idx (.idx (.var 0) (.var 3)) (.con (.int 1))) (.idx (.idx (.var 1) (.var 4)) (.con (.int 1)))),.ite (.cmp .LtE (.var 5) (.var 6)) %[.app 2 (.tup %[5,6|0])|0] .nil,.ite (.cmp .Lt (.idx (.idx (.var 0) (.var 3)) (.con (.int 1))) (.idx (.idx (.var 1) (.var 4)) (.con (.int 1)))) %[.set 3 (.bin .Add (.var 3) (.con (.int 1)))|0] %[.set 4 (.bin .Add (.var 4) (.con (.int 1)))|0]|0]
def QO:Ss:=Z8
def Y9:USs QO Z8:=λ_ _ _ _=>(rfl)
def qhc:Nat×Nat×Ss:=(2,7,%[.set 2 (.lst .nil),.set 3 (.con (.int 0)),.set 4 (.con (.int 0)),.whl QN QO,.ret (.var 2)|0])
noncomputable abbrev Jt:Ss:=%[.ite (.cmp .Lt (.var 4) (.idx (.var 5) (.con (.int 0)))) %[.app 3 (.tup %[4,.bin .Sub (.idx (.var 5) (.con (.int 0))) (.con (.int 1))|0])|0] .nil,.set 4 (.b2 .max (.var 4) (.bin .Add (.idx (.var 5) (.con (.int 1))) (.con (.int 1))))|0]
def yy:Ss:=Jt
def yU:USs yy Jt:=λ_ _ _ _=>(rfl)
def Ye:Nat×Nat×Ss:=(3,6,%[.set 3 (.lst .nil),.set 4 (.var 1),.for_ (.one 5) (.seq (.var 0)) yy,.ite (.cmp .LtE (.var 4) (.var 2)) %[.app 3 (.tup %[4,2|0])|0] .nil,.ret (.var 3)|0])
def qhd:Nat×Nat×Ss:=(2,2,%[.ite (.not (.val (.var 0))) %[.ret (.lst .nil)|0] .nil,.ret (.call "both" %[0,.call "outside" %[1,.idx (.idx (.var 0) (.con (.int 0))) (.con (.int 0)),.idx (.idx (.var 0) (.neg (.con (.int 1)))) (.con (.int 1))|0]|0])|0])
class BT(pg:Pg):Prop where
 r_both:RW pg "both" qhc
 r_outside:RW pg "outside" Ye
 r_less:RW pg "less" qhd
abbrev jh:E:=(.tup %[0,1,2|0])
def zl:E:=jh
def yV:UE zl jh:=λ_ _ _=>(rfl)
noncomputable abbrev ji:Ss:=%[.set 9 (.met (.var 3) "weight" %[6|0]),.ite (.cmp .Gt (.var 9) (.con (.int 0))) %[.ext 5 (.comp zl (.seq (.call "less" %[.lst %[.tup %[7,8|0]|0],4|0])) (.many [0,1]) .yes 2 [9])|0] .nil|0]
def zm:Ss:=ji
def zO:USs zm ji:=λ_ _ _ _=>(rfl)
def yk:Nat×Nat×Ss:=(3,10,%[.set 3 (.idx (.met (.var 0) "rules" .nil) (.var 1)),.set 4 (.met (.var 0) "lifted" %[1|0]),.set 5 (.lst .nil),.for_ (.many [6,7,8]) (.seq (.var 2)) zm,.ret (.var 5)|0])
class PC(pg:Pg):Prop where
 r_pieces_among:RW pg "pieces_among" yk
noncomputable abbrev Yg:Ss:=%[.set 7 (.bin .Add (.bin .Sub (.b2 .min (.var 5) (.var 2)) (.b2 .max (.var 4) (.var 1))) (.con (.int 1))),.ite (.cmp .Gt (.var 7) (.con (.int 0))) %[.set 3 (.bin .Add (.var 3) (.bin .Mult (.var 7) (.var 6)))|0] .nil|0]
def Jh:Ss:=Yg
def Ju:USs Jh Yg:=λ_ _ _ _=>(rfl)
def qbI:Nat×Nat×Ss:=(3,8,%[.set 3 (.con (.int 0)),.for_ (.many [4,5,6]) (.seq (.var 0)) Jh,.ret (.var 3)|0])
noncomputable abbrev jI:Ss:=%[.ite (.cmp .LtE (.var 4) (.var 2)) %[.ite (.cmp .GtE (.bin .Sub (.bin .Sub (.var 3) (.con (.int 1))) (.b2 .min (.var 5) (.var 2))) (.var 1)) %[.ret (.var 3)|0] .nil,.set 3 (.var 4)|0] .nil|0]
def zE:Ss:=jI
def qX:USs zE jI:=λ_ _ _ _=>(rfl)
def yW:Nat×Nat×Ss:=(3,7,%[.set 3 (.bin .Add (.var 2) (.con (.int 1))),.for_ (.many [4,5,6]) (.rev (.var 0)) zE,.ret (.var 3)|0])
def qY:Nat×Nat×Ss:=(3,3,%[.ite (.val (.isc "Within" (.var 0))) %[.ret (.bin .Add (.bin .Sub (.var 2) (.fld (.var 0) "span")) (.con (.int 1)))|0] .nil,.ret (.call "first_since" %[1,.fld (.var 0) "leave",2|0])|0])
def yY:Nat×Nat×Ss:=(3,3,%[.ret (.call "sum_of" %[1,.call "first_of_window" %[0,1,2|0],2|0])|0])
class SU(pg:Pg):Prop where
 r_sum_of:RW pg "sum_of" qbI
 r_first_since:RW pg "first_since" yW
 r_first_of_window:RW pg "first_of_window" qY
 r_count_among:RW pg "count_among" yY
noncomputable abbrev yZ:Ss:=%[.app 2 (.bin .Add (.var 3) (.fld (.var 0) "span")),.app 2 (.bin .Add (.bin .Add (.var 4) (.con (.int 1))) (.fld (.var 0) "span"))|0]
def jW:Ss:=yZ
def YR:USs jW yZ:=λ_ _ _ _=>(rfl)
def Ji:Nat×Nat×Ss:=(2,6,%[.set 2 (.lst .nil),.ite (.val (.isc "Within" (.var 0))) %[.for_ (.many [3,4,5]) (.seq (.var 1)) jW|0] .nil,.ret (.var 2)|0])
def zt:Nat×Nat×Ss:=(4,7,%[.set 4 (.call "count_among" %[0,1,.bin .Sub (.var 2) (.con (.int 1))|0]),.set 5 (.bin .Sub (.call "count_among" %[0,1,2|0]) (.var 4)),.ite (.cmp .LtE (.var 5) (.con (.int 0))) %[.ret (.con .non)|0] .nil,.set 6 (.bin .Add (.var 2) (.bin .FloorDiv (.bin .Sub (.fld (.var 0) "most") (.var 4)) (.var 5))),.ret (.ite (.cmp .LtE (.var 6) (.var 3)) (.var 6) (.con .non))|0])
abbrev jj:E:=(.var 0)
def zn:E:=jj
def y0:UE zn jj:=λ_ _ _=>(rfl)
abbrev jk:E:=(.bin .Sub (.var 0) (.con (.int 1)))
def zo:E:=jk
def y1:UE zo jk:=λ_ _ _=>(rfl)
noncomputable abbrev jl:Ss:=%[.set 10 (.call "first_above" %[0,1,7,9|0]),.ite (.cmp .IsNot (.var 10) (.con .non)) %[.ret (.var 10)|0] .nil|0]
def zp:Ss:=jl
def zP:USs zp jl:=λ_ _ _ _=>(rfl)
noncomputable abbrev jm:Ss:=%[.set 6 (.bin .Add (.lst %[3|0]) (.comp zn (.seq (.var 2)) (.one 0) (.test (.and (.cmp .Lt (.var 1) (.var 0)) (.one (.cmp .LtE (.var 0) (.var 2))))) 1 [3,4])),.set 8 (.bin .Add (.comp zo (.seq (.sli (.var 6) (.some (.con (.int 1))) .none)) (.one 0) .yes 1 []) (.lst %[4|0])),.for_ (.many [7,9]) (.zip (.var 6) (.var 8)) zp|0]
def zq:Ss:=jm
def zQ:USs zq jm:=λ_ _ _ _=>(rfl)
def zU:Nat×Nat×Ss:=(2,11,%[.set 2 (.call "turns_of" %[0,1|0]),.for_ (.many [3,4,5]) (.seq (.var 1)) zq,.ret (.con .non)|0])
class FK(pg:Pg):Prop where
 r_turns_of:RW pg "turns_of" Ji
 r_first_above:RW pg "first_above" zt
 r_first_broken:RW pg "first_broken" zU
noncomputable abbrev jJ:Ss:=%[.set 5 (.call "pieces_among" %[0,3,1|0]),.set 6 (.call "first_broken" %[4,5|0]),.ite (.and (.cmp .IsNot (.var 6) (.con .non)) (.one (.or (.cmp .Is (.var 2) (.con .non)) (.one (.cmp .Lt (.var 6) (.idx (.var 2) (.con (.int 0)))))))) %[.set 2 (.tup %[6,3,.call "first_of_window" %[4,5,6|0]|0])|0] .nil|0]
def zF:Ss:=jJ
def Jj:USs zF jJ:=λ_ _ _ _=>(rfl)
def y2:Nat×Nat×Ss:=(2,7,%[.set 2 (.con .non),.for_ (.many [3,4]) (.enum (.met (.var 0) "rules" .nil)) zF,.ret (.var 2)|0])
class FM(pg:Pg):Prop where
 r_fault_among:RW pg "fault_among" y2
def Qa:Nat×Nat×Ss:=(2,2,%[.ret (.call "fault_among" %[0,.call "stays_of" %[1|0]|0])|0])
class FO(pg:Pg):Prop where
 r_fault_of:RW pg "fault_of" Qa
end DG
namespace FZ
open PySem L2 DE DG
def Yh:Nat×Nat×Ss:=(2,2,%[.ite (.cmp .Lt (.var 1) (.b1 .len (.var 0))) %[.ret (.idx (.var 0) (.var 1))|0] .nil,.ret (.con (.int 0))|0])
class ZA(pg:Pg):Prop where
 r__law_at:RW pg "_law_at" Yh
noncomputable abbrev ym:Ss:=%[.set 3 (.bin .Add (.var 3) (.idx (.con (.str "abcdefghijklmnopqrstuvwxyz")) (.bin .Mod (.var 1) (.con (.int 26))))),.set 1 (.bin .FloorDiv (.var 1) (.con (.int 26)))|0]
def jA:Ss:=ym
def Yi:USs jA ym:=λ_ _ _ _=>(rfl)
def Yj:Nat×Nat×Ss:=(1,5,%[.set 1 (.bin .Mod (.bin .Mult (.var 0) (.con (.int 1099087573))) (.con (.int 10000000000037))),.set 2 (.bin .Add (.con (.int 1)) (.bin .Mod (.var 1) (.con (.int 7)))),.set 1 (.bin .FloorDiv (.var 1) (.con (.int 7))),.set 3 (.con (.str "")),.for_ (.one 4) (.rng (.var 2)) jA,.ret (.var 3)|0])
class ZW(pg:Pg):Prop where
 r__law_word:RW pg "_law_word" Yj
noncomputable abbrev jX:E:=(.bin .Add (.bin .Add (.sli (.var 1) .none (.some (.var 2))) (.var 0)) (.sli (.var 1) (.some (.var 2)) .none))
def zV:E:=jX
def JE:UE zV jX:=λ_ _ _=>(rfl)
def Jv:Nat×Nat×Ss:=(2,4,%[.set 2 (.call "_law_word" %[0|0]),.set 3 (.bin .Mod (.var 0) (.bin .Add (.b1 .len (.var 2)) (.con (.int 1)))),.ret (.comp zV (.seq (.sli (.con (.str "kcxq")) .none (.some (.var 1)))) (.one 0) .yes 1 [2,3])|0])
class ZN(pg:Pg):Prop where
 r__law_names:RW pg "_law_names" Jv
def jB:Nat×Nat×Ss:=(1,1,%[.ite (.cmp .Eq (.idx (.var 0) (.con (.int 0))) (.con (.int 0))) %[.ret (.new "Within" %[.b1 .list (.idx (.var 0) (.con (.int 1))),.idx (.var 0) (.con (.int 2)),.idx (.var 0) (.con (.int 3))|0])|0] .nil,.ite (.cmp .Eq (.idx (.var 0) (.con (.int 0))) (.con (.int 1))) %[.ret (.new "Since" %[.b1 .list (.idx (.var 0) (.con (.int 1))),.idx (.var 0) (.con (.int 2)),.idx (.var 0) (.con (.int 3))|0])|0] .nil,.ret (.new "InRow" %[.b1 .list (.idx (.var 0) (.con (.int 1))),.idx (.var 0) (.con (.int 2))|0])|0])
class ZR(pg:Pg):Prop where
 r__law_rule:RW pg "_law_rule" jB
noncomputable abbrev jY:Ss:=%[.set 6 (.bin .Mod (.bin .Mult (.var 5) (.con (.int 69621))) (.con (.int 2147483647))),.set 7 (.bin .Add (.var 3) (.bin .Mod (.var 6) (.con (.int 10)))),.set 8 (.bin .Add (.var 7) (.bin .Mod (.bin .FloorDiv (.var 6) (.con (.int 10))) (.con (.int 12)))),.ite (.and (.val (.var 2)) (.one (.cmp .Eq (.bin .Mod (.bin .FloorDiv (.var 6) (.con (.int 120))) (.con (.int 3))) (.con (.int 1))))) %[.set 7 (.bin .Add (.bin .Add (.var 7) (.bin .Mult (.bin .Mod (.var 5) (.con (.int 2))) (.bin .Pow (.con (.int 10)) (.con (.int 6))))) (.bin .Mod (.bin .FloorDiv (.var 6) (.con (.int 360))) (.bin .Pow (.con (.int 10)) (.con (.int 6))))),.set 8 (.bin .Add (.bin .Add (.var 7) (.bin .Mult (.bin .Mod (.bin .FloorDiv (.var 6) (.con (.int 360))) (.con (.int 2))) (.bin .Pow (.con (.int 10)) (.con (.int 6))))) (.bin .Mod (.var 5) (.bin .Pow (.con (.int 10)) (.con (.int 6)))))|0] .nil,.app 4 (.tup %[.idx (.var 1) (.bin .Mod (.bin .FloorDiv (.var 6) (.con (.int 840))) (.b1 .len (.var 1))),7,8|0]),.set 3 (.bin .Add (.var 8) (.con (.int 1)))|0]
def zW:Ss:=jY
def JF:USs zW jY:=λ_ _ _ _=>(rfl)
def Jw:Nat×Nat×Ss:=(4,9,%[.set 4 (.lst .nil),.for_ (.one 5) (.seq (.var 0)) zW,.ret (.var 4)|0])
class ZT(pg:Pg):Prop where
 r__law_stays:RW pg "_law_stays" Jw
noncomputable abbrev jK:Ss:=%[.set 6 (.bin .Mod (.bin .Mult (.var 5) (.con (.int 16807))) (.con (.int 2147483629))),.ite (.cmp .Gt (.var 1) (.con (.int 0))) %[.set 7 (.bin .Add (.var 2) (.bin .Mod (.bin .FloorDiv (.var 6) (.con (.int 8))) (.b2 .max (.con (.int 1)) (.var 3)))),.app 4 (.tup %[.bin .Mod (.var 6) (.var 1),7,.bin .Add (.var 7) (.bin .Mod (.bin .FloorDiv (.var 6) (.con (.int 64))) (.bin .Add (.con (.int 1)) (.bin .FloorDiv (.var 3) (.con (.int 4)))))|0])|0] .nil|0]
def zG:Ss:=jK
def Jk:USs zG jK:=λ_ _ _ _=>(rfl)
def y3:Nat×Nat×Ss:=(4,8,%[.set 4 (.lst .nil),.for_ (.one 5) (.seq (.var 0)) zG,.ret (.var 4)|0])
class ZP(pg:Pg):Prop where
 r__law_papers:RW pg "_law_papers" y3
end FZ
namespace FY
open PySem L2 DE DG
def Yk:Nat×Nat×Ss:=(3,7,%[.set 3 (.bin .Mod (.bin .Mult (.var 0) (.con (.int 48271))) (.con (.int 2147483647))),.set 4 (.lst %[.tup %[.idx (.var 1) (.bin .Mod (.var 3) (.b1 .len (.var 1))),.bin .Add (.con (.int 1)) (.bin .Mod (.bin .FloorDiv (.var 3) (.con (.int 4))) (.con (.int 3)))|0]|0]),.ite (.and (.cmp .Eq (.bin .Mod (.bin .FloorDiv (.var 3) (.con (.int 12))) (.con (.int 2))) (.con (.int 1))) (.one (.cmp .Gt (.b1 .len (.var 1)) (.con (.int 1))))) %[.app 4 (.tup %[.idx (.var 1) (.bin .Mod (.bin .Add (.var 3) (.con (.int 1))) (.b1 .len (.var 1))),.bin .Add (.con (.int 1)) (.bin .Mod (.bin .FloorDiv (.var 3) (.con (.int 24))) (.con (.int 9)))|0])|0] .nil,.set 5 (.bin .Mod (.bin .FloorDiv (.var 3) (.con (.int 216))) (.con (.int 25))),.set 6 (.bin .Add (.con (.int 1)) (.bin .Mod (.bin .FloorDiv (.var 3) (.con (.int 5400))) (.con (.int 30)))),.ite (.val (.var 2)) %[.set 5 (.bin .Mod (.var 0) (.bin .Pow (.con (.int 10)) (.con (.int 7)))),.set 6 (.bin .Add (.con (.int 1)) (.bin .Mod (.var 3) (.bin .Pow (.con (.int 10)) (.con (.int 7)))))|0] .nil,.ret (.tup %[.bin .Mod (.bin .FloorDiv (.var 3) (.con (.int 162000))) (.con (.int 3)),4,5,6|0])|0])
class ZY(pg:Pg):Prop where
 r__law_spec:RW pg "_law_spec" Yk
end FY
namespace DG
open PySem L2 DE
open CH ST SP RU BO
section
variable{pg:Pg}[CH pg]
def QP(k:Nat)(n:Int):clK pg (k+1) "is_whole" [.val (.int n)]=.ok (.val (.bl true)):=by rw[r_is_whole];simp?![Jf]
def qP(k:Nat)(n a b:Int)(h1:a<=n)(h2:n<=b):clK pg (k+2) "is_between" [.val (.int n),.val (.int a),.val (.int b)]=.ok (.val (.bl true)):=by rw[r_is_between];simp?![zh,QP,h1,h2,decide_true]
def qd6(k:Nat)(a b:Int)(h0:0<=a)(h1:a<=b)(h2:b<=1000000000):clK pg (k+3) "are_days" [.val (.int a),.val (.int b)]=.ok (.val (.bl true)):=by
 have h3:a<=1000000000:=by lia
 have h4:0<=b:=by lia
 rw[r_are_days];simp?![Y6,qP k a 0 1000000000 h0 h3,qP k b 0 1000000000 h4 h2,h1,decide_true]
def jZ(c:Nat):Prop:=97<=c/\c < 123
def qiS(c:Nat)(h:jZ c):qij ⟨#[c]⟩ "abcdefghijklmnopqrstuvwxyz" = true:=by
 have key:∀j:Fin 26,qij ⟨#[97+j.val]⟩ "abcdefghijklmnopqrstuvwxyz" = true:=(3:)
 have:=key ⟨c - 97,by unfold jZ at h;lia⟩
 rw[show 97+(c - 97)=c by unfold jZ at h;lia]at this;exact this
theorem Yl(k:Nat)(z:Str):∀(l:List Nat) (s:Sl),(∀c∈l,jZ c)->∃s',jP (pg.kk k) 1000 (.one 2) q9 (l.map λc=>D.str ⟨#[c]⟩) [.val (.str z),.val (.str "abcdefghijklmnopqrstuvwxyz"),s]=.ok (.next [.val (.str z),.val (.str "abcdefghijklmnopqrstuvwxyz"),s'])
 |[],s,_=>{s,by rw[List.map_nil,jw]}
 | c::l,s,h=>by obtain⟨s',e⟩:=Yl k z l (.val (.str ⟨#[c]⟩)) λx hx=>h x (by simp[hx]);refine{s',?_};rw[List.map_cons];simp?[jF,qiS c (h c (5:)),e]
def qiT(k:Nat)(z:Str)(h:∀c∈z.cps.toList,jZ c):clK pg (k+1) "is_made_of" [.val (.str z),.val (.str "abcdefghijklmnopqrstuvwxyz")]=.ok (.val (.bl true)):=by rw[r_is_made_of];obtain⟨s',e⟩:=Yl (pg:=pg) k z z.cps.toList .no h;simp?![jS,Nat.reduceAdd,Nat.reduceSub,qcr,e]
structure NameOk(z:Str):Prop where
 one:1<=z.cps.size
 eight:z.cps.size<=8
 lets:∀c∈z.cps.toList,jZ c
def qaQ(k:Nat)(z:Str)(h:NameOk z):clK pg (k+2) "is_name" [.val (.str z)]=.ok (.val (.bl true)):=by
 have hz:z.length<=sizeLine:=by
  have:=h.eight
  show z.cps.size<=2 ^ 24
  lia
 have h1:(1:Int)<=(z.length:Int):=by
  have:=h.one
  show(1:Int)<=(z.cps.size:Int)
  lia
 have h8:(z.length:Int)<=8:=by
  have:=h.eight
  show(z.cps.size:Int)<=8
  lia
 rw[r_is_name];simp?![jd,hz,h1,h8,decide_true,qiT k z h.lets]
def stD(s:Str×Int×Int):D:=.tup [.str s.1,.int s.2.1,.int s.2.2]
def yn(s:Str×Int×Int):stD s=.tup [.str s.1,.int s.2.1,.int s.2.2]:=rfl
structure StOk(e:Int)(s:Str×Int×Int):Prop where
 nm:NameOk s.1
 lo:e < s.2.1
 ab:s.2.1<=s.2.2
 hi:s.2.2<=1000000000
end
section
variable{pg:Pg}[CH pg][ST pg]
def qiU(k:Nat)(e:Int)(s:Str×Int×Int)(he:-1<=e)(h:StOk e s):clK pg (k+4) "is_stay" [.val (stD s)]=.ok (.val (.bl true)):=by
 have hlo:=h.lo;have hab:=h.ab;rw[r_is_stay];have e0:atI [D.str s.1,D.int s.2.1,D.int s.2.2] 0=some (.str s.1):=by rfl
 have e1:atI [D.str s.1,D.int s.2.1,D.int s.2.2] 1=some (.int s.2.1):=by rfl
 have e2:atI [D.str s.1,D.int s.2.1,D.int s.2.2] 2=some (.int s.2.2):=by rfl
 simp?![Z5,stD,e0,e1,e2,qE,qaQ (k+1) s.1 h.nm,qd6 k s.2.1 s.2.2 (1:) h.ab h.hi,show((((0+1+1+1:Nat):Int) == 3)=true) from rfl]
def Ch:Int->List (Str×Int×Int)->Prop
 |_,[]=>True
 | e,s::l=>StOk e s/\Ch s.2.2 l
theorem jn(k:Nat)(v:Sl):∀(l:List (Str×Int×Int)) (i:Nat) (e:Int) (s2 s3:Sl),-1<=e->Ch e l->∃e' s2' s3',jP (pg.kk (k+4)) 1000 (.many [2,3]) jT (enF i (l.map stD)) [v,.val (.int e),s2,s3]=.ok (.next [v,.val (.int e'),s2',s3'])
 |[],i,e,s2,s3,_,_=>⟨e,s2,s3,rfl⟩
 | s::l,i,e,s2,s3,he,h=>by
  have h1:=h.1.lo;have h2:=h.1.ab;obtain⟨e',s2',s3',ih⟩:=jn k v l (i+1) s.2.2 (.val (.int i)) (.val (stD s)) (1:) h.2;refine{e',s2',s3',?_};have hn:¬ s.2.1<=e:=by lia
  have st:=qiU (pg:=pg) k e s he h.1;simp![yn]at st ih;refine(qk _).symm.trans ?_;rw[List.map_cons,enF];simp?![YQ,yn,st,hn,ih]
def QQ(k:Nat)(b:Bool)(l:List (Str×Int×Int))(h:Ch (-1) l)(hl:l.length<=60):clK pg (k+5) "stays_of" [aL b (l.map stD)]=.ok (.tmp (l.map stD)):=by
 have h6:¬ (60:Int) < ((l.map stD).length:Int):=by rw[List.length_map];lia
 obtain⟨e',s2',s3',ih⟩:=jn (pg:=pg) k (pS b (l.map stD)) l 0 (-1) .no .no (1:) h;rw[r_stays_of];simp?![Y7,Nat.reduceAdd,Nat.reduceSub,QJ,ih,h6,decide_false]
end
def NameOk.of{z:Str}(h:qcB z=true):NameOk z:=by
 unfold qcB at h;simp![Bool.and_eq_true,decide_eq_true_eq,List.all_eq_true]at h;refine{h.1.1,h.1.2,λc hc=>?_}
 have:=h.2 c hc
 unfold jZ
 lia
def qfW{d:D}{p:Str×Int}(h:qd5 d=some p):d=.tup [.str p.1,.int p.2]/\NameOk p.1/\1<=p.2/\p.2<=9:=by
 unfold qd5 at h
 split at h
 ·rename_i s w
  split at h
  ·rename_i hc;cases h;simp![Bool.and_eq_true,decide_eq_true_eq]at hc;exact{rfl,NameOk.of hc.1.1,hc.1.2,hc.2}
  ·cases h
 ·cases h
section
variable{pg:Pg}[CH pg][RU pg]
def qiV(k:Nat)(s:Str)(w:Int)(hs:NameOk s)(h1:1<=w)(h9:w<=9):clK pg (k+3) "is_land" [.val (.tup [.str s,.int w])]=.ok (.val (.bl true)):=by
 rw[r_is_land];have e0:atI [D.str s,D.int w] 0=some (.str s):=by rfl
 have e1:atI [D.str s,D.int w] 1=some (.int w):=by rfl
 simp?![Z6,e0,e1,qE,qaQ k s hs,qP k w 1 9 h1 h9,show((((0+1+1:Nat):Int) == 2)=true) from rfl]
end
def qfX(s:Str)(acc:List Str):inD (.str s) (acc.map D.str)=some (acc.contains s):=by
 have e:∀acc:List Str,inV (V.str s) (acc.map V.str)=acc.contains s:=by
  intro acc
  induction acc with
  |nil=>rfl
  |cons z l ih=>
   rw[List.map_cons,List.contains_cons,<-ih];show(eqV (V.str z) (V.str s)||_)=_
   congr 1
   exact BEq.comm
 unfold inD;rw[if_pos (by simp[JD]),show(acc.map D.str).map flV=acc.map V.str by simp[flV]];exact congrArg some (e acc)
def qd7(s:Str)(acc:List Str):qeY (.val (.str s)) (.cell (acc.map D.str))=some (acc.contains s):=qfX s acc
section
variable{pg:Pg}[CH pg][RU pg]
theorem Qb(k:Nat)(v:Sl):∀(l:List D) (acc:List Str) (s2:Sl),Y4 acc l=true->acc.length+l.length < 1000->∃acc' s2',jP (pg.kk (k+3)) 1000 (.one 2) jx l [v,.own (acc.map D.str),s2]=.ok (.next [v,.own acc',s2'])
 |[],acc,s2,_,_=>{_,s2,rfl}
 | d::l,acc,s2,h,hl=>by
  unfold Y4 at h
  cases e:qd5 d with
  |none=>rw[e]at h;cases h
  |some p=>
   rw[e]at h;simp![Bool.and_eq_true,Bool.not_eq_true']at h;obtain⟨rfl,hn,h1,h9⟩:=qfW e;rw[List.length_cons]at hl;obtain⟨acc',s2',ih⟩:=Qb k v l (acc++[p.1]) (.val (.tup [.str p.1,.int p.2])) h.2 (by simp;lia);refine{acc',s2',?_};rw[List.map_append,List.map_cons,List.map_nil]at ih;have e0:atI [D.str p.1,D.int p.2] 0=some (.str p.1):=by rfl
   have hs:(acc.map D.str).length < sizeLine:=by
    rw[List.length_map];show acc.length < 2 ^ 24
    lia
   simp?[Yb,e0,qiV k p.1 p.2 hn h1 h9,qd7,h.1,hs,ih]
def qaR(k:Nat)(b:Bool)(l:List D)(h:qB l=true):clK pg (k+4) "are_lands" [aL b l]=.ok (.val (.bl true)):=by
 unfold qB at h;simp![Bool.and_eq_true,decide_eq_true_eq]at h;have h1:¬ (l.length:Int) < 1:=by have:=h.1.1;lia
 have h2:¬ (6:Int) < (l.length:Int):=by have:=h.1.2;lia
 rw[r_are_lands];obtain⟨acc',s2',ih⟩:=Qb (pg:=pg) k (pS b l) l [] .no h.2 (by have:=h.1.2;simp;lia);rw[List.map_nil]at ih;simp?![Yc,h1,h2,show(0:Nat)<=sizeLine by decide+kernel,ih]
end
section
variable{pg:Pg}[CH pg]
def qma(k:Nat)(n a b:Int)(h:btw n a b=true):clK pg (k+2) "is_between" [.val (.int n),.val (.int a),.val (.int b)]=.ok (.val (.bl true)):=by unfold btw at h;simp![Bool.and_eq_true,decide_eq_true_eq]at h;exact qP k n a b h.1 h.2
end
theorem Qc(cl:Cl){xx:Xs}(hc:cl.cs=pcs xx)(v:Sl):∀(l:List D) (s1:Sl),l.all Z4=true->∃s1',jP cl 1000 (.one 1) jz l [v,s1]=.ok (.next [v,s1'])
 |[],s1,_=>⟨s1,rfl⟩
 | d::l,s1,h=>by
  rw[List.all_cons,Bool.and_eq_true]at h
  cases d with
  |ins c ns ds=>
   obtain⟨s1',ih⟩:=Qc cl hc v l (.val (.ins c ns ds)) h.2;refine{s1',?_};have hk:rk c=true:=h.1
   have i1:qcs (pcs xx) (.val (.ins c ns ds)) "Within" = some (c == "Within"):=by show(if (rk c&&_)=true then _ else _)=_;rw[hk];rfl
   have i2:qcs (pcs xx) (.val (.ins c ns ds)) "Since" = some (c != "Within"):=by show(if (rk c&&false)=true then _ else if (rk c&&true)=true then _ else _)=_;rw[hk];rfl
   refine(qk _).symm.trans ?_
   by_cases hw:(c == "Within")=true
   ·simp?![jV,hc,i1,hw,ih]
   ·have hw:(c == "Within")=false:=(-hw:)
    have hn:(c != "Within")=true:=by simp[bne,hw]
    simp?![jV,hc,i1,i2,hw,hn,ih]
  |_=>cases h.1
section
variable{pg:Pg}[CH pg][RU pg][BO pg]
def qaS(k:Nat)(b:Bool)(l:List D)(h:(decide (l.length<=8)&&l.all Z4)=true):clK pg (k+1) "are_rules" [aL b l]=.ok (.val (.bl true)):=by
 simp![Bool.and_eq_true,decide_eq_true_eq]at h;have h2:¬ (8:Int) < (l.length:Int):=by have:=h.1;lia
 rw[r_are_rules];obtain⟨s1',ih⟩:=Qc (pg.kk k) RU.cs (pS b l) l .no h.2;simp?![Yd,h2,ih]
end
def qd8{n:Int}{d:D}(h:yg n d=true):∃o a b,d=.tup [.int o,.int a,.int b]/\0<=o/\o<=n - 1/\0<=a/\a<=b/\b<=1000000000:=by
 unfold yg at h
 split at h
 ·rename_i o a b;simp![btw,Bool.and_eq_true,decide_eq_true_eq]at h;exact{o,a,b,rfl,by lia,by lia,by lia,by lia,by lia}
 ·cases h
section
variable{pg:Pg}[CH pg][BO pg]
def qfY(k:Nat)(n:Int)(d:D)(h:yg n d=true):clK pg (k+4) "is_paper" [.val d,.val (.int n)]=.ok (.val (.bl true)):=by
 obtain⟨o,a,b,rfl,h1,h2,h3,h4,h5⟩:=qd8 h;have e0:atI [D.int o,D.int a,D.int b] 0=some (.int o):=by rfl
 have e1:atI [D.int o,D.int a,D.int b] 1=some (.int a):=by rfl
 have e2:atI [D.int o,D.int a,D.int b] 2=some (.int b):=by rfl
 rw[r_is_paper];simp?![Y8,e0,e1,e2,qE,qP (k+1) o 0 (n - 1) h1 h2,qd6 k a b h3 h4 h5,show((((0+1+1+1:Nat):Int) == 3)=true) from rfl]
theorem zH(k:Nat)(v:Sl)(n:Int):∀(l:List D) (i:Nat) (s2 s3:Sl),l.all (yg n)=true->∃s2' s3',jP (pg.kk (k+4)) 1000 (.many [2,3]) zk (enF i l) [v,.val (.int n),s2,s3]=.ok (.next [v,.val (.int n),s2',s3'])
 |[],i,s2,s3,_=>⟨s2,s3,rfl⟩
 | d::l,i,s2,s3,h=>by rw[List.all_cons,Bool.and_eq_true]at h;obtain⟨s2',s3',ih⟩:=zH k v n l (i+1) (.val (.int i)) (.val d) h.2;refine{s2',s3',?_};refine(qk _).symm.trans ?_;rw[enF];simp?![yS,qfY k n d h.1,ih]
def YS(k:Nat)(b:Bool)(ps:List D)(n:Int)(h:(decide (ps.length<=12)&&ps.all (yg n))=true):clK pg (k+5) "check_papers" [aL b ps,.val (.int n)]=.ok (.val .non):=by
 simp![Bool.and_eq_true,decide_eq_true_eq]at h;have h2:¬ (12:Int) < (ps.length:Int):=by have:=h.1;lia
 rw[r_check_papers];obtain⟨s2',s3',ih⟩:=zH (pg:=pg) k (pS b ps) n ps 0 .no .no h.2;simp?![yj,QJ,ih,h2]
end
end DG
namespace FA
open PySem L2 DE DG
def Jx{i j:Int}(h1:-(2 ^ 64) < j)(h2:j < 2 ^ 64):ZJ i j=true:=by unfold ZJ;rw[decide_eq_true h1,decide_eq_true h2];simp
def qmb{i j:Int}(h1:-(2 ^ 64) < i)(h2:i < 2 ^ 64):ZJ i j=true:=by unfold ZJ;rw[decide_eq_true h1,decide_eq_true h2];simp
def zI(ns:List Int)(i:Nat):Int:=ns.getD i 0
def qmc(i:Int)(h0:0<=i)(h1:i < 26):atI (Str.cps "abcdefghijklmnopqrstuvwxyz").toList i=some (97+i.toNat)/\jZ (97+i.toNat):=by
 have key:∀j:Fin 26,atI (Str.cps "abcdefghijklmnopqrstuvwxyz").toList (j.val:Int)=some (97+j.val):=(3:)
 obtain⟨j,rfl⟩:=Int.eq_ofNat_of_zero_le h0;exact{key {j,by lia},by unfold jZ;simp;lia}
def QR(z:Str)(c:Nat):(z++(⟨#[c]⟩:Str)).cps.size=z.cps.size+1:=by show(z.cps ++ #[c]).size=_;simp
def qfZ(z:Str)(c:Nat):(z++(⟨#[c]⟩:Str)).cps.toList=z.cps.toList++[c]:=by show(z.cps ++ #[c]).toList=_;simp
structure NamesOk(zs:List Str):Prop where
 two:2<=zs.length
 four:zs.length<=4
 ok:∀z∈zs,NameOk z
 once:∀(i j:Nat) (z:Str),zs[i]?=some z->zs[j]?=some z->i=j
def lnD(p:Str×Int):D:=.tup [.str p.1,.int p.2]
def qd9(p:Str×Int):lnD p=.tup [.str p.1,.int p.2]:=rfl
def qf0{z:Str}(h:NameOk z):qcB z=true:=by
 unfold qcB;simp![Bool.and_eq_true,decide_eq_true_eq,List.all_eq_true];refine{⟨h.one,h.eight⟩,λc hc=>?_}
 have:=h.lets c hc
 unfold jZ at this
 lia
structure LnOk(p:Str×Int):Prop where
 nm:NameOk p.1
 one:1<=p.2
 nine:p.2<=9
def qf1{p:Str×Int}(h:LnOk p):qd5 (lnD p)=some p:=by show(if (qcB p.1&&decide (1<=p.2)&&decide (p.2<=9))=true then some (p.1,p.2) else none)=_;rw[if_pos (by rw[qf0 h.nm,decide_eq_true h.one,decide_eq_true h.nine];rfl)]
theorem Z9:∀(l:List (Str×Int)) (acc:List Str),(∀p∈l,LnOk p)->(acc++l.map (·.1)).Nodup->Y4 acc (l.map lnD)=true
 |[],acc,_,_=>rfl
 | p::l,acc,h,nd=>by
  rw[List.map_cons];unfold Y4;rw[qf1 (h p (5:))];have e:acc++(p::l).map (·.1)=(acc++[p.1])++l.map (·.1):=by simp
  rw[e]at nd
  have n1:p.1∉acc:=by
   have:=(List.nodup_append.mp nd).1
   have:=(List.nodup_append.mp this).2.2
   intro hm;exact this p.1 hm p.1 (5:) rfl
  simp![Bool.and_eq_true,Bool.not_eq_true'];exact{by simpa using n1,Z9 l (acc++[p.1]) (λq hq=>h q (by simp[hq])) nd}
def qcD{l:List (Str×Int)}(h:∀p∈l,LnOk p)(nd:(l.map (·.1)).Nodup)(h1:1<=l.length)(h6:l.length<=6):qB (l.map lnD)=true:=by unfold qB;rw[List.length_map,decide_eq_true h1,decide_eq_true h6,Z9 l [] h (-nd:)];rfl
def QS{zs:List Str}(i:Int)(h0:0<=i)(h1:i < zs.length):∃z,atI (zs.map D.str) i=some (.str z)/\zs[i.toNat]?=some z:=by
 obtain⟨j,rfl⟩:=Int.eq_ofNat_of_zero_le h0;have hj:j < zs.length:=by lia
 exact{zs[j],qjE (by rw[List.getElem?_map,List.getElem?_eq_getElem hj];rfl),by simp[hj]}
def Ym(zs:List Str):((zs.map D.str).length:Int)=(zs.length:Int):=by rw[List.length_map]
def Lns(zs:List Str)(a:Int)(l:List (Str×Int)):Prop:=∀(i:Nat) (p:Str×Int),l[i]?=some p->zs[((a+(i:Int)) % (zs.length:Int)).toNat]?=some p.1/\LnOk p
inductive Kd where
 | wi|si|ro
structure Ru where
 kd:Kd
 lands:List (Str×Int)
 most:Int
 days:Int
def Lns.nodup{zs:List Str}(hz:NamesOk zs){a:Int}{l:List (Str×Int)}(h:Lns zs a l)(hl:l.length<=zs.length):(l.map (·.1)).Nodup:=by
 rw[List.nodup_iff_pairwise_ne,List.pairwise_iff_getElem];intro i j hi hj hij e;rw[List.length_map]at hi hj;rw[List.getElem_map,List.getElem_map]at e;have h1:=(h i _ (List.getElem?_eq_getElem hi)).1;have h2:=(h j _ (List.getElem?_eq_getElem hj)).1;rw[e]at h1
 have:=hz.once _ _ _ h1 h2
 have hL:(0:Int) < (zs.length:Int):=by have:=hz.two;lia
 have a0:0<=(a+(i:Int)) % (zs.length:Int):=Int.emod_nonneg _ (1:);have b0:0<=(a+(j:Int)) % (zs.length:Int):=Int.emod_nonneg _ (1:);have e3:(a+(i:Int)) % (zs.length:Int)=(a+(j:Int)) % (zs.length:Int):=by lia
 have e4:=Int.emod_emod_of_dvd (a+j - (a+i)) (Int.dvd_refl (zs.length:Int));have e5:(a+(j:Int) - (a+(i:Int))) % (zs.length:Int)=0:=by rw[Int.sub_emod,e3,Int.sub_self,Int.zero_emod]
 rw[show a+(j:Int) - (a+(i:Int))=((j - i:Nat):Int) by lia]at e5;rw[Int.emod_eq_of_lt (1:) (1:)]at e5
 lia
end FA
namespace Dy
abbrev P:=Int×Int
def Day(fs:List P)(d:Int):Prop:=∃p∈fs,p.1<=d/\d<=p.2
structure Spr(fs:List P):Prop where
 ok:∀p∈fs,p.1<=p.2
 gap:fs.Pairwise λp q=>p.2+2<=q.1
def lex(p q:P):Prop:=p.1 < q.1\/(p.1=q.1/\p.2<=q.2)
def stp(acc:List P)(p:P):List P:=match acc.getLast? with
 |some l=>if p.1<=l.2+1 then acc.dropLast++[(l.1,if p.2 > l.2 then p.2 else l.2)] else acc++[p]
 |none=>[p]
def qaT(p:P):stp [] p=[p]:=rfl
def QT(a:List P)(l p:P):stp (a++[l]) p=if p.1<=l.2+1 then a++[(l.1,if p.2 > l.2 then p.2 else l.2)] else (a++[l])++[p]:=by unfold stp;rw[List.getLast?_append];simp
theorem qaU{α:Type}(l:List α):l=[]\/∃a x,l=a++[x]:=by
 cases l with
 |nil=>exact .inl rfl
 |cons a r=>exact .inr ⟨(a::r).dropLast,(a::r).getLast (5:),(List.dropLast_concat_getLast (5:)).symm⟩
def Jl{a b:List P}{d:Int}:Day (a++b) d↔Day a d\/Day b d:=by
 unfold Day;constructor
 ·rintro⟨p,hp,h⟩;rcases List.mem_append.mp hp with q|q
  ·exact .inl ⟨p,q,h⟩
  ·exact .inr ⟨p,q,h⟩
 ·rintro (⟨p,hp,h⟩|⟨p,hp,h⟩)
  ·exact{p,List.mem_append_left _ hp,h}
  ·exact{p,List.mem_append_right _ hp,h}
def QU{p:P}{d:Int}:Day [p] d↔p.1<=d/\d<=p.2:=by
 unfold Day;constructor
 ·rintro⟨q,hq,h⟩;rw[List.mem_singleton.mp hq]at h;exact h
 ·intro h;exact{p,List.mem_singleton.mpr rfl,h}
structure Run(done acc:List P):Prop where
 spr:Spr acc
 day:∀d,Day acc d↔Day done d
 low:∀a l,acc=a++[l]->∃q∈done,q.1=l.1
 len:acc.length<=done.length
 emp:acc=[]->done=[]
def qiW:Run [] []:={{(λ_ h=>nomatch h),List.Pairwise.nil},λ_=>Iff.rfl,λa l e=>by simp at e,Nat.le_refl _,λ_=>rfl}
def qf2{done acc:List P}{p:P}(R:Run done acc)(hp:p.1<=p.2)(hs:∀q∈done,q.1<=p.1):Run (done++[p]) (stp acc p):=by
 rcases qaU acc with rfl|⟨a,l,rfl⟩
 ·have hd:=R.emp rfl;subst hd;rw[qaT];refine{{λq hq=>by rw[List.mem_singleton.mp hq];exact hp,by simp},λd=>by simp,λa l e=>?_,by simp,λe=>by simp at e};refine{p,by simp,?_}
  have:a=[]/\p=l:=by
   cases a with
   |nil=>simpa using e
   |cons x r=>simp at e
  rw[this.2]
 ·rw[QT];obtain⟨q0,hq0,e0⟩:=R.low a l rfl;have hl:l.1<=p.1:=by rw[<-e0];exact hs q0 hq0
  have hlo:=R.spr.ok l (5:);have hg:=List.pairwise_append.mp R.spr.gap
  by_cases hc:p.1<=l.2+1
  ·rw[if_pos hc];refine{{λq hq=>?_,?_},λd=>?_,λa' l' e=>?_,?_,λe=>by simp at e}
   ·rcases List.mem_append.mp hq with h|h
    ·exact R.spr.ok q (List.mem_append_left _ h)
    ·rw[List.mem_singleton.mp h];dsimp only
     split<;>lia
   ·refine List.pairwise_append.mpr ⟨hg.1,by simp,λx hx y hy=>?_⟩;rw[List.mem_singleton.mp hy];exact hg.2.2 x hx l (5:)
   ·rw[Jl,QU,Jl,QU,<-R.day d,Jl,QU];dsimp only;constructor
    ·rintro (h|h)
     ·exact .inl (.inl h)
     ·by_cases h2:d<=l.2
      ·exact .inl (.inr ⟨h.1,h2⟩)
      ·right
       have:=h.2
       split at this<;>lia
    ·rintro ((h|h)|h)
     ·exact .inl h
     ·right;refine{h.1,?_}
      split<;>lia
     ·right;refine{by lia,?_}
      split<;>lia
   ·have:l'.1=l.1:=by
     have:=(List.append_inj' e rfl).2
     simp at this;rw[<-this]
    exact{q0,List.mem_append_left _ hq0,by rw[this];exact e0}
   ·have:=R.len
    simp at this ⊢
    lia
  ·rw[if_neg hc];refine{{λq hq=>?_,?_},λd=>?_,λa' l' e=>?_,?_,λe=>by simp at e}
   ·rcases List.mem_append.mp hq with h|h
    ·exact R.spr.ok q h
    ·rw[List.mem_singleton.mp h];exact hp
   ·refine List.pairwise_append.mpr ⟨R.spr.gap,by simp,λx hx y hy=>?_⟩;rw[List.mem_singleton.mp hy];rcases List.mem_append.mp hx with h|h
    ·have:=hg.2.2 x h l (5:)
     lia
    ·rw[List.mem_singleton.mp h];lia
   ·rw[Jl (a:=a++[l]),Jl (a:=done),R.day d]
   ·have:=(List.append_inj' e rfl).2
    simp at this;exact{p,by simp,by rw[this]}
   ·have:=R.len
    simp at this ⊢
    lia
theorem qiX{qs:List P}(hs:qs.Pairwise lex)(hq:∀p∈qs,p.1<=p.2):∀n,n<=qs.length->Run (qs.take n) ((qs.take n).foldl stp []):=by
 intro n
 induction n with
 |zero=>intro _;simpa using qiW
 |succ n ih=>
  intro hn;have e:qs.take (n+1)=qs.take n++[qs[n]]:=by rw[List.take_succ_eq_append_getElem (1:)]
  rw[e,List.foldl_append];refine qf2 (ih (1:)) (hq _ (List.getElem_mem _)) λq hq'=>?_;obtain⟨i,hi,rfl⟩:=List.mem_take_iff_getElem.mp hq'
  have:=List.pairwise_iff_getElem.mp hs i n (1:) (1:) (1:)
  rcases this with h|h
  ·lia
  ·lia
def qn7(A:List P)(d:Int):Bool:=A.any λp=>decide (p.1<=d)&&decide (d<=p.2)
def QV{A:List P}{d:Int}:qn7 A d=true↔Day A d:=by unfold qn7 Day;simp[List.any_eq_true]
end Dy
namespace DG
open PySem L2 DE FA Dy
open CH ST SP RU BO
theorem qea:∀ps:List (Int×Int),qgM (ps.map pD)=some ps
 |[]=>rfl
 | p::ps=>by rw[List.map_cons,qgM,qea ps];rfl
def j0(p:Int×Int):pD p=.tup [.int p.1,.int p.2]:=rfl
def spr(ps:List (Int×Int)):List (Int×Int):=(yN ps).foldl stp []
def qiY(acc:List (Int×Int))(p:Int×Int):(stp acc p).length<=acc.length+1:=by
 rcases qaU acc with rfl|⟨a,l,rfl⟩
 ·simp[qaT]
 ·rw[QT]
  split<;>simp
def qG{n:Nat}(h:n < 100000):n < sizeLine:=Nat.lt_trans h (3:)
def qS{n:Nat}(h:n < 100000):n<=sizeLine:=Nat.le_of_lt (qG h)
theorem Yn(cl:Cl)(v:Sl):∀(ps acc:List (Int×Int)) (s2 s3:Sl),acc.length+ps.length < 10000->∃s2' s3',jP cl 1000 (.many [2,3]) Jg (ps.map pD) [v,.own (acc.map pD),s2,s3]=.ok (.next [v,.own ((ps.foldl stp acc).map pD),s2',s3'])
 |[],acc,s2,s3,_=>⟨s2,s3,rfl⟩
 | p::ps,acc,s2,s3,hl=>by
  rw[List.length_cons]at hl
  have:=qiY acc p
  obtain⟨s2',s3',ih⟩:=Yn cl v ps (stp acc p) (.val (.int p.1)) (.val (.int p.2)) (1:);refine{s2',s3',?_};have hs:acc.length < sizeLine:=qG (1:);have two:0+1+1<=sizeLine:=(3:)
  rw[List.foldl_cons];rcases qaU acc with rfl|⟨a,l,rfl⟩
  ·rw[qaT]at ih ⊢;simp![List.map_cons,List.map_nil,j0]at ih;simp?[jU,j0,List.isEmpty_nil,two,show(0:Nat) < sizeLine by decide+kernel,ih]
  ·rw[QT]at ih ⊢
   by_cases hc:p.1<=l.2+1
   ·rw[if_pos hc]at ih ⊢;simp![List.map_append,List.map_cons,List.map_nil,j0]at ih;simp?[jU,j0,List.map_append,hc,two,ih]
   ·rw[if_neg hc]at ih ⊢;simp![List.map_append,List.map_cons,List.map_nil,j0]at ih;have hs':(a.map pD++[D.tup [.int l.1,.int l.2]]).length < sizeLine:=(-hs:)
    simp?[jU,j0,List.map_append,hc,two,hs',ih]
def qaa{pg:Pg}[SP pg](k:Nat)(b:Bool)(ps:List (Int×Int))(hl:ps.length < 64):clK pg (k+1) "spread" [aL b (ps.map pD)]=.ok (.tmp ((spr ps).map pD)):=by
 have hl':(yN ps).length < 10000:=by unfold yN;rw[List.length_mergeSort];lia
 rw[r_spread];obtain⟨s2,s3,e⟩:=Yn (pg.kk k) (pS b (ps.map pD)) (yN ps) [] .no .no (-hl':);rw[List.map_nil]at e;simp?![qbH,QA,qea,hl,show(0:Nat)<=sizeLine by decide+kernel,e,spr]
def QW(p q:Int×Int):ZK p q=true↔lex p q:=by unfold ZK lex;simp
def qbJ(ps:List (Int×Int))(h:∀p∈ps,p.1<=p.2):Run (yN ps) (spr ps):=by
 have hs:(yN ps).Pairwise lex:=by
  have:=List.pairwise_mergeSort (le:=ZK) (λa b c h1 h2=>by rw[QW]at h1 h2 ⊢;unfold lex at *;lia) (λa b=>by simp![Bool.or_eq_true,QW];unfold lex;lia) ps
  exact this.imp λ{a b} h=>(QW a b).mp h
 have hq:∀p∈yN ps,p.1<=p.2:=λp hp=>h p ((List.mergeSort_perm ps ZK).mem_iff.mp hp)
 have:=qiX hs hq (yN ps).length (Nat.le_refl _)
 rwa[List.take_length]at this
def qiZ{ps:List (Int×Int)}(h:∀p∈ps,p.1<=p.2):Spr (spr ps):=(qbJ ps h).spr
def qeb{ps:List (Int×Int)}(h:∀p∈ps,p.1<=p.2):(spr ps).length<=ps.length:=by
 have:=(qbJ ps h).len
 unfold yN at this
 rwa[List.length_mergeSort]at this
def _root_.FA.Kd.cls:Kd->Str
 |.wi=>"Within"
 |.si=>"Since"
 |.ro=>"InRow"
def _root_.FA.Kd.fld:Kd->Str
 |.wi=>"span"
 |.si=>"leave"
 |.ro=>"leave"
def _root_.FA.Kd.isW:Kd->Bool
 |.wi=>true
 |.si=>false
 |.ro=>false
def ruI(r:Ru):D:=.ins r.kd.cls ["lands","most",r.kd.fld] [.tup (r.lands.map lnD),.int r.most,.int r.days]
def qbK{xx:Xs}(r:Ru):qay (pcs xx) (.val (ruI r)) "lands" = some (.tup (r.lands.map lnD)):=by obtain⟨kd,l,m,d⟩:=r;cases kd<;>rfl
def Jm{xx:Xs}(r:Ru):qay (pcs xx) (.val (ruI r)) "most" = some (.int r.most):=by obtain⟨kd,l,m,d⟩:=r;cases kd<;>rfl
def qaV{xx:Xs}(r:Ru)(h:r.kd.isW=true):qay (pcs xx) (.val (ruI r)) "span" = some (.int r.days):=by
 obtain⟨kd,l,m,d⟩:=r
 cases kd<;>first|rfl|cases h
def qbL{xx:Xs}(r:Ru)(h:r.kd.isW=false):qay (pcs xx) (.val (ruI r)) "leave" = some (.int r.days):=by
 obtain⟨kd,l,m,d⟩:=r
 cases kd<;>first|rfl|cases h
def j5{xx:Xs}(r:Ru):mtD (pcs xx) (.val (ruI r)) "weight" = some ("Rule.weight" : Str):=by obtain⟨kd,l,m,d⟩:=r;cases kd<;>rfl
def Yo{xx:Xs}(r:Ru):qcs (pcs xx) (.val (ruI r)) "Within" = some r.kd.isW:=by obtain⟨kd,l,m,d⟩:=r;cases kd<;>rfl
abbrev St:=Str×Int×Int
abbrev Pa:=Int×Int×Int
def paD(p:Pa):D:=.tup [.int p.1,.int p.2.1,.int p.2.2]
def zi(p:Pa):paD p=.tup [.int p.1,.int p.2.1,.int p.2.2]:=rfl
def bkI(rs:List Ru)(ps:List Pa):D:=.ins "Book" ["kept_rules","kept_papers"] [.lst (rs.map ruI),.lst (ps.map paD)]
def qf3{xx:Xs}(rs:List Ru)(ps:List Pa):qay (pcs xx) (.val (bkI rs ps)) "kept_rules" = some (.lst (rs.map ruI)):=rfl
def qec{xx:Xs}(rs:List Ru)(ps:List Pa):qay (pcs xx) (.val (bkI rs ps)) "kept_papers" = some (.lst (ps.map paD)):=rfl
def zu{xx:Xs}(rs:List Ru)(ps:List Pa):mtD (pcs xx) (.val (bkI rs ps)) "rules" = some ("Book.rules" : Str):=rfl
def qab{xx:Xs}(rs:List Ru)(ps:List Pa):mtD (pcs xx) (.val (bkI rs ps)) "lifted" = some ("Book.lifted" : Str):=rfl
def qH:List St->Int->Option Str
 |[],_=>none
 | s::l,d=>if s.2.1<=d/\d<=s.2.2 then some s.1 else qH l d
def qi0:Option Str->D
 |some z=>.str z
 |none=>.non
def wt:List (Str×Int)->Option Str->Int
 |[],_=>0
 | p::l,o=>if o=some p.1 then p.2 else wt l o
def JQ{z:Str}(h:NameOk z):PyData.strOk z=true:=by
 unfold PyData.strOk;rw[<-Array.all_toList,List.all_eq_true];intro c hc
 have:=h.lets c hc
 unfold jZ at this;rw[decide_eq_true_eq]
 lia
theorem qi1{p:Str}(hp:NameOk p){o:Option Str}(ho:∀z,o=some z->NameOk z):eqD (.str p) (qi0 o)=some (decide (o=some p)):=by
 cases o with
 |none=>show eqD (.str p) .non=_;rw[qlZ (JQ hp)];simp
 |some z=>
  show eqD (.str p) (.str z)=_;rw[qiN (JQ hp) (JQ (ho z rfl))]
  congr 1
  rw[Bool.eq_iff_iff,beq_iff_eq,decide_eq_true_eq];constructor
  ·rintro rfl;rfl
  ·intro e;cases e;rfl
theorem Yp(cl:Cl)(v:Sl)(o:Option Str)(ho:∀z,o=some z->NameOk z):∀(l:List (Str×Int)) (s2 s3:Sl),(∀p∈l,LnOk p)->∃F,jP cl 1000 (.many [2,3]) zC (l.map lnD) [v,.val (qi0 o),s2,s3]=.ok F/\(F=.ret (.val (.int (wt l o)))\/(wt l o=0/\∃N',F=.next N'))
 |[],s2,s3,_=>{_,rfl,.inr {rfl,_,rfl}}
 | p::l,s2,s3,h=>by
  obtain⟨F,i,a⟩:=Yp cl v o ho l (.val (.str p.1)) (.val (.int p.2)) λq hq=>h q (by simp[hq]);have e:=qi1 (h p (5:)).nm ho;unfold wt
  by_cases hc:o=some p.1
  ·rw[if_pos hc];rw[decide_eq_true hc]at e;refine{_,?_,.inl rfl};rw[List.map_cons];simp?[je,qd9,e]
  ·rw[if_neg hc];rw[decide_eq_false hc]at e;refine{F,?_,a};rw[List.map_cons];simp?[je,qd9,e,i]
def qac{pg:Pg}[RU pg](k:Nat)(r:Ru)(h:∀p∈r.lands,LnOk p)(o:Option Str)(ho:∀z,o=some z->NameOk z):clK pg (k+1) "Rule.weight" [.val (ruI r),.val (qi0 o)]=.ok (.val (.int (wt r.lands o))):=by
 rw[r_Rule_weight];obtain⟨F,i,a⟩:=Yp (pg.kk k) (.val (ruI r)) o ho r.lands .no .no h;rcases a with rfl|⟨i0,N',rfl⟩
 ·simp?![jy,RU.cs,qbK,i]
 ·simp?![jy,RU.cs,qbK,i,i0]
def JR{pg:Pg}[RU pg][BO pg](k:Nat)(rs:List Ru)(ps:List Pa):clK pg (k+1) "Book.rules" [.val (bkI rs ps)]=.ok (.tmp (rs.map ruI)):=by rw[r_Book_rules];simp?![Js,RU.cs,qf3]
def ofN(n:Int)(ps:List Pa):List (Int×Int):=(ps.filter λp=>p.1 == n).map λp=>(p.2.1,p.2.2)
def lift(n:Int)(ps:List Pa):List (Int×Int):=spr (ofN n ps)
theorem yz(cl:Cl)(n:Int):∀(ps:List Pa) (acc:List (Int×Int)) (s0 s1 s2:Sl),acc.length+ps.length < 10000->ja cl zD (.many [0,1,2]) (.test (.cmp .Eq (.var 0) (.var 3))) (ps.map paD) [s0,s1,s2,.val (.int n)] (acc.map pD)=.ok ((acc++ofN n ps).map pD)
 |[],acc,s0,s1,s2,_=>by simp[ofN,zg]
 | p::ps,acc,s0,s1,s2,hl=>by
  rw[List.length_cons]at hl;have two:0+1+1<=sizeLine:=(3:)
  have hs:(acc.map pD).length < sizeLine:=by rw[List.length_map];exact qG (1:)
  cases hc:(p.1 == n) with
  |true=>
   have ih:=yz cl n ps (acc++[(p.2.1,p.2.2)]) (.val (.int p.1)) (.val (.int p.2.1)) (.val (.int p.2.2)) (by simp;lia);have e:ofN n (p::ps)=(p.2.1,p.2.2)::ofN n ps:=by simp[ofN,hc]
   rw[e];simp![List.map_append,List.map_cons,List.map_nil,j0,List.append_assoc,List.cons_append,List.nil_append]at ih ⊢;simp?[jg,zi,qE,hc,two,hs,ih]
  |false=>
   have ih:=yz cl n ps acc (.val (.int p.1)) (.val (.int p.2.1)) (.val (.int p.2.2)) (1:);have e:ofN n (p::ps)=ofN n ps:=by simp[ofN,hc]
   rw[e];rw[List.map_cons];simp?[jg,zi,qE,hc,two,hs,ih]
def qaW(n:Int)(ps:List Pa):(ofN n ps).length<=ps.length:=by unfold ofN;rw[List.length_map];exact List.length_filter_le ..
def qad{pg:Pg}[RU pg][BO pg][SP pg](k:Nat)(rs:List Ru)(ps:List Pa)(n:Int)(hl:ps.length < 64):clK pg (k+2) "Book.lifted" [.val (bkI rs ps),.val (.int n)]=.ok (.tmp ((lift n ps).map pD)):=by
 have i:=yz (pg.kk (k+1)) n ps [] .no .no .no (by simp;lia);have s:=qaa (pg:=pg) k false (ofN n ps) (Nat.lt_of_le_of_lt (qaW n ps) hl);have hs:(ps.map paD).length<=sizeLine:=by rw[List.length_map];exact qS (1:)
 simp![J8,YM]at s;rw[List.map_nil,List.nil_append]at i;rw[r_Book_lifted];simp?![yT,RU.cs,qec,qaz,List.getD_cons_succ,List.getD_cons_zero,hs,i,s,lift]
def wgt(r:Ru)(lf:List (Int×Int))(st:List St)(d:Int):Int:=if qn7 lf d=true then 0 else wt r.lands (qH st d)
def ws(f:Int->Int)(lo:Int):Nat->List Int
 |0=>[]
 | n+1=>f lo::ws f (lo+1) n
theorem qed:∀(n:Nat) (lo:Int),(rgF lo n).length=n
 |0,_=>rfl
 | n+1,lo=>by rw[rgF,List.length_cons,qed n]
def qae{i:Int}(h1:-1000000000000<=i)(h2:i<=1000000000000):zf i=true:=by
 unfold zf;simp
 lia
section
variable{pg:Pg}[RU pg]
def qee(f:Int->Int)(leave:Int):Nat->Int->Int->Int->Int->Int×Int
 |0,fi,to,_,_=>(fi,to)
 | n+1,fi,to,em,ba=>if em < leave then (if f ba=0 then qee f leave n fi to (em+1) (ba - 1) else qee f leave n ba (to+f ba) 0 (ba - 1)) else (fi,to)
end
def win(r:Ru)(f:Int->Int)(d:Int):Int×Int:=if r.kd.isW=true then (d - r.days+1,(ws f (d - r.days+1) r.days.toNat).sum) else qee f r.days 1000 (d+1) 0 0 d
def qef{rs:List Ru}{n:Nat}{r:Ru}(h:rs[n]?=some r):atI (rs.map ruI) (n:Int)=some (ruI r):=qjE (by rw[List.getElem?_map,h];rfl)
abbrev Rl:=Ru×List (Int×Int)
def qhe(st:List St)(d:Int):Nat->List Rl->Option (Int×Int×Int)
 |_,[]=>none
 | i,x::l=>if x.1.most < (win x.1 (wgt x.1 x.2 st) d).2 then some (d,(i:Int),(win x.1 (wgt x.1 x.2 st) d).1) else qhe st d (i+1) l
def flt(st:List St)(rs:List Rl)(lo:Int):Nat->Option (Int×Int×Int)
 |0=>none
 | n+1=>match qhe st lo 0 rs with
  |some x=>some x
  |none=>flt st rs (lo+1) n
def f3D(x:Int×Int×Int):D:=.tup [.int x.1,.int x.2.1,.int x.2.2]
def Yq:Option (Int×Int×Int)->D
 |none=>.non
 |some x=>f3D x
def rlF(ps:List Pa):Nat->List Ru->List Rl
 |_,[]=>[]
 | i,r::l=>(r,lift i ps)::rlF ps (i+1) l
theorem qhf(ps:List Pa):∀(i:Nat) (rs:List Ru),(rlF ps i rs).map (λx=>ruI x.1)=rs.map ruI
 |_,[]=>rfl
 | i,r::l=>by rw[rlF,List.map_cons,List.map_cons,qhf ps (i+1) l]
theorem Yr(ps:List Pa):∀(i:Nat) (rs:List Ru) (j:Nat),(rlF ps i rs)[j]?=(rs[j]?).map λr=>(r,lift ((i+j:Nat):Int) ps)
 |_,[],j=>by simp[rlF]
 | i,r::l,0=>by simp[rlF]
 | i,r::l,j+1=>by rw[rlF,List.getElem?_cons_succ,Yr ps (i+1) l j,List.getElem?_cons_succ,show i+1+j=i+(j+1) by lia]
def qeg{ps:List Pa}{i:Nat}{rs:List Ru}{x:Rl}(h:x∈rlF ps i rs):∃j:Nat,rs[j]?=some x.1/\x.2=lift ((i+j:Nat):Int) ps:=by obtain⟨j,hj⟩:=List.getElem?_of_mem h;rw[Yr]at hj;obtain⟨r,e1,e2⟩:=Option.map_eq_some_iff.mp hj;exact{j,by rw[e1,<-e2],by rw[<-e2]}
end DG
namespace FA
open PySem DE DG Dy
open L2 hiding St
open RU
def QX{k:Nat}:¬ (k+12 < 12):=by lia
end FA
namespace DG
open PySem DE FA Dy
open L2 hiding St
theorem qeh:∀l:List (Str×Int),wt l none=0
 |[]=>rfl
 | p::l=>by unfold wt;rw[if_neg (5:)];exact qeh l
theorem qi2{l:List (Str×Int)}(h:∀p∈l,LnOk p)(o:Option Str):0<=wt l o:=by
 induction l with
 |nil=>exact Int.le_refl _
 |cons p l ih=>
  unfold wt;split
  ·have:=(h p (5:)).one;lia
  ·exact ih λq hq=>h q (by simp[hq])
def qmd{r:Ru}(h:∀p∈r.lands,LnOk p)(lf:List (Int×Int))(st:List St)(d:Int):0<=wgt r lf st d:=by
 unfold wgt;split
 ·exact Int.le_refl _
 ·exact qi2 h _
def QY{r:Ru}{lf:List (Int×Int)}{st:List St}{d:Int}(h:qH st d=none):wgt r lf st d=0:=by unfold wgt;rw[h,qeh];simp
def qf4{r:Ru}{lf:List (Int×Int)}{st st':List St}{d:Int}(h:qH st d=qH st' d):wgt r lf st d=wgt r lf st' d:=by unfold wgt;rw[h]
theorem qaX{f g:Int->Int}:∀(n:Nat) (lo:Int),(∀x,lo<=x->x < lo+n->f x=g x)->ws f lo n=ws g lo n
 |0,_,_=>rfl
 | n+1,lo,h=>by rw[ws,ws,h lo (1:) (1:),qaX n (lo+1) λx h1 h2=>h x (1:) (1:)]
theorem Ys{f:Int->Int}:∀(n:Nat) (lo:Int),(ws f lo (n+1)).sum=(ws f lo n).sum+f (lo+n)
 |0,lo=>by simp[ws]
 | n+1,lo=>by
  rw[ws,List.sum_cons,Ys n (lo+1),ws,List.sum_cons,show lo+1+(n:Int)=lo+((n+1:Nat):Int) by lia]
  lia
theorem qme{f:Int->Int}(hf:∀x,0<=f x):∀(n:Nat) (lo:Int),0<=(ws f lo n).sum
 |0,_=>by simp[ws]
 | n+1,lo=>by
  rw[ws,List.sum_cons]
  have:=hf lo
  have:=qme hf n (lo+1)
  lia
theorem QZ{f:Int->Int}:∀(n:Nat) (lo:Int),(∀x,lo<=x->x < lo+n->f x=0)->(ws f lo n).sum=0
 |0,_,_=>by simp[ws]
 | n+1,lo,h=>by rw[ws,List.sum_cons,h lo (1:) (1:),QZ n (lo+1) λx h1 h2=>h x (1:) (1:)];rfl
theorem yA{st:List St}{d:Int}:qH st d=none↔∀s∈st,¬ (s.2.1<=d/\d<=s.2.2):=by
 induction st with
 |nil=>simp[qH]
 |cons s l ih=>
  unfold qH
  by_cases hc:s.2.1<=d/\d<=s.2.2
  ·rw[if_pos hc];constructor
   ·intro h;cases h
   ·intro h;exact absurd hc (h s (5:))
  ·rw[if_neg hc,ih];constructor
   ·intro h t ht;rcases List.mem_cons.mp ht with rfl|ht
    ·exact hc
    ·exact h t ht
   ·exactλh t ht=>h t (by simp[ht])
theorem Ch.lo:∀{l:List St} {e:Int},Ch e l->∀t∈l,e < t.2.1/\t.2.1<=t.2.2
 |[],_,_,t,ht=>by cases ht
 | u::r,e,h,t,ht=>by
  rcases List.mem_cons.mp ht with rfl|ht
  ·exact⟨h.1.lo,h.1.ab⟩
  ·have:=Ch.lo h.2 t ht
   have:=h.1.lo
   have:=h.1.ab
   exact{by lia,by lia}
end DG
namespace FA
open PySem DE DG Dy
open L2 hiding St
open RU
def qei(ns:List Int)(a b:Nat):∃ms:List Int,qaI (ns.map D.int) (some (a:Int)) (some (b:Int))=ms.map D.int/\ms.length<=b - a:=by
 refine{(ns.drop (min a ns.length)).take (min b ns.length - min a ns.length),?_,?_}
 ·unfold qaI;rw[HT.Qu,HT.Qu,List.length_map,List.map_take,List.map_drop]
 ·refine Nat.le_trans (List.length_take_le ..) ?_;rcases Nat.le_total a ns.length with h|h
  ·rw[Nat.min_eq_left h];exact Nat.sub_le_sub_right (Nat.min_le_left ..) a
  ·rw[Nat.min_eq_right h,Nat.sub_eq_zero_of_le (Nat.min_le_right ..)];exact Nat.zero_le _
end FA
namespace DG
open PySem DE FA Dy
open L2 hiding St
def qf5(r:Ru):Z4 (ruI r)=true:=by obtain⟨kd,l,m,d⟩:=r;cases kd<;>rfl
def qi3{pg:Pg}[RU pg](k:Nat)(b c:Bool)(rs:List Ru)(ps:List Pa)(hr:rs.length<=8)(hp:ps.length<=12)(h:∀p∈ps,0<=p.1/\p.1 < rs.length/\0<=p.2.1/\p.2.1<=p.2.2/\p.2.2<=1000000000) :
  pg.nw (k+12) "Book" [aL b (rs.map ruI),aL c (ps.map paD)]=.ok (.val (bkI rs ps)):=by
 have e:∀(b:Bool) (l:List D),arL (aL b l)=some l:=λb l=>by cases b<;>rfl
 have h1:((decide ((rs.map ruI).length<=8)&&(rs.map ruI).all Z4)&&(decide ((ps.map paD).length<=12)&&(ps.map paD).all (yg (rs.map ruI).length)))=true:=by
  simp![List.length_map,Bool.and_eq_true,decide_eq_true_eq,List.all_eq_true,List.mem_map];refine{{hr,λx ⟨r,_,hx⟩=>by rw[<-hx];exact qf5 r},hp,λx ⟨p,hm,hx⟩=>?_};obtain⟨q1,q2,q3,q4,q5⟩:=h p hm;rw[<-hx];show(btw p.1 0 ((rs.length:Int) - 1)&&btw p.2.1 0 1000000000&&btw p.2.2 0 1000000000&&decide (p.2.1<=p.2.2))=true;unfold btw;simp![Bool.and_eq_true,decide_eq_true_eq]
  lia
 rw[RU.nw]
 show(if k+12 < 12 then R.no else qbG "Book" (match arL (aL b (rs.map ruI)),arL (aL c (ps.map paD)) with
  |some l,some ps=>if ((decide (l.length<=8)&&l.all Z4)&&(decide (ps.length<=12)&&ps.all (yg l.length)))=true then some [("kept_rules",D.lst l),("kept_papers",D.lst ps)] else none
  |_,_=>none))=_
 rw[if_neg (1:),e,e];dsimp only;rw[if_pos h1];rfl
theorem Ch.weak{l:List St}{e e':Int}(h:e'<=e)(hc:Ch e l):Ch e' l:=by
 cases l with
 |nil=>trivial
 |cons s l=>exact{{hc.1.nm,by have:=hc.1.lo;lia,hc.1.ab,hc.1.hi},hc.2}
theorem Ch.top:∀{l:List St} {e:Int},Ch e l->∀t∈l,t.2.2<=1000000000
 |[],_,_,t,ht=>by cases ht
 | u::r,e,h,t,ht=>by
  rcases List.mem_cons.mp ht with rfl|ht
  ·exact h.1.hi
  ·exact Ch.top h.2 t ht
open CH ST SP RU BO BT PC SU FK FM FO
abbrev Pr:=Int×Int
def mx(a b:Int):Int:=if b > a then b else a
def mn(a b:Int):Int:=if b < a then b else a
def mxF(a b:Int):(if b > a then b else a)=mx a b:=(rfl)
def mnF(a b:Int):(if b < a then b else a)=mn a b:=(rfl)
def qcE(a b:Int):(a<=b->mx a b=b)/\(b<=a->mx a b=a):=by unfold mx;split<;>lia
def JG(a b:Int):(a<=b->mn a b=a)/\(b<=a->mn a b=b):=by unfold mn;split<;>lia
def jo:Nat->List Pr->List Pr->List Pr
 |0,_,_=>[]
 | _+1,[],_=>[]
 | _+1,_,[]=>[]
 | n+1,p::a,q::b=>(if mx p.1 q.1<=mn p.2 q.2 then [(mx p.1 q.1,mn p.2 q.2)] else [])++(if p.2 < q.2 then jo n a (q::b) else jo n (p::a) b)
def qej(l:List Pr)(i:Nat)(p:Pr)(h:l[i]?=some p):atI (l.map pD) (i:Int)=some (.tup [.int p.1,.int p.2]):=qjE (by rw[List.getElem?_map,h];rfl)
theorem Yt(cl:Cl)(A B:List Pr):∀(n i j:Nat) (acc:List Pr) (s5 s6:Sl),(A.length - i)+(B.length - j) < n->acc.length+n < 10000->
  ∃N',whD cl 1000 QN QO n [.val (.lst (A.map pD)),.val (.lst (B.map pD)),.own (acc.map pD),.val (.int (i:Int)),.val (.int (j:Int)),s5,s6]=.ok (.next (.val (.lst (A.map pD))::.val (.lst (B.map pD))::.own ((acc++jo n (A.drop i) (B.drop j)).map pD)::N'))
 |0,i,j,acc,s5,s6,h,_=>by lia
 | n+1,i,j,acc,s5,s6,h,hl=>by
  have two:0+1+1<=sizeLine:=(3:)
  have hs:(acc.map pD).length < sizeLine:=by rw[List.length_map];exact qG (1:)
  by_cases hi:i < A.length
  ·by_cases hj:j < B.length
   ·obtain⟨p,hp⟩:∃p,A[i]?=some p:={A[i],List.getElem?_eq_getElem hi};obtain⟨q,hq⟩:∃q,B[j]?=some q:={B[j],List.getElem?_eq_getElem hj};have ap:=qej A i p hp;have aq:=qej B j q hq;have c1:(i:Int) < ((A.map pD).length:Int):=by rw[List.length_map];lia
    have c2:(j:Int) < ((B.map pD).length:Int):=by rw[List.length_map];lia
    have dA:A.drop i=p::A.drop (i+1):=by rw[List.drop_eq_getElem_cons hi];congr 1;rw[List.getElem?_eq_getElem hi]at hp;exact Option.some.inj hp
    have dB:B.drop j=q::B.drop (j+1):=by rw[List.drop_eq_getElem_cons hj];congr 1;rw[List.getElem?_eq_getElem hj]at hq;exact Option.some.inj hq
    have X:∀{M:Type} (K:Fl->R M) (a b c d:Sl),(iS cl 1000 (.ite (.cmp .LtE (.var 5) (.var 6)) %[.app 2 (.tup %[5,6|0])|0] .nil) [a,b,.own (acc.map pD),c,d,.val (.int (mx p.1 q.1)),.val (.int (mn p.2 q.2))]).th K=K (.next [a,b,.own ((acc++if mx p.1 q.1<=mn p.2 q.2 then [(mx p.1 q.1,mn p.2 q.2)] else []).map pD),c,d,.val (.int (mx p.1 q.1)),.val (.int (mn p.2 q.2))]):=by
     intro M K a b c d
     by_cases hc:mx p.1 q.1<=mn p.2 q.2
     ·rw[if_pos hc,List.map_append];simp?![hc,two,hs,j0]
     ·rw[if_neg hc,List.append_nil];simp?![hc]
    have hl':(acc++if mx p.1 q.1<=mn p.2 q.2 then [(mx p.1 q.1,mn p.2 q.2)] else []).length<=acc.length+1:=by
     rw[List.length_append]
     split<;>simp
    rw[dA,dB,jo,<-List.append_assoc];generalize acc++(if mx p.1 q.1<=mn p.2 q.2 then [(mx p.1 q.1,mn p.2 q.2)] else [])=acc' at *
    by_cases hd:p.2 < q.2
    ·obtain⟨N',e⟩:=Yt cl A B n (i+1) j acc' (.val (.int (mx p.1 q.1))) (.val (.int (mn p.2 q.2))) (1:) (1:);refine{N',?_};rw[dB]at e;rw[if_pos hd];simp![show((i+1:Nat):Int)=(i:Int)+1 by lia]at e;simp?[↓X,yc,Y9,c1,c2,ap,aq,mxF,mnF,hd,e]
    ·obtain⟨N',e⟩:=Yt cl A B n i (j+1) acc' (.val (.int (mx p.1 q.1))) (.val (.int (mn p.2 q.2))) (1:) (1:);refine{N',?_};rw[dA]at e;rw[if_neg hd];simp![show((j+1:Nat):Int)=(j:Int)+1 by lia]at e;simp?[↓X,yc,Y9,c1,c2,ap,aq,mxF,mnF,hd,e]
   ·have c1:(i:Int) < ((A.map pD).length:Int):=by rw[List.length_map];lia
    have c2:¬ (j:Int) < ((B.map pD).length:Int):=by rw[List.length_map];lia
    have e:jo (n+1) (A.drop i) (B.drop j)=[]:=by
     rw[show B.drop j=[] from List.drop_eq_nil_of_le (1:)]
     cases A.drop i<;>rfl
    rw[e,List.append_nil];refine{[.val (.int (i:Int)),.val (.int (j:Int)),s5,s6],?_};simp?[yc,c1,c2]
  ·have c1:¬ (i:Int) < ((A.map pD).length:Int):=by rw[List.length_map];lia
   have e:jo (n+1) (A.drop i) (B.drop j)=[]:=by rw[show A.drop i=[] from List.drop_eq_nil_of_le (1:)];rfl
   rw[e,List.append_nil];refine{[.val (.int (i:Int)),.val (.int (j:Int)),s5,s6],?_};simp?[yc,c1]
def qi4{pg:Pg}[BT pg](k:Nat)(A B:List Pr)(hl:A.length+B.length < 999):clK pg (k+1) "both" [.val (.lst (A.map pD)),.val (.lst (B.map pD))]=.ok (.tmp ((jo 1000 A B).map pD)):=by obtain⟨N',e⟩:=Yt (pg.kk k) A B 1000 0 0 [] .no .no (1:) (5:);rw[List.map_nil,List.nil_append,List.drop_zero,List.drop_zero,show((0:Nat):Int)=0 from rfl]at e;rw[r_both];simp?![qhc,show(0:Nat)<=sizeLine by decide+kernel,e]
def JH:Int->List Pr->List Pr×Int
 |b,[]=>([],b)
 | b,t::l=>((if b < t.1 then [(b,t.1 - 1)] else [])++(JH (mx b (t.2+1)) l).1,(JH (mx b (t.2+1)) l).2)
def qM(l:List Pr)(first last:Int):List Pr:=(JH first l).1++(if (JH first l).2<=last then [((JH first l).2,last)] else [])
theorem Q0(cl:Cl)(v0 v1 v2:Sl):∀(l:List Pr) (b:Int) (acc:List Pr) (s5:Sl),acc.length+l.length < 10000->∃s5',jP cl 1000 (.one 5) yy (l.map pD) [v0,v1,v2,.own (acc.map pD),.val (.int b),s5]=.ok (.next [v0,v1,v2,.own ((acc++(JH b l).1).map pD),.val (.int (JH b l).2),s5'])
 |[],b,acc,s5,_=>{s5,by simp[JH,jw]}
 | t::l,b,acc,s5,hl=>by
  rw[List.length_cons]at hl;have two:0+1+1<=sizeLine:=(3:)
  have hs:(acc.map pD).length < sizeLine:=by rw[List.length_map];exact qG (1:)
  rw[JH]
  by_cases hc:b < t.1
  ·obtain⟨s5',ih⟩:=Q0 cl v0 v1 v2 l (mx b (t.2+1)) (acc++[(b,t.1 - 1)]) (.val (pD t)) (by simp;lia);refine{s5',?_};rw[if_pos hc];simp![List.map_append,List.map_cons,List.map_nil,j0,List.append_assoc,List.cons_append,List.nil_append]at ih ⊢;simp?[yU,hc,two,hs,mxF,ih]
  ·obtain⟨s5',ih⟩:=Q0 cl v0 v1 v2 l (mx b (t.2+1)) acc (.val (pD t)) (1:);refine{s5',?_};rw[if_neg hc,List.nil_append];simp![j0]at ih;rw[List.map_cons];simp?[yU,j0,hc,mxF,ih]
def qcF{pg:Pg}[BT pg](k:Nat)(b:Bool)(l:List Pr)(hl:l.length < 5000)(first last:Int):clK pg (k+1) "outside" [aL b (l.map pD),.val (.int first),.val (.int last)]=.ok (.tmp ((qM l first last).map pD)):=by
 have two:0+1+1<=sizeLine:=(3:)
 have len:∀(l:List Pr) (b:Int),(JH b l).1.length<=l.length:=by
  intro l
  induction l with
  |nil=>intro b;simp[JH]
  |cons t l ih=>
   intro b;rw[JH]
   have:=ih (mx b (t.2+1))
   dsimp only;rw[List.length_append,List.length_cons]
   split<;>simp<;>lia
 have hs:((JH first l).1.map pD).length < sizeLine:=by rw[List.length_map];have:=len l first;exact qG (1:)
 rw[r_outside];unfold qM;obtain⟨s5,e⟩:=Q0 (pg.kk k) (pS b (l.map pD)) (.val (.int first)) (.val (.int last)) l first [] .no (by simp;lia);rw[List.map_nil,List.nil_append]at e
 by_cases hc:(JH first l).2<=last
 ·rw[if_pos hc,List.map_append,List.map_cons,List.map_nil];simp?![Ye,show(0:Nat)<=sizeLine by decide+kernel,e,hc,two,hs,j0]
 ·rw[if_neg hc,List.append_nil];simp?![Ye,show(0:Nat)<=sizeLine by decide+kernel,e,hc]
def yB(p:Pr)(l:List Pr):List Pr:=jo 1000 [p] (qM l p.1 p.2)
def yC(l:List Pr)(f t:Int):(qM l f t).length<=l.length+1:=by
 have len:∀(l:List Pr) (b:Int),(JH b l).1.length<=l.length:=by
  intro l
  induction l with
  |nil=>intro b;simp[JH]
  |cons t l ih=>
   intro b;rw[JH]
   have:=ih (mx b (t.2+1))
   dsimp only;rw[List.length_append,List.length_cons]
   split<;>simp<;>lia
 unfold qM;rw[List.length_append]
 have:=len l f
 split<;>simp<;>lia
def qek{pg:Pg}[BT pg](k:Nat)(b:Bool)(p:Pr)(l:List Pr)(hl:l.length < 900):clK pg (k+2) "less" [.val (.lst [.tup [.int p.1,.int p.2]]),aL b (l.map pD)]=.ok (.tmp ((yB p l).map pD)):=by
 have o:=qcF (pg:=pg) k b l (1:) p.1 p.2;have t:=qi4 (pg:=pg) k [p] (qM l p.1 p.2) (by have:=yC l p.1 p.2;simp;lia);simp![J8,YM,List.map_cons,List.map_nil,j0]at t;have g:atI [D.tup [.int p.1,.int p.2]] (-1)=some (.tup [.int p.1,.int p.2]):=g_last [] _;rw[r_less]
 try simp only[J8,YM]at o ⊢
 simp?![qhd,List.isEmpty_cons,g,o,t,yB]
theorem Yu:∀(n:Nat) (A B:List Pr),(jo n A B).length<=A.length+B.length
 |0,_,_=>by simp[jo]
 | n+1,[],B=>by simp[jo]
 | n+1,p::A,[]=>by simp[jo]
 | n+1,p::A,q::B=>by
  have h1:=Yu n A (q::B);have h2:=Yu n (p::A) B;simp![List.length_cons]at h1 h2;rw[jo,List.length_append,List.length_cons,List.length_cons]
  split<;>split<;>simp<;>lia
def y4(p:Pr)(l:List Pr):(yB p l).length<=l.length+2:=by
 have h1:=Yu 1000 [p] (qM l p.1 p.2);have h2:=yC l p.1 p.2;unfold yB;simp at h1
 lia
def Q3(w:Int)(p:Pr):Pa:=(p.1,p.2,w)
def qJ(r:Ru)(lf:List Pr)(s:St):List Pa:=if 0 < wt r.lands (some s.1) then (yB (s.2.1,s.2.2) lf).map (Q3 (wt r.lands (some s.1))) else []
def qu(r:Ru)(lf:List Pr):List St->List Pa
 |[]=>[]
 | s::l=>qJ r lf s++qu r lf l
theorem qmf(cl:Cl)(w:Int):∀(l:List Pr) (acc:List Pa) (s0 s1:Sl),acc.length+l.length < 10000->ja cl zl (.many [0,1]) .yes (l.map pD) [s0,s1,.val (.int w)] (acc.map paD)=.ok ((acc++l.map (Q3 w)).map paD)
 |[],acc,s0,s1,_=>by simp[zg]
 | p::l,acc,s0,s1,hl=>by
  rw[List.length_cons]at hl;have ih:=qmf cl w l (acc++[Q3 w p]) (.val (.int p.1)) (.val (.int p.2)) (by simp;lia);have three:0+1+1+1<=sizeLine:=(3:)
  have hs:(acc.map paD).length < sizeLine:=by rw[List.length_map];exact qG (1:)
  simp![List.map_append,List.map_cons,List.map_nil,List.append_assoc,List.cons_append,List.nil_append,zi,Q3]at ih ⊢;simp?[yV,j0,three,hs,ih]
def Yv(r:Ru)(lf:List Pr)(s:St):(qJ r lf s).length<=lf.length+2:=by
 unfold qJ;split
 ·rw[List.length_map];exact y4 _ _
 ·simp
theorem yD(r:Ru)(lf:List Pr):∀st:List St,(qu r lf st).length<=st.length * (lf.length+2)
 |[]=>by simp[qu]
 | s::l=>by
  rw[qu,List.length_append,List.length_cons,Nat.succ_mul]
  have:=Yv r lf s
  have:=yD r lf l
  lia
section
variable{pg:Pg}[RU pg][BT pg]
theorem yE(k:Nat)(v0 v1 v2:Sl)(r:Ru)(hr:∀p∈r.lands,LnOk p)(lf:List Pr)(hf:lf.length<=20):∀(st:List St) (acc:List Pa) (s6 s7 s8 s9:Sl),(∀s∈st,NameOk s.1)->acc.length+st.length * 22 < 9000->
  ∃N',jP (pg.kk (k+2)) 1000 (.many [6,7,8]) zm (st.map stD) [v0,v1,v2,.val (ruI r),.own (lf.map pD),.own (acc.map paD),s6,s7,s8,s9]=.ok (.next (v0::v1::v2::.val (ruI r)::.own (lf.map pD)::.own ((acc++qu r lf st).map paD)::N'))
 |[],acc,s6,s7,s8,s9,_,_=>{[s6,s7,s8,s9],by simp[qu,jw]}
 | s::st,acc,s6,s7,s8,s9,hn,hl=>by
  rw[List.length_cons,Nat.succ_mul]at hl;have w:clK pg (k+2) "Rule.weight" [.val (ruI r),.val (.str s.1)]=.ok (.val (.int (wt r.lands (some s.1)))):=qac (pg:=pg) (k+1) r hr (some s.1) (λz hz=>by cases hz;exact hn s (5:));have l1:=Yv r lf s;have two:0+1+1<=sizeLine:=(3:)
  have one:0+1<=sizeLine:=(3:)
  by_cases hc:0 < wt r.lands (some s.1)
  ·have e1:qJ r lf s=(yB (s.2.1,s.2.2) lf).map (Q3 (wt r.lands (some s.1))):=by unfold qJ;rw[if_pos hc]
   obtain⟨N',ih⟩:=yE k v0 v1 v2 r hr lf hf st (acc++qJ r lf s) (.val (.str s.1)) (.val (.int s.2.1)) (.val (.int s.2.2)) (.val (.int (wt r.lands (some s.1)))) (λx hx=>hn x (by simp[hx])) (by rw[List.length_append];lia);refine{N',?_};have le:clK pg (k+2) "less" [.val (.lst [.tup [.int s.2.1,.int s.2.2]]),.bor (lf.map pD)]=.ok (.tmp ((yB (s.2.1,s.2.2) lf).map pD)):=qek (pg:=pg) k true (s.2.1,s.2.2) lf (1:);have c:=qmf (pg.kk (k+2)) (wt r.lands (some s.1)) (yB (s.2.1,s.2.2) lf) [] .no .no (by have:=y4 (s.2.1,s.2.2) lf;simp;lia);rw[List.map_nil,List.nil_append,<-e1]at c;have z1:((yB (s.2.1,s.2.2) lf).map pD).length<=sizeLine:=by rw[List.length_map];have:=y4 (s.2.1,s.2.2) lf;exact qS (1:)
   have z2:(acc.map paD).length+((qJ r lf s).map paD).length<=sizeLine:=by rw[List.length_map,List.length_map];exact qS (1:)
   rw[qu,<-List.append_assoc];rw[List.map_append (l₁:=acc)]at ih;rw[List.map_cons];simp?[zO,yn,RU.cs,j5,w,hc,one,two,le,z1,qaz,List.getD_cons_succ,List.getD_cons_zero,c,z2,ih]
  ·have e1:qJ r lf s=[]:=by unfold qJ;rw[if_neg hc]
   obtain⟨N',ih⟩:=yE k v0 v1 v2 r hr lf hf st acc (.val (.str s.1)) (.val (.int s.2.1)) (.val (.int s.2.2)) (.val (.int (wt r.lands (some s.1)))) (λx hx=>hn x (by simp[hx])) (1:);refine{N',?_};rw[qu,e1,List.nil_append];rw[List.map_cons];simp?[zO,yn,RU.cs,j5,w,hc,ih]
end
section
variable{pg:Pg}[RU pg][BO pg][SP pg][BT pg][PC pg]
def qaf(k:Nat)(b:Bool)(rs:List Ru)(ps:List Pa)(hp:ps.length<=18)(n:Nat)(r:Ru)(hn:rs[n]?=some r)(hr:∀p∈r.lands,LnOk p)(hlf:(lift n ps).length<=20)(st:List St)(hs:∀s∈st,NameOk s.1)(hl:st.length<=170) :
  clK pg (k+3) "pieces_among" [.val (bkI rs ps),.val (.int (n:Int)),aL b (st.map stD)]=.ok (.tmp ((qu r (lift n ps) st).map paD)):=by
 have a:=JR (pg:=pg) (k+1) rs ps;have l:=qad (pg:=pg) k rs ps (n:Int) (1:);have e:=qef hn;rw[r_pieces_among];obtain⟨N',i⟩:=yE (pg:=pg) k (.val (bkI rs ps)) (.val (.int (n:Int))) (pS b (st.map stD)) r hr (lift n ps) hlf st [] .no .no .no .no hs (by simp;lia);rw[List.map_nil,List.nil_append]at i;simp?![yk,RU.cs,zu,qab,a,l,e,show(0:Nat)<=sizeLine by decide+kernel,i]
end
def qhg(f t:Int):List Pa->Int->Int
 |[],a=>a
 | p::l,a=>qhg f t l (if 0 < mn p.2.1 t - mx p.1 f+1 then a+(mn p.2.1 t - mx p.1 f+1) * p.2.2 else a)
def WOk(l:List Pa):Prop:=∀p∈l,1<=p.2.2/\p.2.2<=9
theorem Q4(cl:Cl)(v0:Sl)(f t:Int):∀(l:List Pa) (a:Int) (s4 s5 s6 s7:Sl),WOk l->∃N',jP cl 1000 (.many [4,5,6]) Jh (l.map paD) [v0,.val (.int f),.val (.int t),.val (.int a),s4,s5,s6,s7]=.ok (.next (v0::.val (.int f)::.val (.int t)::.val (.int (qhg f t l a))::N'))
 |[],a,s4,s5,s6,s7,_=>{[s4,s5,s6,s7],rfl}
 | p::l,a,s4,s5,s6,s7,h=>by
  have hw:=h p (5:);have mul:ZJ (mn p.2.1 t - mx p.1 f+1) p.2.2=true:=Jx (1:) (1:);rw[qhg]
  by_cases hc:0 < mn p.2.1 t - mx p.1 f+1
  ·obtain⟨N',ih⟩:=Q4 cl v0 f t l (a+(mn p.2.1 t - mx p.1 f+1) * p.2.2) (.val (.int p.1)) (.val (.int p.2.1)) (.val (.int p.2.2)) (.val (.int (mn p.2.1 t - mx p.1 f+1))) (λq hq=>h q (by simp[hq]));refine{N',?_};rw[if_pos hc];rw[List.map_cons];simp?[Ju,zi,mxF,mnF,hc,mul,ih]
  ·obtain⟨N',ih⟩:=Q4 cl v0 f t l a (.val (.int p.1)) (.val (.int p.2.1)) (.val (.int p.2.2)) (.val (.int (mn p.2.1 t - mx p.1 f+1))) (λq hq=>h q (by simp[hq]));refine{N',?_};rw[if_neg hc];rw[List.map_cons];simp?[Ju,zi,mxF,mnF,hc,ih]
def fsF(leave day:Int):List Pa->Int->Int
 |[],f=>f
 | p::l,f=>if p.1<=day then (if leave<=f - 1 - mn p.2.1 day then f else fsF leave day l p.1) else fsF leave day l f
theorem qaY(cl:Cl)(v0:Sl)(leave day:Int):∀(l:List Pa) (f:Int) (s4 s5 s6:Sl),∃F,jP cl 1000 (.many [4,5,6]) zE (l.map paD) [v0,.val (.int leave),.val (.int day),.val (.int f),s4,s5,s6]=.ok F/\(F=.ret (.val (.int (fsF leave day l f)))\/∃N',F=.next (v0::.val (.int leave)::.val (.int day)::.val (.int (fsF leave day l f))::N'))
 |[],f,s4,s5,s6=>{_,rfl,.inr {[s4,s5,s6],rfl}}
 | p::l,f,s4,s5,s6=>by
  rw[fsF]
  by_cases h1:p.1<=day
  ·rw[if_pos h1]
   by_cases h2:leave<=f - 1 - mn p.2.1 day
   ·rw[if_pos h2];refine{_,?_,.inl rfl};rw[List.map_cons];simp?[qX,zi,h1,mnF,h2]
   ·rw[if_neg h2];obtain⟨F,i,a⟩:=qaY cl v0 leave day l p.1 (.val (.int p.1)) (.val (.int p.2.1)) (.val (.int p.2.2));refine{F,?_,a};rw[List.map_cons];simp?[qX,zi,h1,mnF,h2,i]
  ·rw[if_neg h1];obtain⟨F,i,a⟩:=qaY cl v0 leave day l f (.val (.int p.1)) (.val (.int p.2.1)) (.val (.int p.2.2));refine{F,?_,a};rw[List.map_cons];simp?[qX,zi,h1,i]
section
variable{pg:Pg}[RU pg][SU pg]
def qf6(k:Nat)(b:Bool)(l:List Pa)(h:WOk l)(f t:Int):clK pg (k+1) "sum_of" [aL b (l.map paD),.val (.int f),.val (.int t)]=.ok (.val (.int (qhg f t l 0))):=by rw[r_sum_of];obtain⟨N',i⟩:=Q4 (pg.kk k) (pS b (l.map paD)) f t l 0 .no .no .no .no h;simp?![qbI,i]
def Q5(k:Nat)(b:Bool)(l:List Pa)(leave day:Int):clK pg (k+1) "first_since" [aL b (l.map paD),.val (.int leave),.val (.int day)]=.ok (.val (.int (fsF leave day l.reverse (day+1)))):=by rw[r_first_since];obtain⟨F,i,a⟩:=qaY (pg.kk k) (pS b (l.map paD)) leave day l.reverse (day+1) .no .no .no;rw[List.map_reverse]at i;rcases a with rfl|⟨N',rfl⟩<;>simp?![yW,i]
def qbM(r:Ru)(l:List Pa)(d:Int):Int:=if r.kd.isW=true then d - r.days+1 else fsF r.days d l.reverse (d+1)
def qt(r:Ru)(l:List Pa)(d:Int):Int:=qhg (qbM r l d) d l 0
theorem qhh(k:Nat)(b:Bool)(r:Ru)(l:List Pa)(d:Int):clK pg (k+2) "first_of_window" [.val (ruI r),aL b (l.map paD),.val (.int d)]=.ok (.val (.int (qbM r l d))):=by
 have s:=Q5 (pg:=pg) k b l r.days d;have iw:=Yo (xx:=pg.xx) r;rw[r_first_of_window];unfold qbM
 cases hk:r.kd.isW with
 |true=>rw[hk]at iw;simp?![qY,RU.cs,iw,qaV r hk]
 |false=>
  rw[hk]at iw
  try simp only[J8,YM]at s
  simp?![qY,RU.cs,iw,qbL r hk,s]
def jC(k:Nat)(b:Bool)(r:Ru)(l:List Pa)(h:WOk l)(d:Int):clK pg (k+3) "count_among" [.val (ruI r),aL b (l.map paD),.val (.int d)]=.ok (.val (.int (qt r l d))):=by
 have s:=qf6 (pg:=pg) (k+1) b l h (qbM r l d) d;have f:=qhh (pg:=pg) k b r l d;rw[r_count_among];unfold qt
 try simp only[J8,YM]at s f
 simp?![yY,f,s]
end
def zJ(span:Int):List Pa->List Int
 |[]=>[]
 | p::l=>(p.1+span)::(p.2.1+1+span)::zJ span l
def zR(r:Ru)(l:List Pa):List Int:=if r.kd.isW=true then zJ r.days l else []
theorem Qd(cl:Cl){xx:Xs}(hcs:cl.cs=pcs xx)(v1:Sl)(r:Ru)(hk:r.kd.isW=true):∀(l:List Pa) (acc:List Int) (s3 s4 s5:Sl),acc.length+2 * l.length < 10000->∃N',jP cl 1000 (.many [3,4,5]) jW (l.map paD) [.val (ruI r),v1,.own (acc.map D.int),s3,s4,s5]=.ok (.next (.val (ruI r)::v1::.own ((acc++zJ r.days l).map D.int)::N'))
 |[],acc,s3,s4,s5,_=>{[s3,s4,s5],by simp[zJ,jw]}
 | p::l,acc,s3,s4,s5,hl=>by
  rw[List.length_cons]at hl;obtain⟨N',ih⟩:=Qd cl hcs v1 r hk l (acc++[p.1+r.days]++[p.2.1+1+r.days]) (.val (.int p.1)) (.val (.int p.2.1)) (.val (.int p.2.2)) (by simp;lia);refine{N',?_};have hs:(acc.map D.int).length < sizeLine:=by rw[List.length_map];exact qG (1:)
  have hs2:(acc.map D.int++[D.int (p.1+r.days)]).length < sizeLine:=by simp;exact qG (1:)
  rw[zJ,show acc++(p.1+r.days)::(p.2.1+1+r.days)::zJ r.days l=acc++[p.1+r.days]++[p.2.1+1+r.days]++zJ r.days l by simp];rw[List.map_append (l₁:=acc++[p.1+r.days]),List.map_append (l₁:=acc),List.map_cons,List.map_nil,List.map_cons,List.map_nil]at ih;rw[List.map_cons];simp?[YR,zi,hcs,qaV r hk,hs,hs2,ih]
theorem Qe(s:Int):∀l:List Pa,(zJ s l).length=2 * l.length
 |[]=>rfl
 | p::l=>by rw[zJ,List.length_cons,List.length_cons,Qe s l,List.length_cons];lia
def Jy(r:Ru)(l:List Pa)(b e:Int):Option Int:=if qt r l b - qt r l (b - 1)<=0 then none else if b+(r.most - qt r l (b - 1)) / (qt r l b - qt r l (b - 1))<=e then some (b+(r.most - qt r l (b - 1)) / (qt r l b - qt r l (b - 1))) else none
def YN:Option Int->D
 |none=>.non
 |some d=>.int d
def Jn(r:Ru)(l:List Pa):List Pr->Option Int
 |[]=>none
 | p::s=>match Jy r l p.1 p.2 with
  |some d=>some d
  |none=>Jn r l s
def inB(f t x:Int):Bool:=decide (f < x)&&decide (x<=t)
def qhi(f t:Int)(ts:List Int):List Pr:=(f::ts).zip (ts.map (· - 1)++[t])
def j6(r:Ru)(L:List Pa)(ts:List Int):List Pa->Option Int
 |[]=>none
 | p::l=>match Jn r L (qhi p.1 p.2.1 (ts.filter (inB p.1 p.2.1))) with
  |some d=>some d
  |none=>j6 r L ts l
theorem qhj:∀(a b:List Int),qct (a.map D.int) (b.map D.int)=(a.zip b).map pD
 |[],b=>by simp[qct]
 | x::a,[]=>by simp[qct]
 | x::a,y::b=>by
  have:=qhj a b
  unfold qct at this ⊢;rw[List.map_cons,List.map_cons,List.zipWith_cons_cons,this];rfl
def qel(d:D)(l:List D):qaI (d::l) (some 1) none=l:=by unfold qaI;rw[show(some (1:Int))=some ((1:Nat):Int) from rfl,HT.Qu,HT.qbj];simp
theorem qf7(cl:Cl)(f t:Int):∀(ts acc:List Int) (s0:Sl),acc.length+ts.length < 10000->ja cl zn (.one 0) (.test (.and (.cmp .Lt (.var 1) (.var 0)) (.one (.cmp .LtE (.var 0) (.var 2))))) (ts.map D.int) [s0,.val (.int f),.val (.int t)] (acc.map D.int)=.ok ((acc++ts.filter (inB f t)).map D.int)
 |[],acc,s0,_=>by simp[zg]
 | x::ts,acc,s0,hl=>by
  rw[List.length_cons]at hl;have hs:(acc.map D.int).length < sizeLine:=by rw[List.length_map];exact qG (1:)
  by_cases h1:f < x
  ·by_cases h2:x<=t
   ·have ih:=qf7 cl f t ts (acc++[x]) (.val (.int x)) (by simp;lia);have e:(x::ts).filter (inB f t)=x::ts.filter (inB f t):=by simp[inB,h1,h2]
    rw[e];simp![List.map_append,List.map_cons,List.map_nil,List.append_assoc,List.cons_append,List.nil_append]at ih ⊢;simp?[y0,h1,h2,hs,ih]
   ·have ih:=qf7 cl f t ts acc (.val (.int x)) (1:);have e:(x::ts).filter (inB f t)=ts.filter (inB f t):=by simp[inB,h2]
    rw[e];rw[List.map_cons];simp?[h1,h2,ih]
  ·have ih:=qf7 cl f t ts acc (.val (.int x)) (1:);have e:(x::ts).filter (inB f t)=ts.filter (inB f t):=by simp[inB,h1]
   rw[e];rw[List.map_cons];simp?[h1,ih]
theorem qmg(cl:Cl):∀(ts acc:List Int) (s0:Sl),acc.length+ts.length < 10000->ja cl zo (.one 0) .yes (ts.map D.int) [s0] (acc.map D.int)=.ok ((acc++ts.map (· - 1)).map D.int)
 |[],acc,s0,_=>by simp[zg]
 | x::ts,acc,s0,hl=>by
  rw[List.length_cons]at hl;have hs:(acc.map D.int).length < sizeLine:=by rw[List.length_map];exact qG (1:)
  have ih:=qmg cl ts (acc++[x - 1]) (.val (.int x)) (by simp;lia);simp![List.map_append,List.map_cons,List.map_nil,List.append_assoc,List.cons_append,List.nil_append]at ih ⊢;simp?[y1,hs,ih]
def qjF(r:Ru)(l:List Pa):Prop:=∀d,qt r l d - qt r l (d - 1) < 1073741824
section
variable{pg:Pg}[RU pg][SU pg][FK pg]
theorem qcG(k:Nat)(b:Bool)(r:Ru)(l:List Pa)(hl:l.length < 4000):clK pg (k+1) "turns_of" [.val (ruI r),aL b (l.map paD)]=.ok (.tmp ((zR r l).map D.int)):=by
 have iw:=Yo (xx:=pg.xx) r;rw[r_turns_of];unfold zR
 cases hk:r.kd.isW with
 |true=>rw[hk]at iw;obtain⟨N',i⟩:=Qd (pg.kk k) RU.cs (pS b (l.map paD)) r hk l [] .no .no .no (by simp;lia);rw[List.map_nil,List.nil_append]at i;simp?![Ji,RU.cs,iw,show(0:Nat)<=sizeLine by decide+kernel,i]
 |false=>rw[hk]at iw;simp?![Ji,RU.cs,iw,show(0:Nat)<=sizeLine by decide+kernel]
def qf8(k:Nat)(b:Bool)(r:Ru)(l:List Pa)(h:WOk l)(hs:qjF r l)(f t:Int):clK pg (k+4) "first_above" [.val (ruI r),aL b (l.map paD),.val (.int f),.val (.int t)]=.ok (.val (YN (Jy r l f t))):=by
 have c1:=jC (pg:=pg) k b r l h (f - 1);have c2:=jC (pg:=pg) k b r l h f;have hg:=hs f;rw[r_first_above];unfold Jy
 by_cases h1:qt r l f - qt r l (f - 1)<=0
 ·rw[if_pos h1]
  try simp only[J8,YM]at c1 c2
  simp?![zt,c1,c2,h1,YN]
 ·rw[if_neg h1];have hd:(0:Int) < qt r l f - qt r l (f - 1)/\qt r l f - qt r l (f - 1) < 1073741824:={by lia,hg}
  by_cases h2:f+(r.most - qt r l (f - 1)) / (qt r l f - qt r l (f - 1))<=t
  ·rw[if_pos h2]
   try simp only[J8,YM]at c1 c2
   simp?![zt,c1,c2,h1,RU.cs,Jm,hd,h2,YN]
  ·rw[if_neg h2]
   try simp only[J8,YM]at c1 c2
   simp?![zt,c1,c2,h1,RU.cs,Jm,hd,h2,YN]
theorem qbN(k:Nat)(b:Bool)(r:Ru)(l:List Pa)(h:WOk l)(hs:qjF r l)(v2 v3 v4 v5 v6 v8:Sl):∀(ss:List Pr) (s7 s9 s10:Sl),
  ∃F,jP (pg.kk (k+4)) 1000 (.many [7,9]) zp (ss.map pD) [.val (ruI r),pS b (l.map paD),v2,v3,v4,v5,v6,s7,v8,s9,s10]=.ok F/\(∀d,Jn r l ss=some d->F=.ret (.val (.int d)))/\(Jn r l ss=none->∃s7' s9' s10',F=.next [.val (ruI r),pS b (l.map paD),v2,v3,v4,v5,v6,s7',v8,s9',s10'])
 |[],s7,s9,s10=>{_,rfl,λd e=>(by cases e),λ_=>⟨s7,s9,s10,rfl⟩}
 | p::ss,s7,s9,s10=>by
  have a:=qf8 (pg:=pg) k b r l h hs p.1 p.2;rw[Jn]
  cases e:Jy r l p.1 p.2 with
  |some d0=>rw[e]at a;dsimp only;refine{_,?_,λd ed=>(by cases ed;rfl),λq=>(by cases q)};rw[List.map_cons];simp?[zP,j0,a,YN]
  |none=>rw[e]at a;dsimp only;obtain⟨F,i,c⟩:=qbN k b r l h hs v2 v3 v4 v5 v6 v8 ss (.val (.int p.1)) (.val (.int p.2)) (.val .non);refine{F,?_,c};rw[List.map_cons];simp?[zP,j0,a,YN,i]
theorem Yw(k:Nat)(b:Bool)(r:Ru)(L:List Pa)(h:WOk L)(hs:qjF r L)(ts:List Int)(ht:ts.length < 8000):∀(l:List Pa) (c:Bool) (s3 s4 s5 s6 s7 s8 s9 s10:Sl),
  ∃F,jP (pg.kk (k+4)) 1000 (.many [3,4,5]) zq (l.map paD) [.val (ruI r),pS b (L.map paD),qg8 c (ts.map D.int),s3,s4,s5,s6,s7,s8,s9,s10]=.ok F/\(∀d,j6 r L ts l=some d->F=.ret (.val (.int d)))/\(j6 r L ts l=none->∃N',F=.next N')
 |[],c,s3,s4,s5,s6,s7,s8,s9,s10=>{_,rfl,λd e=>(by cases e),λ_=>{_,rfl}}
 | p::l,c,s3,s4,s5,s6,s7,s8,s9,s10=>by
  have fl:=List.length_filter_le (inB p.1 p.2.1) ts;have t1:=qf7 (pg.kk (k+4)) p.1 p.2.1 ts [] .no (by simp;lia);have t2:=qmg (pg.kk (k+4)) (ts.filter (inB p.1 p.2.1)) [] .no (by simp;lia);rw[List.map_nil,List.nil_append]at t1 t2;have z:=qhj (p.1::ts.filter (inB p.1 p.2.1)) ((ts.filter (inB p.1 p.2.1)).map (· - 1)++[p.2.1]);rw[List.map_cons,List.map_append,List.map_cons,List.map_nil]at z;have z0:ts.length<=sizeLine:=qS (1:);have z1:0+1<=sizeLine:=(3:)
  have z2:1+(ts.filter (inB p.1 p.2.1)).length<=sizeLine:=qS (1:);have z3:(ts.filter (inB p.1 p.2.1)).length<=sizeLine:=qS (1:);have z4:(ts.filter (inB p.1 p.2.1)).length+1<=sizeLine:=qS (1:);obtain⟨G,i,seg⟩:=qbN (pg:=pg) k b r L h hs (.val (.lst (ts.map D.int))) (.val (.int p.1)) (.val (.int p.2.1)) (.val (.int p.2.2)) (.val (.lst (D.int p.1::(ts.filter (inB p.1 p.2.1)).map D.int))) (.val (.lst (((ts.filter (inB p.1 p.2.1)).map (· - 1)).map D.int++[D.int p.2.1]))) (qhi p.1 p.2.1 (ts.filter (inB p.1 p.2.1))) s7 s9 s10;rw[show qhi p.1 p.2.1 (ts.filter (inB p.1 p.2.1))=(p.1::ts.filter (inB p.1 p.2.1)).zip ((ts.filter (inB p.1 p.2.1)).map (· - 1)++[p.2.1]) from rfl]at i seg;rw[j6,show qhi p.1 p.2.1 (ts.filter (inB p.1 p.2.1))=(p.1::ts.filter (inB p.1 p.2.1)).zip ((ts.filter (inB p.1 p.2.1)).map (· - 1)++[p.2.1]) from rfl]
  cases e:Jn r L ((p.1::ts.filter (inB p.1 p.2.1)).zip ((ts.filter (inB p.1 p.2.1)).map (· - 1)++[p.2.1])) with
  |some d0=>rw[seg.1 d0 e]at i;dsimp only;refine{_,?_,λd ed=>(by cases ed;rfl),λq=>(by cases q)};rw[List.map_cons];simp?[zQ,zi,List.length_map,z0,z1,z2,z3,z4,qaz,List.getD_cons_succ,List.getD_cons_zero,t1,qel,t2,z,i]
  |none=>obtain⟨s7',s9',s10',eG⟩:=seg.2 e;rw[eG]at i;dsimp only;obtain⟨F,i2,c2⟩:=Yw k b r L h hs ts ht l false (.val (.int p.1)) (.val (.int p.2.1)) (.val (.int p.2.2)) (.val (.lst (D.int p.1::(ts.filter (inB p.1 p.2.1)).map D.int))) s7' (.val (.lst (((ts.filter (inB p.1 p.2.1)).map (· - 1)).map D.int++[D.int p.2.1]))) s9' s10';refine{F,?_,c2};simp![qmW,qmX]at i2;rw[List.map_cons];simp?[zQ,zi,List.length_map,z0,z1,z2,z3,z4,qaz,List.getD_cons_succ,List.getD_cons_zero,t1,qel,t2,z,i,i2]
def qr(r:Ru)(l:List Pa):Option Int:=j6 r l (zR r l) l
def qcH(r:Ru)(l:List Pa):(zR r l).length<=2 * l.length:=by
 unfold zR;split
 ·rw[Qe];lia
 ·simp
theorem qem(k:Nat)(b:Bool)(r:Ru)(l:List Pa)(h:WOk l)(hs:qjF r l)(hl:l.length < 3900):clK pg (k+5) "first_broken" [.val (ruI r),aL b (l.map paD)]=.ok (.val (YN (qr r l))):=by
 have t:=qcG (pg:=pg) (k+3) b r l (1:);obtain⟨F,i,lp⟩:=Yw (pg:=pg) k b r l h hs (zR r l) (by have:=qcH r l;lia) l true .no .no .no .no .no .no .no .no;rw[r_first_broken];unfold qr
 cases e:j6 r l (zR r l) l with
 |some d=>
  rw[lp.1 d e]at i
  try simp only[J8,YM,qmW,qmX]at t i ⊢
  simp?![zU,t,i,YN]
 |none=>
  obtain⟨N',eF⟩:=lp.2 e;rw[eF]at i
  try simp only[J8,YM,qmW,qmX]at t i ⊢
  simp?![zU,t,i,YN]
end
def yd(st:List St)(x:Rl):List Pa:=qu x.1 x.2 st
def Yx(d:Int):Option (Int×Int×Int)->Bool
 |none=>true
 |some z=>decide (d < z.1)
def j7(st:List St):List Rl->Nat->Option (Int×Int×Int)->Option (Int×Int×Int)
 |[],_,f=>f
 | x::l,i,f=>match qr x.1 (yd st x) with
  |none=>j7 st l (i+1) f
  |some d=>if Yx d f=true then j7 st l (i+1) (some (d,(i:Int),qbM x.1 (yd st x) d)) else j7 st l (i+1) f
structure RlOk(st:List St)(x:Rl):Prop where
 ln:∀p∈x.1.lands,LnOk p
 w:WOk (yd st x)
 slow:qjF x.1 (yd st x)
 lf:x.2.length<=20
section
variable{pg:Pg}[RU pg][BO pg][SP pg][BT pg][PC pg][SU pg][FK pg]
theorem Qf(k:Nat)(b:Bool)(rs:List Ru)(ps:List Pa)(hp:ps.length<=18)(st:List St)(hs:∀s∈st,NameOk s.1)(hl:st.length<=70):∀(rest:List Rl) (i:Nat) (f:Option (Int×Int×Int)) (s3 s4 s5 s6:Sl),(∀(j:Nat) x,rest[j]?=some x->rs[i+j]?=some x.1/\x.2=lift ((i+j:Nat):Int) ps/\RlOk st x)->
  ∃N',jP (pg.kk (k+6)) 1000 (.many [3,4]) zF (enF i (rest.map λx=>ruI x.1)) [.val (bkI rs ps),pS b (st.map stD),.val (Yq f),s3,s4,s5,s6]=.ok (.next (.val (bkI rs ps)::pS b (st.map stD)::.val (Yq (j7 st rest i f))::N'))
 |[],i,f,s3,s4,s5,s6,_=>{[s3,s4,s5,s6],rfl}
 | x::rest,i,f,s3,s4,s5,s6,h=>by
  obtain⟨e1,e2,ok⟩:=h 0 x rfl;rw[Nat.add_zero]at e1 e2
  have nxt:∀(j:Nat) y,rest[j]?=some y->rs[i+1+j]?=some y.1/\y.2=lift ((i+1+j:Nat):Int) ps/\RlOk st y:=λj y hy=>by
   have:=h (j+1) y hy
   rwa[show i+(j+1)=i+1+j by lia]at this
  have pl:(yd st x).length < 3900:=by
   have:=yD x.1 x.2 st
   have h1:=ok.lf
   have:st.length * (x.2.length+2)<=70 * 22:=Nat.mul_le_mul hl (1:)
   unfold yd
   lia
  have p:=qaf (pg:=pg) (k+3) b rs ps hp i x.1 e1 ok.ln (by rw[<-e2];exact ok.lf) st hs (1:);rw[<-e2]at p;rw[show qu x.1 x.2 st=yd st x from rfl]at p;have br:=qem (pg:=pg) (k+1) true x.1 (yd st x) ok.w ok.slow pl;have three:0+1+1+1<=sizeLine:=(3:)
  simp![J8,YM]at br;have fw:∀d,clK pg (k+6) "first_of_window" [.val (ruI x.1),.bor ((yd st x).map paD),.val (.int d)]=.ok (.val (.int (qbM x.1 (yd st x) d))):=λd=>qhh (pg:=pg) (k+4) true x.1 (yd st x) d
  obtain⟨f',ef,X⟩:∃f',j7 st (x::rest) i f=j7 st rest (i+1) f'/\∀{M:Type} (K:Fl->R M) (a b:Sl),(iS (pg.kk (k+6)) 1000 (.ite (.and (.cmp .IsNot (.var 6) (.con D.non)) (.one (.or (.cmp .Is (.var 2) (.con D.non)) (.one (.cmp .Lt (.var 6) (.idx (.var 2) (.con (D.int 0)))))))) %[.set 2 (.tup %[6,3,.call "first_of_window" %[4,5,6|0]|0])|0] .nil) [a,b,.val (Yq f),.val (.int i),.val (ruI x.1),.own ((yd st x).map paD),.val (YN (qr x.1 (yd st x)))]).th K=K (.next [a,b,.val (Yq f'),.val (.int i),.val (ruI x.1),.own ((yd st x).map paD),.val (YN (qr x.1 (yd st x)))]):=by
   rw[j7]
   cases e:qr x.1 (yd st x) with
   |none=>exact{f,rfl,λK a b=>by simp?![YN]}
   |some d=>
    dsimp only
    cases f with
    |none=>exact{some (d,(i:Int),qbM x.1 (yd st x) d),by rw[show Yx d none=true from rfl,if_pos rfl],λK a b=>by simp?![YN,Yq,f3D,fw,three]}
    |some z=>
     by_cases hc:d < z.1
     ·exact{some (d,(i:Int),qbM x.1 (yd st x) d),by rw[if_pos (by simp[Yx,hc])],λK a b=>by simp?![YN,Yq,f3D,hc,fw,three]}
     ·exact{some z,by rw[if_neg (by simp[Yx,hc])],λK a b=>by simp?![YN,Yq,f3D,hc]}
  rw[ef];obtain⟨N',ih⟩:=Qf k b rs ps hp st hs hl rest (i+1) f' (.val (.int i)) (.val (ruI x.1)) (.own ((yd st x).map paD)) (.val (YN (qr x.1 (yd st x)))) nxt;refine{N',?_};refine(qk _).symm.trans ?_;rw[List.map_cons,enF];simp?![↓X,Jj,p,br,ih]
end
def qC(rs:List Ru)(ps:List Pa)(st:List St):Option (Int×Int×Int):=j7 st (rlF ps 0 rs) 0 none
section
variable{pg:Pg}[RU pg][BO pg][SP pg][BT pg][PC pg][SU pg][FK pg][FM pg]
def zv(k:Nat)(b:Bool)(rs:List Ru)(ps:List Pa)(hp:ps.length<=18)(st:List St)(hs:∀s∈st,NameOk s.1)(hl:st.length<=70)(hr:∀x∈rlF ps 0 rs,RlOk st x) :
  clK pg (k+7) "fault_among" [.val (bkI rs ps),aL b (st.map stD)]=.ok (.val (Yq (qC rs ps st))):=by
 have a:=JR (pg:=pg) (k+5) rs ps
 obtain⟨N',i⟩:=Qf (pg:=pg) k b rs ps hp st hs hl (rlF ps 0 rs) 0 none .no .no .no .no (λj x hx=>by have hm:=List.mem_of_getElem? hx;rw[Yr]at hx;obtain⟨r,e1,e2⟩:=Option.map_eq_some_iff.mp hx;rw[Nat.zero_add];rw[Nat.zero_add]at e2;exact{by rw[e1,<-e2],by rw[<-e2],hr x hm})
 rw[qhf]at i;rw[r_fault_among]
 try simp only[J8,YM,Yq]at i ⊢
 simp?![y2,RU.cs,zu,a,QJ,i,qC]
end
section
variable{pg:Pg}[CH pg][ST pg][RU pg][BO pg][SP pg][BT pg][PC pg][SU pg][FK pg][FM pg][FO pg]
def qcI(k:Nat)(b:Bool)(rs:List Ru)(ps:List Pa)(hp:ps.length<=18)(st:List St)(hs:∀s∈st,NameOk s.1)(hc:Ch (-1) st)(hl:st.length<=60)(hr:∀x∈rlF ps 0 rs,RlOk st x) :
  clK pg (k+8) "fault_of" [.val (bkI rs ps),aL b (st.map stD)]=.ok (.val (Yq (qC rs ps st))):=by
 have s:=QQ (pg:=pg) (k+2) b st hc hl;have f:=zv (pg:=pg) k false rs ps hp st hs (1:) hr;rw[r_fault_of]
 try simp only[J8,YM]at s f ⊢
 simp?![Qa,s,f]
end
end DG
namespace FZ
open PySem DE DG Dy FA
open L2 hiding St
open ZA ZW ZN ZR ZT ZP RU
def qbO(z:Str)(i:Nat)(h:i<=z.length):(Txt.slice z none (some (i:Int))).cps.toList=z.cps.toList.take i:=by
 have e:Builtin.Str.strSliceIndices none (some (i:Int)) 1 z.length=(List.range i).map (0 + ·):=by
  have:=sliceRange_one 0 i
  rw[Nat.sub_zero]at this;rw[<-this];unfold Builtin.Str.strSliceIndices;simp![show(1:Int) > 0 by decide,if_true]
  congr 1
  rw[if_neg (by omega)];omega
 unfold Txt.slice;rw[e];split
 ·rename_i hc;simp at hc;rw[hc,List.take_of_length_le (by simp[Str.length])]
 ·show(List.toArray _).toList=_;rw[pick_run];simp
def qf9(z:Str)(i:Nat)(h:i<=z.length):(Txt.slice z (some (i:Int)) none).cps.toList=z.cps.toList.drop i:=by
 have e:Builtin.Str.strSliceIndices (some (i:Int)) none 1 z.length=(List.range (z.length - i)).map (i + ·):=by
  rw[<-sliceRange_one i z.length];unfold Builtin.Str.strSliceIndices;simp![show(1:Int) > 0 by decide,if_true]
  congr 1
  rw[if_neg (by omega)];omega
 unfold Txt.slice;rw[e];split
 ·rename_i hc;simp at hc
  have:i=0\/z.length=0:=by omega
  rcases this with q|q
  ·rw[q];simp
  ·have:z.cps.toList=[]:=by simpa [Str.length] using q
   rw[this];simp
 ·show(List.toArray _).toList=_;rw[pick_run,List.take_of_length_le (by simp[Str.length])]
section
variable{pg:Pg}[ZA pg]
def qmh(k:Nat)(ns:List Int)(i:Nat):clK pg (k+1) "_law_at" [.scr (ns.map D.int),.val (.int (i:Int))]=.ok (.val (.int (zI ns i))):=by
 rw[r__law_at]
 by_cases h:i < ns.length
 ·have h1:(i:Int) < ((ns.map D.int).length:Int):=by rw[List.length_map];omega
  have h2:atI (ns.map D.int) (i:Int)=some (.int (zI ns i)):=qjE (by simp[h,zI]);simp?![Yh,Nat.reduceAdd,Nat.reduceSub,h1,h2,decide_true]
 ·have h1:¬ (i:Int) < ((ns.map D.int).length:Int):=by rw[List.length_map];omega
  have h2:zI ns i=0:=by simp[zI,h]
  simp?![Yh,Nat.reduceAdd,Nat.reduceSub,h1,h2,decide_false]
end
def qmY(z:Str):Prop:=∀c∈z.cps.toList,jZ c
theorem qag(cl:Cl)(v0 v2:Sl):∀(n:Nat) (j:Int) (m:Int) (z:Str) (s4:Sl),z.cps.size+n<=8->qmY z->∃(z':Str) (m':Int) (s4':Sl),jP cl 1000 (.one 4) jA (rgF j n) [v0,.val (.int m),v2,.val (.str z),s4]=.ok (.next [v0,.val (.int m'),v2,.val (.str z'),s4'])/\z'.cps.size=z.cps.size+n/\qmY z'
 |0,j,m,z,s4,_,h=>⟨z,m,s4,rfl,rfl,h⟩
 | n+1,j,m,z,s4,hn,h=>by
  obtain⟨h1,hl⟩:=qmc (m % 26) (Int.emod_nonneg _ (2:)) (Int.emod_lt_of_pos _ (2:));generalize 97+(m % 26).toNat=c at h1 hl
  obtain⟨z',m',s4',ih,i1,i2⟩:=qag cl v0 v2 n (j+1) (m / 26) (z++(⟨#[c]⟩:Str)) (.val (.int j)) (by rw[QR];omega) (λx hx=>by
   rw[qfZ]at hx;rcases List.mem_append.mp hx with q|q
   ·exact h x q
   ·rw[List.mem_singleton.mp q];exact hl)
  refine{z',m',s4',?_,by rw[i1,QR];omega,i2}
  have hs:z.length+(⟨#[c]⟩:Str).length<=sizeLine:=by show z.cps.size+1<=2 ^ 24;omega
  have h26:("abcdefghijklmnopqrstuvwxyz" : Str).length<=sizeLine:=(3:)
  refine(qk _).symm.trans ?_;rw[rgF];simp?![Yi,h1,hs,h26,ih]
def qi5{pg:Pg}[ZW pg](k:Nat)(c:Int):∃z:Str,clK pg (k+1) "_law_word" [.val (.int c)]=.ok (.val (.str z))/\1<=z.cps.size/\z.cps.size<=7/\qmY z:=by
 have mul:ZJ c 1099087573=true:=Jx (2:) (2:);generalize hN:c * 1099087573 % 10000000000037=n;have a0:0<=n % 7:=Int.emod_nonneg _ (2:);have a1:n % 7 < 7:=Int.emod_lt_of_pos _ (2:);obtain⟨m,em⟩:∃m:Nat,1+n % 7=(m:Int):={(1+n % 7).toNat,by omega};have e0:("" : Str).cps.size=0:=(3:)
 obtain⟨z,m',s4,e,e1,e2⟩:=qag (pg.kk k) (.val (.int c)) (.val (.int (m:Int))) m 0 (n / 7) "" .no (by omega) (λx hx=>by rw[show("" : Str).cps.toList=[] by decide+kernel]at hx;cases hx)
 refine{z,?_,by omega,by omega,e2}
 have sm:zf (m:Int)=true:=by unfold zf;simp;omega
 rw[r__law_word];simp?![Yj,mul,hN,em,sm,jb,Int.sub_zero,Int.toNat_natCast,e]
def YT(z:Str)(a c:Nat):Str:=Txt.slice z none (some (a:Int))++(⟨#[c]⟩:Str)++Txt.slice z (some (a:Int)) none
def qen(x y:Str):(x++y).cps.toList=x.cps.toList++y.cps.toList:=by show(x.cps++y.cps).toList=_;simp
def jq{z:Str}{a:Nat}(h:a<=z.length)(c:Nat):(YT z a c).cps.toList=z.cps.toList.take a++c::z.cps.toList.drop a:=by unfold YT;rw[qen,qen,qbO z a h,qf9 z a h];simp
def Qg{z:Str}{a:Nat}(h:a<=z.length)(c:Nat):(YT z a c).cps.size=z.cps.size+1:=by have h':a<=z.cps.size:=h;rw[<-Array.length_toList,jq h];simp;omega
def qga{z:Str}{a:Nat}(h:a<=z.length)(h7:z.cps.size<=7)(hl:qmY z){c:Nat}(hc:jZ c):NameOk (YT z a c):=by
 refine{by rw[Qg h];omega,by rw[Qg h];omega,λx hx=>?_};rw[jq h]at hx;rcases List.mem_append.mp hx with q|q
 ·exact hl x (List.mem_of_mem_take q)
 ·rcases List.mem_cons.mp q with q|q
  ·rw[q];exact hc
  ·exact hl x (List.mem_of_mem_drop q)
def qeo{z:Str}{a:Nat}(h:a<=z.length){c c':Nat}(e:YT z a c=YT z a c'):c=c':=by
 have e1:=congrArg (λx:Str=>x.cps.toList) e;rw[jq h,jq h]at e1
 have:=List.append_cancel_left e1
 exact(List.cons.inj this).1
theorem Qh(cl:Cl)(z:Str)(a:Nat)(ha:a<=z.length)(h7:z.cps.size<=7):∀(cs:List Nat) (acc:List Str) (s0:Sl),acc.length+cs.length < 10000->ja cl zV (.one 0) .yes (cs.map λc=>D.str ⟨#[c]⟩) [s0,.val (.str z),.val (.int (a:Int))] (acc.map D.str)=.ok ((acc++cs.map (YT z a)).map D.str)
 |[],acc,s0,_=>by simp[zg]
 | c::cs,acc,s0,hl=>by
  rw[List.length_cons]at hl;have hs:(acc.map D.str).length < sizeLine:=by rw[List.length_map];exact qG (by omega)
  have hz:z.length<=sizeLine:=by show z.cps.size<=2 ^ 24;omega
  have l1:(Txt.slice z none (some (a:Int))).length<=z.length:=Txt.slice_le _ _ _;have l2:(Txt.slice z (some (a:Int)) none).length<=z.length:=Txt.slice_le _ _ _;have h7':z.length<=7:=h7
  have s1:(Txt.slice z none (some (a:Int))).length+(⟨#[c]⟩:Str).length<=sizeLine:=by
   have:(⟨#[c]⟩:Str).length=1:=rfl
   show _<=2 ^ 24;omega
  have s2:(Txt.slice z none (some (a:Int))++(⟨#[c]⟩:Str)).length+(Txt.slice z (some (a:Int)) none).length<=sizeLine:=by
   have:(Txt.slice z none (some (a:Int))++(⟨#[c]⟩:Str)).length=(Txt.slice z none (some (a:Int))).length+1:=QR _ _
   show _<=2 ^ 24;omega
  have ih:=Qh cl z a ha h7 cs (acc++[YT z a c]) (.val (.str ⟨#[c]⟩)) (by simp;omega);simp![List.map_append,List.map_cons,List.map_nil,List.append_assoc,List.cons_append,List.nil_append,YT]at ih ⊢;simp?[JE,hs,hz,s1,s2,ih]
def qgb(n:Nat)(h:n<=4):qcr (Txt.slice "kcxq" none (some (n:Int)))=(([107,99,120,113]:List Nat).take n).map λc=>D.str ⟨#[c]⟩:=by unfold qcr;rw[qbO _ _ (by show n<=("kcxq" : Str).length;rw[show("kcxq" : Str).length=4 by decide+kernel];exact h),show("kcxq" : Str).cps.toList=[107,99,120,113] by decide+kernel]
def qgc{pg:Pg}[ZW pg][ZN pg](k:Nat)(c:Int)(n:Nat)(hn:2<=n/\n<=4):∃zs:List Str,clK pg (k+2) "_law_names" [.val (.int c),.val (.int (n:Int))]=.ok (.tmp (zs.map D.str))/\zs.length=n/\NamesOk zs/\∀y∈zs,∃c∈([107,99,120,113]:List Nat),c∈y.cps.toList:=by
 obtain⟨z,hw,h1,h7,hl⟩:=qi5 (pg:=pg) k c;have hp:(0:Int) < (z.length:Int)+1:=by omega
 obtain⟨a,ea⟩:∃a:Nat,c % ((z.length:Int)+1)=(a:Int):={(c % ((z.length:Int)+1)).toNat,by have:=Int.emod_nonneg c (show(z.length:Int)+1≠0 by omega);omega};have ha:a<=z.length:=by have:=Int.emod_lt_of_pos c hp;omega
 have hz:z.length<=sizeLine:=by show z.cps.size<=2 ^ 24;omega
 have cs:=Qh (pg.kk (k+1)) z a ha h7 (([107,99,120,113]:List Nat).take n) [] .no (by simp;omega);rw[List.map_nil,List.nil_append]at cs;have hk:("kcxq" : Str).length<=sizeLine:=(3:)
 have let4:∀x∈([107,99,120,113]:List Nat).take n,jZ x:=λx hx=>by
  have:=List.mem_of_mem_take hx
  unfold jZ;simp at this;omega
 refine{(([107,99,120,113]:List Nat).take n).map (YT z a),?_,by simp;omega,{by simp;omega,by simp;omega,λy hy=>?_,λi j y hi hj=>?_},λy hy=>?_}
 ·have sig:=qgb n hn.2;rw[r__law_names];have hs4:((([107,99,120,113]:List Nat).take n).map λc=>D.str ⟨#[c]⟩).length<=sizeLine:=qS (by simp;omega);simp?![Jv,hw,hz,hp,ea,hk,sig,hs4,qaz,List.getD_cons_succ,List.getD_cons_zero,cs]
 ·obtain⟨x,hx,rfl⟩:=List.mem_map.mp hy;exact qga ha h7 hl (let4 x hx)
 ·rw[List.getElem?_map]at hi hj;obtain⟨x,hx,ex⟩:=Option.map_eq_some_iff.mp hi;obtain⟨x',hx',ex'⟩:=Option.map_eq_some_iff.mp hj;have e:=qeo ha (ex.trans ex'.symm);subst e;have nd:(([107,99,120,113]:List Nat).take n).Nodup:=(List.take_sublist n _).nodup (2:);exact(List.getElem?_inj (List.getElem?_eq_some_iff.mp hx).1 nd).mp (hx.trans hx'.symm)
 ·obtain⟨x,hx,rfl⟩:=List.mem_map.mp hy;exact{x,List.mem_of_mem_take hx,by rw[jq ha];simp}
def kw:Kd->Int
 |.wi=>0
 |.si=>1
 |.ro=>2
def spD(r:Ru):D:=.tup [.int (kw r.kd),.lst (r.lands.map lnD),.int r.most,.int r.days]
def qmi(r:Ru):spD r=.tup [.int (kw r.kd),.lst (r.lands.map lnD),.int r.most,.int r.days]:=rfl
def mkR(r:Ru):Ru:=match r.kd with
 |.ro=>{ r with days:=1 }
 |_=>r
structure SpOk(r:Ru):Prop where
 nd:(r.lands.map (·.1)).Nodup
 l1:1<=r.lands.length
 l6:r.lands.length<=6
 ok:∀p∈r.lands,LnOk p
 m0:0<=r.most
 m1:r.most<=1000000000
 d0:1<=r.days
 d1:r.days<=1000000000
def SpOk.lands{r:Ru}(h:SpOk r):qB (r.lands.map lnD)=true:=qcD h.ok h.nd h.l1 h.l6
def qmj(r:Ru):(mkR r).lands=r.lands:=by obtain⟨kd,_,_,_⟩:=r;cases kd<;>rfl
def qgd(r:Ru):(mkR r).most=r.most:=by obtain⟨kd,_,_,_⟩:=r;cases kd<;>rfl
def qbP(r:Ru):(mkR r).days=match r.kd with |.ro=>1 |_=>r.days:=by obtain⟨kd,_,_,_⟩:=r;cases kd<;>rfl
def qmk{r:Ru}(h:SpOk r):(∀p∈(mkR r).lands,LnOk p)/\1<=(mkR r).days/\0<=(mkR r).most:=by
 have h1:=h.d0;refine{by rw[qmj];exact h.ok,?_,by rw[qgd];exact h.m0};rw[qbP]
 split<;>omega
def qml(n:Int):∃kd:Kd,n % 3=kw kd:=by
 have h0:0<=n % 3:=Int.emod_nonneg _ (2:);have h1:n % 3 < 3:=Int.emod_lt_of_pos _ (2:)
 by_cases a:n % 3=0
 ·exact{.wi,a}
 ·by_cases b:n % 3=1
  ·exact{.si,b}
  ·exact{.ro,by show n % 3=2;omega}
def at3(a b c d:D):atI [a,b,c,d] (3:Int)=some d:=(rfl)
theorem qi6{pg:Pg}[RU pg][ZR pg](k:Nat)(r:Ru)(h:SpOk r):clK pg (k+13) "_law_rule" [.val (spD r)]=.ok (.val (ruI (mkR r))):=by
 have hl:=h.lands;have h0:=h.m0;have h1:=h.m1;have h2:=h.d0;have h3:=h.d1;have hm:btw r.most 0 1000000000=true:=by unfold btw;simp;omega
 have hd:btw r.days 1 1000000000=true:=by unfold btw;simp;omega
 obtain⟨kd,lands,most,days⟩:=r;dsimp only at hl hm hd;rw[r__law_rule]
 cases kd with
 |wi=>
  have e:pg.nw (k+12) "Within" [.val (.lst (lands.map lnD)),.val (.int most),.val (.int days)]=.ok (.val (ruI ⟨.wi,lands,most,days⟩)):=by rw[RU.nw];show(if k+12 < 12 then R.no else qbG "Within" (if (qB (lands.map lnD)&&btw most 0 1000000000&&btw days 1 1000000000)=true then _ else none))=_;rw[if_neg QX,if_pos (by rw[hl,hm,hd];rfl)];rfl
  simp?![jB,spD,kw,mkR,qE,show((0:Int) == 0)=true by decide,at3,e]
 |si=>
  have e:pg.nw (k+12) "Since" [.val (.lst (lands.map lnD)),.val (.int most),.val (.int days)]=.ok (.val (ruI ⟨.si,lands,most,days⟩)):=by rw[RU.nw];show(if k+12 < 12 then R.no else qbG "Since" (if (qB (lands.map lnD)&&btw most 0 1000000000&&btw days 1 1000000000)=true then _ else none))=_;rw[if_neg QX,if_pos (by rw[hl,hm,hd];rfl)];rfl
  simp?![jB,spD,kw,mkR,qE,show((1:Int) == 0)=false by decide,show((1:Int) == 1)=true by decide,at3,e]
 |ro=>
  have e:pg.nw (k+12) "InRow" [.val (.lst (lands.map lnD)),.val (.int most)]=.ok (.val (ruI ⟨.ro,lands,most,1⟩)):=by rw[RU.nw];show(if k+12 < 12 then R.no else qbG "InRow" (if (qB (lands.map lnD)&&btw most 0 1000000000)=true then _ else none))=_;rw[if_neg QX,if_pos (by rw[hl,hm];rfl)];rfl
  simp?![jB,spD,kw,mkR,qE,show((2:Int) == 0)=false by decide,show((2:Int) == 1)=false by decide,e]
def qhk(a b:Int):a<=mx a b/\b<=mx a b/\(mx a b=a\/mx a b=b):=by
 unfold mx
 split<;>omega
def p6:(10:Int) ^ (6:Int).toNat=1000000:=by decide
def c6:(0:Int)<=6/\(6:Int)<=1000000/\(10:Int).natAbs < 2 ^ 64:=by decide
def wd(g:Bool):Int:=if g=true then 4000030 else 21
def qn8(g:Bool):21<=wd g/\(g=true->4000030<=wd g)/\wd g<=4000030:=by cases g<;>simp[wd]
def qmm(day n w:Int)(hw:21<=w):day<=day+n % 10/\day+n % 10<=day+n % 10+n / 10 % 12/\day+n % 10+n / 10 % 12 < day+w:=by
 have a:=Int.emod_nonneg n (show(10:Int)≠0 by decide);have b:=Int.emod_lt_of_pos n (show(0:Int) < 10 by decide);have c:=Int.emod_nonneg (n / 10) (show(12:Int)≠0 by decide);have d:=Int.emod_lt_of_pos (n / 10) (show(0:Int) < 12 by decide);generalize n % 10=x at *;generalize n / 10 % 12=y at *
 lia
def qn9(day n c w:Int)(hw:4000030<=w):day<=day+n % 10+c % 2 * 1000000+n / 360 % 1000000/\day+n % 10+c % 2 * 1000000+n / 360 % 1000000<=day+n % 10+c % 2 * 1000000+n / 360 % 1000000+n / 360 % 2 * 1000000+c % 1000000/\day+n % 10+c % 2 * 1000000+n / 360 % 1000000+n / 360 % 2 * 1000000+c % 1000000 < day+w:=by
 have p:∀x m:Int,0 < m->0<=x % m/\x % m < m:=λx m h=>{Int.emod_nonneg _ (Int.ne_of_gt h),Int.emod_lt_of_pos _ h};have a:=p n 10 (2:);have b:=p c 2 (2:);have d:=p (n / 360) 1000000 (2:);have e:=p (n / 360) 2 (2:);have f:=p c 1000000 (2:);clear p;generalize n % 10=x at *;generalize c % 2=y at *;generalize n / 360 % 1000000=z at *;generalize n / 360 % 2=u at *;generalize c % 1000000=v at *
 lia
def qoa{day f t w k:Int}(h0:0<=day)(h1:day+(k+w)<=1000000000)(h2:0<=k)(g1:day<=f)(g2:f<=t)(g3:t < day+w):0<=t+1/\t+1+k<=1000000000/\t < day+(k+w)/\day - 1 < f/\t<=1000000000/\0<=f/\∀u:Int,u < t+1+k->u < day+(k+w):={by lia,by lia,by lia,by lia,by lia,by lia,λu h=>by lia}
theorem jn(cl:Cl)(v0:Sl)(g:Bool)(zs:List Str)(hz:NamesOk zs):∀(cs:List Int) (acc:List St) (day:Int) (s5 s6 s7 s8:Sl),acc.length+cs.length < 10000->0<=day->day+wd g * (cs.length:Int)<=1000000000->
  ∃(l:List St) (N':List Sl),jP cl 1000 (.one 5) zW (cs.map D.int) [v0,.bor (zs.map D.str),.val (.bl g),.val (.int day),.own (acc.map stD),s5,s6,s7,s8]=.ok (.next (v0::.bor (zs.map D.str)::.val (.bl g)::(N'.headD .no)::.own ((acc++l).map stD)::N'.tail))/\Ch (day - 1) l/\l.length=cs.length/\(∀s∈l,s.1∈zs/\s.2.2 < day+wd g * (cs.length:Int))
 |[],acc,day,s5,s6,s7,s8,_,_,_=>{[],.val (.int day)::[s5,s6,s7,s8],by simp[jw],trivial,rfl,λs h=>(by cases h)}
 | c::cs,acc,day,s5,s6,s7,s8,hl,h0,h1=>by
  rw[List.length_cons]at hl h1;have e5:wd g * ((cs.length+1:Nat):Int)=wd g * (cs.length:Int)+wd g:=by rw[show((cs.length+1:Nat):Int)=(cs.length:Int)+1 from rfl,Int.mul_add,Int.mul_one]
  have w0:=qn8 g;have w2:0<=wd g * (cs.length:Int):=Int.mul_nonneg (by omega) (by omega);rw[e5]at h1;have hL:(0:Int) < (zs.length:Int):=by have:=hz.two;omega
  have mul:ZJ c 69621=true:=Jx (2:) (2:);generalize hN:c * 69621 % 2147483647=n;have hn:0<=n:=by rw[<-hN];exact Int.emod_nonneg _ (2:)
  obtain⟨z,e1,e2⟩:=QS (zs:=zs) (n / 840 % (zs.length:Int)) (Int.emod_nonneg _ (by omega)) (Int.emod_lt_of_pos _ hL);have hzm:z∈zs:=List.mem_of_getElem? e2;have hs:(acc.map stD).length < sizeLine:=by rw[List.length_map];exact qG (by omega)
  have three:0+1+1+1<=sizeLine:=(3:)
  have mul2:ZJ (c % 2) 1000000=true:=Jx (2:) (2:);have mul3:ZJ (n / 360 % 2) 1000000=true:=Jx (2:) (2:)
  obtain⟨f,t,⟨g1,g2,g3⟩,A⟩:∃f t:Int,(day<=f/\f<=t/\t < day+wd g)/\∀{M:Type} (K:Fl->R M),(iS cl 1000 (.ite (.and (.val (.var 2)) (.one (.cmp .Eq (.bin .Mod (.bin .FloorDiv (.var 6) (.con (D.int 120))) (.con (D.int 3))) (.con (D.int 1))))) %[.set 7 (.bin .Add (.bin .Add (.var 7) (.bin .Mult (.bin .Mod (.var 5) (.con (D.int 2))) (.bin .Pow (.con (D.int 10)) (.con (D.int 6))))) (.bin .Mod (.bin .FloorDiv (.var 6) (.con (D.int 360))) (.bin .Pow (.con (D.int 10)) (.con (D.int 6))))),.set 8 (.bin .Add (.bin .Add (.var 7) (.bin .Mult (.bin .Mod (.bin .FloorDiv (.var 6) (.con (D.int 360))) (.con (D.int 2))) (.bin .Pow (.con (D.int 10)) (.con (D.int 6))))) (.bin .Mod (.var 5) (.bin .Pow (.con (D.int 10)) (.con (D.int 6)))))|0] .nil) [v0,.bor (zs.map D.str),.val (.bl g),.val (.int day),.own (acc.map stD),.val (.int c),.val (.int n),.val (.int (day+n % 10)),.val (.int (day+n % 10+n / 10 % 12))]).th K=K (.next [v0,.bor (zs.map D.str),.val (.bl g),.val (.int day),.own (acc.map stD),.val (.int c),.val (.int n),.val (.int f),.val (.int t)]):=by
   cases hg:g with
   |false=>rw[hg]at w0;exact{_,_,qmm day n _ w0.1,λK=>by simp?![qE]}
   |true=>
    rw[hg]at w0;have w1:=w0.2.1 rfl
    cases hq:(n / 120 % 3 == 1) with
    |true=>exact{_,_,qn9 day n c _ w1,λK=>by simp?![mul2,mul3,qE,hq,p6,c6]}
    |false=>exact{_,_,qmm day n _ w0.1,λK=>by simp?![qE,hq]}
  obtain⟨x1,x2,x3,x4,x5,x6,x7⟩:=qoa h0 h1 w2 g1 g2 g3;obtain⟨l,N',i0,i1,i2,i3⟩:=jn cl v0 g zs hz cs (acc++[(z,f,t)]) (t+1) (.val (.int c)) (.val (.int n)) (.val (.int f)) (.val (.int t)) (by clear x1 x2 x3 x4 x5 x6 x7 g1 g2 g3 h1 w0 w2 e5;simp;lia) x1 x2;refine{(z,f,t)::l,N',?_,{{hz.ok z hzm,x4,g2,x5},by rw[show t+1 - 1=t from Int.add_sub_cancel t 1]at i1;exact i1},by rw[List.length_cons,i2,List.length_cons],λs hs=>?_}
  ·rw[show acc++(z,f,t)::l=acc++[(z,f,t)]++l by simp];simp![List.map_append,List.map_cons,List.map_nil,yn]at i0 ⊢;simp?[↓A,JF,mul,hN,e1,Ym,hL,three,hs,i0]
  ·rw[List.length_cons,e5];rcases List.mem_cons.mp hs with rfl|hs
   ·exact⟨hzm,x3⟩
   ·exact{(i3 s hs).1,x7 _ (i3 s hs).2}
def qep{pg:Pg}[ZT pg](k:Nat)(b g:Bool)(cs:List Int)(hl:cs.length < 1000)(zs:List Str)(hz:NamesOk zs)(day:Int)(h0:0<=day)(h1:day+wd g * (cs.length:Int)<=1000000000) :
  ∃l:List St,clK pg (k+1) "_law_stays" [aL b (cs.map D.int),.bor (zs.map D.str),.val (.bl g),.val (.int day)]=.ok (.tmp (l.map stD))/\Ch (day - 1) l/\l.length=cs.length/\(∀s∈l,s.1∈zs/\s.2.2 < day+wd g * (cs.length:Int)):=by
 obtain⟨l,N',e,e1,e2,e3⟩:=jn (pg.kk k) (pS b (cs.map D.int)) g zs hz cs [] day .no .no .no .no (by simp;omega) h0 h1;refine{l,?_,e1,e2,e3};rw[List.map_nil,List.nil_append]at e;rw[r__law_stays];simp?![Jw,show(0:Nat)<=sizeLine by decide+kernel,e]
def qge{pg:Pg}[ZT pg](k:Nat)(g:Bool)(cs:List Int)(hl:cs.length < 1000)(zs:List Str)(hz:NamesOk zs)(day:Int)(h0:0<=day)(h1:day+wd g * (cs.length:Int)<=1000000000) :
  ∃l:List St,clK pg (k+1) "_law_stays" [.val (.lst (cs.map D.int)),.bor (zs.map D.str),.val (.bl g),.val (.int day)]=.ok (.tmp (l.map stD))/\Ch (day - 1) l/\l.length=cs.length/\(∀s∈l,s.1∈zs/\s.2.2 < day+wd g * (cs.length:Int)):=qep k false g cs hl zs hz day h0 h1
structure PpOk(m:Int)(p:Pa):Prop where
 o0:0<=p.1
 o1:p.1 < m
 a0:0<=p.2.1
 ab:p.2.1<=p.2.2
 b1:p.2.2<=1000000000
theorem zH(cl:Cl)(v0:Sl)(m long day:Int)(hm:0 < m)(h0:0<=day)(hl0:0<=long)(hl1:day+long+long / 4<=1000000000):∀(cs:List Int) (acc:List Pa) (s5 s6 s7:Sl),acc.length+cs.length < 10000->
  ∃(l:List Pa) (N':List Sl),jP cl 1000 (.one 5) zG (cs.map D.int) [v0,.val (.int m),.val (.int day),.val (.int long),.own (acc.map paD),s5,s6,s7]=.ok (.next (v0::.val (.int m)::.val (.int day)::.val (.int long)::.own ((acc++l).map paD)::N'))/\l.length=cs.length/\∀p∈l,PpOk m p/\p.2.2<=day+long+long / 4
 |[],acc,s5,s6,s7,_=>{[],[s5,s6,s7],by simp[jw],rfl,λs h=>(by cases h)}
 | c::cs,acc,s5,s6,s7,hl=>by
  rw[List.length_cons]at hl;have mul:ZJ c 16807=true:=Jx (2:) (2:);generalize hN:c * 16807 % 2147483629=n;have hn:0<=n:=by rw[<-hN];exact Int.emod_nonneg _ (2:)
  have hx:(0:Int) < mx 1 long:=by have:=qhk 1 long;omega
  have hx2:mx 1 long<=long+1:=by have:=qhk 1 long;omega
  have hq:(0:Int) < 1+long / 4:=by omega
  have a0:0<=n / 8 % mx 1 long:=Int.emod_nonneg _ (by omega);have a1:n / 8 % mx 1 long < mx 1 long:=Int.emod_lt_of_pos _ hx;have b0:0<=n / 64 % (1+long / 4):=Int.emod_nonneg _ (by omega);have b1:n / 64 % (1+long / 4) < 1+long / 4:=Int.emod_lt_of_pos _ hq;have o0:0<=n % m:=Int.emod_nonneg _ (by omega);have o1:n % m < m:=Int.emod_lt_of_pos _ hm;obtain⟨l,N',i0,i1,i2⟩:=zH cl v0 m long day hm h0 hl0 hl1 cs (acc++[(n % m,day+n / 8 % mx 1 long,day+n / 8 % mx 1 long+n / 64 % (1+long / 4))]) (.val (.int c)) (.val (.int n)) (.val (.int (day+n / 8 % mx 1 long))) (by simp;omega);refine{(n % m,day+n / 8 % mx 1 long,day+n / 8 % mx 1 long+n / 64 % (1+long / 4))::l,N',?_,by rw[List.length_cons,i1,List.length_cons],λp hp=>?_}
  ·have hs:(acc.map paD).length < sizeLine:=by rw[List.length_map];exact qG (by omega)
   have three:0+1+1+1<=sizeLine:=(3:)
   have mxr:(if long > 1 then long else 1)=mx 1 long:=rfl;simp![List.map_append,List.map_cons,List.map_nil,List.append_assoc,List.cons_append,List.nil_append,zi]at i0 ⊢;simp?[Jk,mul,hN,hm,hx,hq,three,hs,mxr,i0]
  ·rcases List.mem_cons.mp hp with rfl|hp
   ·exact{{o0,o1,by dsimp only;omega,by dsimp only;omega,by dsimp only;omega},by dsimp only;omega}
   ·exact i2 p hp
def qeq{pg:Pg}[ZP pg](k:Nat)(b:Bool)(m long day:Int)(hm:0 < m)(h0:0<=day)(hl0:0<=long)(hl1:day+long+long / 4<=1000000000)(cs:List Int)(hl:cs.length < 1000) :
  ∃l:List Pa,clK pg (k+1) "_law_papers" [.val (.lst (cs.map D.int)),.val (.int m),.val (.int day),.val (.int long)]=.ok (.tmp (l.map paD))/\l.length=cs.length/\∀p∈l,PpOk m p/\p.2.2<=day+long+long / 4:=by
 obtain⟨l,N',e,e1,e2⟩:=zH (pg.kk k) (.val (.lst (cs.map D.int))) m long day hm h0 hl0 hl1 cs [] .no .no .no (by simp;omega);refine{l,?_,e1,e2};rw[List.map_nil,List.nil_append]at e;rw[r__law_papers];simp?![y3,show(0:Nat)<=sizeLine by decide+kernel,e]
end FZ
namespace DG
open PySem DE FA Dy
open L2 hiding St
def Spr.tail{p:Pr}{l:List Pr}(h:Spr (p::l)):Spr l:={λq hq=>h.ok q (by simp[hq]),(List.pairwise_cons.mp h.gap).2}
def qT{p:Pr}{l:List Pr}{d:Int}:Day (p::l) d↔(p.1<=d/\d<=p.2)\/Day l d:=by
 unfold Day;constructor
 ·rintro⟨q,hq,h⟩;rcases List.mem_cons.mp hq with rfl|hq
  ·exact .inl h
  ·exact .inr ⟨q,hq,h⟩
 ·rintro (h|⟨q,hq,h⟩)
  ·exact{p,by simp,h}
  ·exact{q,by simp[hq],h}
def Yy{d:Int}:¬ Day [] d:=λ⟨_,h,_⟩=>by cases h
structure Apart(l:List Pr):Prop where
 ok:∀p∈l,p.1<=p.2
 ap:l.Pairwise λp q=>p.2+1 < q.1
structure OutOk(b:Int)(l:List Pr)(F:List Pr)(b':Int):Prop where
 apart:Apart F
 lo:∀x∈F,b<=x.1
 hi:∀x∈F,x.2+1 < b'
 le:b<=b'
 day:∀d,b<=d->d < b'->(Day F d↔¬ Day l d)
 end_:∀d,b'<=d->¬ Day l d
theorem qhl:∀(l:List Pr) (b:Int),Spr l->OutOk b l (JH b l).1 (JH b l).2
 |[],b,_=>{{λ_ h=>(by cases h),List.Pairwise.nil},λ_ h=>(by cases h),λ_ h=>(by cases h),Int.le_refl _,λd h1 h2=>by dsimp only[JH]at h2;lia,λd _=>Yy}
 | t::l,b,hS=>by
  have hS':=Spr.tail hS;have ht:=hS.ok t (5:);have hg:=(List.pairwise_cons.mp hS.gap).1;have hlow:∀d,Day l d->t.2+2<=d:=λd ⟨q,hq,h1,_⟩=>by have:=hg q hq;lia
  have ih:=qhl l (mx b (t.2+1)) hS';have hm:=qcE b (t.2+1);rw[JH];generalize hb1:mx b (t.2+1)=b1 at *;have hle:=ih.le
  have hb:b<=b1/\t.2+1<=b1/\(b1=b\/b1=t.2+1):=by
   rcases Int.le_total b (t.2+1) with q|q
   ·have:=hm.1 q;lia
   ·have:=hm.2 q;lia
  generalize (JH b1 l).1=F at *;generalize (JH b1 l).2=b' at *;dsimp only
  by_cases hc:b < t.1
  ·rw[if_pos hc];refine{{λx hx=>?_,?_},λx hx=>?_,λx hx=>?_,by lia,λd h1 h2=>?_,λd h1=>?_}
   ·rcases List.mem_cons.mp hx with rfl|hx
    ·dsimp only;lia
    ·exact ih.apart.ok x hx
   ·refine List.pairwise_cons.mpr ⟨λx hx=>?_,ih.apart.ap⟩
    have:=ih.lo x hx
    dsimp only
    lia
   ·rcases List.mem_cons.mp hx with rfl|hx
    ·dsimp only;lia
    ·have:=ih.lo x hx;lia
   ·rcases List.mem_cons.mp hx with rfl|hx
    ·dsimp only;lia
    ·exact ih.hi x hx
   ·show Day ((b,t.1 - 1)::F) d↔_;rw[qT,qT]
    by_cases q:d < b1
    ·have n1:¬ Day F d:=λ⟨x,hx,h3,_⟩=>by have:=ih.lo x hx;lia
     have n2:¬ Day l d:=λz=>by have:=hlow d z;lia
     dsimp only;constructor
     ·rintro (z|z)
      ·rintro (y|y)
       ·lia
       ·exact n2 y
      ·exact absurd z n1
     ·intro z;left;refine{h1,?_}
      by_cases y:t.1<=d
      ·exact absurd (.inl ⟨y,by lia⟩) z
      ·lia
    ·have:=ih.day d (1:) h2
     rw[this];dsimp only;constructor
     ·rintro (z|z)
      ·lia
      ·rintro (y|y)
       ·lia
       ·exact z y
     ·intro z;exact .inr λy=>z (.inr y)
   ·rw[qT];rintro (z|z)
    ·lia
    ·exact ih.end_ d h1 z
  ·rw[if_neg hc,List.nil_append];refine{ih.apart,λx hx=>by have:=ih.lo x hx;lia,ih.hi,by lia,λd h1 h2=>?_,λd h1=>?_}
   ·rw[qT]
    by_cases q:d < b1
    ·have n1:¬ Day F d:=λ⟨x,hx,h3,_⟩=>by have:=ih.lo x hx;lia
     constructor
     ·intro z;exact absurd z n1
     ·intro z;exact absurd (.inl ⟨by lia,by lia⟩) z
    ·rw[ih.day d (1:) h2];constructor
     ·intro z;rintro (y|y)
      ·lia
      ·exact z y
     ·intro z y;exact z (.inr y)
   ·rw[qT];rintro (z|z)
    ·lia
    ·exact ih.end_ d h1 z
def qcJ{l:List Pr}(h:Spr l)(f t:Int):Apart (qM l f t)/\(∀x∈qM l f t,f<=x.1)/\∀d,f<=d->d<=t->(Day (qM l f t) d↔¬ Day l d):=by
 have o:=qhl l f h;have hle:=o.le;unfold qM;generalize (JH f l).1=F at *;generalize (JH f l).2=b at *
 by_cases hc:b<=t
 ·rw[if_pos hc];refine{{λx hx=>?_,?_},λx hx=>?_,λd h1 h2=>?_}
  ·rcases List.mem_append.mp hx with q|q
   ·exact o.apart.ok x q
   ·rw[List.mem_singleton.mp q];exact hc
  ·refine List.pairwise_append.mpr ⟨o.apart.ap,by simp,λx hx y hy=>?_⟩;rw[List.mem_singleton.mp hy];exact o.hi x hx
  ·rcases List.mem_append.mp hx with q|q
   ·exact o.lo x q
   ·rw[List.mem_singleton.mp q];exact hle
  ·rw[Jl,QU]
   by_cases q:d < b
   ·rw[<-o.day d h1 q];dsimp only;constructor
    ·rintro (z|z)
     ·exact z
     ·lia
    ·exact .inl
   ·have n:=o.end_ d (1:);constructor
    ·intro _;exact n
    ·intro _;exact .inr ⟨by dsimp only;lia,h2⟩
 ·rw[if_neg hc,List.append_nil];exact{o.apart,o.lo,λd h1 h2=>o.day d h1 (1:)}
theorem qmn(p:Pr)(hp:p.1<=p.2):∀(n:Nat) (B:List Pr),B.length < n->Apart B->Apart (jo n [p] B)/\(∀x∈jo n [p] B,p.1<=x.1/\x.2<=p.2/\∃q∈B,q.1<=x.1/\x.2<=q.2)/\∀d,Day (jo n [p] B) d↔(p.1<=d/\d<=p.2)/\Day B d
 |0,B,h,_=>by lia
 | n+1,[],_,_=>{{λ_ h=>(by cases h),List.Pairwise.nil},λ_ h=>(by cases h),λd=>{λz=>absurd z Yy,λz=>absurd z.2 Yy}}
 | n+1,q::B,h,hA=>by
  rw[List.length_cons]at h;have hq:=hA.ok q (5:);have hg:=(List.pairwise_cons.mp hA.ap);have hlow:∀d,Day B d->q.2 < d:=λd ⟨x,hx,h1,_⟩=>by have:=hg.1 x hx;lia
  have m1:=qcE p.1 q.1;have m2:=JG p.2 q.2;rw[jo]
  have hm1:p.1<=mx p.1 q.1/\q.1<=mx p.1 q.1/\(mx p.1 q.1=p.1\/mx p.1 q.1=q.1):=by
   rcases Int.le_total p.1 q.1 with z|z
   ·have:=m1.1 z;lia
   ·have:=m1.2 z;lia
  have hm2:mn p.2 q.2<=p.2/\mn p.2 q.2<=q.2/\(mn p.2 q.2=p.2\/mn p.2 q.2=q.2):=by
   rcases Int.le_total p.2 q.2 with z|z
   ·have:=m2.1 z;lia
   ·have:=m2.2 z;lia
  generalize mx p.1 q.1=a at *;generalize mn p.2 q.2=b at *
  obtain⟨R,hR,r1,r2,r3⟩:∃R,(if p.2 < q.2 then jo n [] (q::B) else jo n [p] B)=R/\Apart R/\(∀x∈R,p.1<=x.1/\x.2<=p.2/\(∃y∈q::B,y.1<=x.1/\x.2<=y.2)/\b+1 < x.1)/\∀d,Day R d↔(p.1<=d/\d<=p.2)/\Day B d:=by
   by_cases hd:p.2 < q.2
   ·rw[if_pos hd];have e:jo n [] (q::B)=[]:=by cases n<;>rfl
    rw[e];exact{[],rfl,{λ_ h=>(by cases h),List.Pairwise.nil},λ_ h=>(by cases h),λd=>{λz=>absurd z Yy,λz=>by have:=hlow d z.2;lia}}
   ·rw[if_neg hd];obtain⟨i1,i2,i3⟩:=qmn p hp n B (1:) ⟨λx hx=>hA.ok x (by simp[hx]),hg.2⟩;refine{_,rfl,i1,λx hx=>?_,i3};obtain⟨j1,j2,y,hy,j3,j4⟩:=i2 x hx
    have:=hg.1 y hy
    exact{j1,j2,{y,by simp[hy],j3,j4},by lia}
  rw[hR]
  by_cases hc:a<=b
  ·rw[if_pos hc];refine{{λx hx=>?_,?_},λx hx=>?_,λd=>?_}
   ·rcases List.mem_cons.mp hx with rfl|hx
    ·exact hc
    ·exact r1.ok x hx
   ·exact List.pairwise_cons.mpr ⟨λx hx=>(r2 x hx).2.2.2,r1.ap⟩
   ·rcases List.mem_cons.mp hx with rfl|hx
    ·exact{by dsimp only;lia,by dsimp only;lia,q,by simp,by dsimp only;lia,by dsimp only;lia}
    ·exact{(r2 x hx).1,(r2 x hx).2.1,(r2 x hx).2.2.1}
   ·show Day ((a,b)::R) d↔_;rw[qT,qT,r3];dsimp only;constructor
    ·rintro (z|z)
     ·exact{by lia,.inl (1:)}
     ·exact{z.1,.inr z.2}
    ·rintro⟨z,y|y⟩
     ·left;lia
     ·exact .inr ⟨z,y⟩
  ·rw[if_neg hc,List.nil_append];refine{r1,λx hx=>{(r2 x hx).1,(r2 x hx).2.1,(r2 x hx).2.2.1},λd=>?_};rw[qT,r3];constructor
   ·intro z;exact{z.1,.inr z.2}
   ·rintro⟨z,y|y⟩
    ·lia
    ·exact⟨z,y⟩
def qi7{l:List Pr}(h:Spr l)(hl:l.length < 900){p:Pr}(hp:p.1<=p.2):Apart (yB p l)/\(∀x∈yB p l,p.1<=x.1/\x.2<=p.2)/\∀d,Day (yB p l) d↔(p.1<=d/\d<=p.2)/\¬ Day l d:=by
 obtain⟨o1,o2,o3⟩:=qcJ h p.1 p.2;obtain⟨b1,b2,b3⟩:=qmn p hp 1000 (qM l p.1 p.2) (by have:=yC l p.1 p.2;lia) o1;refine{b1,λx hx=>{(b2 x hx).1,(b2 x hx).2.1},λd=>?_};unfold yB;rw[b3];constructor
 ·rintro⟨z,y⟩;exact{z,(o3 d z.1 z.2).mp y}
 ·rintro⟨z,y⟩;exact{z,(o3 d z.1 z.2).mpr y}
def inP(p:Pa)(d:Int):Prop:=p.1<=d/\d<=p.2.1
instance (p:Pa)(d:Int):Decidable (inP p d):=by unfold inP;infer_instance
def ind(p:Pa)(d:Int):Int:=if inP p d then p.2.2 else 0
def pf:List Pa->Int->Int
 |[],_=>0
 | p::l,d=>if inP p d then p.2.2 else pf l d
structure PcOk(L:List Pa):Prop where
 ok:∀p∈L,p.1<=p.2.1/\1<=p.2.2/\p.2.2<=9
 ap:L.Pairwise λp q=>p.2.1 < q.1
def PcOk.tail{p:Pa}{l:List Pa}(h:PcOk (p::l)):PcOk l:={λq hq=>h.ok q (by simp[hq]),(List.pairwise_cons.mp h.ap).2}
def PcOk.w{L:List Pa}(h:PcOk L):WOk L:=λp hp=>(h.ok p hp).2
theorem qN{L:List Pa}{d:Int}(h:∀p∈L,¬ inP p d):pf L d=0:=by
 induction L with
 |nil=>rfl
 |cons p l ih=>rw[pf,if_neg (h p (5:))];exact ih λq hq=>h q (by simp[hq])
theorem qhm{a b:List Pa}{d:Int}:pf (a++b) d=if ∃p∈a,inP p d then pf a d else pf b d:=by
 induction a with
 |nil=>simp
 |cons p l ih=>
  rw[List.cons_append,pf]
  by_cases h:inP p d
  ·rw[if_pos h,if_pos ⟨p,by simp,h⟩,pf,if_pos h]
  ·rw[if_neg h,ih]
   by_cases g:∃q∈l,inP q d
   ·rw[if_pos g,if_pos (by obtain⟨q,hq,hh⟩:=g;exact{q,by simp[hq],hh}),pf,if_neg h]
   ·rw[if_neg g,if_neg];rintro⟨q,hq,hh⟩;rcases List.mem_cons.mp hq with rfl|hq
    ·exact h hh
    ·exact g ⟨q,hq,hh⟩
theorem zX{L:List Pa}(hL:PcOk L){p:Pa}(hp:p∈L){d:Int}(h:inP p d):pf L d=p.2.2:=by
 induction L with
 |nil=>cases hp
 |cons q l ih=>
  rw[pf];rcases List.mem_cons.mp hp with rfl|hp
  ·rw[if_pos h]
  ·have:=(List.pairwise_cons.mp hL.ap).1 p hp
   rw[if_neg (λz=>by unfold inP at *;lia)];exact ih hL.tail hp
def qob{L:List Pa}(hL:PcOk L)(d:Int):0<=pf L d:=by
 by_cases h:∃p∈L,inP p d
 ·obtain⟨p,hp,hd⟩:=h;rw[zX hL hp hd]
  have:=(hL.ok p hp).2.1
  lia
 ·rw[qN λp hp hd=>h ⟨p,hp,hd⟩];exact Int.le_refl _
def qgf{L:List Pa}{d:Int}(h:pf L d≠0):∃p∈L,inP p d:=by
 by_cases q:∃p∈L,inP p d
 ·exact q
 ·exact absurd (qN λp hp hd=>q ⟨p,hp,hd⟩) h
theorem qi8{l:List (Str×Int)}(h:∀p∈l,LnOk p)(o:Option Str):wt l o<=9:=by
 induction l with
 |nil=>show(0:Int)<=9;decide
 |cons p l ih=>
  unfold wt;split
  ·exact(h p (5:)).nine
  ·exact ih λq hq=>h q (by simp[hq])
instance dayDec(F:List Pr)(d:Int):Decidable (Day F d):=decidable_of_iff _ QV
theorem qmo(w:Int)(F:List Pr)(d:Int):pf (F.map (Q3 w)) d=if Day F d then w else 0:=by
 induction F with
 |nil=>rw[if_neg Yy];rfl
 |cons p l ih=>
  rw[List.map_cons,pf,ih]
  by_cases h:p.1<=d/\d<=p.2
  ·rw[if_pos (show inP (Q3 w p) d from h),if_pos (qT.mpr (.inl h))];rfl
  ·rw[if_neg (show ¬ inP (Q3 w p) d from h)]
   by_cases g:Day l d
   ·rw[if_pos g,if_pos (qT.mpr (.inr g))]
   ·rw[if_neg g,if_neg (λz=>(qT.mp z).elim h g)]
def Chw:Int->List St->Prop
 |_,[]=>True
 | e,s::l=>(e < s.2.1/\s.2.1<=s.2.2)/\Chw s.2.2 l
theorem Ch.w:∀{l:List St} {e:Int},Ch e l->Chw e l
 |[],_,_=>trivial
 | _::_,_,h=>{⟨h.1.lo,h.1.ab⟩,Ch.w h.2}
theorem Chw.snoc:∀{l:List St} {e:Int} {s:St},Chw e l->(∀t∈l,t.2.2 < s.2.1)->e < s.2.1->s.2.1<=s.2.2->Chw e (l++[s])
 |[],_,_,_,_,h1,h2=>{⟨h1,h2⟩,trivial}
 | t::l,_,s,h,h0,_,h2=>{h.1,Chw.snoc h.2 (λu hu=>h0 u (by simp[hu])) (h0 t (5:)) h2}
theorem Yz{r:Ru}(hr:∀p∈r.lands,LnOk p){lf:List Pr}(hS:Spr lf)(hl:lf.length < 900):∀(st:List St) (e:Int),Chw e st->PcOk (qu r lf st)/\(∀p∈qu r lf st,e < p.1)/\∀d,pf (qu r lf st) d=wgt r lf st d
 |[],e,_=>{{λ_ h=>(by cases h),List.Pairwise.nil},λ_ h=>(by cases h),λd=>(QY rfl).symm}
 | s::st,e,hc=>by
  obtain⟨i1,i2,i3⟩:=Yz hr hS hl st s.2.2 hc.2;have h1:=hc.1.1;have h2:=hc.1.2;obtain⟨l1,l2,l3⟩:=qi7 hS hl (p:=(s.2.1,s.2.2)) h2;have w9:=qi8 hr (some s.1)
  have one:PcOk (qJ r lf s)/\(∀p∈qJ r lf s,s.2.1<=p.1/\p.2.1<=s.2.2)/\∀d,pf (qJ r lf s) d=if (s.2.1<=d/\d<=s.2.2)/\¬ Day lf d then wt r.lands (some s.1) else 0:=by
   unfold qJ
   by_cases hw:0 < wt r.lands (some s.1)
   ·rw[if_pos hw];refine{{λp hp=>?_,?_},λp hp=>?_,λd=>?_}
    ·obtain⟨x,hx,rfl⟩:=List.mem_map.mp hp;exact{l1.ok x hx,hw,w9}
    ·exact List.pairwise_map.mpr (l1.ap.imp λq=>by dsimp only[Q3];lia)
    ·obtain⟨x,hx,rfl⟩:=List.mem_map.mp hp;exact l2 x hx
    ·rw[qmo]
     by_cases g:Day (yB (s.2.1,s.2.2) lf) d
     ·rw[if_pos g,if_pos ((l3 d).mp g)]
     ·rw[if_neg g,if_neg (λz=>g ((l3 d).mpr z))]
   ·rw[if_neg hw];refine{{λ_ h=>(by cases h),List.Pairwise.nil},λ_ h=>(by cases h),λd=>?_}
    have:wt r.lands (some s.1)=0:=by have:=qi2 hr (some s.1);lia
    rw[this];simp[pf]
  obtain⟨o1,o2,o3⟩:=one;rw[qu];refine{{λp hp=>?_,?_},λp hp=>?_,λd=>?_}
  ·rcases List.mem_append.mp hp with q|q
   ·exact o1.ok p q
   ·exact i1.ok p q
  ·refine List.pairwise_append.mpr ⟨o1.ap,i1.ap,λx hx y hy=>?_⟩
   have:=(o2 x hx).2
   have:=i2 y hy
   lia
  ·rcases List.mem_append.mp hp with q|q
   ·have:=(o2 p q).1;lia
   ·have:=i2 p q;lia
  ·rw[qhm]
   by_cases hd:s.2.1<=d/\d<=s.2.2
   ·have n:pf (qu r lf st) d=0:=qN λp hp z=>by have:=i2 p hp;unfold inP at z;lia
    have e1:(if ∃p∈qJ r lf s,inP p d then pf (qJ r lf s) d else pf (qu r lf st) d)=pf (qJ r lf s) d:=by
     split
     ·rfl
     ·rename_i g;rw[n,qN λp hp hz=>g ⟨p,hp,hz⟩]
    rw[e1,o3];unfold wgt qH;rw[if_pos hd]
    by_cases g:Day lf d
    ·rw[if_neg (λz=>z.2 g),if_pos (QV.mpr g)]
    ·rw[if_pos ⟨hd,g⟩,if_neg (λz=>g (QV.mp z))]
   ·rw[if_neg (λ⟨p,hp,z⟩=>by have:=o2 p hp;unfold inP at z;lia),i3];unfold wgt;rw[show qH (s::st) d=qH st d by conv=>lhs;unfold qH;rw[if_neg hd]]
def Qi(f t:Int)(p:Pa):Int:=if 0 < mn p.2.1 t - mx p.1 f+1 then (mn p.2.1 t - mx p.1 f+1) * p.2.2 else 0
def zK(f t:Int):List Pa->Int
 |[]=>0
 | p::l=>Qi f t p+zK f t l
theorem YA(f t:Int):∀(l:List Pa) (a:Int),qhg f t l a=a+zK f t l
 |[],a=>by simp[qhg,zK]
 | p::l,a=>by
  rw[qhg,YA f t l,zK];unfold Qi
  split<;>lia
theorem qbQ(f t:Int):∀a b:List Pa,zK f t (a++b)=zK f t a+zK f t b
 |[],b=>by simp[zK]
 | p::a,b=>by rw[List.cons_append,zK,zK,qbQ f t a b];lia
theorem y6(f t:Int):∀l:List Pa,zK f t l.reverse=zK f t l
 |[]=>rfl
 | p::l=>by rw[List.reverse_cons,qbQ,y6 f t l,zK,zK,zK];lia
theorem qhn(p:Pa)(hp:p.1<=p.2.1)(f:Int):∀n:Nat,(ws (ind p) f n).sum=Qi f (f+n - 1) p
 |0=>by
  have m1:=qcE p.1 f;have m2:=JG p.2.1 (f+(0:Nat) - 1);unfold Qi;rw[if_neg]
  ·simp[ws]
  ·rcases Int.le_total p.1 f with z|z<;>rcases Int.le_total p.2.1 (f+(0:Nat) - 1) with y|y
   ·have:=m1.1 z;have:=m2.1 y;lia
   ·have:=m1.1 z;have:=m2.2 y;lia
   ·have:=m1.2 z;have:=m2.1 y;lia
   ·have:=m1.2 z;have:=m2.2 y;lia
 | n+1=>by
  rw[Ys,qhn p hp f n];have m1:=qcE p.1 f;have m2:=JG p.2.1 (f+(n:Int) - 1);have m3:=JG p.2.1 (f+((n+1:Nat):Int) - 1);have e:f+((n+1:Nat):Int) - 1=f+n:=by lia
  rw[e]at m3 ⊢;unfold Qi ind
  have hm1:p.1<=mx p.1 f/\f<=mx p.1 f/\(mx p.1 f=p.1\/mx p.1 f=f):=by
   rcases Int.le_total p.1 f with z|z
   ·have:=m1.1 z;lia
   ·have:=m1.2 z;lia
  generalize mx p.1 f=a at *
  by_cases h1:f+(n:Int) < p.1
  ·rw[if_neg (c:=inP p (f+(n:Int))) (λz=>by unfold inP at z;lia)]
   have:=m2.2 (1:)
   have:=m3.2 (1:)
   rw[if_neg (1:),if_neg (1:)];rfl
  ·by_cases h2:p.2.1 < f+(n:Int)
   ·rw[if_neg (c:=inP p (f+(n:Int))) (λz=>by unfold inP at z;lia)];have a1:=m2.1 (1:);have a2:=m3.1 (1:);rw[a1,a2]
    lia
   ·rw[if_pos (c:=inP p (f+(n:Int))) ⟨by lia,by lia⟩];have a1:=m2.2 (1:);have a2:=m3.2 (1:);rw[a1,a2];have hpos:0 < f+(n:Int) - a+1:=by lia
    rw[if_pos hpos]
    by_cases h3:0 < f+(n:Int) - 1 - a+1
    ·rw[if_pos h3,show f+(n:Int) - a+1=(f+(n:Int) - 1 - a+1)+1 by lia];generalize f+(n:Int) - 1 - a+1=k;rw[Int.add_mul,Int.one_mul]
    ·rw[if_neg h3,show f+(n:Int) - a+1=1 by lia,Int.one_mul]
     lia
theorem qho{f g h:Int->Int}:∀(n:Nat) (lo:Int),(∀x,f x=g x+h x)->(ws f lo n).sum=(ws g lo n).sum+(ws h lo n).sum
 |0,_,_=>by simp[ws]
 | n+1,lo,e=>by
  rw[ws,ws,ws,List.sum_cons,List.sum_cons,List.sum_cons,qho n (lo+1) e,e lo]
  lia
theorem qmp{L:List Pa}(hL:PcOk L)(f:Int)(n:Nat):(ws (pf L) f n).sum=zK f (f+n - 1) L:=by
 induction L with
 |nil=>rw[zK];exact QZ n f λx _ _=>rfl
 |cons p l ih=>
  have hp:=(hL.ok p (5:)).1;rw[zK,<-qhn p hp,<-ih hL.tail];refine qho n f λx=>?_;rw[pf];unfold ind
  by_cases h:inP p x
  ·rw[if_pos h,if_pos h,qN λq hq z=>by have:=(List.pairwise_cons.mp hL.ap).1 q hq;unfold inP at *;lia]
   lia
  ·rw[if_neg h,if_neg h]
   lia
def chn(leave d:Int):List Pa->Int->Int
 |[],_=>0
 | p::R,f=>if p.1<=d then (if leave<=f - 1 - mn p.2.1 d then 0 else (mn p.2.1 d - p.1+1) * p.2.2+chn leave d R p.1) else chn leave d R f
structure RvOk(R:List Pa):Prop where
 ok:∀p∈R,p.1<=p.2.1
 ap:R.Pairwise λp q=>q.2.1 < p.1
def RvOk.of{L:List Pa}(h:PcOk L):RvOk L.reverse:={λp hp=>(h.ok p (-hp:)).1,List.pairwise_reverse.mpr h.ap}
def RvOk.tail{p:Pa}{R:List Pa}(h:RvOk (p::R)):RvOk R:={λq hq=>h.ok q (by simp[hq]),(List.pairwise_cons.mp h.ap).2}
def qcK(a b:Int):mn a b<=a/\mn a b<=b/\(mn a b=a\/mn a b=b):=by
 unfold mn
 split<;>lia
def qaZ(a b:Int):a<=mx a b/\b<=mx a b/\(mx a b=a\/mx a b=b):=by
 unfold mx
 split<;>lia
theorem qah{f t:Int}:∀{R:List Pa},(∀p∈R,p.2.1 < f)->zK f t R=0
 |[],_=>rfl
 | p::R,h=>by rw[zK,qah λq hq=>h q (by simp[hq])];have h0:=h p (5:);have h1:=qcK p.2.1 t;have h2:=qaZ p.1 f;unfold Qi;rw[if_neg (1:)];rfl
theorem qer{leave d:Int}(hl:1<=leave):∀(R:List Pa) (f:Int),RvOk R->(d < f\/∀p∈R,p.2.1 < f)->fsF leave d R f<=f/\zK (fsF leave d R f) d R=chn leave d R f
 |[],f,_,_=>{Int.le_refl _,rfl}
 | p::R,f,hR,hf=>by
  have hp:=hR.ok p (5:);have hg:=(List.pairwise_cons.mp hR.ap).1;have hm:=qcK p.2.1 d;rw[fsF,chn,zK]
  by_cases h1:p.1<=d
  ·rw[if_pos h1,if_pos h1]
   by_cases h2:leave<=f - 1 - mn p.2.1 d
   ·rw[if_pos h2,if_pos h2];refine{Int.le_refl _,?_};rw[qah λq hq=>by have:=hg q hq;lia]
    have:=qaZ p.1 f
    unfold Qi;rw[if_neg (1:)];rfl
   ·rw[if_neg h2,if_neg h2];obtain⟨i1,i2⟩:=qer (d:=d) hl R p.1 hR.tail (.inr hg)
    have hlt:p.1<=f:=by
     rcases hf with q|q
     ·lia
     ·have:=q p (5:);lia
    refine{by lia,?_};rw[i2]
    have:=qaZ p.1 (fsF leave d R p.1)
    have e:mx p.1 (fsF leave d R p.1)=p.1:=by lia
    unfold Qi;rw[e,if_pos (1:)]
  ·rw[if_neg h1,if_neg h1];obtain⟨i1,i2⟩:=qer hl R f hR.tail (hf.imp id λq x hx=>q x (by simp[hx]));refine{i1,?_};rw[i2]
   have:=qaZ p.1 (fsF leave d R f)
   unfold Qi;rw[if_neg (1:)]
   lia
theorem Q6{leave d:Int}:∀(B R:List Pa) (f:Int),(∀p∈B,d < p.1)->chn leave d (B++R) f=chn leave d R f
 |[],R,f,_=>rfl
 | p::B,R,f,h=>by have h0:=h p (5:);rw[List.cons_append,chn,if_neg (1:)];exact Q6 B R f λq hq=>h q (by simp[hq])
theorem Q7{leave d d':Int}:∀(R:List Pa) (f:Int),(∀p∈R,p.1<=p.2.1/\p.2.1<=d/\p.2.1<=d')->chn leave d R f=chn leave d' R f
 |[],_,_=>rfl
 | p::R,f,h=>by have h0:=h p (5:);have e1:mn p.2.1 d=p.2.1:=(JG p.2.1 d).1 h0.2.1;have e2:mn p.2.1 d'=p.2.1:=(JG p.2.1 d').1 h0.2.2;rw[chn,chn,if_pos (c:=p.1<=d) (1:),if_pos (c:=p.1<=d') (1:),e1,e2,Q7 R p.1 λq hq=>h q (by simp[hq])]
def qes{r:Ru}(hk:r.kd.isW=true)(h1:1<=r.days){L:List Pa}(hL:PcOk L)(d:Int):qt r L d=(ws (pf L) (d - r.days+1) r.days.toNat).sum:=by
 unfold qt qbM;rw[if_pos hk,YA,qmp hL,show d - r.days+1+(r.days.toNat:Int) - 1=d by lia]
 lia
def qet{r:Ru}(hk:r.kd.isW=false)(h1:1<=r.days){L:List Pa}(hL:PcOk L)(d:Int):qt r L d=chn r.days d L.reverse (d+1):=by
 unfold qt qbM;rw[if_neg (by rw[hk];decide),YA,<-y6,(qer h1 L.reverse (d+1) (RvOk.of hL) (.inl (1:))).2]
 lia
theorem qbR{d:Int}:∀{R:List Pa},RvOk R->∃B A,R=B++A/\(∀p∈B,d < p.1)/\∀p∈A,p.1<=d
 |[],_=>{[],[],rfl,λ_ h=>(by cases h),λ_ h=>(by cases h)}
 | p::R,h=>by
  by_cases hd:d < p.1
  ·obtain⟨B,A,e,h1,h2⟩:=qbR (d:=d) h.tail;refine{p::B,A,by rw[e];rfl,λq hq=>?_,h2};rcases List.mem_cons.mp hq with rfl|hq
   ·exact hd
   ·exact h1 q hq
  ·refine{[],p::R,rfl,λ_ h=>(by cases h),λq hq=>?_};rcases List.mem_cons.mp hq with rfl|hq
   ·lia
   ·have:=(List.pairwise_cons.mp h.ap).1 q hq
    have:=h.ok q (by simp[hq])
    lia
def YU(f:Int->Int)(n d:Int):Prop:=∀x,d - n < x->x<=d->f x=0
theorem qcL{leave:Int}(h1:1<=leave){L:List Pa}(hL:PcOk L)(d:Int) :
  (YU (pf L) leave d->chn leave d L.reverse (d+1)=0)/\(¬ YU (pf L) leave d->chn leave d L.reverse (d+1)=chn leave (d - 1) L.reverse d+pf L d):=by
 have hR:=RvOk.of hL;obtain⟨B,A,e,hB,hA⟩:=qbR (d:=d) hR;have mem:∀p,p∈L↔p∈B\/p∈A:=λp=>by rw[<-List.mem_reverse,e,List.mem_append]
 rw[e,Q6 B A _ hB,Q6 B A _ (λp hp=>by have:=hB p hp;lia)]
 cases A with
 |nil=>
  refine{λ_=>rfl,λh=>absurd (λx _ hx=>?_) h}
  exact qN λp hp z=>by
   rcases (mem p).mp hp with q|q
   ·have:=hB p q;unfold inP at z;lia
   ·cases q
 |cons q A=>
  have hq:q∈L:=(mem q).mpr (.inr (5:));have hqo:=hL.ok q hq;have hq1:=hA q (5:)
  have hap:∀p∈A,p.2.1 < q.1:=by
   have:=hR.ap
   rw[e]at this;exact(List.pairwise_cons.mp (List.pairwise_append.mp this).2.1).1
  have hAo:∀p∈A,p.1<=p.2.1:=λp hp=>(hL.ok p ((mem p).mpr (.inr (by simp[hp])))).1;have hm:=JG q.2.1 d;have hm':=JG q.2.1 (d - 1)
  by_cases hd:d<=q.2.1
  ·have hpf:pf L d=q.2.2:=zX hL hq ⟨hq1,hd⟩;refine{λh=>?_,λ_=>?_}
   ·have:=h d (1:) (Int.le_refl _)
    lia
   ·rw[hpf,chn,if_pos hq1,hm.2 hd,if_neg (1:)]
    by_cases hb:q.1<=d - 1
    ·rw[chn,if_pos hb,hm'.2 (1:),if_neg (1:),Q7 (d:=d) (d':=d - 1) A q.1 λp hp=>by have:=hap p hp;have:=hAo p hp;lia];rw[show d - q.1+1=(d - 1 - q.1+1)+1 by lia];generalize d - 1 - q.1+1=k;rw[Int.add_mul,Int.one_mul]
     lia
    ·rw[chn,if_neg hb,Q7 (d:=d) (d':=d - 1) A q.1 λp hp=>by have:=hap p hp;have:=hAo p hp;lia];rw[show q.1=d by lia,show d - d+1=1 by lia,Int.one_mul]
     lia
  ·have hz:∀x,q.2.1 < x->x<=d->pf L x=0:=λx h2 h3=>qN λp hp z=>by
    rcases (mem p).mp hp with y|y
    ·have:=hB p y;unfold inP at z;lia
    ·rcases List.mem_cons.mp y with rfl|y
     ·unfold inP at z;lia
     ·have:=hap p y;unfold inP at z;lia
   have hpf:pf L q.2.1=q.2.2:=zX hL hq ⟨hqo.1,Int.le_refl _⟩;rw[chn,if_pos hq1,hm.1 (1:),chn,if_pos (c:=q.1<=d - 1) (1:),hm'.1 (1:),hz d (1:) (Int.le_refl _)];refine{λh=>?_,λh=>?_}
   ·rw[if_pos]
    by_cases y:leave<=d+1 - 1 - q.2.1
    ·exact y
    ·have:=h q.2.1 (1:) (1:)
     lia
   ·have y:¬ leave<=d+1 - 1 - q.2.1:=λy=>h λx h2 h3=>hz x (1:) h3;rw[if_neg y,if_neg (1:),Q7 (d:=d) (d':=d - 1) A q.1 λp hp=>by have:=hap p hp;have:=hAo p hp;lia]
    lia
structure Cnt(w:Bool)(n:Int)(f C:Int->Int):Prop where
 nn:∀d,0<=f d
 low:∃b,∀d,d < b->C d=0/\f d=0
 win:w=true->∀d,C d=(ws f (d - n+1) n.toNat).sum
 idle:w=false->∀d,YU f n d->C d=0
 busy:w=false->∀d,¬ YU f n d->C d=C (d - 1)+f d
theorem qmq{L:List Pa}(hL:PcOk L):∃b,∀d,d < b->pf L d=0:=by
 induction L with
 |nil=>exact{0,λ_ _=>rfl}
 |cons p l _=>
  refine{p.1,λd hd=>qN λq hq z=>?_};have h0:=(hL.ok p (5:)).1;rcases List.mem_cons.mp hq with rfl|hq
  ·unfold inP at z;lia
  ·have:=(List.pairwise_cons.mp hL.ap).1 q hq
   unfold inP at z;lia
theorem YB{r:Ru}(h1:1<=r.days){L:List Pa}(hL:PcOk L):Cnt r.kd.isW r.days (pf L) (qt r L):=by
 obtain⟨b,hb⟩:=qmq hL
 have sn:r.kd.isW=false->∀d,(YU (pf L) r.days d->qt r L d=0)/\(¬ YU (pf L) r.days d->qt r L d=qt r L (d - 1)+pf L d):=λhk d=>by rw[qet hk h1 hL,qet hk h1 hL,show d - 1+1=d by lia];exact qcL h1 hL d
 refine{qob hL,{b,λd hd=>{?_,hb d hd}},λhk=>qes hk h1 hL,λhk d=>(sn hk d).1,λhk d=>(sn hk d).2}
 cases hk:r.kd.isW with
 |true=>rw[qes hk h1 hL];exact QZ _ _ λx h2 h3=>hb x (1:)
 |false=>exact(sn hk d).1 λx _ hx=>hb x (1:)
namespace Cnt
variable{w:Bool}{n:Int}{f C:Int->Int}
def step(h:Cnt w n f C)(hw:w=true)(hn:1<=n)(d:Int):C d=C (d - 1)+f d - f (d - n):=by
 rw[h.win hw d,h.win hw (d - 1)];obtain⟨m,rfl⟩:∃m:Nat,n=((m+1:Nat):Int):={(n - 1).toNat,by lia};rw[Int.toNat_natCast,Ys,show d - 1 - ((m+1:Nat):Int)+1=d - ((m+1:Nat):Int) by lia,ws,List.sum_cons,show d - ((m+1:Nat):Int)+1+(m:Int)=d by lia]
 lia
theorem pos(h:Cnt w n f C)(d:Int):0<=C d:=by
 cases hw:w with
 |true=>rw[h.win hw];exact qme h.nn _ _
 |false=>
  obtain⟨b,hb⟩:=h.low
  have:∀m:Nat,∀d,d < b+m->0<=C d:=by
   intro m
   induction m with
   |zero=>intro d hd;rw[(hb d (1:)).1];exact Int.le_refl _
   |succ m ih=>
    intro d hd
    by_cases hi:YU f n d
    ·rw[h.idle hw d hi];exact Int.le_refl _
    ·rw[h.busy hw d hi]
     have:=ih (d - 1) (1:)
     have:=h.nn d
     lia
  exact this (d - b+1).toNat d (1:)
theorem grow(h:Cnt w n f C)(hn:1<=n)(d:Int):C d<=C (d - 1)+f d:=by
 cases hw:w with
 |true=>rw[h.step hw hn d];have:=h.nn (d - n);lia
 |false=>
  by_cases hi:YU f n d
  ·rw[h.idle hw d hi]
   have:=h.pos (d - 1)
   have:=h.nn d
   lia
  ·rw[h.busy hw d hi];exact Int.le_refl _
def busy'(h:Cnt w n f C)(hw:w=false)(hn:1<=n){d:Int}(hd:f d≠0):C d=C (d - 1)+f d:=
 h.busy hw d λz=>hd (z d (1:) (Int.le_refl _))
def keeps(h:Cnt w n f C)(hn:1<=n){m a b:Int}(ha:C a<=m)(hz:∀x,a < x->x < b->f x=0):∀x,a<=x->x < b->C x<=m:=by
 have:∀k:Nat,∀x,a<=x->x < b->x < a+k+1->C x<=m:=by
  intro k
  induction k with
  |zero=>intro x h1 h2 h3;rw[show x=a by lia];exact ha
  |succ k ih=>
   intro x h1 h2 h3
   by_cases y:x=a
   ·rw[y];exact ha
   ·have:=h.grow hn x
    rw[hz x (1:) h2]at this
    have:=ih (x - 1) (1:) (1:) (1:)
    lia
 exactλx h1 h2=>this (x - a).toNat x h1 h2 (1:)
end Cnt
theorem qeu{f g:Int->Int}(h:∀x,f x<=g x):∀(n:Nat) (lo:Int),(ws f lo n).sum<=(ws g lo n).sum
 |0,_=>by simp[ws]
 | n+1,lo=>by
  have:=qeu h n (lo+1)
  have:=h lo
  rw[ws,ws,List.sum_cons,List.sum_cons]
  lia
theorem qev{f:Int->Int}(h:∀x,0<=f x)(k:Nat):∀(m:Nat) (lo:Int),(ws f (lo+m) k).sum<=(ws f lo (m+k)).sum
 |0,lo=>by rw[Nat.zero_add,show lo+((0:Nat):Int)=lo by lia];exact Int.le_refl _
 | m+1,lo=>by
  have i:=qev h k m (lo+1)
  have:=h lo
  rw[show m+1+k=(m+k)+1 by lia,ws,List.sum_cons];rw[show lo+((m+1:Nat):Int)=lo+1+(m:Int) by lia]
  lia
theorem Cnt.mono{w:Bool}{n n':Int}{f f' C C':Int->Int}(h:Cnt w n f C)(h':Cnt w n' f' C')(h1:1<=n')(h2:n'<=n)(hf:∀x,f' x<=f x)(d:Int):C' d<=C d:=by
 cases hw:w with
 |true=>
  rw[h.win hw,h'.win hw];have a:=qev h.nn n'.toNat (n - n').toNat (d - n+1);rw[show(n - n').toNat+n'.toNat=n.toNat by lia,show d - n+1+((n - n').toNat:Int)=d - n'+1 by lia]at a;have b:=qeu hf n'.toNat (d - n'+1)
  lia
 |false=>
  obtain⟨b,hb⟩:=h'.low
  have:∀m:Nat,∀d,d < b+m->C' d<=C d:=by
   intro m
   induction m with
   |zero=>intro d hd;rw[(hb d (1:)).1];exact h.pos d
   |succ m ih=>
    intro d hd
    by_cases hi:YU f' n' d
    ·rw[h'.idle hw d hi];exact h.pos d
    ·have hi':¬ YU f n d:=λz=>hi λx h3 h4=>by
      have:=z x (1:) h4
      have:=hf x
      have:=h'.nn x
      lia
     rw[h'.busy hw d hi,h.busy hw d hi']
     have:=ih (d - 1) (1:)
     have:=hf d
     lia
  exact this (d - b+1).toNat d (1:)
def qi9{r:Ru}(h1:1<=r.days){L:List Pa}(hL:PcOk L):qjF r L:=λd=>by
 have g:=(YB h1 hL).grow h1 d
 have:pf L d<=9:=by
  by_cases h:∃p∈L,inP p d
  ·obtain⟨p,hp,hd⟩:=h;rw[zX hL hp hd];exact(hL.ok p hp).2.2
  ·rw[qN λp hp hd=>h ⟨p,hp,hd⟩];decide
 lia
def qja{L:List Pa}(hL:PcOk L){y:Int}(h:pf L y≠pf L (y - 1)):∃p∈L,y=p.1\/y=p.2.1+1:=by
 by_cases h1:∃p∈L,inP p y
 ·obtain⟨p,hp,hd⟩:=h1;refine{p,hp,?_}
  by_cases h2:inP p (y - 1)
  ·rw[zX hL hp hd,zX hL hp h2]at h;exact absurd rfl h
  ·unfold inP at *;lia
 ·rw[qN λp hp hd=>h1 ⟨p,hp,hd⟩]at h;obtain⟨p,hp,hd⟩:=qgf (Ne.symm h);refine{p,hp,?_};have nz:¬ inP p y:=λz=>h1 ⟨p,hp,z⟩;unfold inP at *
  lia
theorem YC{s x:Int}:∀{L:List Pa},x∈zJ s L↔∃p∈L,x=p.1+s\/x=p.2.1+1+s
 |[]=>by simp[zJ]
 | p::L=>by
  rw[zJ,List.mem_cons,List.mem_cons,YC];constructor
  ·rintro (h|h|⟨q,hq,h⟩)
   ·exact{p,by simp,.inl h}
   ·exact{p,by simp,.inr h}
   ·exact{q,by simp[hq],h}
  ·rintro⟨q,hq,h⟩;rcases List.mem_cons.mp hq with rfl|hq
   ·exact h.elim .inl λz=>.inr (.inl z)
   ·exact .inr (.inr ⟨q,hq,h⟩)
theorem qbS(s:Int):∀{L:List Pa},PcOk L->(zJ s L).Pairwise (·<=·)
 |[],_=>List.Pairwise.nil
 | p::L,h=>by
  have h0:=(h.ok p (5:)).1;have hg:=(List.pairwise_cons.mp h.ap).1
  have lo:∀x∈zJ s L,p.2.1+1+s<=x:=λx hx=>by
   obtain⟨q,hq,z⟩:=YC.mp hx
   have:=hg q hq
   have:=(h.ok q (by simp[hq])).1
   lia
  rw[zJ];refine List.pairwise_cons.mpr ⟨λx hx=>?_,List.pairwise_cons.mpr ⟨lo,qbS s h.tail⟩⟩;rcases List.mem_cons.mp hx with rfl|hx
  ·lia
  ·have:=lo x hx;lia
def Fst(r:Ru)(L:List Pa)(f t:Int):Option Int->Prop
 |none=>∀x,f<=x->x<=t->qt r L x<=r.most
 |some d=>f<=d/\d<=t/\r.most < qt r L d/\∀x,f<=x->x < d->qt r L x<=r.most
def qbT{r:Ru}{L:List Pa}{b e:Int}(h0:qt r L (b - 1)<=r.most)(hg:∀x,b < x->x<=e->qt r L x - qt r L (x - 1)=qt r L (x - 1) - qt r L (x - 2)):Fst r L b e (Jy r L b e):=by
 have lin:∀k:Nat,b+k<=e->qt r L (b+k)=qt r L (b - 1)+((k:Int)+1) * (qt r L b - qt r L (b - 1))/\qt r L (b+k) - qt r L (b+k - 1)=qt r L b - qt r L (b - 1):=by
  intro k
  induction k with
  |zero=>intro _;rw[show b+((0:Nat):Int)=b by lia,show(((0:Nat):Int)+1)=1 by rfl,Int.one_mul];lia
  |succ k ih=>
   intro hk;obtain⟨i1,i2⟩:=ih (1:);have g:=hg (b+((k+1:Nat):Int)) (1:) hk;rw[show b+((k+1:Nat):Int) - 1=b+k by lia,show b+((k+1:Nat):Int) - 2=b+k - 1 by lia]at g;rw[show b+((k+1:Nat):Int) - 1=b+k by lia,show(((k+1:Nat):Int)+1)=((k:Int)+1)+1 by lia,Int.add_mul _ 1,Int.one_mul]
   lia
 have lin':∀x,b<=x->x<=e->qt r L x=qt r L (b - 1)+(x - b+1) * (qt r L b - qt r L (b - 1)):=λx h1 h2=>by
  have:=(lin (x - b).toNat (1:)).1
  rw[show b+((x - b).toNat:Int)=x by lia,show((x - b).toNat:Int)=x - b by lia]at this;exact this
 unfold Jy;generalize qt r L b - qt r L (b - 1)=g at *;generalize hc:qt r L (b - 1)=c at *
 by_cases h1:g<=0
 ·rw[if_pos h1];intro x h2 h3;rw[lin' x h2 h3]
  have:=Int.mul_nonpos_of_nonneg_of_nonpos (show 0<=x - b+1 by lia) h1
  lia
 ·rw[if_neg h1];have q:∀x,x - b+1<=(r.most - c) / g↔(x - b+1) * g<=r.most - c:=λx=>Int.le_ediv_iff_mul_le (1:);have q0:0<=(r.most - c) / g:=Int.ediv_nonneg (1:) (1:);generalize (r.most - c) / g=k at *
  by_cases h2:b+k<=e
  ·rw[if_pos h2];refine{by lia,h2,?_,λx h3 h4=>?_}
   ·rw[lin' _ (1:) h2]
    have:=mt (q (b+k)).mpr (1:)
    lia
   ·rw[lin' x h3 (1:)]
    have:=(q x).mp (1:)
    lia
  ·rw[if_neg h2];intro x h3 h4;rw[lin' x h3 h4]
   have:=(q x).mp (1:)
   lia
theorem qhp{r:Ru}{L:List Pa}{t:Int}:∀(ts:List Int) (f:Int),qt r L (f - 1)<=r.most->(∀x,f < x->x<=t->x∉ts->qt r L x - qt r L (x - 1)=qt r L (x - 1) - qt r L (x - 2))->(f::ts).Pairwise (·<=·)->(∀b∈ts,b<=t)->Fst r L f t (Jn r L (qhi f t ts))
 |[],f,h0,hg,_,_=>by
  have a:=qbT (r:=r) (L:=L) (b:=f) (e:=t) h0 λx h1 h2=>hg x h1 h2 (5:);show Fst r L f t (Jn r L [(f,t)]);rw[Jn]
  cases e:Jy r L f t with
  |none=>rw[e]at a;exact a
  |some d=>rw[e]at a;exact a
 | b::ts,f,h0,hg,hp,ht=>by
  obtain⟨hp1,hp2⟩:=List.pairwise_cons.mp hp;have hfb:=hp1 b (5:);have hbt:=ht b (5:);have hpb:=(List.pairwise_cons.mp hp2).1
  have a:=qbT (r:=r) (L:=L) (b:=f) (e:=b - 1) h0 λx h1 h2=>hg x h1 (1:) (λz=>by
   rcases List.mem_cons.mp z with rfl|z
   ·lia
   ·have:=hpb x z;lia)
  show Fst r L f t (Jn r L ((f,b - 1)::qhi b t ts));rw[Jn]
  cases e:Jy r L f (b - 1) with
  |some d=>rw[e]at a;exact{a.1,by have:=a.2.1;lia,a.2.2.1,a.2.2.2}
  |none=>
   rw[e]at a;have low:∀x,f<=x->x<=b - 1->qt r L x<=r.most:=a
   have i:=qhp ts b (by
    by_cases z:f<=b - 1
    ·exact low _ z (Int.le_refl _)
    ·rw[show b - 1=f - 1 by lia];exact h0) (λx h1 h2 h3=>hg x (1:) h2 λz=>by
     rcases List.mem_cons.mp z with rfl|z
     ·lia
     ·exact h3 z) hp2 λx hx=>ht x (by simp[hx])
   dsimp only;generalize Jn r L (qhi b t ts)=o at i
   cases o with
   |none=>
    intro x h1 h2
    by_cases z:x<=b - 1
    ·exact low x h1 z
    ·exact i x (1:) h2
   |some d=>
    refine{by have:=i.1;lia,i.2.1,i.2.2.1,λx h1 h2=>?_}
    by_cases z:x<=b - 1
    ·exact low x h1 z
    ·exact i.2.2.2 x (1:) h2
def qoN(r:Ru)(L:List Pa):Option Int->Prop
 |none=>∀x,qt r L x<=r.most
 |some d=>r.most < qt r L d/\∀x,x < d->qt r L x<=r.most
theorem qew{r:Ru}(h1:1<=r.days){L:List Pa}(hL:PcOk L){p:Pa}(hp:p∈L){x:Int}(hx:p.1 < x)(hx':x<=p.2.1)(ht:x∉zR r L):qt r L x - qt r L (x - 1)=qt r L (x - 1) - qt r L (x - 2):=by
 have c:=YB h1 hL;have e1:pf L x=p.2.2:=zX hL hp ⟨by lia,hx'⟩;have e2:pf L (x - 1)=p.2.2:=zX hL hp ⟨by lia,by lia⟩;have hw:=(hL.ok p hp).2.1
 cases hk:r.kd.isW with
 |true=>
  have s1:=c.step hk h1 x;have s2:=c.step hk h1 (x - 1);unfold zR at ht;rw[if_pos hk]at ht
  have:pf L (x - r.days)=pf L (x - r.days - 1):=by
   by_cases z:pf L (x - r.days)=pf L (x - r.days - 1)
   ·exact z
   ·obtain⟨q,hq,y⟩:=qja hL z;exact absurd (YC.mpr ⟨q,hq,by lia⟩) ht
  rw[show x - 1 - r.days=x - r.days - 1 by lia,show x - 1 - 1=x - 2 by lia]at s2
  lia
 |false=>
  have s1:=c.busy' hk h1 (d:=x) (1:);have s2:=c.busy' hk h1 (d:=x - 1) (1:);rw[show x - 1 - 1=x - 2 by lia]at s2
  lia
theorem qai{r:Ru}(h1:1<=r.days)(h0:0<=r.most){L:List Pa}(hL:PcOk L):∀(l A:List Pa),L=A++l->(∀x,(∀p∈l,x < p.1)->qt r L x<=r.most)->qoN r L (j6 r L (zR r L) l)
 |[],A,_,h=>λx=>h x λ_ z=>(by cases z)
 | p::l,A,e,h=>by
  have hp:p∈L:=by rw[e];simp
  have hpo:=hL.ok p hp;have hsp:=hL.ap;rw[e]at hsp;have hlo:=(List.pairwise_cons.mp (List.pairwise_append.mp hsp).2.1).1;have hA:=(List.pairwise_append.mp hsp).2.2;have hl:∀q∈l,q.1<=q.2.1:=λq hq=>(hL.ok q (by rw[e];simp[hq])).1
  have before:∀x,x < p.1->qt r L x<=r.most:=λx hx=>h x λq hq=>by
   rcases List.mem_cons.mp hq with rfl|hq
   ·exact hx
   ·have:=hlo q hq;lia
  have tu:(zR r L).Pairwise (·<=·):=by
   unfold zR;split
   ·exact qbS _ hL
   ·exact List.Pairwise.nil
  have i:=qhp (r:=r) (L:=L) (t:=p.2.1) ((zR r L).filter (inB p.1 p.2.1)) p.1 (before _ (1:)) (λx h2 h3 h4=>qew h1 hL hp h2 h3 λz=>h4 (List.mem_filter.mpr ⟨z,by unfold inB;simp;lia⟩)) (List.pairwise_cons.mpr ⟨λb hb=>by
    have:=(List.mem_filter.mp hb).2
    unfold inB at this;simp at this
    lia,tu.filter _⟩) (λb hb=>by
    have:=(List.mem_filter.mp hb).2
    unfold inB at this;simp at this
    lia)
  rw[j6]
  cases o:Jn r L (qhi p.1 p.2.1 ((zR r L).filter (inB p.1 p.2.1))) with
  |some d=>
   rw[o]at i;refine{i.2.2.1,λx hx=>?_}
   by_cases z:x < p.1
   ·exact before x z
   ·exact i.2.2.2 x (1:) hx
  |none=>
   rw[o]at i;have within:∀x,p.1<=x->x<=p.2.1->qt r L x<=r.most:=i;refine qai h1 h0 hL l (A++[p]) (by rw[e];simp) λx hx=>?_
   by_cases z:x < p.1
   ·exact before x z
   ·by_cases y:x<=p.2.1
    ·exact within x (1:) y
    ·refine(YB h1 hL).keeps h1 (a:=p.2.1) (b:=x+1) (within _ hpo.1 (Int.le_refl _)) (λu h2 h3=>qN λq hq hz=>?_) x (1:) (1:);rw[e]at hq;unfold inP at hz;rcases List.mem_append.mp hq with g|g
     ·have:=hA q g p (5:);lia
     ·rcases List.mem_cons.mp g with rfl|g
      ·lia
      ·have:=hx q g;lia
def qbU{r:Ru}(h1:1<=r.days)(h0:0<=r.most){L:List Pa}(hL:PcOk L):qoN r L (qr r L):=by
 refine qai h1 h0 hL L [] rfl λx hx=>?_;have z:∀y,y<=x->pf L y=0:=λy hy=>qN λp hp hz=>by have:=hx p hp;unfold inP at hz;lia
 have c:=YB h1 hL
 have:qt r L x=0:=by
  cases hk:r.kd.isW with
  |true=>rw[c.win hk];exact QZ _ _ λy _ h3=>z y (1:)
  |false=>exact c.idle hk x λy _ hy=>z y hy
 lia
def cb(st:List St)(x:Rl)(d:Int):Int:=qt x.1 (yd st x) d
structure Rlw(x:Rl):Prop where
 ln:∀p∈x.1.lands,LnOk p
 days:1<=x.1.days
 most:0<=x.1.most
 spr:Spr x.2
 len:x.2.length<=20
section
variable{st:List St}{x:Rl}(h:Rlw x){e:Int}(hc:Chw e st)
include h hc
theorem YD:PcOk (yd st x):=(Yz h.ln h.spr (by have:=h.len;lia) st e hc).1
theorem qbV:pf (yd st x)=wgt x.1 x.2 st:=funext (Yz h.ln h.spr (by have:=h.len;lia) st e hc).2.2
theorem qjb:Cnt x.1.kd.isW x.1.days (wgt x.1 x.2 st) (cb st x):=by rw[<-qbV h hc];exact YB h.days (YD h hc)
theorem qex:RlOk st x:={h.ln,(YD h hc).w,qi9 h.days (YD h hc),h.len}
theorem qjc(hn:qr x.1 (yd st x)=none)(d:Int):cb st x d<=x.1.most:=by
 have:=qbU h.days h.most (YD h hc)
 rw[hn]at this;exact this d
theorem qjd{d:Int}(hn:qr x.1 (yd st x)=some d):x.1.most < cb st x d/\∀y,y < d->cb st x y<=x.1.most:=by
 have:=qbU h.days h.most (YD h hc)
 rw[hn]at this;exact this
end
structure BF(st:List St)(rs:List Rl)(z:Int×Int×Int):Prop where
 at_:∃(j:Nat) (x:Rl),rs[j]?=some x/\z.2.1=(j:Int)/\z.2.2=qbM x.1 (yd st x) z.1/\x.1.most < cb st x z.1/\∀i,i < j->∀y,rs[i]?=some y->cb st y z.1<=y.1.most
 low:∀y∈rs,∀d,d < z.1->cb st y d<=y.1.most
theorem y7(st:List St){e:Int}(hc:Chw e st)(all:List Rl)(hr:∀x∈all,Rlw x):∀(l A:List Rl) (f:Option (Int×Int×Int)),all=A++l->
  (f=none->∀y∈A,∀d,cb st y d<=y.1.most)->(∀z,f=some z->BF st A z)->
  (j7 st l A.length f=none->∀y∈all,∀d,cb st y d<=y.1.most)/\∀z,j7 st l A.length f=some z->BF st all z
 |[],A,f,ea,h1,h2=>by rw[List.append_nil]at ea;subst ea;exact⟨h1,h2⟩
 | x::l,A,f,ea,h1,h2=>by
  have hx:=hr x (by rw[ea];simp);have ea':all=(A++[x])++l:=by rw[ea];simp
  have el:A.length+1=(A++[x]).length:=by simp
  have one:∀y,y∈A++[x]->y∈A\/y=x:=λy hy=>(-hy:)
  have getA:∀(j:Nat) y,A[j]?=some y->(A++[x])[j]?=some y:=λj y hy=>by obtain⟨hj,_⟩:=List.getElem?_eq_some_iff.mp hy;rw[List.getElem?_append_left hj];exact hy
  rw[j7]
  cases hb:qr x.1 (yd st x) with
  |none=>
   dsimp only;have nb:=qjc hx hc hb;rw[el];refine y7 st hc all hr l (A++[x]) f ea' (λhf y hy d=>?_) (λz hz=>?_)
   ·rcases one y hy with q|q
    ·exact h1 hf y q d
    ·rw[q];exact nb d
   ·obtain⟨⟨j,x',g1,g2,g3,g4,g5⟩,lo⟩:=h2 z hz;refine{{j,x',getA j x' g1,g2,g3,g4,λi hi y hy=>?_},λy hy d hd=>?_}
    ·obtain⟨hj,_⟩:=List.getElem?_eq_some_iff.mp g1;rw[List.getElem?_append_left (1:)]at hy;exact g5 i hi y hy
    ·rcases one y hy with q|q
     ·exact lo y q d hd
     ·rw[q];exact nb d
  |some d0=>
   dsimp only;obtain⟨b1,b2⟩:=qjd hx hc hb
   by_cases hbt:Yx d0 f=true
   ·rw[if_pos hbt,el]
    have lowA:∀y∈A,∀d,d<=d0->cb st y d<=y.1.most:=λy hy d hd=>by
     cases f with
     |none=>exact h1 rfl y hy d
     |some z=>
      have:d0 < z.1:=by unfold Yx at hbt;simpa using hbt
      exact(h2 z rfl).low y hy d (1:)
    refine y7 st hc all hr l (A++[x]) _ ea' (λhf=>(by cases hf)) (λz hz=>?_);cases hz;refine{{A.length,x,by simp,rfl,rfl,b1,λi hi y hy=>?_},λy hy d hd=>?_}
    ·rw[List.getElem?_append_left hi]at hy;exact lowA y (List.mem_of_getElem? hy) d0 (Int.le_refl _)
    ·rcases one y hy with q|q
     ·exact lowA y q d (by dsimp only at hd;lia)
     ·rw[q];exact b2 d hd
   ·rw[if_neg hbt,el]
    cases f with
    |none=>exact absurd rfl hbt
    |some z0=>
     have hge:z0.1<=d0:=by unfold Yx at hbt;simp at hbt;exact hbt
     refine y7 st hc all hr l (A++[x]) _ ea' (λhf=>(by cases hf)) (λz hz=>?_);cases hz;obtain⟨⟨j,x',g1,g2,g3,g4,g5⟩,lo⟩:=h2 z0 rfl;refine{{j,x',getA j x' g1,g2,g3,g4,λi hi y hy=>?_},λy hy d hd=>?_}
     ·obtain⟨hj,_⟩:=List.getElem?_eq_some_iff.mp g1;rw[List.getElem?_append_left (1:)]at hy;exact g5 i hi y hy
     ·rcases one y hy with q|q
      ·exact lo y q d hd
      ·rw[q];exact b2 d (1:)
def Q8{rs:List Ru}{ps:List Pa}{st:List St}{e:Int}(hc:Chw e st)(hr:∀x∈rlF ps 0 rs,Rlw x) :
  (qC rs ps st=none->∀y∈rlF ps 0 rs,∀d,cb st y d<=y.1.most)/\∀z,qC rs ps st=some z->BF st (rlF ps 0 rs) z:=
 y7 st hc (rlF ps 0 rs) hr (rlF ps 0 rs) [] none rfl (λ_ _ h=>(by cases h)) (λ_ h=>(by cases h))
def qmr{rs:List Ru}{ps:List Pa}(hr:∀r∈rs,(∀p∈r.lands,LnOk p)/\1<=r.days/\0<=r.most)(hp:∀p∈ps,p.2.1<=p.2.2)(hl:ps.length<=18):∀x∈rlF ps 0 rs,Rlw x:=λx hx=>by
 obtain⟨j,e1,e2⟩:=qeg hx;obtain⟨a,b,c⟩:=hr x.1 (List.mem_of_getElem? e1)
 have ok:∀n:Int,∀p∈ofN n ps,p.1<=p.2:=λn p h=>by unfold ofN at h;obtain⟨q,hq,rfl⟩:=List.mem_map.mp h;exact hp q (List.mem_filter.mp hq).1
 refine{a,b,c,?_,?_}
 ·rw[e2];exact qiZ (ok _)
 ·rw[e2];have h1:=qeb (ok ((0+j:Nat):Int));have h2:=qaW ((0+j:Nat):Int) ps;unfold lift
  lia
structure WF(f:Int->Int)(n d a:Int):Prop where
 le:a<=d
 ne:f a≠0
 ahead:YU f n (a - 1)
 busy:∀x,a<=x->x<=d->¬ YU f n x
theorem qje{leave d:Int}(hl:1<=leave)(F:Int->Int):∀(R:List Pa) (f:Int),RvOk R->f<=d+1->(∀x,x < f->x<=d->(F x≠0↔∃p∈R,inP p x))->(f<=d->F f≠0/\∀x,f<=x->x<=d->¬ YU F leave x)->(f=d+1\/∀p∈R,p.2.1 < f)->
  (fsF leave d R f=d+1/\YU F leave d)\/WF F leave d (fsF leave d R f)
 |[],f,_,h2,h1,h3,_=>by
  rw[fsF]
  by_cases hf:f=d+1
  ·refine .inl ⟨hf,λx hx hd=>?_⟩
   by_cases q:F x=0
   ·exact q
   ·obtain⟨p,hp,_⟩:=(h1 x (1:) hd).mp q;cases hp
  ·have hf':f<=d:=by lia
   refine .inr ⟨hf',(h3 hf').1,λx hx hd=>?_,(h3 hf').2⟩
   by_cases q:F x=0
   ·exact q
   ·obtain⟨p,hp,_⟩:=(h1 x (1:) (1:)).mp q;cases hp
 | p::l,f,hR,h2,h1,h3,h4=>by
  have hp:=hR.ok p (5:);have hap:=(List.pairwise_cons.mp hR.ap).1;rw[fsF]
  by_cases c1:p.1<=d
  ·rw[if_pos c1];have m:=qcK p.2.1 d
   have pf':p.1 < f:=by
    rcases h4 with q|q
    ·lia
    ·have:=q p (5:);lia
   have hbelow:∀x,p.2.1 < x->x < f->x<=d->F x=0:=λx hx hf hd=>by
    by_cases q:F x=0
    ·exact q
    ·obtain⟨p',hp',i1,i2⟩:=(h1 x hf hd).mp q;rcases List.mem_cons.mp hp' with rfl|hm
     ·lia
     ·have:=hap p' hm;lia
   by_cases c2:leave<=f - 1 - mn p.2.1 d
   ·rw[if_pos c2]
    have hm:mn p.2.1 d=p.2.1:=by
     rcases m.2.2 with q|q
     ·exact q
     ·lia
    rw[hm]at c2;have idl:YU F leave (f - 1):=λx hx hd=>hbelow x (1:) (1:) (1:)
    by_cases hf:f=d+1
    ·exact .inl ⟨hf,by rw[hf,show d+1 - 1=d by lia]at idl;exact idl⟩
    ·have hf':f<=d:=by lia
     exact .inr ⟨hf',(h3 hf').1,idl,(h3 hf').2⟩
   ·rw[if_neg c2];have inn:∀x,p.1<=x->x<=p.2.1->x < f->x<=d->F x≠0:=λx a b c e=>(h1 x c e).mpr ⟨p,by simp,a,b⟩;refine qje hl F l p.1 hR.tail (1:) (λx hx hd=>?_) (λ_=>{inn p.1 (Int.le_refl _) hp pf' c1,λx hx hd=>?_}) (.inr λq hq=>hap q hq)
    ·rw[h1 x (1:) hd];constructor
     ·rintro⟨q,hq,i1,i2⟩;rcases List.mem_cons.mp hq with rfl|hm
      ·lia
      ·exact⟨q,hm,i1,i2⟩
     ·rintro⟨q,hq,i⟩;exact{q,by simp[hq],i}
    ·by_cases hxf:f<=x
     ·exact(h3 (1:)).2 x hxf hd
     ·by_cases hxe:x<=p.2.1
      ·exactλidl=>inn x hx hxe (1:) hd (idl x (1:) (Int.le_refl _))
      ·have hm:mn p.2.1 d=p.2.1:=by
        rcases m.2.2 with q|q
        ·exact q
        ·lia
       rw[hm]at c2;exactλidl=>inn p.2.1 hp (Int.le_refl _) (1:) (1:) (idl p.2.1 (1:) (1:))
  ·rw[if_neg c1]
   have hf:f=d+1:=by
    rcases h4 with q|q
    ·exact q
    ·have:=q p (5:);lia
   refine qje hl F l f hR.tail h2 (λx hx hd=>?_) h3 (.inl hf);rw[h1 x hx hd];constructor
   ·rintro⟨q,hq,i1,i2⟩;rcases List.mem_cons.mp hq with rfl|hm
    ·lia
    ·exact⟨q,hm,i1,i2⟩
   ·rintro⟨q,hq,i⟩;exact{q,by simp[hq],i}
def qey{L:List Pa}(hL:PcOk L)(x:Int):pf L x≠0↔∃p∈L,inP p x:=by
 constructor
 ·exact qgf
 ·rintro⟨p,hp,i⟩;rw[zX hL hp i]
  have:=(hL.ok p hp).2.1
  lia
def qez{r:Ru}(hk:r.kd.isW=false)(h1:1<=r.days){L:List Pa}(hL:PcOk L){d:Int}(hb:¬ YU (pf L) r.days d):WF (pf L) r.days d (qbM r L d):=by
 unfold qbM;rw[if_neg (by rw[hk];simp)];rcases qje h1 (pf L) L.reverse (d+1) (RvOk.of hL) (Int.le_refl _) (λx _ _=>by rw[qey hL];simp) (λq=>absurd q (1:)) (.inl rfl) with ⟨_,q⟩|q
 ·exact absurd q hb
 ·exact q
theorem Q9(ps:List Pa):∀(i:Nat) (rs:List Ru),(rlF ps i rs).length=rs.length
 |_,[]=>rfl
 | i,r::rs=>by rw[rlF,List.length_cons,Q9 ps (i+1) rs,List.length_cons]
end DG
namespace FY
open PySem DE DG FZ FA Dy
open L2 hiding St
open ZY
def o1m(x:Int){m:Int}(h:0 < m)(h9:m<=9):1<=1+x % m/\1+x % m<=9:=by
 have a:=Int.emod_nonneg x (Int.ne_of_gt h);have b:=Int.emod_lt_of_pos x h;generalize x % m=y at *
 lia
def sp0(n:Int):0<=n / 216 % 25/\n / 216 % 25<=10000000/\1<=1+n / 5400 % 30/\1+n / 5400 % 30<=10000000/\(false=false->n / 216 % 25<=24/\1+n / 5400 % 30<=30):=by
 have a:=Int.emod_nonneg (n / 216) (show(25:Int)≠0 by decide);have b:=Int.emod_lt_of_pos (n / 216) (show(0:Int) < 25 by decide);have c:=Int.emod_nonneg (n / 5400) (show(30:Int)≠0 by decide);have d:=Int.emod_lt_of_pos (n / 5400) (show(0:Int) < 30 by decide);generalize n / 216 % 25=x at *;generalize n / 5400 % 30=y at *
 lia
def sp1{x y:Int}(a:0<=x)(b:x < 10000000)(c:0<=y)(d:y < 10000000):0<=x/\x<=10000000/\1<=1+y/\1+y<=10000000/\(true=false->x<=24/\1+y<=30):={a,by lia,by lia,by lia,λh=>by cases h}
def sp2{x:Int}(a:x<=10000000):x<=1000000000:=Int.le_trans a (2:)
def qjf{pg:Pg}[ZY pg](k:Nat)(g:Bool)(c:Int)(zs:List Str)(hz:NamesOk zs):∃r:Ru,SpOk r/\(r.most<=10000000/\(∀p∈r.lands,p.1∈zs)/\r.days<=10000000/\(g=false->r.most<=24/\r.days<=30))/\clK pg (k+1) "_law_spec" [.val (.int c),.bor (zs.map D.str),.val (.bl g)]=.ok (.val (spD r)):=by
 have two:=hz.two;have four:=hz.four;have hL:(0:Int) < (zs.length:Int):=by omega
 have mul:ZJ c 48271=true:=Jx (2:) (2:);generalize hN:c * 48271 % 2147483647=n;have hn:0<=n:=by rw[<-hN];exact Int.emod_nonneg _ (2:)
 obtain⟨z1,e1,f1⟩:=QS (zs:=zs) (n % (zs.length:Int)) (Int.emod_nonneg _ (by omega)) (Int.emod_lt_of_pos _ hL);obtain⟨z2,e2,f2⟩:=QS (zs:=zs) ((n+1) % (zs.length:Int)) (Int.emod_nonneg _ (by omega)) (Int.emod_lt_of_pos _ hL);have w1:LnOk (z1,1+n / 4 % 3):={hz.ok _ (List.mem_of_getElem? f1),(o1m (n / 4) (2:) (2:)).1,(o1m (n / 4) (2:) (2:)).2};have w2:LnOk (z2,1+n / 24 % 9):={hz.ok _ (List.mem_of_getElem? f2),(o1m (n / 24) (2:) (2:)).1,(o1m (n / 24) (2:) (2:)).2}
 have lns:Lns zs n [(z1,1+n / 4 % 3),(z2,1+n / 24 % 9)]:=λi p hp=>by
  match i with
  |0=>simp at hp;subst hp;exact{by simpa using f1,w1}
  |1=>simp at hp;subst hp;exact{by simpa using f2,w2}
  | i+2=>simp at hp
 have nd2:=lns.nodup hz (-two:);obtain⟨kd,ek⟩:=qml (n / 162000)
 have lands:∃l:List (Str×Int),(∀p∈l,LnOk p)/\((l.map (·.1)).Nodup/\1<=l.length/\l.length<=6)/\(((n / 12 % 2 == 1)=true/\l=[(z1,1+n / 4 % 3),(z2,1+n / 24 % 9)])\/((n / 12 % 2 == 1)=false/\l=[(z1,1+n / 4 % 3)])):=by
  cases q:(n / 12 % 2 == 1) with
  |true=>
   have ok:∀p∈[(z1,1+n / 4 % 3),(z2,1+n / 24 % 9)],LnOk p:=λp hp=>by
    rcases List.mem_cons.mp hp with rfl|hp
    ·exact w1
    ·rw[List.mem_singleton.mp hp];exact w2
   exact{_,ok,{nd2,by simp,by simp},.inl ⟨rfl,rfl⟩}
  |false=>
   have ok:∀p∈[(z1,1+n / 4 % 3)],LnOk p:=λp hp=>by rw[List.mem_singleton.mp hp];exact w1
   exact{_,ok,{by simp,by simp,by simp},.inr ⟨rfl,rfl⟩}
 obtain⟨l,lok,lnd,hl⟩:=lands
 have lz:∀p∈l,p.1∈zs:=by
  have q1:=List.mem_of_getElem? f1;have q2:=List.mem_of_getElem? f2;rcases hl with ⟨_,rfl⟩|⟨_,rfl⟩
  ·intro p hp;rcases List.mem_cons.mp hp with rfl|hp
   ·exact q1
   ·rw[List.mem_singleton.mp hp];exact q2
  ·intro p hp;rw[List.mem_singleton.mp hp];exact q1
 have s1:0+1+1<=sizeLine:=(3:)
 have s0:0+1<=sizeLine:=(3:)
 have s4:0+1+1+1+1<=sizeLine:=(3:)
 have sa:0+1 < sizeLine:=(3:)
 have gt:(1:Int) < (zs.length:Int):=by omega
 have p7:(10:Int) ^ (7:Int).toNat=10000000:=by decide
 have c7:(0:Int)<=7/\(7:Int)<=1000000/\(10:Int).natAbs < 2 ^ 64:=by decide
 have A:∀{M:Type} (K:Fl->R M),(iS (pg.kk k) 1000 (.ite (.and (.cmp .Eq (.bin .Mod (.bin .FloorDiv (.var 3) (.con (D.int 12))) (.con (D.int 2))) (.con (D.int 1))) (.one (.cmp .Gt (.b1 .len (.var 1)) (.con (D.int 1))))) %[.app 4 (.tup %[.idx (.var 1) (.bin .Mod (.bin .Add (.var 3) (.con (D.int 1))) (.b1 .len (.var 1))),.bin .Add (.con (D.int 1)) (.bin .Mod (.bin .FloorDiv (.var 3) (.con (D.int 24))) (.con (D.int 9)))|0])|0] .nil) [.val (.int c),.bor (zs.map D.str),.val (.bl g),.val (.int n),.own [.tup [.str z1,.int (1+n / 4 % 3)]],.no,.no]).th K=K (.next [.val (.int c),.bor (zs.map D.str),.val (.bl g),.val (.int n),.own (l.map lnD),.no,.no]):=by intro M K;rcases hl with ⟨q,rfl⟩|⟨q,rfl⟩<;>simp?![Ym,hL,e2,qE,q,gt,s1,sa,qd9,List.map_cons,List.map_nil]
 have m0:0<=c % 10000000:=Int.emod_nonneg _ (2:);have m1:c % 10000000 < 10000000:=Int.emod_lt_of_pos _ (2:);have d0:0<=n % 10000000:=Int.emod_nonneg _ (2:);have d1:n % 10000000 < 10000000:=Int.emod_lt_of_pos _ (2:)
 obtain⟨most,days,⟨b1,b2,b3,b4,b5⟩,B⟩:∃most days:Int,(0<=most/\most<=10000000/\1<=days/\days<=10000000/\(g=false->most<=24/\days<=30))/\∀{M:Type} (K:Fl->R M),(iS (pg.kk k) 1000 (.ite (.val (.var 2)) %[.set 5 (.bin .Mod (.var 0) (.bin .Pow (.con (D.int 10)) (.con (D.int 7)))),.set 6 (.bin .Add (.con (D.int 1)) (.bin .Mod (.var 3) (.bin .Pow (.con (D.int 10)) (.con (D.int 7)))))|0] .nil) [.val (.int c),.bor (zs.map D.str),.val (.bl g),.val (.int n),.own (l.map lnD),.val (.int (n / 216 % 25)),.val (.int (1+n / 5400 % 30))]).th K=K (.next [.val (.int c),.bor (zs.map D.str),.val (.bl g),.val (.int n),.own (l.map lnD),.val (.int most),.val (.int days)]):=by
  cases g with
  |false=>exact{_,_,sp0 n,λK=>by simp?![qE]}
  |true=>exact{_,_,sp1 m0 m1 d0 d1,λK=>by simp?![p7,c7]}
 refine{⟨kd,l,most,days⟩,{lnd.1,lnd.2.1,lnd.2.2,lok,b1,sp2 b2,b3,sp2 b4},⟨b2,lz,b4,b5⟩,?_};rw[r__law_spec];simp?![↓A,↓B,Yk,Ym,mul,hN,hL,e1,s0,s1,s4,qmi,ek]
end FY
namespace DG
open PySem L2 DE
def jD:Nat×Nat×Ss:=(2,4,%[.set 2 (.call "stays_of" %[1|0]),.set 3 (.call "fault_among" %[0,2|0]),.ite (.cmp .IsNot (.var 3) (.con .non)) %[.rai "NotLet" %[.idx (.var 3) (.con (.int 0)),.idx (.var 3) (.con (.int 1)),.idx (.var 3) (.con (.int 2))|0]|0] .nil,.ret (.var 2)|0])
def zL:Nat×Nat×Ss:=(2,2,%[.ite (.or (.not (.val (.call "is_between" %[1,.con (.int 0),.con (.int 1000000000)|0]))) (.one (.and (.val (.var 0)) (.one (.cmp .LtE (.var 1) (.idx (.idx (.var 0) (.neg (.con (.int 1)))) (.con (.int 2)))))))) %[.rai "NoStay" %[.b1 .len (.var 0)|0]|0] .nil|0])
class LI(pg:Pg):Prop where
 r_let_stays:RW pg "let_stays" jD
 r_check_day:RW pg "check_day" zL
def zS:Nat×Nat×Ss:=(2,2,%[.ite (.not (.val (.call "is_name" %[1|0]))) %[.rai "NoStay" %[.b1 .len (.var 0)|0]|0] .nil|0])
class LQ(pg:Pg):Prop where
 r_check_land:RW pg "check_land" zS
def zy:Nat×Nat×Ss:=(4,6,%[.set 4 (.call "let_stays" %[0,1|0]),.expr (.call "check_day" %[4,3|0]),.expr (.call "check_land" %[4,2|0]),.set 5 (.call "fault_among" %[0,.bin .Add (.var 4) (.lst %[.tup %[2,3,.con (.int 3000000000)|0]|0])|0]),.ite (.cmp .Is (.var 5) (.con .non)) %[.ret (.tup %[.con .non,.con .non|0])|0] .nil,.ret (.tup %[.bin .Sub (.idx (.var 5) (.con (.int 0))) (.con (.int 1)),5|0])|0])
class LL(pg:Pg):Prop where
 r_last_day:RW pg "last_day" zy
noncomputable abbrev jL:Ss:=%[.set 7 (.b2 .min (.bin .FloorDiv (.var 3) (.var 6)) (.bin .Add (.bin .Sub (.var 5) (.var 4)) (.con (.int 1)))),.set 2 (.bin .Add (.bin .Sub (.var 5) (.var 7)) (.con (.int 1))),.ite (.cmp .Gt (.var 2) (.var 4)) %[.ret (.var 2)|0] .nil,.set 3 (.bin .Sub (.var 3) (.bin .Mult (.var 7) (.var 6)))|0]
def qU:Ss:=jL
def qZ:USs qU jL:=λ_ _ _ _=>(rfl)
def jE:Nat×Nat×Ss:=(2,8,%[.set 2 (.con (.int 3000000000)),.set 3 (.var 1),.for_ (.many [4,5,6]) (.rev (.var 0)) qU,.ret (.var 2)|0])
def zj:Nat×Nat×Ss:=(4,4,%[.ite (.cmp .LtE (.call "count_among" %[0,.bin .Add (.var 1) (.lst %[.tup %[2,2,3|0]|0]),2|0]) (.fld (.var 0) "most")) %[.ret (.var 2)|0] .nil,.ite (.cmp .Gt (.var 3) (.fld (.var 0) "most")) %[.ret (.con (.int 3000000000))|0] .nil,.ite (.val (.isc "Within" (.var 0))) %[.ret (.bin .Sub (.bin .Add (.call "least_begin" %[1,.bin .Sub (.fld (.var 0) "most") (.var 3)|0]) (.fld (.var 0) "span")) (.con (.int 1)))|0] .nil,.ret (.bin .Add (.bin .Add (.idx (.idx (.var 1) (.neg (.con (.int 1)))) (.con (.int 1))) (.fld (.var 0) "leave")) (.con (.int 1)))|0])
def zw:Nat×Nat×Ss:=(5,8,%[.set 5 (.idx (.met (.var 0) "rules" .nil) (.var 1)),.set 6 (.met (.var 5) "weight" %[3|0]),.ite (.cmp .Eq (.var 6) (.con (.int 0))) %[.ret (.lst .nil)|0] .nil,.set 7 (.call "first_free" %[5,.call "pieces_among" %[0,1,2|0],4,6|0]),.ite (.cmp .Eq (.var 7) (.var 4)) %[.ret (.lst .nil)|0] .nil,.ret (.call "less" %[.lst %[.tup %[4,.bin .Sub (.var 7) (.con (.int 1))|0]|0],.met (.var 0) "lifted" %[1|0]|0])|0])
noncomputable abbrev j8:Ss:=%[.ext 5 (.call "barred_days" %[0,6,4,2,3|0])|0]
def zY:Ss:=j8
def JI:USs zY j8:=λ_ _ _ _=>(rfl)
def qz:Nat×Nat×Ss:=(4,9,%[.set 4 (.call "let_stays" %[0,1|0]),.expr (.call "check_day" %[4,3|0]),.expr (.call "check_land" %[4,2|0]),.set 5 (.lst .nil),.for_ (.one 6) (.rng (.b1 .len (.met (.var 0) "rules" .nil))) zY,.set 7 (.call "spread" %[5|0]),.ite (.or (.not (.val (.var 7))) (.one (.cmp .Lt (.var 3) (.idx (.idx (.var 7) (.con (.int 0))) (.con (.int 0)))))) %[.ret (.var 3)|0] .nil,.set 8 (.bin .Add (.idx (.idx (.var 7) (.con (.int 0))) (.con (.int 1))) (.con (.int 1))),.ret (.ite (.cmp .Lt (.var 8) (.con (.int 3000000000))) (.var 8) (.con .non))|0])
class LB(pg:Pg):Prop where
 r_least_begin:RW pg "least_begin" jE
 r_first_free:RW pg "first_free" zj
 r_barred_days:RW pg "barred_days" zw
 r_first_back:RW pg "first_back" qz
open FA Dy
open L2 hiding St
open CH ST SP RU BO BT PC SU FK FM FO LI LQ LL LB
section
variable{pg:Pg}[CH pg][ST pg][RU pg][BO pg][SP pg][BT pg][PC pg][SU pg][FK pg][FM pg][LI pg]
def qhq(k:Nat)(b:Bool)(rs:List Ru)(ps:List Pa)(hp:ps.length<=18)(st:List St)(hc:Ch (-1) st)(hs:∀s∈st,NameOk s.1)(hl:st.length<=60)(hr:∀x∈rlF ps 0 rs,RlOk st x)(hf:qC rs ps st=none) :
  clK pg (k+8) "let_stays" [.val (bkI rs ps),aL b (st.map stD)]=.ok (.tmp (st.map stD)):=by
 have e1:=QQ (pg:=pg) (k+2) b st hc hl;have e2:=zv (pg:=pg) k true rs ps hp st hs (1:) hr;rw[hf]at e2;rw[r_let_stays]
 try simp only[J8,YM]at e1 e2 ⊢
 simp?![jD,e1,e2,Yq]
def Jz[LQ pg](k:Nat)(b:Bool)(l:List D)(z:Str)(h:NameOk z):clK pg (k+3) "check_land" [aL b l,.val (.str z)]=.ok (.val .non):=by have e:=qaQ (pg:=pg) k z h;rw[r_check_land];simp?![zS,e]
def qbW(st:List St):Int:=match st.getLast? with
 |none=>-1
 |some s=>s.2.2
def qa0{st:List St}(h:st≠[]):atI (st.map stD) (-1)=some (.tup [.str (st.getLast h).1,.int (st.getLast h).2.1,.int (st.getLast h).2.2]):=by
 have hl:0 < st.length:=List.length_pos_iff.mpr h
 have e:ixN (st.map stD).length (-1)=some (st.length - 1):=by
  unfold ixN;rw[List.length_map,if_neg (1:),if_pos (1:)]
  congr 1
  lia
 unfold atI;rw[e,Option.bind_some,List.getElem?_map,<-List.getLast?_eq_getElem?,List.getLast?_eq_some_getLast h];rfl
def YE(k:Nat)(b:Bool)(st:List St)(hl:st.length<=60)(d:Int)(h0:0<=d)(h1:d<=1000000000)(h:qbW st < d):clK pg (k+3) "check_day" [aL b (st.map stD),.val (.int d)]=.ok (.val .non):=by
 have e:=qP (pg:=pg) k d 0 1000000000 h0 h1;rw[r_check_day]
 by_cases hn:st=[]
 ·subst hn;have ie:([]:List D).isEmpty=true:=rfl;simp?![zL,e,List.map_nil,ie,Bool.not_true,Bool.false_eq_true]
 ·have la:=qa0 hn
  have hlt:¬ d<=(st.getLast hn).2.2:=by
   unfold qbW at h;rw[List.getLast?_eq_some_getLast hn]at h;dsimp only at h
   lia
  have ie:(st.map stD).isEmpty=false:=by
   cases st with
   |nil=>exact absurd rfl hn
   |cons a b=>rfl
  simp?![zL,e,ie,Bool.not_false,la,hlt]
def qgg:Option (Int×Int×Int)->D
 |none=>.tup [.non,.non]
 |some z=>.tup [.int (z.1 - 1),f3D z]
theorem qcM[LL pg][LQ pg](k:Nat)(b:Bool)(rs:List Ru)(ps:List Pa)(hp:ps.length<=18)(st:List St)(hc:Ch (-1) st)(hs:∀s∈st,NameOk s.1)(hl:st.length<=60)(hr:∀x∈rlF ps 0 rs,RlOk st x)(hf:qC rs ps st=none)
  (z:Str) (hz:NameOk z) (d:Int) (h0:0<=d) (h1:d<=1000000000) (hd:qbW st < d) (hr':∀x∈rlF ps 0 rs,RlOk (st++[(z,d,3000000000)]) x) :
  clK pg (k+9) "last_day" [.val (bkI rs ps),aL b (st.map stD),.val (.str z),.val (.int d)]=.ok (.val (qgg (qC rs ps (st++[(z,d,3000000000)])))):=by
 have e1:=qhq (pg:=pg) k b rs ps hp st hc hs hl hr hf;have e2:clK pg (k+8) "check_day" [.bor (st.map stD),.val (.int d)]=.ok (.val .non):=YE (pg:=pg) (k+5) true st hl d h0 h1 hd;have e3:clK pg (k+8) "check_land" [.bor (st.map stD),.val (.str z)]=.ok (.val .non):=Jz (pg:=pg) (k+5) true (st.map stD) z hz
 have e4:=zv (pg:=pg) (k+1) false rs ps hp (st++[(z,d,3000000000)]) (λs h=>by
  rcases List.mem_append.mp h with q|q
  ·exact hs s q
  ·rw[List.mem_singleton.mp q];exact hz) (by simp;lia) hr'
 have z1:0+1<=sizeLine:=(3:)
 have z2:0+1+1<=sizeLine:=(3:)
 have z3:0+1+1+1<=sizeLine:=(3:)
 have z4:st.length+(0+1)<=sizeLine:=qS (1:);rw[List.map_append,List.map_cons,List.map_nil,yn]at e4;rw[r_last_day]
 cases o:qC rs ps (st++[(z,d,3000000000)]) with
 |none=>
  rw[o]at e4
  try simp only[J8,YM]at e1 e4 ⊢
  simp?![zy,e1,e2,e3,e4,Yq,qgg,List.length_map,z1,z2,z3,z4]
 |some w=>
  rw[o]at e4
  try simp only[J8,YM]at e1 e4 ⊢
  simp?![zy,e1,e2,e3,e4,Yq,qgg,f3D,List.length_map,z1,z2,z3,z4]
end
def lbF:List Pa->Int->Int->Int
 |[],b,_=>b
 | p::R,_,left=>if p.2.1 - mn (left / p.2.2) (p.2.1 - p.1+1)+1 > p.1 then p.2.1 - mn (left / p.2.2) (p.2.1 - p.1+1)+1 else lbF R (p.2.1 - mn (left / p.2.2) (p.2.1 - p.1+1)+1) (left - mn (left / p.2.2) (p.2.1 - p.1+1) * p.2.2)
def qaj(L:List Pa)(room:Int):Int:=lbF L.reverse 3000000000 room
theorem Qj(cl:Cl)(v0 v1:Sl):∀(R:List Pa) (b left:Int) (s4 s5 s6 s7:Sl),WOk R->
  jP cl 1000 (.many [4,5,6]) qU (R.map paD) [v0,v1,.val (.int b),.val (.int left),s4,s5,s6,s7]=.ok (.ret (.val (.int (lbF R b left))))\/
  ∃N',jP cl 1000 (.many [4,5,6]) qU (R.map paD) [v0,v1,.val (.int b),.val (.int left),s4,s5,s6,s7]=.ok (.next (v0::v1::.val (.int (lbF R b left))::N'))
 |[],b,left,s4,s5,s6,s7,_=>.inr ⟨_,rfl⟩
 | p::R,b,left,s4,s5,s6,s7,h=>by
  have hp:=h p (5:);have hd:(0:Int) < p.2.2/\p.2.2 < 1073741824:={by lia,by lia};have mul:ZJ (mn (left / p.2.2) (p.2.1 - p.1+1)) p.2.2=true:=Jx (1:) (1:);have mnr:(if p.2.1 - p.1+1 < left / p.2.2 then p.2.1 - p.1+1 else left / p.2.2)=mn (left / p.2.2) (p.2.1 - p.1+1):=rfl;rw[lbF]
  by_cases hc:p.2.1 - mn (left / p.2.2) (p.2.1 - p.1+1)+1 > p.1
  ·rw[if_pos hc];left;have hc':p.1 < p.2.1 - mn (left / p.2.2) (p.2.1 - p.1+1)+1:=hc;rw[List.map_cons];simp?[qZ,zi,hd,mnr,hc']
  ·rw[if_neg hc];have hc':¬ p.1 < p.2.1 - mn (left / p.2.2) (p.2.1 - p.1+1)+1:=hc;have ih:=Qj cl v0 v1 R (p.2.1 - mn (left / p.2.2) (p.2.1 - p.1+1)+1) (left - mn (left / p.2.2) (p.2.1 - p.1+1) * p.2.2) (.val (.int p.1)) (.val (.int p.2.1)) (.val (.int p.2.2)) (.val (.int (mn (left / p.2.2) (p.2.1 - p.1+1)))) λq hq=>h q (by simp[hq]);rcases ih with ih|⟨N',ih⟩
   ·left;rw[List.map_cons];simp?[qZ,zi,hd,mnr,hc',mul,ih]
   ·right;refine{N',?_};rw[List.map_cons];simp?[qZ,zi,hd,mnr,hc',mul,ih]
section
variable{pg:Pg}[RU pg][SU pg][LB pg]
def qeA(k:Nat)(L:List Pa)(h:WOk L)(room:Int):clK pg (k+1) "least_begin" [.val (.lst (L.map paD)),.val (.int room)]=.ok (.val (.int (qaj L room))):=by
 have lp:=Qj (pg.kk k) (.val (.lst (L.map paD))) (.val (.int room)) L.reverse 3000000000 room .no .no .no .no λp hp=>h p (-hp:);rw[List.map_reverse]at lp;unfold qaj;rw[r_least_begin];rcases lp with e|⟨N',e⟩
 ·simp?![jE,e]
 ·simp?![jE,e]
def JJ(L:List Pa):Int:=match L.getLast? with
 |none=>0
 |some p=>p.2.1
def qgh{L:List Pa}(h:L≠[]):∃p:Pa,atI (L.map paD) (-1)=some (paD p)/\p.2.1=JJ L:=by
 have hl:0 < L.length:=List.length_pos_iff.mpr h
 have e:ixN (L.map paD).length (-1)=some (L.length - 1):=by
  unfold ixN;rw[List.length_map,if_neg (1:),if_pos (1:)]
  congr 1
  lia
 refine{L.getLast h,?_,?_}
 ·unfold atI;rw[e,Option.bind_some,List.getElem?_map,<-List.getLast?_eq_getElem?,List.getLast?_eq_some_getLast h];rfl
 ·unfold JJ;rw[List.getLast?_eq_some_getLast h]
def ffF(r:Ru)(L:List Pa)(d w:Int):Int:=
 if qt r (L++[(d,d,w)]) d<=r.most then d
 else if r.most < w then 3000000000
 else if r.kd.isW=true then qaj L (r.most - w)+r.days - 1
 else JJ L+r.days+1
def qak(k:Nat)(r:Ru)(L:List Pa)(h:WOk L)(hl:L.length < 9000)(d w:Int)(hw:1<=w/\w<=9)(hn:¬ qt r (L++[(d,d,w)]) d<=r.most->¬ r.most < w->L≠[]) :
  clK pg (k+4) "first_free" [.val (ruI r),.val (.lst (L.map paD)),.val (.int d),.val (.int w)]=.ok (.val (.int (ffF r L d w))):=by
 have hW:WOk (L++[(d,d,w)]):=λp hp=>by
  rcases List.mem_append.mp hp with q|q
  ·exact h p q
  ·rw[List.mem_singleton.mp q];exact hw
 have e1:clK pg (k+3) "count_among" [.val (ruI r),.val (.lst (L.map paD++[.tup [.int d,.int d,.int w]])),.val (.int d)]=.ok (.val (.int (qt r (L++[(d,d,w)]) d))):=by have q:=jC (pg:=pg) k false r (L++[(d,d,w)]) hW d;rw[List.map_append,List.map_cons,List.map_nil,zi]at q;exact q
 have z1:0+1<=sizeLine:=(3:)
 have z3:0+1+1+1<=sizeLine:=(3:)
 have z4:L.length+(0+1)<=sizeLine:=qS (1:);have iw:=Yo (xx:=pg.xx) r;unfold ffF;rw[r_first_free]
 by_cases c1:qt r (L++[(d,d,w)]) d<=r.most
 ·rw[if_pos c1];simp?![zj,List.length_map,z1,z3,z4,e1,RU.cs,Jm,c1]
 ·rw[if_neg c1]
  by_cases c2:r.most < w
  ·rw[if_pos c2];simp?![zj,List.length_map,z1,z3,z4,e1,RU.cs,Jm,c1,c2]
  ·rw[if_neg c2]
   cases hk:r.kd.isW with
   |true=>rw[hk]at iw;have e2:=qeA (pg:=pg) (k+2) L h (r.most - w);rw[if_pos rfl];simp?![zj,List.length_map,z1,z3,z4,e1,RU.cs,Jm,c1,c2,iw,e2,qaV r hk]
   |false=>rw[hk]at iw;obtain⟨p,e3,e4⟩:=qgh (hn c1 c2);rw[if_neg (2:),<-e4];rw[zi]at e3;simp?![zj,List.length_map,z1,z3,z4,e1,RU.cs,Jm,c1,c2,iw,e3,qbL r hk]
end
def brF(x:Rl)(st:List St)(z:Str)(d:Int):List Pr:=
 if (wt x.1.lands (some z) == 0)=true then []
 else if (ffF x.1 (yd st x) d (wt x.1.lands (some z)) == d)=true then []
 else yB (d,ffF x.1 (yd st x) d (wt x.1.lands (some z)) - 1) x.2
structure BrOk(st:List St)(z:Str)(d:Int)(x:Rl):Prop where
 ln:∀p∈x.1.lands,LnOk p
 w:WOk (yd st x)
 lf:x.2.length<=20
 ne:1<=wt x.1.lands (some z)->¬ qt x.1 (yd st x++[(d,d,wt x.1.lands (some z))]) d<=x.1.most->¬ x.1.most < wt x.1.lands (some z)->yd st x≠[]
section
variable{pg:Pg}[CH pg][ST pg][RU pg][BO pg][SP pg][BT pg][PC pg][SU pg][FK pg][FM pg][LI pg][LQ pg][LB pg]
theorem qeB(k:Nat)(rs:List Ru)(ps:List Pa)(hp:ps.length<=18)(n:Nat)(r:Ru)(hn:rs[n]?=some r)(st:List St)(hs:∀s∈st,NameOk s.1)(hl:st.length<=70)(z:Str)(hz:NameOk z)(d:Int)(hb:BrOk st z d (r,lift n ps)) :
  clK pg (k+5) "barred_days" [.val (bkI rs ps),.val (.int (n:Int)),.bor (st.map stD),.val (.str z),.val (.int d)]=.ok (.tmp ((brF (r,lift n ps) st z d).map pD)):=by
 have e0:=JR (pg:=pg) (k+3) rs ps;have e1:clK pg (k+4) "Rule.weight" [.val (ruI r),.val (.str z)]=.ok (.val (.int (wt r.lands (some z)))):=qac (pg:=pg) (k+3) r hb.ln (some z) λy hy=>by cases hy;exact hz
 have e2:=qaf (pg:=pg) (k+1) true rs ps hp n r hn hb.ln hb.lf st hs (1:);have e3:=qad (pg:=pg) (k+2) rs ps n (1:);have at_:=qef hn;have nn:0<=wt r.lands (some z):=qi2 hb.ln (some z);have w9:wt r.lands (some z)<=9:=qi8 hb.ln (some z);have len:=yD r (lift n ps) st;have hlf:=hb.lf;have m1:(lift (n:Int) ps).length+2<=22:=Nat.add_le_add_right hlf 2
 have hlen:(qu r (lift n ps) st).length < 9000:=by
  have:=Nat.mul_le_mul hl m1
  lia
 unfold brF;dsimp only;rw[r_barred_days]
 cases c1:(wt r.lands (some z) == 0) with
 |true=>rw[if_pos rfl];simp![aL]at e2;simp?![zw,RU.cs,zu,j5,e0,at_,e1,qE,c1,show(0:Nat)<=sizeLine by decide+kernel]
 |false=>
  have c1':wt r.lands (some z)≠0:=λq=>by rw[q]at c1;cases c1
  have e4:=qak (pg:=pg) k r (qu r (lift n ps) st) hb.w hlen d (wt r.lands (some z)) ⟨by lia,w9⟩ (hb.ne (by show 1<=wt r.lands (some z);lia));rw[if_neg (2:)];rw[show yd st (r,lift (n:Int) ps)=qu r (lift n ps) st from rfl]
  cases c2:(ffF r (qu r (lift n ps) st) d (wt r.lands (some z)) == d) with
  |true=>rw[if_pos rfl];simp![aL]at e2;simp?![zw,RU.cs,zu,j5,e0,at_,e1,qE,c1,e2,e4,c2,show(0:Nat)<=sizeLine by decide+kernel]
  |false=>rw[if_neg (2:)];have e5:=qek (pg:=pg) (k+2) false (d,ffF r (qu r (lift n ps) st) d (wt r.lands (some z)) - 1) (lift n ps) (1:);simp![aL]at e2 e5;simp?![zw,RU.cs,zu,qab,j5,e0,at_,e1,qE,c1,e2,e4,c2,e3,e5,show 0+1+1<=sizeLine by decide+kernel,show 0+1<=sizeLine by decide+kernel]
def brL(st:List St)(z:Str)(d:Int):List Rl->List Pr
 |[]=>[]
 | x::l=>brF x st z d++brL st z d l
theorem qal(k:Nat)(rs:List Ru)(ps:List Pa)(hp:ps.length<=18)(v1:Sl)(st:List St)(hs:∀s∈st,NameOk s.1)(hl:st.length<=70)(z:Str)(hz:NameOk z)(d:Int)(v7 v8:Sl):∀(rest:List Rl) (i:Nat) (acc:List Pr) (s6:Sl),(∀(j:Nat) x,rest[j]?=some x->rs[i+j]?=some x.1/\x.2=lift ((i+j:Nat):Int) ps/\BrOk st z d x)->acc.length+(brL st z d rest).length < 9000->
  ∃s6',jP (pg.kk (k+5)) 1000 (.one 6) zY (rgF (i:Int) rest.length) [.val (bkI rs ps),v1,.val (.str z),.val (.int d),.own (st.map stD),.own (acc.map pD),s6,v7,v8]=.ok (.next [.val (bkI rs ps),v1,.val (.str z),.val (.int d),.own (st.map stD),.own ((acc++brL st z d rest).map pD),s6',v7,v8])
 |[],i,acc,s6,_,_=>{s6,by simp[brL,rgF,jw]}
 | x::rest,i,acc,s6,h,hlen=>by
  rw[brL,List.length_append]at hlen;obtain⟨h1,h2,h3⟩:=h 0 x rfl;rw[Nat.add_zero]at h1 h2;obtain⟨r,lf⟩:=x;dsimp only at h1 h2;subst h2;have e:=qeB (pg:=pg) k rs ps hp i r h1 st hs hl z hz d h3
  obtain⟨s6',ih⟩:=qal k rs ps hp v1 st hs hl z hz d v7 v8 rest (i+1) (acc++brF (r,lift (i:Int) ps) st z d) (.val (.int (i:Int))) (λj y hy=>by
   have:=h (j+1) y hy
   rw[show i+1+j=i+(j+1) by lia];exact this) (by rw[List.length_append];lia)
  refine{s6',?_};have hz1:(acc.map pD).length+((brF (r,lift (i:Int) ps) st z d).map pD).length<=sizeLine:=by rw[List.length_map,List.length_map];exact qS (1:)
  rw[brL,<-List.append_assoc,List.length_cons];rw[show((i+1:Nat):Int)=(i:Int)+1 by lia,List.map_append (l₁:=acc)]at ih;refine(qk _).symm.trans ?_;rw[rgF];simp?![JI,e,hz1,ih]
end
def qjg(B:List Pr)(d:Int):Option Int:=match B with
 |[]=>some d
 | p::_=>if d < p.1 then some d else if p.2+1 < 3000000000 then some (p.2+1) else none
def qjh(rs:List Ru)(ps:List Pa)(st:List St)(z:Str)(d:Int):Option Int:=qjg (spr (brL st z d (rlF ps 0 rs))) d
section
variable{pg:Pg}[CH pg][ST pg][RU pg][BO pg][SP pg][BT pg][PC pg][SU pg][FK pg][FM pg][LI pg][LQ pg][LB pg]
theorem qam(k:Nat)(b:Bool)(rs:List Ru)(ps:List Pa)(hrs:rs.length<=8)(hp:ps.length<=18)(st:List St)(hc:Ch (-1) st)(hs:∀s∈st,NameOk s.1)(hl:st.length<=60)(hr:∀x∈rlF ps 0 rs,RlOk st x)(hf:qC rs ps st=none)
  (z:Str) (hz:NameOk z) (d:Int) (h0:0<=d) (h1:d<=1000000000) (hd:qbW st < d) (hb:∀x∈rlF ps 0 rs,BrOk st z d x) (h64:(brL st z d (rlF ps 0 rs)).length < 64) :
  clK pg (k+9) "first_back" [.val (bkI rs ps),aL b (st.map stD),.val (.str z),.val (.int d)]=.ok (.val (YN (qjh rs ps st z d))):=by
 have e1:=qhq (pg:=pg) k b rs ps hp st hc hs hl hr hf;have e2:clK pg (k+8) "check_day" [.bor (st.map stD),.val (.int d)]=.ok (.val .non):=YE (pg:=pg) (k+5) true st hl d h0 h1 hd;have e3:clK pg (k+8) "check_land" [.bor (st.map stD),.val (.str z)]=.ok (.val .non):=Jz (pg:=pg) (k+5) true (st.map stD) z hz;have e0:=JR (pg:=pg) (k+7) rs ps
 obtain⟨s6,lp⟩:=qal (pg:=pg) (k+3) rs ps hp (pS b (st.map stD)) st hs (1:) z hz d .no .no (rlF ps 0 rs) 0 [] .no (λj x hx=>by have hm:=hb x (List.mem_of_getElem? hx);rw[Yr,Nat.zero_add]at hx;obtain⟨r,er,rfl⟩:=Option.map_eq_some_iff.mp hx;rw[Nat.zero_add];exact⟨er,rfl,hm⟩) (by simp;lia)
 rw[List.map_nil,List.nil_append,Q9,show((0:Nat):Int)=0 from rfl]at lp;have e5:=qaa (pg:=pg) (k+7) true (brL st z d (rlF ps 0 rs)) h64;have sm:zf (rs.length:Int)=true:=qae (1:) (1:);have zz:(0:Nat)<=sizeLine:=(3:)
 unfold qjh;rw[r_first_back];generalize spr (brL st z d (rlF ps 0 rs))=B at *
 cases B with
 |nil=>
  have ie:([]:List D).isEmpty=true:=rfl
  try simp only[J8,YM]at e1 lp e5 ⊢
  rw[List.map_nil]at e5;simp?![qz,RU.cs,zu,e0,e1,e2,e3,zz,List.length_map,sm,jb,Int.sub_zero,Int.toNat_natCast,lp,e5,ie,Bool.not_true,qjg,YN]
 |cons p B=>
  rw[List.map_cons,j0]at e5;have ie:∀(x:D) (l:List D),(x::l).isEmpty=false:=λ_ _=>rfl;have a0:∀(x:D) (l:List D),atI (x::l) 0=some x:=λx l=>by unfold atI ixN;simp
  unfold qjg;dsimp only
  by_cases c1:d < p.1
  ·rw[if_pos c1]
   try simp only[J8,YM]at e1 lp e5 ⊢
   simp?![qz,RU.cs,zu,e0,e1,e2,e3,zz,List.length_map,sm,jb,Int.sub_zero,Int.toNat_natCast,lp,e5,ie,a0,Bool.not_false,c1,YN]
  ·rw[if_neg c1]
   by_cases c2:p.2+1 < 3000000000
   ·rw[if_pos c2]
    try simp only[J8,YM]at e1 lp e5 ⊢
    simp?![qz,RU.cs,zu,e0,e1,e2,e3,zz,List.length_map,sm,jb,Int.sub_zero,Int.toNat_natCast,lp,e5,ie,a0,Bool.not_false,c1,c2,YN]
   ·rw[if_neg c2]
    try simp only[J8,YM]at e1 lp e5 ⊢
    simp?![qz,RU.cs,zu,e0,e1,e2,e3,zz,List.length_map,sm,jb,Int.sub_zero,Int.toNat_natCast,lp,e5,ie,a0,Bool.not_false,c1,c2,YN]
end
theorem Cnt.loc{w:Bool}{n:Int}{f f' C C':Int->Int}(h:Cnt w n f C)(h':Cnt w n f' C')(hn:1<=n){D:Int}(he:∀x,x<=D->f' x=f x):C' D=C D:=by
 cases hw:w with
 |true=>rw[h.win hw,h'.win hw,qaX _ _ λx h1 h2=>he x (1:)]
 |false=>
  obtain⟨b,hb⟩:=h.low;obtain⟨b',hb'⟩:=h'.low
  have key:∀k:Nat,∀d,d<=D->d < mn b b'+k->C' d=C d:=by
   intro k;have m:=qcK b b'
   induction k with
   |zero=>intro d _ hd;rw[(hb d (1:)).1,(hb' d (1:)).1]
   |succ k ih=>
    intro d h1 hd
    by_cases i:YU f n d
    ·have i':YU f' n d:=λx hx hx'=>by rw[he x (1:)];exact i x hx hx'
     rw[h.idle hw d i,h'.idle hw d i']
    ·have i':¬ YU f' n d:=λz=>i λx hx hx'=>by rw[<-he x (1:)];exact z x hx hx'
     rw[h.busy hw d i,h'.busy hw d i',he d h1,ih (d - 1) (1:) (1:)]
  exact key (D - mn b b'+1).toNat D (Int.le_refl _) (1:)
def qan(w:Bool)(C:Int->Int)(e:Int):Int:=if w=true then C e else C (e - 1)
theorem Cnt.one{w:Bool}{n:Int}{f f' C C':Int->Int}(h:Cnt w n f C)(h':Cnt w n f' C')(hn:1<=n){e:Int}(he:∀x,x < e->f' x=f x)(h0:f e=0)(h1:f' e≠0):C' e=qan w C e+f' e:=by
 unfold qan
 cases hw:w with
 |true=>
  rw[if_pos rfl,h.win hw,h'.win hw];obtain⟨m,rfl⟩:∃m:Nat,n=((m+1:Nat):Int):={(n - 1).toNat,by lia};rw[Int.toNat_natCast,Ys,Ys,show e - ((m+1:Nat):Int)+1+(m:Int)=e by lia,h0,qaX (f:=f') (g:=f) _ _ λx h1 h2=>he x (1:)]
  lia
 |false=>rw[if_neg (2:),h'.busy' hw hn h1,Cnt.loc h h' hn λx hx=>he x (1:)]
def Cnt.down{w:Bool}{n:Int}{f C:Int->Int}(h:Cnt w n f C)(hn:1<=n){d:Int}(h0:∀x,d<=x->f x=0){e e':Int}(h1:d<=e)(h2:e<=e'):qan w C e'<=qan w C e:=by
 have key:∀k:Nat,qan w C (e+k)<=qan w C e:=by
  intro k
  induction k with
  |zero=>rw[show e+((0:Nat):Int)=e by lia];exact Int.le_refl _
  |succ k ih=>
   refine Int.le_trans ?_ ih;unfold qan;split
   ·have:=h.grow hn (e+(k+1:Nat))
    rw[h0 _ (1:),show e+((k+1:Nat):Int) - 1=e+(k:Int) by lia]at this
    lia
   ·have:=h.grow hn (e+(k+1:Nat) - 1)
    rw[h0 _ (1:),show e+((k+1:Nat):Int) - 1 - 1=e+(k:Int) - 1 by lia]at this
    lia
 have:=key (e' - e).toNat
 rwa[show e+((e' - e).toNat:Int)=e' by lia]at this
def qji{L:List Pa}{d w:Int}(hL:PcOk L)(hd:∀p∈L,p.2.1 < d)(hw:1<=w/\w<=9):PcOk (L++[(d,d,w)])/\pf (L++[(d,d,w)]) d=w/\∀x,x < d->pf (L++[(d,d,w)]) x=pf L x:=by
 have ok:PcOk (L++[(d,d,w)]):=by
  refine{λp hp=>?_,?_}
  ·rcases List.mem_append.mp hp with q|q
   ·exact hL.ok p q
   ·rw[List.mem_singleton.mp q];exact{Int.le_refl _,hw}
  ·rw[List.pairwise_append];refine{hL.ap,List.pairwise_singleton _ _,λp hp q hq=>?_};rw[List.mem_singleton.mp hq];exact hd p hp
 refine{ok,zX ok (p:=(d,d,w)) (5:) {Int.le_refl _,Int.le_refl _},λx hx=>?_};rw[qhm];split
 ·rfl
 ·rename_i hn
  rw[qN (L:=[(d,d,w)]) λp hp i=>by
   rw[List.mem_singleton.mp hp]at i
   have:d<=x:=i.1
   lia,qN λp hp i=>hn ⟨p,hp,i⟩]
def qa1{p:Pa}{t f:Int}(ht:p.2.1<=t)(h1:p.1<=f)(h2:f<=p.2.1):Qi f t p=(p.2.1 - f+1) * p.2.2:=by unfold Qi;rw[(JG p.2.1 t).1 ht,(qcE p.1 f).1 h1,if_pos (1:)]
def Za{p:Pa}{t f:Int}(ht:p.2.1<=t)(hp:p.1<=p.2.1)(h1:f<=p.1):Qi f t p=(p.2.1 - p.1+1) * p.2.2:=by unfold Qi;rw[(JG p.2.1 t).1 ht,(qcE p.1 f).2 h1,if_pos (1:)]
def JS{p:Pa}{t f:Int}(h1:p.2.1 < f):Qi f t p=0:=by have a:=qcK p.2.1 t;have b:=qaZ p.1 f;unfold Qi;rw[if_neg (1:)]
def qjj{p:Pa}{t f:Int}(ht:p.2.1<=t)(hp:p.1<=p.2.1)(hw:1<=p.2.2):Qi f t p<=(p.2.1 - p.1+1) * p.2.2:=by
 by_cases h1:f<=p.1
 ·rw[Za ht hp h1];exact Int.le_refl _
 ·by_cases h2:f<=p.2.1
  ·rw[qa1 ht (1:) h2];exact Int.mul_le_mul_of_nonneg_right (1:) (1:)
  ·rw[JS (1:)];exact Int.mul_nonneg (1:) (1:)
theorem Zb{t f:Int}:∀{R:List Pa},(∀p∈R,p.2.1 < f)->zK f t R=0
 |[],_=>rfl
 | p::R,h=>by rw[zK,JS (h p (5:)),Zb λq hq=>h q (by simp[hq])];rfl
theorem qbX{t f:Int}:∀{R:List Pa},0 < zK f t R->∃p∈R,f<=p.2.1
 |[],h=>by simp[zK]at h
 | p::R,h=>by
  by_cases q:f<=p.2.1
  ·exact{p,by simp,q}
  ·rw[zK,JS (1:)]at h;obtain⟨p',h1,h2⟩:=qbX (t:=t) (f:=f) (R:=R) (1:);exact{p',by simp[h1],h2}
theorem qms{t:Int}:∀(R:List Pa) (b left:Int),RvOk R->(∀p∈R,1<=p.2.2/\p.2.1<=t)->0<=left->(∃m,left < zK m t R)->zK (lbF R b left) t R<=left/\left < zK (lbF R b left - 1) t R
 |[],b,left,_,_,h0,h=>by
  obtain⟨m,hm⟩:=h;simp[zK]at hm
  lia
 | p::R,b,left,hR,hw,h0,hm=>by
  obtain⟨w1,ht⟩:=hw p (5:);have hp:=hR.ok p (5:);have hap:=(List.pairwise_cons.mp hR.ap).1;have q0:0<=left / p.2.2:=Int.ediv_nonneg h0 (1:);have q1:left / p.2.2 * p.2.2<=left:=Int.ediv_mul_le left (1:);have q2:left < (left / p.2.2+1) * p.2.2:=Int.lt_ediv_add_one_mul_self left (1:);have m:=qcK (left / p.2.2) (p.2.1 - p.1+1);rw[lbF];generalize hq:left / p.2.2=q at *
  by_cases c:p.2.1 - mn q (p.2.1 - p.1+1)+1 > p.1
  ·rw[if_pos c]
   have e:mn q (p.2.1 - p.1+1)=q:=by
    rcases m.2.2 with z|z
    ·exact z
    ·lia
   rw[e]at c ⊢;have o1:zK (p.2.1 - q+1) t R=0:=Zb λp' hp'=>by have:=hap p' hp';lia
   have o2:zK (p.2.1 - q+1 - 1) t R=0:=Zb λp' hp'=>by have:=hap p' hp';lia
   rw[zK,zK,o1,o2];refine{?_,?_}
   ·by_cases z:q=0
    ·rw[JS (1:)];lia
    ·rw[qa1 ht (1:) (1:),show p.2.1 - (p.2.1 - q+1)+1=q by lia];lia
   ·rw[qa1 ht (1:) (1:),show p.2.1 - (p.2.1 - q+1 - 1)+1=q+1 by lia];lia
  ·rw[if_neg c]
   have e:mn q (p.2.1 - p.1+1)=p.2.1 - p.1+1:=by rcases m.2.2 with z|z<;>lia
   rw[e];have len:(p.2.1 - p.1+1) * p.2.2<=left:=Int.le_trans (Int.mul_le_mul_of_nonneg_right (show p.2.1 - p.1+1<=q by lia) (1:)) q1;obtain⟨m',hm'⟩:=hm;rw[zK]at hm';have cl:=qjj (f:=m') ht hp w1;have ih:=qms R (p.2.1 - (p.2.1 - p.1+1)+1) (left - (p.2.1 - p.1+1) * p.2.2) hR.tail (λq hq=>hw q (by simp[hq])) (1:) ⟨m',by lia⟩;generalize lbF R (p.2.1 - (p.2.1 - p.1+1)+1) (left - (p.2.1 - p.1+1) * p.2.2)=B at *;obtain⟨p',h1,h2⟩:=qbX (R:=R) (t:=t) (f:=B - 1) (1:);have h3:=hap p' h1;rw[zK,zK,Za (f:=B) ht hp (1:),Za (f:=B - 1) ht hp (1:)]
   lia
def qeC{p:Pa}{t b b':Int}(hw:0<=p.2.2)(h:b<=b'):Qi b' t p<=Qi b t p:=by
 have m1:=qaZ p.1 b;have m2:=qaZ p.1 b';unfold Qi
 by_cases c:0 < mn p.2.1 t - mx p.1 b'+1
 ·rw[if_pos c,if_pos (1:)];exact Int.mul_le_mul_of_nonneg_right (1:) hw
 ·rw[if_neg c];split
  ·exact Int.mul_nonneg (1:) hw
  ·exact Int.le_refl _
theorem YF{t b b':Int}(h:b<=b'):∀{R:List Pa},(∀p∈R,0<=p.2.2)->zK b' t R<=zK b t R
 |[],_=>Int.le_refl _
 | p::R,hw=>by
  rw[zK,zK];have a:=qeC (t:=t) (hw p (5:)) h;have b:=YF (t:=t) h (R:=R) λq hq=>hw q (by simp[hq])
  lia
theorem qbY{b t t':Int}:∀{R:List Pa},(∀p∈R,p.2.1<=t/\p.2.1<=t')->zK b t R=zK b t' R
 |[],_=>rfl
 | p::R,h=>by obtain⟨h1,h2⟩:=h p (5:);rw[zK,zK,qbY (t:=t) (t':=t') λq hq=>h q (by simp[hq])];unfold Qi;rw[(JG p.2.1 t).1 h1,(JG p.2.1 t').1 h2]
def qgi{L:List Pa}(hL:PcOk L)(h:L≠[]):pf L (JJ L)≠0/\∀p∈L,p.2.1<=JJ L:=by
 have hm:=List.getLast_mem h;have e:JJ L=(L.getLast h).2.1:=by unfold JJ;rw[List.getLast?_eq_some_getLast h]
 rw[e];refine{(qey hL _).mpr {_,hm,(hL.ok _ hm).1,Int.le_refl _},λp hp=>?_};obtain⟨A,hA⟩:∃A,L=A++[L.getLast h]:={L.dropLast,(List.dropLast_concat_getLast h).symm};rw[hA]at hp;rcases List.mem_append.mp hp with q|q
 ·have ap:=hL.ap;rw[hA,List.pairwise_append]at ap
  have:=ap.2.2 p q (L.getLast h) (List.mem_singleton.mpr rfl)
  have:=(hL.ok _ hm).1
  lia
 ·rw[List.mem_singleton.mp q];exact Int.le_refl _
structure FF(w:Bool)(C:Int->Int)(most wt d F:Int):Prop where
 le:d<=F
 bar:∀e,d<=e->e < F->most < qan w C e+wt
 free:(∀e,d<=e->F<=e->qan w C e+wt<=most)\/F=3000000000
def qjk{w:Bool}{n:Int}{f C:Int->Int}(h:Cnt w n f C)(e:Int):0<=qan w C e:=by
 unfold qan;split
 ·exact h.pos e
 ·exact h.pos (e - 1)
def qoc{r:Ru}(h1:1<=r.days){L:List Pa}(hL:PcOk L){d w:Int}(hd:∀p∈L,p.2.1 < d)(hd3:d<=3000000000)(hw:1<=w/\w<=9):FF r.kd.isW (qt r L) r.most w d (ffF r L d w)/\(¬ qt r (L++[(d,d,w)]) d<=r.most->¬ r.most < w->L≠[]):=by
 have hC:=YB h1 hL
 have z:∀x,d<=x->pf L x=0:=λx hx=>qN λp hp i=>by
  have:=hd p hp
  have:=i.2
  lia
 have V:qt r (L++[(d,d,w)]) d=qan r.kd.isW (qt r L) d+w:=by
  obtain⟨k1,k2,k3⟩:=qji hL hd hw
  have:=Cnt.one hC (YB h1 k1) h1 k3 (z d (Int.le_refl _)) (by rw[k2];lia)
  rwa[k2]at this
 have ne:¬ qt r (L++[(d,d,w)]) d<=r.most->¬ r.most < w->L≠[]:=λc1 c2 q=>by
  rw[V]at c1
  have z0:∀x,qt r ([]:List Pa) x=0:=λx=>by unfold qt;rfl
  subst q;unfold qan at c1;rw[z0,z0]at c1
  split at c1<;>lia
 refine{?_,ne};have dn:∀{e e':Int},d<=e->e<=e'->qan r.kd.isW (qt r L) e'<=qan r.kd.isW (qt r L) e:=λa b=>hC.down h1 z a b;unfold ffF
 by_cases c1:qt r (L++[(d,d,w)]) d<=r.most
 ·rw[if_pos c1];rw[V]at c1;exact{Int.le_refl _,λe a b=>absurd a (1:),.inl λe a b=>by have:=dn (Int.le_refl d) a;lia}
 ·have hne:=ne c1;rw[if_neg c1];rw[V]at c1
  by_cases c2:r.most < w
  ·rw[if_pos c2];exact{hd3,λe _ _=>by have:=qjk hC e;lia,.inr rfl}
  ·have hne:=hne c2;rw[if_neg c2]
   cases hk:r.kd.isW with
   |true=>
    rw[if_pos rfl];rw[hk]at c1 hC;have uu:∀e,qan true (qt r L) e=qt r L e:=λe=>if_pos rfl
    have cs:∀e,d<=e->qt r L e=zK (e - r.days+1) (d - 1) L:=λe he=>by rw[hC.win rfl,qmp hL,qbY (t':=d - 1) λp hp=>{by have:=hd p hp;lia,by have:=hd p hp;lia}]
    have nn:∀p∈L,0<=p.2.2:=λp hp=>by have:=(hL.ok p hp).2.1;lia
    rw[uu,cs d (Int.le_refl _)]at c1
    have lb:=qms (t:=d - 1) L.reverse 3000000000 (r.most - w) (RvOk.of hL) (λp hp=>by
     have hp:p∈L:=(-hp:)
     have:=hd p hp
     exact{(hL.ok p hp).2.1,by lia}) (1:) ⟨d - r.days+1,by rw[y6];lia⟩
    rw[y6,y6]at lb;have eB:qaj L (r.most - w)=lbF L.reverse 3000000000 (r.most - w):=rfl;rw[<-eB]at lb;generalize qaj L (r.most - w)=B at lb
    have hi:∀e,d<=e->B+r.days - 1<=e->qt r L e+w<=r.most:=λe a b=>by
     rw[cs e a]
     have:=YF (t:=d - 1) (show B<=e - r.days+1 by lia) nn
     lia
    have lo:∀e,d<=e->e < B+r.days - 1->r.most < qt r L e+w:=λe a b=>by
     rw[cs e a]
     have:=YF (t:=d - 1) (show e - r.days+1<=B - 1 by lia) nn
     lia
    refine{?_,λe a b=>by rw[uu];exact lo e a b,.inl λe a b=>by rw[uu];exact hi e a b}
    by_cases q:d<=B+r.days - 1
    ·exact q
    ·have:=hi d (Int.le_refl _) (1:)
     rw[cs d (Int.le_refl _)]at this
     lia
   |false=>
    rw[if_neg (2:)];rw[hk]at c1 hC dn;have uu:∀e,qan false (qt r L) e=qt r L (e - 1):=λe=>if_neg (2:);obtain⟨l1,l2⟩:=qgi hL hne
    have l3:JJ L < d:=by
     by_cases q:JJ L < d
     ·exact q
     ·exact absurd (z _ (1:)) l1
    have nb:¬ YU (pf L) r.days (d - 1):=λi=>by
     have:=hC.idle rfl _ i
     rw[uu]at c1
     lia
    have l4:d - 1 - r.days < JJ L:=by
     by_cases q:d - 1 - r.days < JJ L
     ·exact q
     ·refine absurd (λx hx hx'=>?_) nb
      by_cases y:pf L x=0
      ·exact y
      ·obtain⟨p,hp,i⟩:=qgf y
       have:=l2 p hp
       have:=i.2
       lia
    have flat:∀k:Nat,d - 1+k < JJ L+r.days->qt r L (d - 1+k)=qt r L (d - 1):=by
     intro k
     induction k with
     |zero=>intro _;rw[show d - 1+((0:Nat):Int)=d - 1 by lia]
     |succ k ih=>
      intro hk;have b:=hC.busy rfl (d - 1+(k+1:Nat)) (λi=>l1 (i _ (1:) (1:)));rw[z _ (1:),show d - 1+((k+1:Nat):Int) - 1=d - 1+(k:Int) by lia,ih (1:)]at b
      lia
    refine{by lia,λe a b=>?_,.inl λe a b=>?_}
    ·rw[uu]at c1 ⊢
     have:=flat (e - d).toNat (1:)
     rw[show d - 1+((e - d).toNat:Int)=e - 1 by lia]at this
     lia
    ·rw[uu,hC.idle rfl (e - 1) λx hx hx'=>?_]
     ·lia
     ·by_cases y:pf L x=0
      ·exact y
      ·obtain⟨p,hp,i⟩:=qgf y
       have:=l2 p hp
       have:=i.2
       lia
def qbZ{r:Ru}{lf:List (Int×Int)}{st:List St}{a:Int}(h:∀s∈st,s.2.2 < a){d:Int}(hd:a<=d):wgt r lf st d=0:=QY (yA.mpr λs hs q=>by have:=h s hs;lia)
theorem qeD{rs:List Ru}{ps:List Pa}{st:List St}{e:Int}(hc:Chw e st)(hr:∀x∈rlF ps 0 rs,Rlw x)(h:∀x∈rlF ps 0 rs,∀D,cb st x D<=x.1.most):qC rs ps st=none:=by
 cases q:qC rs ps st with
 |none=>rfl
 |some z=>
  obtain⟨⟨j,x,g1,_,_,g4,_⟩,_⟩:=(Q8 hc hr).2 z q
  have:=h x (List.mem_of_getElem? g1) z.1
  lia
theorem qa2{st:List St}{d:Int}(h:∀s∈st,s.2.2 < d)(h0:0<=d):qbW st < d:=by
 unfold qbW
 cases q:st.getLast? with
 |none=>dsimp only;lia
 |some s=>exact h s (List.mem_of_getLast? q)
def qjl(x:Rl)(st:List St)(z:Str)(d:Int):(brF x st z d).length<=x.2.length+2:=by
 unfold brF;split
 ·simp
 ·split
  ·simp
  ·exact y4 _ _
theorem qeE{st:List St}{z:Str}{d:Int}:∀{A:List Rl},(∀x∈A,x.2.length<=5)->(brL st z d A).length<=7 * A.length
 |[],_=>by simp[brL]
 | x::A,h=>by
  rw[brL,List.length_append,List.length_cons];have a:=qjl x st z d;have b:=h x (5:);have c:=qeE (A:=A) (st:=st) (z:=z) (d:=d) λy hy=>h y (by simp[hy])
  lia
structure LimOk(rs:List Ru)(ps:List Pa)(st:List St):Prop where
 w:∀x∈rlF ps 0 rs,Rlw x
 lf:∀x∈rlF ps 0 rs,x.2.length<=5
 r8:rs.length<=8
 p18:ps.length<=18
 ch:Ch (-1) st
 nm:∀s∈st,NameOk s.1
 len:st.length<=60
 fit:∀x∈rlF ps 0 rs,∀D,cb st x D<=x.1.most
section
variable{pg:Pg}[CH pg][ST pg][RU pg][BO pg][SP pg][BT pg][PC pg][SU pg][FK pg][FM pg][LI pg][LQ pg]{rs:List Ru}{ps:List Pa}{st:List St}(o:LimOk rs ps st)
include o
theorem qgj[LL pg](k:Nat)(b:Bool){z:Str}(hz:NameOk z){d:Int}(h0:0<=d)(h1:d<=1000000000)(h:∀s∈st,s.2.2 < d):clK pg (k+9) "last_day" [.val (bkI rs ps),aL b (st.map stD),.val (.str z),.val (.int d)]=.ok (.val (qgg (qC rs ps (st++[(z,d,3000000000)])))):=
 qcM k b rs ps o.p18 st o.ch o.nm o.len (λx hx=>qex (o.w x hx) o.ch.w) (qeD o.ch.w o.w o.fit) z hz d h0 h1 (qa2 h h0) λx hx=>qex (o.w x hx) (Chw.snoc o.ch.w h (by show -1 < d;lia) (by show d<=3000000000;lia))
end
section
variable{pg:Pg}[CH pg][ST pg][RU pg][BO pg][SP pg][BT pg][PC pg][SU pg][FK pg][FM pg][LI pg][LQ pg][LB pg]{rs:List Ru}{ps:List Pa}{st:List St}(o:LimOk rs ps st)
include o
theorem qgk(k:Nat)(b:Bool){z:Str}(hz:NameOk z){d:Int}(h0:0<=d)(h1:d<=1000000000)(h:∀s∈st,s.2.2 < d):clK pg (k+9) "first_back" [.val (bkI rs ps),aL b (st.map stD),.val (.str z),.val (.int d)]=.ok (.val (YN (qjh rs ps st z d))):=by
 refine qam k b rs ps o.r8 o.p18 st o.ch o.nm o.len (λx hx=>qex (o.w x hx) o.ch.w) (qeD o.ch.w o.w o.fit) z hz d h0 h1 (qa2 h h0) (λx hx=>?_) ?_
 ·have hx':=o.w x hx;have hL:=YD hx' o.ch.w;refine{hx'.ln,hL.w,hx'.len,λw1=>?_}
  have ends:∀p∈yd st x,p.2.1 < d:=λp hp=>by
   have ne:=(qey hL p.2.1).mpr ⟨p,hp,(hL.ok p hp).1,Int.le_refl _⟩;rw[qbV hx' o.ch.w]at ne
   by_cases q:p.2.1 < d
   ·exact q
   ·exact absurd (qbZ h (1:)) ne
  exact(qoc (r:=x.1) hx'.days hL ends (1:) ⟨w1,qi8 hx'.ln (some z)⟩).2
 ·have a:=qeE (st:=st) (z:=z) (d:=d) o.lf;rw[Q9]at a
  have:=o.r8
  lia
end
end DG
namespace DE
open PySem L2
def isX(n t:Str):Bool:=t == n||t == "DayError"
def qe0(l:List (Str×Addr×List Str))(er:List (Str×Addr)):Xs where
 xa n:=((l.lookup n).map (·.1)).getD 0
 xn n:=(l.lookup n).map (·.2)
 xs C t:=(l.find? λe=>e.2.1 == C).bind λe=>if t == "ValueError" then some true else (er.lookup t).map λ_=>isX e.1 t
 xg C x:=l.any λe=>e.2.1 == C&&e.2.2.contains x
end DE
namespace K41
open PySem L2 DE DG FY FZ
def xE:List (Str×Addr×List Str):=[("NoStay",138,["number"]),("NotLet",157,["day","number","first"])]
def xR:List (Str×Addr):=[("DayError",87),("NoRule",100),("NoPaper",119),("NoStay",138),("NotLet",157),("NoWish",169),("NoDeed",181),("NoText",193),("NoRow",205)]
def pxx:Xs:=qe0 xE xR
def pg:Pg:={ defs:=[(("is_whole" : Str),top 4),(("is_between" : Str),top 5),(("are_days" : Str),top 6),(("is_made_of" : Str),top 7),(("is_name" : Str),top 8),(("spread" : Str),top 10),(("both" : Str),top 11),(("outside" : Str),top 12),(("less" : Str),top 13),(("is_land" : Str),top 27),(("are_lands" : Str),top 28),(("is_stay" : Str),top 36),(("stays_of" : Str),top 37),(("pieces_among" : Str),top 39),(("sum_of" : Str),top 40),(("first_since" : Str),top 41),(("first_of_window" : Str),top 42),(("count_among" : Str),top 43),(("turns_of" : Str),top 44),(("first_above" : Str),top 45),(("first_broken" : Str),top 46),(("fault_among" : Str),top 47),(("fault_of" : Str),top 48),(("let_stays" : Str),top 51),(("check_day" : Str),top 52),(("check_land" : Str),top 53),(("last_day" : Str),top 54),(("least_begin" : Str),top 55),(("first_free" : Str),top 56),(("barred_days" : Str),top 57),(("first_back" : Str),top 58),(("are_rules" : Str),top 62),(("is_paper" : Str),top 63),(("check_papers" : Str),top 64),(("_law_at" : Str),top 67),(("_law_word" : Str),top 68),(("_law_names" : Str),top 69),(("_law_spec" : Str),top 70),(("_law_rule" : Str),top 71),(("_law_stays" : Str),top 72),(("_law_papers" : Str),top 73),(("_law_kept" : Str),top 74),(("_law_other" : Str),top 75),(("_law_not_let" : Str),top 76),(("_law_no_stay" : Str),top 77),(("_law_amiss" : Str),top 78),(("law" : Str),top 79)],gl:=λx=>if x = "GREATEST" then some (.int 1000000000) else if x = "LETTERS" then some (.str "abcdefghijklmnopqrstuvwxyz") else if x = "LONGEST_NAME" then some (.int 8) else if x = "MOST_LANDS" then some (.int 6) else if x = "GREATEST_WEIGHT" then some (.int 9) else if x = "MOST_STAYS" then some (.int 60) else if x = "NEVER" then some (.int 3000000000) else if x = "MOST_RULES" then some (.int 8) else if x = "MOST_PAPERS" then some (.int 12) else none,m:=40,w:=1000,meths:=[("Rule.weight",mem 29 1),("Book.rules",mem 65 1),("Book.papers",mem 65 2),("Book.lifted",mem 65 3)],cs:=pcs pxx,nw:=pnw,xx:=pxx }
instance:DG.CH pg:={%[4|1],%[5|1],%[6|1],%[7|1],%[8|1]}
instance:DG.ST pg:={%[36|1],%[37|1]}
instance:DG.SP pg:={%[10|1]}
instance:DG.RU pg:={rfl,rfl,%[27|1],%[28|1],qo (pg:=pg) (st:=mem 29 1) (4:) (λk cl=>(4:))}
instance:DG.BO pg:={%[62|1],%[63|1],%[64|1],qo (pg:=pg) (st:=mem 65 1) (4:) (λk cl=>(4:)),qo (pg:=pg) (st:=mem 65 2) (4:) (λk cl=>(4:)),qo (pg:=pg) (st:=mem 65 3) (4:) (λk cl=>(4:))}
instance:DG.BT pg:={%[11|1],%[12|1],%[13|1]}
instance:DG.PC pg:={%[39|1]}
instance:DG.SU pg:={%[40|1],%[41|1],%[42|1],%[43|1]}
instance:DG.FK pg:={%[44|1],%[45|1],%[46|1]}
instance:DG.FM pg:={%[47|1]}
instance:DG.FO pg:={%[48|1]}
instance:FZ.ZA pg:={%[67|1]}
instance:FZ.ZW pg:={%[68|1]}
instance:FZ.ZN pg:={%[69|1]}
instance:FZ.ZR pg:={%[71|1]}
instance:FZ.ZT pg:={%[72|1]}
instance:FZ.ZP pg:={%[73|1]}
instance:DG.LI pg:={%[51|1],%[52|1]}
instance:DG.LQ pg:={%[53|1]}
instance:DG.LL pg:={%[54|1]}
instance:DG.LB pg:={%[55|1],%[56|1],%[57|1],%[58|1]}
instance:FY.ZY pg:={%[70|1]}
def zM:Nat×Nat×Ss:=(5,7,%[.set 5 (.con .non),.try_ %[.ite (.val (.var 4)) %[.expr (.call "first_back" %[0,1,2,3|0])|0] %[.expr (.call "last_day" %[0,1,2,3|0])|0]|0] [("DayError",6,5)],.ret (.var 5)|0])
def YG:RW pg "_law_kept" zM:=%[74|1]
def JA:Nat×Nat×Ss:=(1,1,%[.ret (.or (.isn ["NoDeed","NoPaper","NoRow","NoRule","NoText","NoWish"] (.var 0)) (.one (.not (.isc "ValueError" (.var 0)))))|0])
def qao:RW pg "_law_other" JA:=%[75|1]
def yo:Nat×Nat×Ss:=(2,2,%[.ite (.or (.not (.val (.isc "NotLet" (.var 0)))) (.or (.val (.isc "NoStay" (.var 0))) (.one (.val (.call "_law_other" %[0|0]))))) %[.ret (.con (.bl false))|0] .nil,.ret (.cmp .Eq (.tup %[.fld (.var 0) "day",.fld (.var 0) "number",.fld (.var 0) "first"|0]) (.var 1))|0])
def YV:RW pg "_law_not_let" yo:=%[76|1]
def yq:Nat×Nat×Ss:=(2,2,%[.ite (.or (.not (.val (.isc "NoStay" (.var 0)))) (.or (.val (.isc "NotLet" (.var 0))) (.one (.val (.call "_law_other" %[0|0]))))) %[.ret (.con (.bl false))|0] .nil,.ret (.and (.isi Ty.int (.fld (.var 0) "number")) (.and (.not (.isi Ty.bool (.fld (.var 0) "number"))) (.one (.cmp .Eq (.fld (.var 0) "number") (.var 1)))))|0])
def YW:RW pg "_law_no_stay" yq:=%[77|1]
def j9:Nat×Nat×Ss:=(3,5,%[.set 3 (.lst %[.bin .Add (.bin .Pow (.con (.int 10)) (.con (.int 9))) (.con (.int 1)),.neg (.con (.int 1)),.con .non,.con (.bl true),.con (.str "5"),.bin .Add (.bin .Add (.bin .Pow (.con (.int 10)) (.con (.int 9))) (.con (.int 1))) (.bin .Mod (.var 0) (.bin .Pow (.con (.int 10)) (.con (.int 30))))|0]),.ite (.cmp .NotEq (.var 1) (.lst .nil)) %[.set 3 (.bin .Add (.var 3) (.lst %[.idx (.idx (.var 1) (.bin .Sub (.b1 .len (.var 1)) (.con (.int 1)))) (.con (.int 2)),.idx (.idx (.var 1) (.bin .Sub (.b1 .len (.var 1)) (.con (.int 1)))) (.con (.int 1)),.con (.int 0)|0]))|0] .nil,.set 4 (.lst %[.con (.str "abcdefghi"),.bin .Add (.idx (.var 2) (.con (.int 0))) (.con (.str "A")),.con (.str ""),.con .non,.con (.int 7),.lst %[.con (.str "a")|0]|0]),.ite (.cmp .Eq (.bin .Mod (.var 0) (.con (.int 3))) (.con (.int 0))) %[.ret (.tup %[.idx (.var 4) (.bin .Mod (.bin .FloorDiv (.var 0) (.con (.int 3))) (.con (.int 6))),.bin .Mult (.con (.int 9)) (.bin .Pow (.con (.int 10)) (.con (.int 8)))|0])|0] .nil,.ret (.tup %[.idx (.var 2) (.bin .Mod (.bin .FloorDiv (.var 0) (.con (.int 3))) (.con (.int 2))),.idx (.var 3) (.bin .Mod (.bin .FloorDiv (.var 0) (.con (.int 3))) (.b1 .len (.var 3)))|0])|0])
def JB:RW pg "_law_amiss" j9:=%[78|1]
noncomputable abbrev qb0:E:=(.call "_law_spec" %[.bin .Add (.call "_law_at" %[1,.con (.int 1)|0]) (.bin .Mult (.con (.int 17)) (.var 0)),3,2|0])
def qa3:E:=qb0
def qeF:UE qa3 qb0:=λ_ _ _=>(rfl)
abbrev qb1:E:=(.call "_law_rule" %[0|0])
def qa4:E:=qb1
def qeG:UE qa4 qb1:=λ_ _ _=>(rfl)
abbrev qb2:E:=(.var 0)
def Zc:E:=qb2
def qeH:UE Zc qb2:=λ_ _ _=>(rfl)
noncomputable abbrev qb3:Ss:=%[.set 12 (.call "_law_kept" %[6,4,9,10,11|0]),.ite (.and (.cmp .IsNot (.var 7) (.con .non)) (.one (.not (.val (.call "_law_not_let" %[12,7|0]))))) %[.ret (.con (.bl false))|0] .nil,.ite (.not (.val (.call "_law_no_stay" %[.call "_law_kept" %[6,8,9,10,11|0],.b1 .len (.var 8)|0]))) %[.ret (.con (.bl false))|0] .nil,.ite (.cmp .IsNot (.call "_law_kept" %[6,8,.idx (.var 2) (.con (.int 0)),.bin .Mult (.con (.int 9)) (.bin .Pow (.con (.int 10)) (.con (.int 8))),11|0]) (.con .non)) %[.ret (.con (.bl false))|0] .nil,.set 13 (.b1 .list (.var 8)),.ite (.cmp .IsNot (.call "_law_kept" %[6,13,.idx (.var 2) (.con (.int 0)),.bin .Mult (.con (.int 9)) (.bin .Pow (.con (.int 10)) (.con (.int 8))),11|0]) (.con .non)) %[.ret (.con (.bl false))|0] .nil,.ext 13 (.sli (.var 4) (.some (.b1 .len (.var 8))) .none),.set 12 (.call "_law_kept" %[6,13,.idx (.var 2) (.con (.int 0)),.bin .Mult (.con (.int 9)) (.bin .Pow (.con (.int 10)) (.con (.int 8))),11|0]),.ite (.and (.cmp .IsNot (.var 7) (.con .non)) (.one (.not (.val (.call "_law_not_let" %[12,7|0]))))) %[.ret (.con (.bl false))|0] .nil|0]
def YH:Ss:=qb3
def qap:USs YH qb3:=λ_ _ _ _=>(rfl)
def qmt:Nat×Nat×Ss:=(1,14,%[.set 1 (.cmp .Eq (.bin .Mod (.call "_law_at" %[0,.con (.int 0)|0]) (.con (.int 2))) (.con (.int 1))),.set 2 (.call "_law_names" %[.call "_law_at" %[0,.con (.int 0)|0],.con (.int 2)|0]),.set 3 (.comp qa3 (.rng (.con (.int 3))) (.one 0) .yes 1 [0,1,2]),.set 4 (.call "_law_stays" %[.sli (.var 0) (.some (.con (.int 4))) (.some (.con (.int 20))),2,1,.bin .Mod (.call "_law_at" %[0,.con (.int 2)|0]) (.con (.int 1000))|0]),.set 5 (.con (.int 10)),.ite (.cmp .NotEq (.var 4) (.lst .nil)) %[.set 5 (.idx (.idx (.var 4) (.bin .Sub (.b1 .len (.var 4)) (.con (.int 1)))) (.con (.int 2)))|0] .nil,.set 6 (.new "Book" %[.comp qa4 (.seq (.var 3)) (.one 0) .yes 1 [],.call "_law_papers" %[.sli (.var 0) (.some (.con (.int 3))) (.some (.con (.int 7))),.con (.int 3),.con (.int 0),5|0]|0]),.set 7 (.call "fault_of" %[6,4|0]),.set 8 (.var 4),.ite (.cmp .IsNot (.var 7) (.con .non)) %[.set 8 (.comp Zc (.seq (.var 4)) (.one 0) (.test (.cmp .Lt (.idx (.var 0) (.con (.int 2))) (.idx (.var 1) (.con (.int 0))))) 1 [7])|0] .nil,.setT (.many [9,10]) (.call "_law_amiss" %[.bin .FloorDiv (.call "_law_at" %[0,.con (.int 1)|0]) (.con (.int 7)),8,2|0]),.for_ (.one 11) (.seq (.lst %[.con (.bl false),.con (.bl true),.con (.bl false)|0])) YH,.ret (.con (.bl true))|0])
def qod:RW pg "law" qmt:=%[79|1]
end K41
namespace DG
open PySem L2 DE
class YL(pg:Pg):Prop where
 nl:pg.cs.xn "NotLet" = some (["day","number","first"]:List Str)
 ns:pg.cs.xn "NoStay" = some (["number"]:List Str)
open FA Dy
open L2 hiding St
open CH ST SP RU BO BT PC SU FK FM FO LI LQ LL LB YL
def Qk{i:Int}(h0:-(2 ^ 62) < i)(h1:i < 2 ^ 62):Zi (.int i)=true:=by
 refine decide_eq_true ?_
 have:i.natAbs < 2 ^ 62:=by lia
 by_cases hz:i.natAbs=0
 ·rw[hz];decide
 ·have:=(Nat.log2_lt hz).mpr this
  lia
noncomputable abbrev nlX(C:Addr)(z:Int×Int×Int):R Rv:=.exc C [("day",.int z.1),("number",.int z.2.1),("first",.int z.2.2)]
abbrev nsX(C:Addr)(n:Int):R Rv:=.exc C [("number",.int n)]
def qjm:D->Bool
 |.int _=>false
 |.ins ..=>false
 |.exc ..=>false
 |.dct ..=>false
 |_=>true
section
variable{pg:Pg}[CH pg]
def qcN(k:Nat)(n a b:Int)(h:¬ (a<=n/\n<=b)):clK pg (k+2) "is_between" [.val (.int n),.val (.int a),.val (.int b)]=.ok (.val (.bl false)):=by
 rw[r_is_between]
 by_cases h1:a<=n
 ·have h2:¬ n<=b:=λz=>h ⟨h1,z⟩;simp?![zh,QP,h1,h2,decide_true,decide_false]
 ·simp?![zh,QP,h1,decide_false]
theorem qgl(k:Nat)(d:D)(h:qjm d=true):clK pg (k+1) "is_whole" [.val d]=.ok (.val (.bl false)):=by
 rw[r_is_whole]
 cases d with
 |int n=>cases h
 |ins c ns l=>cases h
 |exc c ns l=>cases h
 |dct ns l=>cases h
 |_=>simp?![Jf]
def qaq(k:Nat)(d:D)(h:qjm d=true)(a b:Int):clK pg (k+2) "is_between" [.val d,.val (.int a),.val (.int b)]=.ok (.val (.bl false)):=by rw[r_is_between];simp?![zh,qgl k d h]
end
section
variable{pg:Pg}[YL pg]
def qoe(z:Int×Int×Int)(h:Zi (.int z.1)=true/\Zi (.int z.2.1)=true/\Zi (.int z.2.2)=true):mkX true pg.cs "NotLet" [.int z.1,.int z.2.1,.int z.2.2]=.exc (pg.cs.xa "NotLet") [("day",.int z.1),("number",.int z.2.1),("first",.int z.2.2)]:=by unfold mkX;rw[nl];dsimp only;rw[if_pos (by simp![List.all_cons,List.all_nil,h.1,h.2.1,h.2.2];rfl)];rfl
def qmu(n:Int)(h:Zi (.int n)=true):mkX true pg.cs "NoStay" [.int n]=.exc (pg.cs.xa "NoStay") [("number",.int n)]:=by unfold mkX;rw[ns];dsimp only;rw[if_pos (by simp![List.all_cons,List.all_nil,h];rfl)];rfl
end
section
variable{pg:Pg}[CH pg][ST pg][RU pg][BO pg][SP pg][BT pg][PC pg][SU pg][FK pg][FM pg][LI pg][YL pg]
def qmv(k:Nat)(b:Bool)(rs:List Ru)(ps:List Pa)(hp:ps.length<=18)(st:List St)(hc:Ch (-1) st)(hs:∀s∈st,NameOk s.1)(hl:st.length<=60)(hr:∀x∈rlF ps 0 rs,RlOk st x) :
  (qC rs ps st=none->clK pg (k+8) "let_stays" [.val (bkI rs ps),aL b (st.map stD)]=.ok (.tmp (st.map stD)))/\
  ∀z,qC rs ps st=some z->(Zi (.int z.1)=true/\Zi (.int z.2.1)=true/\Zi (.int z.2.2)=true)->clK pg (k+8) "let_stays" [.val (bkI rs ps),aL b (st.map stD)]=nlX (pg.cs.xa "NotLet") z:=by
 have e1:=QQ (pg:=pg) (k+2) b st hc hl;have e2:=zv (pg:=pg) k true rs ps hp st hs (1:) hr;rw[J8]at e2;generalize bkI rs ps=B at e2 ⊢;rw[r_let_stays];constructor
 ·intro hf;rw[hf]at e2;simp?![jD,e1,e2,Yq]
 ·intro z hf hz;rw[hf]at e2;simp?![jD,e1,e2,Yq,f3D,qoe z hz]
def Ql(st:List St)(d:D):Prop:=qjm d=true\/∃n,d=.int n/\(¬ (0<=n/\n<=1000000000)\/n<=qbW st)
noncomputable abbrev tCd:T:=(.or (.not (.val (.call "is_between" %[1,.con (.int 0),.con (.int 1000000000)|0]))) (.one (.and (.val (.var 0)) (.one (.cmp .LtE (.var 1) (.idx (.idx (.var 0) (.neg (.con (.int 1)))) (.con (.int 2))))))))
theorem qb4(k:Nat)(b:Bool)(l:List D)(d:D)(v:Bool)(h:iT (pg.kk (k+3)) tCd [pS b l,.val d]=.ok (v,[pS b l,.val d]))(hl:l.length < 1000) :
  clK pg (k+4) "check_day" [aL b l,.val d]=if v=true then nsX (pg.cs.xa "NoStay") (l.length:Int) else .ok (.val .non):=by
 rw[r_check_day];have h:∀{M:Type} (K:Bool×DE.Env->R M),(iT (pg.kk (k+3)) tCd [pS b l,.val d]).th K=K (v,[pS b l,.val d]):=λK=>by rw[h];rfl
 have n1:noX (iEs (pg.kk (k+3)) (Es.cons (E.b1 B1.len (E.var 0)) Es.nil) [pS b l,.val d])=.ok ([.int (l.length:Int)],[pS b l,.val d]):=by
  cases b with
  |true=>simp?![pS]
  |false=>simp?![pS]
 cases v with
 |true=>rw[if_pos rfl];simp?![zL,h,n1,qmu (l.length:Int) (Qk (1:) (1:))]
 |false=>rw[if_neg (2:)];simp?![zL,h]
def qgm(k:Nat)(b:Bool)(st:List St)(hl:st.length < 1000)(d:D)(h:Ql st d):clK pg (k+4) "check_day" [aL b (st.map stD),.val d]=nsX (pg.cs.xa "NoStay") (st.length:Int):=by
 refine(qb4 k b (st.map stD) d true ?_ (by rw[List.length_map];exact hl)).trans (by rw[if_pos rfl,List.length_map]);refine(qk _).symm.trans ?_;rcases h with h|⟨n,rfl,h⟩
 ·simp?![qaq (pg:=pg) (k+1) d h 0 1000000000]
 ·by_cases c:0<=n/\n<=1000000000
  ·have hn:n<=qbW st:=h.resolve_left λq=>q c;have ne:st≠[]:=λq=>by rw[q]at hn;have:n<=-1:=hn;lia
   have la:=qa0 ne
   have hle:n<=(st.getLast ne).2.2:=by unfold qbW at hn;rw[List.getLast?_eq_some_getLast ne]at hn;exact hn
   have ie:(st.map stD).isEmpty=false:=by
    cases st with
    |nil=>exact absurd rfl ne
    |cons a l=>rfl
   have a2:∀x y z:D,atI [x,y,z] 2=some z:=λ_ _ _=>rfl;have e:=qP (pg:=pg) (k+1) n 0 1000000000 c.1 c.2
   cases b with
   |true=>simp?![pS,e,ie,la,a2,hle]
   |false=>simp?![pS,e,ie,la,a2,hle]
  ·simp?![qcN (pg:=pg) (k+1) n 0 1000000000 c]
def qjn(k:Nat)(b:Bool)(st:List St)(hl:st.length < 1000)(n:Int)(h0:0<=n)(h1:n<=1000000000)(h:qbW st < n):clK pg (k+4) "check_day" [aL b (st.map stD),.val (.int n)]=.ok (.val .non):=by
 refine(qb4 k b (st.map stD) (.int n) false ?_ (by rw[List.length_map];exact hl)).trans (by rw[if_neg (2:)]);refine(qk _).symm.trans ?_;have e:=qP (pg:=pg) (k+1) n 0 1000000000 h0 h1
 by_cases hn:st=[]
 ·subst hn;have ie:([]:List D).isEmpty=true:=rfl
  cases b with
  |true=>simp?![pS,e,List.map_nil,ie]
  |false=>simp?![pS,e,List.map_nil,ie]
 ·have la:=qa0 hn
  have hlt:¬ n<=(st.getLast hn).2.2:=by
   unfold qbW at h;rw[List.getLast?_eq_some_getLast hn]at h;dsimp only at h
   lia
  have ie:(st.map stD).isEmpty=false:=by
   cases st with
   |nil=>exact absurd rfl hn
   |cons a l=>rfl
  have a2:∀x y z:D,atI [x,y,z] 2=some z:=λ_ _ _=>rfl
  cases b with
  |true=>simp?![pS,e,ie,la,a2,hlt]
  |false=>simp?![pS,e,ie,la,a2,hlt]
end
section
variable{pg:Pg}[CH pg][YL pg]
theorem qjo[LQ pg](k:Nat)(b:Bool)(l:List D)(hl:l.length < 1000)(d:D)(h:clK pg (k+2) "is_name" [.val d]=.ok (.val (.bl false))):clK pg (k+3) "check_land" [aL b l,.val d]=nsX (pg.cs.xa "NoStay") (l.length:Int):=by
 have m:=qmu (pg:=pg) (l.length:Int) (Qk (1:) (1:));rw[r_check_land]
 cases b with
 |true=>simp?![zS,aL,h,m]
 |false=>simp?![zS,aL,h,m]
section
variable(k:Nat)(B:D)(b:Bool)(l l':List D)(a:Ar)(d:D){C:Addr}{x:List (Str×D)}
def qgn[LL pg](h:clK pg (k+8) "let_stays" [.val B,aL b l]=.exc C x):clK pg (k+9) "last_day" [.val B,aL b l,a,.val d]=.exc C x:=by rw[r_last_day];simp?![zy,h]
def qgo[LB pg](h:clK pg (k+8) "let_stays" [.val B,aL b l]=.exc C x):clK pg (k+9) "first_back" [.val B,aL b l,a,.val d]=.exc C x:=by rw[r_first_back];simp?![qz,h]
variable(e1:clK pg (k+8) "let_stays" [.val B,aL b l]=.ok (.tmp l'))
include e1
theorem qa5[LL pg](h:clK pg (k+8) "check_day" [.bor l',.val d]=.exc C x):clK pg (k+9) "last_day" [.val B,aL b l,a,.val d]=.exc C x:=by rw[r_last_day];simp?![zy,e1,h]
theorem qa6[LB pg](h:clK pg (k+8) "check_day" [.bor l',.val d]=.exc C x):clK pg (k+9) "first_back" [.val B,aL b l,a,.val d]=.exc C x:=by rw[r_first_back];simp?![qz,e1,h]
variable(e2:clK pg (k+8) "check_day" [.bor l',.val d]=.ok (.val .non))(w:D)(h:clK pg (k+8) "check_land" [.bor l',.val w]=.exc C x)
include e2 h
theorem qeI[LL pg]:clK pg (k+9) "last_day" [.val B,aL b l,.val w,.val d]=.exc C x:=by rw[r_last_day];simp?![zy,e1,e2,h]
theorem qeJ[LB pg]:clK pg (k+9) "first_back" [.val B,aL b l,.val w,.val d]=.exc C x:=by rw[r_first_back];simp?![qz,e1,e2,h]
end
end
theorem qb5{step:D->DE.Env->R Fl}{m:List D}{N':DE.Env}:∀{l:List D} {N:DE.Env},qgP step l N=.ok (.next N')->qgP step (l++m) N=qgP step m N'
 |[],N,h=>by cases h;rfl
 | d::l,N,h=>by
  unfold qgP at h;rw[List.cons_append];show(step d N).th _=_
  cases e:step d N with
  |ok f=>
   rw[e]at h
   cases f with
   |next N1=>exact qb5 (l:=l) h
   |ret r=>cases h
  |exc c l=>rw[e]at h;cases h
  |no=>rw[e]at h;cases h
def qgp{cl:Cl}{tg:Tg}{b:Ss}{l m:List D}{N N':DE.Env}(h:jP cl 1000 tg b l N=.ok (.next N')):jP cl 1000 tg b (l++m) N=jP cl 1000 tg b m N':=qb5 h
def qpE:D->Bool
 |.str _=>false
 |.ins ..=>false
 |.exc ..=>false
 |.dct ..=>false
 |_=>true
def Qm(d:D):Prop:=qpE d=true\/(∃a:Str,d=.str (a++("A" : Str))/\a.cps.size<=99/\∀c∈a.cps.toList,jZ c)\/d=.str ""\/∃z,d=.str z/\8 < z.cps.size/\z.cps.size<=100
section
variable{pg:Pg}[CH pg]
def qmw(k:Nat)(a:Str)(h:∀c∈a.cps.toList,jZ c):clK pg (k+1) "is_made_of" [.val (.str (a++("A" : Str))),.val (.str "abcdefghijklmnopqrstuvwxyz")]=.ok (.val (.bl false)):=by
 have e:qcr (a++("A" : Str))=(a.cps.toList.map λc=>D.str ⟨#[c]⟩)++[D.str "A"]:=by show(a.cps++Str.cps "A").toList.map _=_;rw[Array.toList_append,List.map_append];rfl
 have o:qij "A" "abcdefghijklmnopqrstuvwxyz" = false:=(3:)
 generalize a++("A" : Str)=z at e ⊢;obtain⟨s',l⟩:=Yl (pg:=pg) k z a.cps.toList .no h
 have l2:jP (pg.kk k) 1000 (.one 2) q9 [D.str "A"] [.val (.str z),.val (.str "abcdefghijklmnopqrstuvwxyz"),s']=.ok (.ret (.val (.bl false))):=by simp?[jF,o]
 have l3:=(qgp (m:=[D.str "A"]) l).trans l2;rw[r_is_made_of];simp?![jS,e,l3]
def qjp(k:Nat)(d:D)(h:Qm d):clK pg (k+2) "is_name" [.val d]=.ok (.val (.bl false)):=by
 have long:∀z:Str,8 < z.cps.size->z.cps.size<=100->clK pg (k+2) "is_name" [.val (.str z)]=.ok (.val (.bl false)):=λz h8 h9=>by
  have hz:z.length<=sizeLine:=by show z.cps.size<=2 ^ 24;lia
  have h1:(1:Int)<=(z.length:Int):=by show(1:Int)<=(z.cps.size:Int);lia
  have h2:¬ (z.length:Int)<=8:=by show ¬ (z.cps.size:Int)<=8;lia
  rw[r_is_name];simp?![jd,hz,h1,h2,decide_true,decide_false]
 rcases h with h|⟨a,rfl,c2,h⟩|rfl|⟨z,rfl,h8,h9⟩
 ·rw[r_is_name]
  cases d with
  |str n=>cases h
  |ins c ns l=>cases h
  |exc c ns l=>cases h
  |dct ns l=>cases h
  |_=>simp?![jd]
 ·have ln:(a++("A" : Str)).length=a.cps.size+1:=by
   show(a.cps++Str.cps "A").size=_;rw[Array.size_append];rfl
  by_cases c:a.cps.size<=7
  ·have e:=qmw (pg:=pg) k a h;generalize a++("A" : Str)=z at *;have hz:z.length<=sizeLine:=by rw[ln];show a.cps.size+1<=2 ^ 24;lia
   have h1:(1:Int)<=(z.length:Int):=by lia
   have h2:(z.length:Int)<=8:=by lia
   rw[r_is_name];simp?![jd,hz,h1,h2,decide_true,e]
  ·exact long _ (by show 8 < (a++("A" : Str)).length;lia) (by show(a++("A" : Str)).length<=100;lia)
 ·have hz:Str.length ""<=sizeLine:=(3:)
  have h1:¬ (1:Int)<=((Str.length "" : Nat):Int):=by decide
  rw[r_is_name];simp?![jd,hz,h1,decide_false]
 ·exact long z h8 h9
end
end DG
namespace K41
open PySem DE DG FA Dy
open L2 hiding St
instance:YL pg:=⟨rfl,rfl⟩
def nlD(z:Int×Int×Int):D:=.exc (pg.cs.xa "NotLet") ["day","number","first"] [.int z.1,.int z.2.1,.int z.2.2]
def nsD(n:Int):D:=.exc (pg.cs.xa "NoStay") ["number"] [.int n]
def qjG(back:Bool):Str:=if back=true then "first_back" else "last_day"
section
variable(k:Nat)(B:D)(b:Bool)(l:List D)(w d:D)(back:Bool)
theorem qeK{r:Rv}(h:clK pg (k+9) (qjG back) [.val B,aL b l,.val w,.val d]=.ok r):clK pg (k+10) "_law_kept" [.val B,aL b l,.val w,.val d,.val (.bl back)]=.ok (.val .non):=by
 rw[YG]
 cases back with
 |true=>rw[show qjG true = "first_back" from rfl]at h;simp?![zM,h]
 |false=>rw[show qjG false = "last_day" from rfl]at h;simp?![zM,h]
theorem qeL{C:Addr}{x:List (Str×D)}(h:clK pg (k+9) (qjG back) [.val B,aL b l,.val w,.val d]=.exc C x)(hc:pg.cs.xs C "DayError" = some true):clK pg (k+10) "_law_kept" [.val B,aL b l,.val w,.val d,.val (.bl back)]=.ok (.val (.exc C (x.map (·.1)) (x.map (·.2)))):=by
 have ca:yf pg.cs 7 C x [("DayError",6,5)]=.ok (.next [.no,.no,.no,.no,.no,.val (.exc C (x.map (·.1)) (x.map (·.2))),.no]):=by unfold yf;rw[hc];rfl
 generalize D.exc C (x.map (·.1)) (x.map (·.2))=Y at ca ⊢;rw[YG]
 cases back with
 |true=>rw[show qjG true = "first_back" from rfl]at h;simp?![zM,h,ca]
 |false=>rw[show qjG false = "last_day" from rfl]at h;simp?![zM,h,ca]
end
def qb6(k:Nat)(x:D)(i1:qjD pg.cs (.val x) ["NoDeed","NoPaper","NoRow","NoRule","NoText","NoWish"]=some false)(i2:qcs pg.cs (.val x) "ValueError" = some true):clK pg (k+1) "_law_other" [.val x]=.ok (.val (.bl false)):=by rw[qao];simp?![JA,i1,i2]
def qeM(k:Nat)(z:Int×Int×Int):clK pg (k+2) "_law_not_let" [.val (nlD z),.val (f3D z)]=.ok (.val (.bl true)):=by
 have f1:qay pg.cs (.val (nlD z)) "day" = some (.int z.1):=rfl;have f2:qay pg.cs (.val (nlD z)) "number" = some (.int z.2.1):=rfl;have f3:qay pg.cs (.val (nlD z)) "first" = some (.int z.2.2):=rfl;have i3:qcs pg.cs (.val (nlD z)) "NotLet" = some true:=(show pg.cs.xs (pg.cs.xa "NotLet") "NotLet" = some true by decide+kernel);have i4:qcs pg.cs (.val (nlD z)) "NoStay" = some false:=(show pg.cs.xs (pg.cs.xa "NotLet") "NoStay" = some false by decide+kernel);have o:=qb6 k (nlD z) (by rfl) (show pg.cs.xs (pg.cs.xa "NotLet") "ValueError" = some true by decide+kernel);have z3:0+1+1+1<=sizeLine:=(3:)
 have q:eqD (.tup [.int z.1,.int z.2.1,.int z.2.2]) (f3D z)=some true:=qg7 rfl (by simp[okD,qeZ]) (by simp[dpD,qd2]);rw[YV];simp?![yo,i3,i4,o,f1,f2,f3,z3,q]
def qar(k:Nat)(n:Int):clK pg (k+2) "_law_no_stay" [.val (nsD n),.val (.int n)]=.ok (.val (.bl true)):=by have f2:qay pg.cs (.val (nsD n)) "number" = some (.int n):=rfl;have i3:qcs pg.cs (.val (nsD n)) "NoStay" = some true:=(show pg.cs.xs (pg.cs.xa "NoStay") "NoStay" = some true by decide+kernel);have i4:qcs pg.cs (.val (nsD n)) "NotLet" = some false:=(show pg.cs.xs (pg.cs.xa "NoStay") "NotLet" = some false by decide+kernel);have o:=qb6 k (nsD n) (by rfl) (show pg.cs.xs (pg.cs.xa "NoStay") "ValueError" = some true by decide+kernel);have q:eqD (.int n) (.int n)=some true:=qg7 rfl (by simp[okD]) (by simp[dpD]);rw[YW];simp?![yq,i3,i4,o,f2,q]
def at_mem{l:List D}{i:Int}(h0:0<=i)(h1:i < l.length):∃d∈l,atI l i=some d:=by
 obtain⟨n,rfl⟩:=Int.eq_ofNat_of_zero_le h0;have hn:n < l.length:=by lia
 exact{l[n],List.getElem_mem hn,qjE (List.getElem?_eq_getElem hn)}
theorem qeN:∀(st:List St),(∀s∈st,NameOk s.1)->qeZ (st.map stD)=true/\qd2 (st.map stD)<=60
 |[],_=>by simp[qeZ,qd2]
 | s::l,h=>by
  obtain⟨a,b⟩:=qeN l λt ht=>h t (by simp[ht]);have n:=JQ (h s (5:));rw[List.map_cons,yn];refine{by simp[qeZ,okD,n,a],?_};simp![qd2,dpD]
  lia
def qhr{st:List St}(h:st≠[]):atI (st.map stD) ((st.length:Int) - 1)=some (.tup [.str (st.getLast h).1,.int (st.getLast h).2.1,.int (st.getLast h).2.2]):=by have hl:0 < st.length:=List.length_pos_iff.mpr h;rw[show((st.length:Int) - 1)=((st.length - 1:Nat):Int) by lia];refine qjE ?_;rw[List.getElem?_map,<-List.getLast?_eq_getElem?,List.getLast?_eq_some_getLast h];rfl
section
variable(c:Int)(st:List St)(z:Str)
def dys:List D:=[.int 1000000001,.int (-1),.non,.bl true,.str "5",.int (1000000001+c % 10 ^ 30)]++(if h:st=[] then [] else [.int (st.getLast h).2.2,.int (st.getLast h).2.1,.int 0])
def lds:List D:=[.str "abcdefghi",.str (z++("A" : Str)),.str "",.non,.int 7,.lst [.str "a"]]
variable{c st z}
def qjq(hc:∀s∈st,0<=s.2.1/\s.2.1<=s.2.2):∀d∈dys c st,Ql st d:=by
 intro d hd;have hm:0<=c % 10 ^ 30:=Int.emod_nonneg _ (2:);rcases List.mem_append.mp hd with hd|hd
 ·simp![List.mem_cons,List.not_mem_nil,or_false]at hd;rcases hd with rfl|rfl|rfl|rfl|rfl|rfl
  ·exact .inr ⟨_,rfl,.inl (1:)⟩
  ·exact .inr ⟨_,rfl,.inl (1:)⟩
  ·exact .inl rfl
  ·exact .inl rfl
  ·exact .inl rfl
  ·exact .inr ⟨_,rfl,.inl (by generalize c % 10 ^ 30=m at *;lia)⟩
 ·by_cases h:st=[]
  ·rw[dif_pos h]at hd;cases hd
  ·rw[dif_neg h]at hd
   have e:qbW st=(st.getLast h).2.2:=by unfold qbW;rw[List.getLast?_eq_some_getLast h]
   have q:=hc _ (List.getLast_mem h);simp![List.mem_cons,List.not_mem_nil,or_false]at hd;rcases hd with rfl|rfl|rfl<;>exact .inr ⟨_,rfl,.inr (1:)⟩
def qjr(hz:NameOk z):∀d∈lds z,Qm d:=by
 intro d hd;unfold lds at hd;simp![List.mem_cons,List.not_mem_nil,or_false]at hd;rcases hd with rfl|rfl|rfl|rfl|rfl|rfl
 ·exact .inr (.inr (.inr ⟨_,rfl,(3:),(3:)⟩))
 ·exact .inr (.inl ⟨z,rfl,by have:=hz.eight;lia,hz.lets⟩)
 ·exact .inr (.inr (.inl rfl))
 ·exact .inl rfl
 ·exact .inl rfl
 ·exact .inl rfl
def qgq(k:Nat)(c:Int)(b:Bool)(st:List St)(hc:∀s∈st,0<=s.2.1/\s.2.1<=s.2.2)(hs:∀s∈st,NameOk s.1)(hl:st.length < 1000)(z y:Str)(r:List Str)(hz:NameOk z):∃L d,clK pg (k+1) "_law_amiss" [.val (.int c),aL b (st.map stD),.bor ((z::y::r).map D.str)]=.ok (.val (.tup [L,d]))/\((Qm L/\d=.int 900000000)\/((L=.str z\/L=.str y)/\Ql st d)):=by
 obtain⟨o1,o2⟩:=qeN st hs;have eq0:=qd3 o1 (1:);have n0:0<=c / 3 % 6:=Int.emod_nonneg _ (2:);have n1:c / 3 % 6 < 6:=Int.emod_lt_of_pos _ (2:);obtain⟨L,hL,aL6⟩:=at_mem (l:=lds z) n0 (by show _ < (6:Int);exact n1);have dl:0 < ((dys c st).length:Int):=by unfold dys;simp;lia
 obtain⟨d,hd,ad⟩:=at_mem (l:=dys c st) (Int.emod_nonneg (c / 3) (1:)) (Int.emod_lt_of_pos (c / 3) dl);have z6:0+1+1+1+1+1+1<=sizeLine:=(3:)
 have z9:0+1+1+1+1+1+1+(0+1+1+1)<=sizeLine:=(3:)
 have z1:0+1<=sizeLine:=(3:)
 have z0:(0:Nat)<=sizeLine:=(3:)
 have z2:0+1+1<=sizeLine:=(3:)
 have z3:0+1+1+1<=sizeLine:=(3:)
 have p9:JN .Pow (.val (.int 10)) (.val (.int 9))=.ok (.val (.int 1000000000)):=by rfl
 have p8:JN .Pow (.val (.int 10)) (.val (.int 8))=.ok (.val (.int 100000000)):=by rfl
 have p30:JN .Pow (.val (.int 10)) (.val (.int 30))=.ok (.val (.int (10 ^ 30))):=by rfl
 have pm:JN .Mult (.val (.int 9)) (.val (.int 100000000))=.ok (.val (.int 900000000)):=by rfl
 have pa:(1000000000:Int)+1=1000000001:=by rfl
 have m30:(0:Int) < 10 ^ 30:=by decide
 have d3:(0:Int) < 3/\(3:Int) < 1073741824:=by decide
 have q3:(0:Int) < 3:=by decide
 have q6:(0:Int) < 6:=by decide
 have q2:(0:Int) < 2:=by decide
 have za:z.length+("A" : Str).length<=sizeLine:=by have:=hz.eight;have:("A" : Str).length=1:=rfl;have:z.length=z.cps.size:=rfl;have:100<=sizeLine:=(3:);lia
 have aL6:atI [.str "abcdefghi",.str (z++("A" : Str)),.str "",.non,.int 7,.lst [.str "a"]] (c / 3 % 6)=some L:=aL6
 have k2:∃w,atI (D.str z::D.str y::r.map D.str) (c / 3 % 2)=some w/\(w=.str z\/w=.str y):=by
  rcases (by lia:c / 3 % 2=0\/c / 3 % 2=1) with e|e<;>rw[e]
  ·exact{_,at_0 ..,.inl rfl}
  ·exact{_,at_1 ..,.inr rfl}
 obtain⟨w,aw,hw⟩:=k2;have NL:=qjr hz L hL;have BD:=qjq (c:=c) hc d hd;have q0:eqD (.int (c % 3)) (.int 0)=some (c % 3 == 0):=qE ..
 have X:∀{M:Type} (K:Fl->R M),(iS (pg.kk k) 1000 (.ite (.cmp .NotEq (.var 1) (.lst .nil)) %[.set 3 (.bin .Add (.var 3) (.lst %[.idx (.idx (.var 1) (.bin .Sub (.b1 .len (.var 1)) (.con (D.int 1)))) (.con (D.int 2)),.idx (.idx (.var 1) (.bin .Sub (.b1 .len (.var 1)) (.con (D.int 1)))) (.con (D.int 1)),.con (D.int 0)|0]))|0] .nil) [.val (.int c),pS b (st.map stD),.bor (D.str z::D.str y::r.map D.str),.own [D.int 1000000001,.int (-1),.non,.bl true,.str "5",.int (1000000001+c % 10 ^ 30)],.no]).th K=K (.next [.val (.int c),pS b (st.map stD),.bor (D.str z::D.str y::r.map D.str),.own (dys c st),.no]):=λK=>by
  by_cases hst:st=[]
  ·subst hst;rw[List.map_nil]at eq0 ⊢;have ie:([]:List D).isEmpty=true:=rfl;rw[show dys c []=[D.int 1000000001,.int (-1),.non,.bl true,.str "5",.int (1000000001+c % 10 ^ 30)] from rfl]
   cases b with
   |true=>simp?![pS,z0,eq0,ie]
   |false=>simp?![pS,z0,eq0,ie]
  ·have ie:(st.map stD).isEmpty=false:=by
    cases st with
    |nil=>exact absurd rfl hst
    |cons a l=>rfl
   have la:=qhr hst;rw[show dys c st=[D.int 1000000001,.int (-1),.non,.bl true,.str "5",.int (1000000001+c % 10 ^ 30)]++[.int (st.getLast hst).2.2,.int (st.getLast hst).2.1,.int 0] by unfold dys;rw[dif_neg hst]]
   cases b with
   |true=>simp?![pS,z0,z3,eq0,ie,la,z9,List.length_map]
   |false=>simp?![pS,z0,z3,eq0,ie,la,z9,List.length_map]
 by_cases c3:c % 3=0
 ·have q0:eqD (.int (c % 3)) (.int 0)=some true:=by rw[q0,c3];rfl
  refine{L,_,?_,.inl ⟨NL,rfl⟩};rw[JB];simp?![j9,↓X,p9,p8,p30,pm,pa,m30,d3,q3,q6,z6,z1,z2,za,q0,aL6]
 ·have q0:eqD (.int (c % 3)) (.int 0)=some false:=by rw[q0];simp[c3]
  refine{w,d,?_,.inr ⟨hw,BD⟩};rw[JB];simp?![j9,↓X,p9,p8,p30,pm,pa,m30,d3,q3,q2,z6,z1,z2,za,q0,aw,dl,ad]
end
section
variable{rs:List Ru}{ps:List Pa}{st:List St}(k:Nat)(back b:Bool)(o:LimOk rs ps st)
include o
theorem qeO{z:Str}(hz:NameOk z){d:Int}(h0:0<=d)(h1:d<=1000000000)(h:∀s∈st,s.2.2 < d):clK pg (k+10) "_law_kept" [.val (bkI rs ps),aL b (st.map stD),.val (.str z),.val (.int d),.val (.bl back)]=.ok (.val .non):=by
 cases back with
 |true=>exact qeK k _ b _ _ _ true (qgk (pg:=pg) o k b hz h0 h1 h)
 |false=>exact qeK k _ b _ _ _ false (qgj (pg:=pg) o k b hz h0 h1 h)
theorem qb7:clK pg (k+8) "let_stays" [.val (bkI rs ps),aL b (st.map stD)]=.ok (.tmp (st.map stD)):=
 (qmv (pg:=pg) k b rs ps o.p18 st o.ch o.nm o.len (λx hx=>qex (o.w x hx) o.ch.w)).1 (qeD o.ch.w o.w o.fit)
theorem qgr{z d:D}(hd:Ql st d):clK pg (k+10) "_law_kept" [.val (bkI rs ps),aL b (st.map stD),.val z,.val d,.val (.bl back)]=.ok (.val (nsD (st.length:Int))):=by
 have e1:=qb7 k b o;have e2:clK pg (k+8) "check_day" [.bor (st.map stD),.val d]=nsX (pg.cs.xa "NoStay") (st.length:Int):=qgm (pg:=pg) (k+4) true st (by have:=o.len;lia) d hd;refine qeL k _ b _ _ _ back (C:=pg.cs.xa "NoStay") (x:=[("number",.int (st.length:Int))]) ?_ (3:)
 cases back with
 |true=>exact qa6 (pg:=pg) k _ b _ _ _ d e1 e2
 |false=>exact qa5 (pg:=pg) k _ b _ _ _ d e1 e2
theorem qeP{w:D}(hw:Qm w){d:Int}(h0:0<=d)(h1:d<=1000000000)(h:qbW st < d):clK pg (k+10) "_law_kept" [.val (bkI rs ps),aL b (st.map stD),.val w,.val (.int d),.val (.bl back)]=.ok (.val (nsD (st.length:Int))):=by
 have e1:=qb7 k b o;have e2:clK pg (k+8) "check_day" [.bor (st.map stD),.val (.int d)]=.ok (.val .non):=qjn (pg:=pg) (k+4) true st (by have:=o.len;lia) d h0 h1 h;have e3:clK pg (k+8) "check_land" [.bor (st.map stD),.val w]=nsX (pg.cs.xa "NoStay") ((st.map stD).length:Int):=qjo (pg:=pg) (k+5) true (st.map stD) (by rw[List.length_map];have:=o.len;lia) w (qjp (pg:=pg) (k+5) w hw);rw[List.length_map]at e3;refine qeL k _ b _ _ _ back (C:=pg.cs.xa "NoStay") (x:=[("number",.int (st.length:Int))]) ?_ (3:)
 cases back with
 |true=>exact qeJ (pg:=pg) k _ b _ _ _ e1 e2 w e3
 |false=>exact qeI (pg:=pg) k _ b _ _ _ e1 e2 w e3
end
theorem Qn{rs:List Ru}{ps:List Pa}{st:List St}(k:Nat)(back b:Bool)(hp:ps.length<=18)(hc:Ch (-1) st)(hs:∀s∈st,NameOk s.1)(hl:st.length<=60)(hr:∀x∈rlF ps 0 rs,RlOk st x){z:Int×Int×Int}(hf:qC rs ps st=some z)(hz:Zi (.int z.1)=true/\Zi (.int z.2.1)=true/\Zi (.int z.2.2)=true)(w d:D) :
  clK pg (k+10) "_law_kept" [.val (bkI rs ps),aL b (st.map stD),.val w,.val d,.val (.bl back)]=.ok (.val (nlD z)):=by
 have e1:=(qmv (pg:=pg) k b rs ps hp st hc hs hl hr).2 z hf hz;refine qeL k _ b _ _ _ back (C:=pg.cs.xa "NotLet") (x:=[("day",.int z.1),("number",.int z.2.1),("first",.int z.2.2)]) ?_ (3:)
 cases back with
 |true=>exact qgo (pg:=pg) k _ b _ _ d e1
 |false=>exact qgn (pg:=pg) k _ b _ _ d e1
def goF(f:Int):List St->List St
 |[]=>[]
 | s::l=>if s.2.2 < f then s::goF f l else goF f l
theorem qa7(f:Int):∀(st:List St),∀t∈goF f st,t.2.2 < f/\t∈st
 |[],t,h=>by cases h
 | s::l,t,h=>by
  rw[goF]at h
  by_cases c:s.2.2 < f
  ·rw[if_pos c]at h;rcases List.mem_cons.mp h with rfl|h
   ·exact{c,by simp}
   ·exact{(qa7 f l t h).1,by simp[(qa7 f l t h).2]}
  ·rw[if_neg c]at h;exact{(qa7 f l t h).1,by simp[(qa7 f l t h).2]}
theorem qhs(f:Int):∀st:List St,(goF f st).length<=st.length
 |[]=>Nat.le_refl 0
 | s::l=>by
  have:=qhs f l
  rw[goF]
  split<;>simp![List.length_cons]<;>lia
theorem qgs(f:Int):∀{st:List St} {e:Int},Ch e st->Ch e (goF f st)
 |[],_,_=>trivial
 | s::l,e,h=>by
  have i:=qgs f (st:=l) h.2;have ab:=h.1.ab;have lo:=h.1.lo;rw[goF]
  by_cases c:s.2.2 < f
  ·rw[if_pos c];exact⟨h.1,i⟩
  ·rw[if_neg c];exact Ch.weak (1:) i
theorem qa8(f:Int):∀{st:List St} {e:Int},Ch e st->∀d,qH (goF f st) d=none\/qH (goF f st) d=qH st d
 |[],_,_,_=>.inl rfl
 | s::l,e,h,d=>by
  rw[goF]
  by_cases hd:s.2.1<=d/\d<=s.2.2
  ·by_cases c:s.2.2 < f
   ·rw[if_pos c];exact .inr (by rw[qH,qH,if_pos hd,if_pos hd])
   ·rw[if_neg c];refine .inl (yA.mpr λt ht z=>?_)
    have:=(Ch.lo (qgs f h.2) t ht).1
    lia
  ·rw[show qH (s::l) d=qH l d by rw[qH,if_neg hd]]
   by_cases c:s.2.2 < f
   ·rw[if_pos c,show qH (s::goF f l) d=qH (goF f l) d by rw[qH,if_neg hd]];exact qa8 f h.2 d
   ·rw[if_neg c];exact qa8 f h.2 d
def qmx{rs:List Ru}{ps:List Pa}{st:List St}(hc:Ch (-1) st)(hr:∀x∈rlF ps 0 rs,Rlw x){f:Int×Int×Int}(hf:qC rs ps st=some f):∀x∈rlF ps 0 rs,∀D,cb (goF f.1 st) x D<=x.1.most:=λx hx D=>by
 have hx':=hr x hx;have hc':=qgs f.1 hc;have cn:=qjb hx' hc.w;have cn':=qjb hx' hc'.w;have bf:=(Q8 hc.w hr).2 f hf;have lt:∀s∈goF f.1 st,s.2.2 < f.1:=λs hs=>(qa7 f.1 st s hs).1
 have le:∀y,cb (goF f.1 st) x y<=cb st x y:=λy=>Cnt.mono cn cn' hx'.days (Int.le_refl _) (λd=>by
  rcases qa8 f.1 hc d with e|e
  ·rw[QY e];exact qmd hx'.ln _ _ _
  ·rw[qf4 e];exact Int.le_refl _) y
 by_cases c:D < f.1
 ·exact Int.le_trans (le D) (bf.low x hx D c)
 ·exact cn'.keeps hx'.days (m:=x.1.most) (a:=f.1 - 1) (b:=D+1) (Int.le_trans (le _) (bf.low x hx _ (1:))) (λy h1 _=>qbZ (a:=f.1) lt (1:)) D (1:) (1:)
section
variable(back:Bool)(B land day:D)(S G:List D)(z:Str)(r:List D)(v0 v1 v3 v5 s12 s13:Sl)(ns:D)
 (k1:clK pg 19 "_law_kept" [.val B,aL true G,.val land,.val day,.val (.bl back)]=.ok (.val ns))
 (k1':clK pg 19 "_law_kept" [.val B,aL false G,.val land,.val day,.val (.bl back)]=.ok (.val ns))
 (k2:clK pg 19 "_law_no_stay" [.val ns,.val (.int (G.length:Int))]=.ok (.val (.bl true)))
 (k3:clK pg 19 "_law_kept" [.val B,aL true G,.val (.str z),.val (.int 900000000),.val (.bl back)]=.ok (.val .non))
 (k3':clK pg 19 "_law_kept" [.val B,aL false G,.val (.str z),.val (.int 900000000),.val (.bl back)]=.ok (.val .non))
include k1 k1' k2 k3 k3'
theorem qmy(T:List D)(nl:D){X:List D}(hx:qaI S (some (G.length:Int)) none=X)(hg:G++X=S)(hl:S.length < 1000)
  (a1:clK pg 19 "_law_kept" [.val B,aL false S,.val land,.val day,.val (.bl back)]=.ok (.val nl))
  (a2:clK pg 19 "_law_not_let" [.val nl,.val (.tup T)]=.ok (.val (.bl true)))
  (a3:clK pg 19 "_law_kept" [.val B,aL true S,.val (.str z),.val (.int 900000000),.val (.bl back)]=.ok (.val nl)) :
  iSs (pg.kk 19) 1000 YH [v0,v1,.own (.str z::r),v3,.val (.lst S),v5,.val B,.val (.tup T),.own G,.val land,.val day,.val (.bl back),s12,s13]=.ok (.next [v0,v1,.own (.str z::r),v3,.val (.lst S),v5,.val B,.val (.tup T),.own G,.val land,.val day,.val (.bl back),.val nl,.own S]):=by
 have p8:JN .Pow (.val (.int 10)) (.val (.int 8))=.ok (.val (.int 100000000)):=by rfl
 have pm:JN .Mult (.val (.int 9)) (.val (.int 100000000))=.ok (.val (.int 900000000)):=by rfl
 have zz:G.length+X.length<=sizeLine:=by have:1000<=sizeLine:=(3:);have:=congrArg List.length hg;rw[List.length_append]at this;lia
 simp![J8,YM]at k1 k1' k3 k3' a1 a3;simp?[qap,a1,a2,a3,k1,k2,k3,p8,pm,hx,zz,hg]
theorem qmz{v:D}{nl:D}(hx:qaI G (some (G.length:Int)) none=[])(hl:G.length < 1000) :
  iSs (pg.kk 19) 1000 YH [v0,v1,.own (.str z::r),v3,.val (.lst G),v5,.val B,.val .non,.val (.lst G),.val land,.val day,.val (.bl back),s12,s13]=.ok (.next [v0,v1,.own (.str z::r),v3,.val (.lst G),v5,.val B,.val .non,.val (.lst G),.val land,.val day,.val (.bl back),.val .non,.own G]):=by
 have p8:JN .Pow (.val (.int 10)) (.val (.int 8))=.ok (.val (.int 100000000)):=by rfl
 have pm:JN .Mult (.val (.int 9)) (.val (.int 100000000))=.ok (.val (.int 900000000)):=by rfl
 have zz:G.length+0<=sizeLine:=by have:1000<=sizeLine:=(3:);lia
 simp![J8,YM]at k1 k1' k3 k3';simp?[qap,k1',k2,k3,k3',p8,pm,hx,zz,List.append_nil]
end
open FZ
theorem YI(f:Int×Int×Int):∀(l acc:List St) (s0:Sl),acc.length+l.length < 1000->ja (pg.kk 19) Zc (.one 0) (F.test (T.cmp CmpOp.Lt (E.idx (E.var 0) (E.con (D.int 2))) (E.idx (E.var 1) (E.con (D.int 0))))) (l.map stD) [s0,.val (f3D f)] (acc.map stD)=.ok ((acc++l.filter λs=>decide (s.2.2 < f.1)).map stD)
 |[],acc,s0,_=>by simp[zg]
 | s::l,acc,s0,hl=>by
  rw[List.length_cons]at hl;have hs:(acc.map stD).length < sizeLine:=by rw[List.length_map];exact qG (by omega)
  have a2:∀x y z:D,atI [x,y,z] 2=some z:=λ_ _ _=>rfl;have a0:∀x y z:D,atI [x,y,z] 0=some x:=λ_ _ _=>rfl
  by_cases c:s.2.2 < f.1
  ·have ih:=YI f l (acc++[s]) (.val (stD s)) (by simp;omega);rw[List.filter_cons_of_pos (-c:)];simp![List.map_append,List.map_cons,List.map_nil,List.append_assoc,List.cons_append,List.nil_append,yn,f3D]at ih ⊢;simp?[qeH,a0,a2,c,hs,ih]
  ·have ih:=YI f l acc (.val (stD s)) (by omega);rw[List.filter_cons_of_neg (-c:)];simp![yn,f3D]at ih;rw[List.map_cons];simp?[yn,f3D,a0,a2,c,ih]
theorem qas(f:Int):∀st:List St,goF f st=st.filter λs=>decide (s.2.2 < f)
 |[]=>rfl
 | s::l=>by
  rw[goF,List.filter_cons,qas f l]
  by_cases c:s.2.2 < f
  ·rw[if_pos c,if_pos (-c:)]
  ·rw[if_neg c,if_neg (-c:)]
def qht(n:Nat)(l:List D)(h:n<=l.length):qaI l (some (n:Int)) none=l.drop n:=by unfold qaI;rw[HT.Qu,HT.qbj];simp[List.take_of_length_le,Nat.min_eq_left h]
theorem qhu(f:Int):∀{st:List St} {e:Int},Ch e st->goF f st++st.drop (goF f st).length=st
 |[],_,_=>rfl
 | s::l,e,h=>by
  rw[goF]
  by_cases c:s.2.2 < f
  ·rw[if_pos c,List.length_cons,List.drop_succ_cons,List.cons_append,qhu f h.2]
  ·rw[if_neg c]
   have no:goF f l=[]:=by
    cases q:goF f l with
    |nil=>rfl
    |cons t r=>
     have ht:t∈goF f l:=by rw[q];simp
     have h1:=qa7 f l t ht;have h2:=Ch.lo h.2 t h1.2
     lia
   rw[no];rfl
end K41
namespace DG
open PySem DE FA Dy
open L2 hiding St
theorem qjs{rs:List Ru}{ps:List Pa}{st:List St}(hc:Ch (-1) st)(hr:∀x∈rlF ps 0 rs,Rlw x)(hd:∀r∈rs,r.days<=1000000000)(h8:rs.length<=8){z:Int×Int×Int}(hf:qC rs ps st=some z) :
  Zi (.int z.1)=true/\Zi (.int z.2.1)=true/\Zi (.int z.2.2)=true:=by
 have bf:=(Q8 hc.w hr).2 z hf;obtain⟨j,x,hj,e1,e2,hb,_⟩:=bf.at_;have hm:=List.mem_of_getElem? hj;have hx:=hr x hm;have cn:=qjb hx hc.w;have hx0:=hx.days;have hm0:=hx.most
 have wz:wgt x.1 x.2 st z.1≠0:=λq=>by
  have:=cn.keeps hx.days (m:=x.1.most) (a:=z.1 - 1) (b:=z.1+1) (bf.low x hm _ (1:)) (λy h1 h2=>by rw[show y=z.1 by lia];exact q) z.1 (1:) (1:)
  lia
 have inn:∀d,wgt x.1 x.2 st d≠0->0<=d/\d<=1000000000:=λd hd=>by
  by_cases c:∀s∈st,¬ (s.2.1<=d/\d<=s.2.2)
  ·exact absurd (QY (yA.mpr c)) hd
  ·simp![Classical.not_forall,Classical.not_not]at c;obtain⟨s,hs,h1,h2⟩:=c
   have:=Ch.lo hc s hs
   have:=Ch.top hc s hs
   lia
 have iz:=inn _ wz
 have hjl:j < 8:=by
  have h1:=(List.getElem?_eq_some_iff.mp hj).1;rw[Q9]at h1
  lia
 have hx1:x.1.days<=1000000000:=by rw[Yr]at hj;obtain⟨r,h1,h2⟩:=Option.map_eq_some_iff.mp hj;rw[<-h2];exact hd r (List.mem_of_getElem? h1)
 refine{Qk (1:) (1:),Qk (1:) (1:),?_};rw[e2]
 cases hk:x.1.kd.isW with
 |true=>unfold qbM;rw[hk,if_pos rfl];exact Qk (1:) (1:)
 |false=>
  have nb:¬ YU (wgt x.1 x.2 st) x.1.days z.1:=λq=>by
   have:=cn.idle hk z.1 q
   lia
  have a:=qez hk hx.days (YD hx hc.w) (d:=z.1) (by rw[qbV hx hc.w];exact nb);rw[qbV hx hc.w]at a
  have:=inn _ a.ne
  exact Qk (1:) (1:)
end DG
namespace K41
open PySem DE DG FY FZ FA Dy
open L2 hiding St
theorem qat(ns:List Int)(g:Bool)(zs:List Str)(hz:NamesOk zs):∀(n i:Nat) (acc:List Ru) (s0:Sl),acc.length+n < 1000->
  ∃rs:List Ru,(∀r∈rs,SpOk r)/\rs.length=n/\ja (pg.kk 19) qa3 (.one 0) .yes (rgF (i:Int) n) [s0,.scr (ns.map D.int),.val (.bl g),.bor (zs.map D.str)] (acc.map spD)=.ok ((acc++rs).map spD)
 |0,i,acc,s0,_=>{[],λ_ h=>(by cases h),rfl,by simp[rgF,zg]}
 | n+1,i,acc,s0,hl=>by
  have c1:clK pg 19 "_law_at" [.scr (ns.map D.int),.val (.int 1)]=.ok (.val (.int (zI ns 1))):=qmh (pg:=pg) 18 ns 1;obtain⟨r,h1,_,e⟩:=FY.qjf (pg:=pg) 18 g (zI ns 1+17 * (i:Int)) zs hz;have e:clK pg 19 "_law_spec" [.val (.int (zI ns 1+17 * (i:Int))),.bor (zs.map D.str),.val (.bl g)]=.ok (.val (spD r)):=e;obtain⟨rs,g1,g2,ih⟩:=qat ns g zs hz n (i+1) (acc++[r]) (.val (.int (i:Int))) (by simp;lia);refine{r::rs,λx hx=>?_,by simp[g2],?_}
  ·rcases List.mem_cons.mp hx with rfl|hx
   ·exact h1
   ·exact g1 x hx
  ·have mul:ZJ 17 (i:Int)=true:=qmb (2:) (2:);have hs:(acc.map spD).length < sizeLine:=by rw[List.length_map];exact qG (1:)
   rw[show((i+1:Nat):Int)=(i:Int)+1 by lia]at ih;rw[show acc++r::rs=acc++[r]++rs by simp];rw[List.map_append (l₁:=acc),List.map_cons,List.map_nil]at ih;refine(qk _).symm.trans ?_;rw[rgF];simp?![qeF,c1,mul,e,hs,ih]
theorem Qo:∀(rs acc:List Ru) (s0:Sl),acc.length+rs.length < 1000->(∀r∈rs,SpOk r)->ja (pg.kk 19) qa4 (.one 0) .yes (rs.map spD) [s0] (acc.map ruI)=.ok ((acc++rs.map mkR).map ruI)
 |[],acc,s0,_,_=>by simp[zg]
 | r::rs,acc,s0,hl,h=>by
  rw[List.length_cons]at hl;have e:clK pg 19 "_law_rule" [.val (spD r)]=.ok (.val (ruI (mkR r))):=FZ.qi6 (pg:=pg) 6 r (h r (5:));have ih:=Qo rs (acc++[mkR r]) (.val (spD r)) (by simp;lia) λx hx=>h x (by simp[hx]);have hs:(acc.map ruI).length < sizeLine:=by rw[List.length_map];exact qG (1:)
  simp![List.map_append,List.map_cons,List.map_nil,List.append_assoc,List.cons_append,List.nil_append]at ih ⊢;simp?[qeG,e,hs,ih]
def qmZ{rs:List Ru}{ps:List Pa}{st:List St}(o:LimOk rs ps st)(lt:∀s∈st,s.2.2 < 900000000){L d:D}{za zb:Str}(hza:NameOk za)(h:(Qm L/\d=.int 900000000)\/((L=.str za\/L=.str zb)/\Ql st d))(back b:Bool) :
  clK pg 19 "_law_kept" [.val (bkI rs ps),aL b (st.map stD),.val L,.val d,.val (.bl back)]=.ok (.val (nsD (st.length:Int)))/\clK pg 19 "_law_kept" [.val (bkI rs ps),aL b (st.map stD),.val (.str za),.val (.int 900000000),.val (.bl back)]=.ok (.val .non):=by
 refine{?_,qeO 9 back b o hza (2:) (2:) lt};rcases h with ⟨h,rfl⟩|⟨_,h⟩
 ·exact qeP 9 back b o h (2:) (2:) (qa2 lt (2:))
 ·exact qgr 9 back b o h
def qgt(ns:List Int)(hl:ns.length<=63):clK pg 20 "law" [.scr (ns.map D.int)]=.ok (.val (.bl true)):=by
 have cell:∀i:Nat,clK pg 19 "_law_at" [.scr (ns.map D.int),.val (.int (i:Int))]=.ok (.val (.int (zI ns i))):=λi=>qmh (pg:=pg) 18 ns i;have c0:clK pg 19 "_law_at" [.scr (ns.map D.int),.val (.int 0)]=.ok (.val (.int (zI ns 0))):=cell 0;have c1:clK pg 19 "_law_at" [.scr (ns.map D.int),.val (.int 1)]=.ok (.val (.int (zI ns 1))):=cell 1;have c2:clK pg 19 "_law_at" [.scr (ns.map D.int),.val (.int 2)]=.ok (.val (.int (zI ns 2))):=cell 2;generalize zI ns 0=n0 at c0;generalize zI ns 2=n2 at c2;obtain⟨cs1,e1,l1⟩:=qei ns 4 20;obtain⟨cs2,e2,l2⟩:=qei ns 3 7;have e1:qaI (ns.map D.int) (some 4) (some 20)=cs1.map D.int:=e1;have e2:qaI (ns.map D.int) (some 3) (some 7)=cs2.map D.int:=e2;obtain⟨zs,ez,lz,hz,_⟩:=qgc (pg:=pg) 17 n0 2 (1:);have ez:clK pg 19 "_law_names" [.val (.int n0),.val (.int 2)]=.ok (.tmp (zs.map D.str)):=ez
 obtain⟨za,zb,rfl⟩:∃a b,zs=[a,b]:=by
  match zs,lz with
  |[a,b],_=>exact⟨a,b,rfl⟩
 generalize hg:(n0 % 2 == 1)=g;obtain⟨rs,rok,r2,er⟩:=qat ns g [za,zb] hz 3 0 [] .no (5:);rw[List.map_nil,List.nil_append,show((0:Nat):Int)=0 from rfl]at er;generalize zI ns 1=n1 at c1;have s0:0<=n2 % 1000:=Int.emod_nonneg _ (2:);have s1:n2 % 1000 < 1000:=Int.emod_lt_of_pos _ (2:);generalize hbase:n2 % 1000=base at s0 s1
 have w5:wd g * (cs1.length:Int)<=64000480:=by
  cases g with
  |true=>simp![wd,if_true];lia
  |false=>simp![wd];rw[if_neg (2:)];lia
 obtain⟨st,est,hch,hlen,hst⟩:=FZ.qge (pg:=pg) 18 g cs1 (1:) [za,zb] hz base s0 (1:);have est:clK pg 19 "_law_stays" [.val (.lst (cs1.map D.int)),.bor ([za,zb].map D.str),.val (.bl g),.val (.int base)]=.ok (.tmp (st.map stD)):=est;have hch:Ch (-1) st:=Ch.weak (1:) hch;have nmk:∀s∈st,NameOk s.1:=λs hs=>hz.ok _ (hst s hs).1;have top:∀s∈st,s.2.2 < 64001480:=λs hs=>by have:=(hst s hs).2;lia
 have lng:∃long:Int,0<=long/\long < 64001480/\((st=[]/\long=10)\/∃h:st≠[],long=(st.getLast h).2.2):=by
  by_cases h:st=[]
  ·exact{10,by decide,by decide,.inl ⟨h,rfl⟩}
  ·have mm:=List.getLast_mem h;have b:=Ch.lo hch _ mm;have b2:=top _ mm;exact{_,by lia,by lia,.inr ⟨h,rfl⟩}
 obtain⟨long,g0,g1,glong⟩:=lng;obtain⟨ps,ep,p1,p2⟩:=qeq (pg:=pg) 18 true 3 long 0 (1:) (1:) (1:) (1:) cs2 (1:);have ep:clK pg 19 "_law_papers" [.val (.lst (cs2.map D.int)),.val (.int 3),.val (.int 0),.val (.int long)]=.ok (.tmp (ps.map paD)):=ep;have er1:=Qo rs [] .no (by simp;lia) rok;rw[List.map_nil,List.nil_append]at er1;have L1:(rs.map mkR).length=3:=by rw[List.length_map];exact r2
 have hd9:∀r∈rs.map mkR,r.days<=1000000000:=λr hr=>by
  obtain⟨y,hy,rfl⟩:=List.mem_map.mp hr
  have:=(rok y hy).d1
  rw[qbP]
  split<;>lia
 have po:∀p∈ps,p.2.1<=p.2.2:=λp hp=>(p2 p hp).1.ab
 have w1:∀x∈rlF ps 0 (rs.map mkR),Rlw x:=qmr (λr hr=>by obtain⟨y,hy,rfl⟩:=List.mem_map.mp hr;exact qmk (rok y hy)) po (1:)
 have lf5:∀x∈rlF ps 0 (rs.map mkR),x.2.length<=5:=λx hx=>by
  obtain⟨j,_,e⟩:=qeg hx;rw[e]
  have h1:=qeb (ps:=ofN ((0+j:Nat):Int) ps) λp hp=>by unfold ofN at hp;obtain⟨q,hq,rfl⟩:=List.mem_map.mp hp;exact po q (List.mem_filter.mp hq).1
  have h2:=qaW ((0+j:Nat):Int) ps;unfold lift
  lia
 have b1:pg.nw 19 "Book" [.val (.lst ((rs.map mkR).map ruI)),.val (.lst (ps.map paD))]=.ok (.val (bkI (rs.map mkR) ps)):=qi3 (pg:=pg) 7 false false (rs.map mkR) ps (1:) (1:) λp hp=>by
  have h:=(p2 p hp).1
  have:=h.o0;have:=h.o1;have:=h.a0;have:=h.ab;have:=h.b1
  lia
 generalize rs.map mkR=R1 at *;have hR:∀x∈rlF ps 0 R1,RlOk st x:=λx hx=>qex (w1 x hx) hch.w;have f0:clK pg 19 "fault_of" [.val (bkI R1 ps),.bor (st.map stD)]=.ok (.val (Yq (qC R1 ps st))):=qcI (pg:=pg) 11 true R1 ps (1:) st nmk hch (1:) hR;have z0':(0:Nat)<=sizeLine:=(3:)
 have zst:st.length<=sizeLine:=qS (1:);have hx:qaI (st.map stD) (some ((st.map stD).length:Int)) none=[]:=by rw[qht _ _ (Nat.le_refl _),List.drop_length]
 have hl9:(st.map stD).length < 1000:=by rw[List.length_map];lia
 have lt9:∀s∈st,s.2.2 < 900000000:=λs hs=>by have:=top s hs;lia
 obtain⟨sf,c,o,hsub,X,LP⟩:∃(sf:List St) (c:Bool),LimOk R1 ps sf/\(∀s∈sf,s∈st)/\(∀{M:Type} (K:Fl->R M) (v0 v1 v2 v3 v5 v6 v9 v10 v11 v12 v13:Sl),(iS (pg.kk 19) 1000 (.ite (.cmp .IsNot (.var 7) (.con D.non)) %[.set 8 (.comp Zc (I.seq (.var 4)) (Tg.one 0) (.test (.cmp .Lt (.idx (.var 0) (.con (D.int 2))) (.idx (.var 1) (.con (D.int 0))))) 1 [7])|0] .nil) [v0,v1,v2,v3,.val (.lst (st.map stD)),v5,v6,.val (Yq (qC R1 ps st)),.val (.lst (st.map stD)),v9,v10,v11,v12,v13]).th K=K (.next [v0,v1,v2,v3,.val (.lst (st.map stD)),v5,v6,.val (Yq (qC R1 ps st)),qg8 c (sf.map stD),v9,v10,v11,v12,v13]))/\
   ∀L d:D,((Qm L/\d=.int 900000000)\/((L=.str za\/L=.str zb)/\Ql sf d))->∃nl:D,∀(back:Bool) (v0 v1 v3 v5 s12 s13:Sl),iSs (pg.kk 19) 1000 YH [v0,v1,.own ([za,zb].map D.str),v3,.val (.lst (st.map stD)),v5,.val (bkI R1 ps),.val (Yq (qC R1 ps st)),qg8 c (sf.map stD),.val L,.val d,.val (.bl back),s12,s13]=.ok (.next [v0,v1,.own ([za,zb].map D.str),v3,.val (.lst (st.map stD)),v5,.val (bkI R1 ps),.val (Yq (qC R1 ps st)),qg8 c (sf.map stD),.val L,.val d,.val (.bl back),.val nl,.own (st.map stD)]):=by
  cases q:qC R1 ps st with
  |none=>
   have o:LimOk R1 ps st:={w1,lf5,by lia,by lia,hch,nmk,by lia,(Q8 hch.w w1).1 q};refine{st,false,o,λs hs=>hs,λK v0 v1 v2 v3 v5 v6 v9 v10 v11 v12 v13=>?_,λL d hLd=>{.non,λback v0 v1 v3 v5 s12 s13=>?_}}
   ·rw[qmX];generalize st.map stD=S';simp?![Yq]
   ·have a1:=qmZ o lt9 (hz.ok za (5:)) hLd back true;have a2:=qmZ o lt9 (hz.ok za (5:)) hLd back false;have ny:=qar 17 (st.length:Int);rw[<-List.length_map (f:=stD)]at a1 a2 ny;exact qmz back (bkI R1 ps) L d (st.map stD) za [.str zb] v0 v1 v3 v5 s12 s13 _ a1.1 a2.1 ny a1.2 a2.2 (v:=.non) (nl:=.non) hx hl9
  |some f=>
   have fc:=YI f st [] .no (by simp;lia);rw[List.map_nil,List.nil_append,<-qas]at fc;have gl:=qhs f.1 st;have gi:∀s∈goF f.1 st,s∈st:=λs hs=>(qa7 f.1 st s hs).2;have o:LimOk R1 ps (goF f.1 st):={w1,lf5,by lia,by lia,qgs f.1 hch,λs hs=>nmk s (gi s hs),by lia,qmx hch w1 q};refine{goF f.1 st,true,o,gi,λK v0 v1 v2 v3 v5 v6 v9 v10 v11 v12 v13=>?_,λL d hLd=>{nlD f,λback v0 v1 v3 v5 s12 s13=>?_}}
   ·rw[qmW];generalize (goF f.1 st).map stD=S' at *;rw[f3D]at fc;simp?![Yq,f3D,List.length_map,zst,qaz,List.getD_cons_succ,List.getD_cons_zero,fc]
   ·have lt9':∀s∈goF f.1 st,s.2.2 < 900000000:=λs hs=>lt9 s (gi s hs);have a1:=qmZ o lt9' (hz.ok za (5:)) hLd back true;have a2:=qmZ o lt9' (hz.ok za (5:)) hLd back false;have ny:=qar 17 ((goF f.1 st).length:Int);rw[<-List.length_map (f:=stD)]at a1 a2 ny;have fm:=qjs hch w1 hd9 (1:) q;have hcut:qaI (st.map stD) (some (((goF f.1 st).map stD).length:Int)) none=(st.drop (goF f.1 st).length).map stD:=by rw[qht _ _ (by rw[List.length_map,List.length_map];exact gl),List.length_map,List.map_drop]
    have happ:(goF f.1 st).map stD++(st.drop (goF f.1 st).length).map stD=st.map stD:=by rw[<-List.map_append,qhu f.1 hch]
    exact qmy back (bkI R1 ps) L d (st.map stD) ((goF f.1 st).map stD) za [.str zb] v0 v1 v3 v5 s12 s13 _ a1.1 a2.1 ny a1.2 a2.2 _ (nlD f) hcut happ hl9 (Qn 9 back false (1:) hch nmk (1:) hR q fm L d) (qeM 17 f) (Qn 9 back true (1:) hch nmk (1:) hR q fm (.str za) (.int 900000000))
 obtain⟨L,d,am,hLd⟩:=qgq 18 (n1 / 7) c sf (λs hs=>by have:=Ch.lo o.ch s hs;lia) o.nm (by have:=o.len;lia) za zb [] (hz.ok za (5:));have am:clK pg 19 "_law_amiss" [.val (.int (n1 / 7)),aL c (sf.map stD),.bor ([za,zb].map D.str)]=.ok (.val (.tup [L,d])):=am;obtain⟨nl,LP⟩:=LP L d hLd;obtain⟨ok1,dp1⟩:=qeN st nmk;have en:=qd3 ok1 (1:)
 have lg:∀{M:Type} (K:Fl->R M) (v0 v1 v2 v3 v6 v7 v8 v9 v10 v11 v12 v13:Sl),(iS (pg.kk 19) 1000 (.ite (.cmp .NotEq (.var 4) (.lst .nil)) %[.set 5 (.idx (.idx (.var 4) (.bin .Sub (.b1 .len (.var 4)) (.con (D.int 1)))) (.con (D.int 2)))|0] .nil) [v0,v1,v2,v3,.own (st.map stD),.val (.int 10),v6,v7,v8,v9,v10,v11,v12,v13]).th K=K (.next [v0,v1,v2,v3,.own (st.map stD),.val (.int long),v6,v7,v8,v9,v10,v11,v12,v13]):=by
  intro M K v0 v1 v2 v3 v6 v7 v8 v9 v10 v11 v12 v13;rcases glong with ⟨h,rfl⟩|⟨h,hlo⟩
  ·have en':(st.map stD).isEmpty=true:=by rw[h];rfl
   rw[en']at en;simp?![z0',en]
  ·have en':(st.map stD).isEmpty=false:=by
    cases st with
    |nil=>exact absurd rfl h
    |cons a b=>rfl
   rw[en']at en;have la:=qhr h;simp?![z0',en,la,List.length_map,<-hlo]
 have sm3:zf 3=true:=qae (1:) (1:);have z7:(rgF 0 3).length<=sizeLine:=by rw[qed];exact qS (1:)
 have t3:(3:Int).toNat=3:=rfl;have z4:rs.length<=sizeLine:=qS (1:);have z3:0+1+1+1<=sizeLine:=(3:)
 generalize Yq (qC R1 ps st)=FV at *;generalize bkI R1 ps=B at *;rw[show(20:Nat)=19+1 from rfl,qod];generalize R1.map ruI=RI at *;generalize [za,zb].map D.str=N at *;simp?![↓lg,↓X,qmt,c0,c1,c2,qE,hg,hbase,ez,sm3,jb,Int.sub_zero,t3,z7,qaz,List.getD_cons_succ,List.getD_cons_zero,er,e1,e2,est,ep,z0',z3,z4,List.length_map,er1,b1,f0,am,LP]
end K41
namespace DE
open PySem PySem.Spec PyProof.Rows L2
def y8(G G' H:Hp):Prop:=∀a o,G' a=some o->(∃o',G a=some o')\/H a=none
def But(p:Addr)(H H':Hp):Prop:=∀a o,a≠p->H a=some o->H' a=some o
def qcO(U:KC)(K:Frag)(ok:Str->Bool)(go:List Ar->Option (List (Str×D))):Sp:=λvs H Q _=>∃(G:Hp) (c:Str) (C p dx:Addr) (us:List V) (args:List Ar) (fs:List (Str×D)),vs=.ref p::us/\ok c=true/\U c=some C/\
 H p=some (.ins C dx [])/\G p=none/\qq G H/\JO U K G H args us/\go args=some fs/\
 ∀G' H' xs,qq G G'->qq G' H'->G' p=none->But p H H'->y8 G G' H->H' p=some (.ins C dx ((fs.map (·.1)).zip xs))->xs.length=fs.length->qp U G' (fs.map (·.2)) xs->Q .non H'
noncomputable abbrev spQ(U:KC)(K:Frag)(cl:Str->List Ar->R Rv)(f:Str):Sp:=λvs H Q _=>spF U K cl f vs H Q E0
def Zj.q{P:Program}{wd:World}{U:KC}{K:Frag}{mg:PR}{base:Heap}{pg:Pg}{k:Nat}(h:Zj P wd U K mg base pg k)(f:Str)(st:Stmt)(e:pg.defs.lookup f=some st):∃fa fd,FnOk P wd K mg base CX0 k fa fd (YK st) (spQ U K (clK pg k) f)/\mg f=some (.ref fa)/\PySem.W.keepIn K (.ref fa)=true/\qR K fd (YK st) []:=
 let ⟨fa,fd,F,h⟩:=h.1 f st e
 ⟨fa,fd,qbD F λ_ _ _ _ z=>z,h⟩
section
variable{U:KC}{K:Frag}{G H G' H':Hp}
def qau{cl:Str->List Ar->R Rv}{f:Str}{args:List Ar}{vs:List V}{r:Rv}{Q:VK}{E:XK}(sub:qq G H)(ha:JO U K G H args vs)(e:cl f args=.ok r)
  (h:∀v G' H',qq H H'->qq G G'->qq G' H'->y8 G G' H->ReR U G' H' H r v->Q v H'):spF U K cl f vs H Q E:={G,args,sub,ha,by rw[e];exact h}
theorem ArR.low{a:Ar}{v:V}(h:ArR U K G H a v)(gs:qq G G')(hs:∀b o,H b=some o->(∀C dx fs,o≠.ins C dx fs)->H' b=some o):(∀l,a≠.scr l)->ArR U K G' H' a v:=λhn=>by
 cases a with
 |val d=>exact Rep.same gs h
 |bor l=>obtain⟨b,xs,e,h1,h2⟩:=h;exact{b,xs,e,hs _ _ h1 (by intros;intro z;cases z),h2.same gs}
 |scr l=>exact absurd rfl (hn l)
theorem Zd{nw:Str->List Ar->R Rv}{f c:Str}{C:Addr}{ok:Str->Bool}{go:List Ar->Option (List (Str×D))}(hC:U c=some C)(hok:ok c=true)
  (hX:∀args c l,nw f args≠.exc c l) (hgo:∀args r,nw f args=.ok r->(∀a∈args,∀l,a≠.scr l)/\∃fs,go args=some fs/\r=.val (.ins c (fs.map (·.1)) (fs.map (·.2)))) :
  ∀vs H Q E,spF U K nw f vs H Q E->∀x dx,H x=none->H dx=none->dx≠x->qcO U K ok go (.ref x::vs) (upd (upd H dx (.own x)) x (.ins C dx [])) (λv H2=>v=.non/\Q (.ref x) H2) E:=by
 rintro vs H Q E ⟨G,args,sub,ha,hw⟩ x dx hx hdx ne
 cases e:nw f args with
 |no=>rw[e]at hw;exact hw.elim
 |exc c l=>exact(hX _ _ _ e).elim
 |ok r=>
  rw[e]at hw;obtain⟨hs,fs,hg,rfl⟩:=hgo args r e;have gx:G x=none:=qq.none sub hx;have gd:G dx=none:=qq.none sub hdx
  have up:qq H (upd (upd H dx (.own x)) x (.ins C dx [])):=λb o hb=>by
   have nb:b≠x:=λz=>by rw[z,hx]at hb;cases hb
   have nd:b≠dx:=λz=>by rw[z,hdx]at hb;cases hb
   rw[qe nb,qe nd];exact hb
  have ha':∀{args:List Ar} {vs:List V},(∀a∈args,∀l,a≠.scr l)->JO U K G H args vs->JO U K G (upd (upd H dx (.own x)) x (.ins C dx [])) args vs:=by
   intro args
   induction args with
   |nil=>intro vs _ h;simp![JO]at h ⊢;exact h
   |cons a l ih=>intro vs hn h;simp![JO]at h ⊢;obtain⟨v,r,e,h1,h2⟩:=h;exact{v,r,e,h1.low (λ_ _ z=>z) (λb o hb _=>up b o hb) (hn a (List.mem_cons_self ..)),ih (λb hb=>hn b (List.mem_cons_of_mem _ hb)) h2}
  refine{G,c,C,x,dx,vs,args,fs,rfl,hok,hC,qf,gx,λb o hb=>up b o (sub b o hb),ha' hs ha,hg,λG' H' xs gs sub' gx' but fr hp hl rp=>{rfl,?_}};refine hw (.ref x) (upd G' x (.ins C dx ((fs.map (·.1)).zip xs))) H' (λb o hb=>?_) (λb o hb=>?_) (λb o hb=>?_) (λb o hb=>?_) ?_
  ·exact but b o (λz=>by rw[z,hx]at hb;cases hb) (up b o hb)
  ·exact qq.upd gx' b o (gs b o hb)
  ·by_cases z:b=x
   ·subst z;rw[qf]at hb;cases hb;exact hp
   ·rw[qe z]at hb;exact sub' b o hb
  ·by_cases z:b=x
   ·subst z;exact .inr hx
   ·rw[qe z]at hb;rcases fr b o hb with q|q
    ·exact .inl q
    ·refine .inr ?_
     cases w:H b with
     |none=>rfl
     | some o'=>rw[up b o' w]at q;cases q
  ·simp![ReR,Rep];exact{x,dx,C,xs,hC,rfl,qf,by rw[hl,List.length_map],rp.same (qq.upd gx')}
end
end DE
namespace DG
open PySem PySem.Spec PyProof.Rows L2 DE
theorem jr{G G' H:Hp}{p:Addr}{o:L2.HO}(fr:y8 G G' H)(g:G p=none)(h:H p=some o):G' p=none:=by
 cases e:G' p with
 |none=>rfl
 | some o'=>
  rcases fr p o' e with ⟨o'',z⟩|z
  ·rw[g]at z;cases z
  ·rw[h]at z;cases z
def y8.trans{G G1 G2 H H1:Hp}(a:y8 G G1 H)(s:qq H H1)(b:y8 G1 G2 H1):y8 G G2 H:=λx o h=>by
 rcases b x o h with ⟨o',z⟩|z
 ·exact a x o' z
 ·exact .inr (qq.none s z)
def y8.transB{G G1 G2 H H1:Hp}{p:Addr}{o:L2.HO}(a:y8 G G1 H)(s:But p H H1)(hp:H1 p=some o)(b:y8 G1 G2 H1):y8 G G2 H:=λx o h=>by
 rcases b x o h with ⟨o',z⟩|z
 ·exact a x o' z
 ·refine .inr ?_;have nx:x≠p:=λq=>by rw[q,hp]at z;cases z
  cases w:H x with
  |none=>rfl
  | some o'=>rw[s x o' nx w]at z;cases z
def aA(b:Bool)(l:List D):Ar:=match b with
 |true=>.bor l
 |false=>.val (.lst l)
def qav{a:Ar}{l:List D}(e:arL a=some l):∃b,a=aA b l:=by
 unfold arL at e
 split at e
 ·cases e;exact⟨false,rfl⟩
 ·cases e;exact⟨true,rfl⟩
 ·cases e
def qb8{a:Ar}{n:Int}(e:arI a=some n):a=.val (.int n):=by
 unfold arI at e
 split at e
 ·cases e;rfl
 ·cases e
theorem qa9{U:KC}{K:Frag}{G H:Hp}{b:Bool}{l:List D}{v:V}(sub:qq G H)(h:ArR U K G H (aA b l) v):∃p xs,v=.ref p/\H p=some (.lst xs)/\qp U G l xs:=by
 cases b with
 |false=>simp![aA,ArR,Rep]at h;obtain⟨a,xs,e,h1,h2⟩:=h;exact{a,xs,e,sub _ _ h1,h2}
 |true=>exact h
def qmA{U:KC}{K:Frag}{G H G' H':Hp}{b:Bool}{l:List D}{v:V}(h:ArR U K G H (aA b l) v)(gs:qq G G')(hs:qq H H'):ArR U K G' H' (aA b l) v:=h.low gs (λb o e _=>hs b o e) (λl'=>by cases b<;>(intro z;cases z))
def qaw{args:List Ar}{fs:List (Str×D)}(h:qbF args=some fs):∃b l m,args=[aA b l,.val (.int m)]/\qB l=true/\btw m 0 1000000000=true/\fs=([("lands",.tup l),("most",.int m)]:List (Str×D)):=by
 unfold qbF at h
 split at h
 ·split at h
  ·rename_i e1 e2
   split at h
   ·rename_i hc;cases h;rw[Bool.and_eq_true]at hc;obtain⟨b,rfl⟩:=qav e1;cases qb8 e2;exact{b,_,_,rfl,hc.1,hc.2,rfl}
   ·cases h
  ·cases h
 ·cases h
def y9{x:Str}{args:List Ar}{fs:List (Str×D)}(h:jQ x args=some fs):∃b l m s,args=[aA b l,.val (.int m),.val (.int s)]/\qB l=true/\btw m 0 1000000000=true/\btw s 1 1000000000=true/\fs=([("lands",.tup l),("most",.int m),(x,.int s)]:List (Str×D)):=by
 unfold jQ at h
 split at h
 ·split at h
  ·rename_i e1 e2 e3
   split at h
   ·rename_i hc;cases h;rw[Bool.and_eq_true,Bool.and_eq_true]at hc;obtain⟨b,rfl⟩:=qav e1;cases qb8 e2;cases qb8 e3;exact{b,_,_,_,rfl,hc.1.1,hc.1.2,hc.2,rfl}
   ·cases h
  ·cases h
 ·cases h
def Ze{args:List Ar}{fs:List (Str×D)}(h:qcC args=some fs):∃b l m,args=[aA b l,.val (.int m)]/\qB l=true/\btw m 0 1000000000=true/\fs=([("lands",.tup l),("most",.int m),("leave",.int 1)]:List (Str×D)):=by
 unfold qcC at h
 split at h
 ·split at h
  ·rename_i e1 e2
   split at h
   ·rename_i hc;cases h;rw[Bool.and_eq_true]at hc;obtain⟨b,rfl⟩:=qav e1;cases qb8 e2;exact{b,_,_,rfl,hc.1,hc.2,rfl}
   ·cases h
  ·cases h
 ·cases h
def YJ{args:List Ar}{fs:List (Str×D)}(h:Y5 args=some fs):∃b c l ps,args=[aA b l,aA c ps]/\(decide (l.length<=8)&&l.all Z4)=true/\(decide (ps.length<=12)&&ps.all (yg l.length))=true/\fs=([("kept_rules",.lst l),("kept_papers",.lst ps)]:List (Str×D)):=by
 unfold Y5 at h
 split at h
 ·split at h
  ·rename_i e1 e2
   split at h
   ·rename_i hc;cases h;rw[Bool.and_eq_true]at hc;obtain⟨b,rfl⟩:=qav e1;obtain⟨c,rfl⟩:=qav e2;exact{b,c,_,_,rfl,hc.1,hc.2,rfl}
   ·cases h
  ·cases h
 ·cases h
def qeQ{b:Bool}{l:List D}{m:Int}(ol:qB l=true)(om:btw m 0 1000000000=true):qbF [aA b l,.val (.int m)]=some ([("lands",.tup l),("most",.int m)]:List (Str×D)):=by cases b<;>(show(if (qB l&&btw m 0 1000000000)=true then _ else none)=_;rw[if_pos (by rw[ol,om];rfl)])
def qeR{x:Str}{b:Bool}{l:List D}{m s:Int}(ol:qB l=true)(om:btw m 0 1000000000=true)(os:btw s 1 1000000000=true):jQ x [aA b l,.val (.int m),.val (.int s)]=some ([("lands",.tup l),("most",.int m),(x,.int s)]:List (Str×D)):=by cases b<;>(show(if (qB l&&btw m 0 1000000000&&btw s 1 1000000000)=true then _ else none)=_;rw[if_pos (by rw[ol,om,os];rfl)])
structure Tx(U:KC)(K:Frag)(mg:PR):Prop where
 tup:mg "tuple" = none
 lst:mg "list" = none
 len:mg "len" = none
 gG:∃t,mg "GREATEST" = some (.int 1000000000 t)
 cls:∀c C,U c=some C->Cls K C
 nA:∀c x C,(pcs {}).fld c x=true->U c=some C->zd K C x
structure Ck(pg:Pg)(j:Nat):Prop where
 lands:∀b l,qB l=true->clK pg j "are_lands" [aA b l]=.ok (.val (.bl true))
 rules:∀b l,(decide (l.length<=8)&&l.all Z4)=true->clK pg j "are_rules" [aA b l]=.ok (.val (.bl true))
 papers:∀b (ps:List D) (n:Int),(decide (ps.length<=12)&&ps.all (yg n))=true->clK pg j "check_papers" [aA b ps,.val (.int n)]=.ok (.val .non)
 btw:∀n a b,btw n a b=true->clK pg j "is_between" [.val (.int n),.val (.int a),.val (.int b)]=.ok (.val (.bl true))
def qb9{c:Str}(h:rk c=true):(pcs {}).fld c "lands" = true/\(pcs {}).fld c "most" = true:=by
 constructor
 ·show((rk c&&(true||_||_||_))||_)=true;rw[h];rfl
 ·show((rk c&&(false||true||_||_))||_)=true;rw[h];rfl
def okW(c:Str):Bool:=c == "Within"
def okS(c:Str):Bool:=c == "Since" || c == "InRow"
def okI(c:Str):Bool:=c == "InRow"
def okB(c:Str):Bool:=c == "Book"
def qmB{c:Str}(h:okW c=true):rk c=true:=by unfold okW at h;unfold rk;rw[h];rfl
def qmC{c:Str}(h:okS c=true):rk c=true:=by unfold okS at h;unfold rk;rw[Bool.or_assoc,h,Bool.or_true]
def qjt{c:Str}(h:okI c=true):okS c=true:=by unfold okI at h;unfold okS;rw[h,Bool.or_true]
def qju{c:Str}(h:okW c=true):(pcs {}).fld c "span" = true:=by
 have e:c = "Within":=by simpa [okW] using h
 subst e;decide
def qgu{c:Str}(h:okS c=true):(pcs {}).fld c "leave" = true:=by
 have e:c = "Since"\/c = "InRow":=by simpa [okS] using h
 rcases e with e|e<;>subst e<;>decide
def qeS{c:Str}(h:okB c=true):(pcs {}).fld c "kept_rules" = true/\(pcs {}).fld c "kept_papers" = true:=by
 have e:c = "Book":=by simpa [okB] using h
 subst e;decide
end DG
namespace K41
open PySem PySem.Spec PyProof.Rows L2 DE DG
section
variable{P:Program}{wd:World}{U:KC}{K:Frag}{mg:PR}{base:Heap}{j:Nat}{f:Addr}{fd:FuncData}
def qjv:FnScope ["self","lands","most"] ["self","lands","most"] (qh (mem 29 0)):={rfl,rfl,rfl,(3:),rfl,(3:),(3:)}
def qgv(tx:Tx U K mg)(F:Fun K "__init__" "Rule.__init__" (mem 29 0) f fd)(at_:Zj P wd U K mg base pg j)(ck:Ck pg j):FnOk P wd K mg base CX0 (j+1) f fd ["self","lands","most"] (qcO U K rk qbF):=by
 obtain⟨fA,dA,FA,mA,kA,bA⟩:=Zj.q at_ "are_lands" (top 28) (4:);obtain⟨fB,dB,FB,mB,kB,bB⟩:=Zj.q at_ "is_between" (top 5) (4:);obtain⟨t1,g1⟩:=tx.gG;refine F.ok qjv (λvs H Q E h=>?_) (λcdv A outer s H vs Q E hr h=>?_)
 ·obtain⟨G,c,C,p,dx,us,args,fs,rfl,_,_,_,_,_,ha,hg,_⟩:=h;obtain⟨b,l,m,rfl,_⟩:=qaw hg
  have:=ha.len
  simp at this;simp[<-this]
 ·obtain⟨G,c,C,p,dx,us,args,fs,rfl,hrk,hC,hp,gp,sub,ha,hg,k1⟩:=h;obtain⟨b,l,m,rfl,ol,om,rfl⟩:=qaw hg;simp![JO]at ha;obtain⟨v1,us1,rfl,r1,v2,us2,rfl,r2,rfl⟩:=ha;simp![ArR,Rep]at r2;subst r2;obtain⟨a,xs,rfl,hxa,rl⟩:=qa9 sub r1
  refine{_,qK (qcW (Zk (qbe (Jd FA hr (by rfl) mA kA bA .nil qaE (qj (pv 1) qx)))) (jt JK) Jc)
   (qK (qcW (Zk (qbe (Jd FB hr (by rfl) mB kB bB .nil qaE (qj (pv 2) (qj qbd (qj (Ja (v:=.int 1000000000) (by rfl) g1 {_,rfl}) qx)))))) (jt JK) Jc)
   (qK (Zo (pv 0) (zA yI (by rfl) tx.tup PyProof.Rows.boot_tuple (qj (pv 1) qx)) rfl)
   (jt (Zo (pv 0) (pv 2) rfl)))),?_}
  refine{_,rfl,qau (E:=E0) (G:=G) (args:=[aA b l]) sub {_,_,rfl,r1,rfl} (ck.lands b l ol) λv G1 H1 hs1 gs1 sub1 fr1 rr=>?_};simp![ReR,Rep]at rr;subst rr;refine{_,rfl,?_};refine{_,rfl,qau (E:=E0) (G:=G1) (args:=[.val (.int m),.val (.int 0),.val (.int 1000000000)]) sub1 {_,_,rfl,by simp![ArR,Rep],_,_,rfl,by simp![ArR,Rep],_,_,rfl,by simp![ArR,Rep],rfl} (ck.btw m 0 1000000000 om) λv G2 H2 hs2 gs2 sub2 fr2 rr=>?_};simp![ReR,Rep]at rr;subst rr;refine{_,rfl,?_};have hp2:H2 p=some (.ins C dx []):=hs2 _ _ (hs1 _ _ hp);have ga2:H2 a=some (.lst xs):=hs2 _ _ (hs1 _ _ hxa);have gp1:G1 p=none:=jr fr1 gp hp;have gp2:G2 p=none:=jr fr2 gp1 (hs1 _ _ hp);refine{_,rfl,a,xs,rfl,.inl {SqL.of ga2,λt ht=>?_}};have ntp:t≠p:=λz=>by rw[z,hp2]at ht;cases ht
  have gt:G2 t=none:=qq.none sub2 ht;refine{_,rfl,p,C,dx,_,rfl,by rw[qe ntp.symm];exact hp2,tx.cls c C hC,tx.nA c _ C (qb9 hrk).1 hC,by decide,?_};refine{_,rfl,_,rfl,p,C,dx,_,rfl,qf,tx.cls c C hC,tx.nA c _ C (qb9 hrk).2 hC,(by show 1 < 1000;decide),?_};refine k1 (upd G2 t (.tup xs)) _ [.ref t,.int m] ?_ ?_ ?_ ?_ ?_ ?_ rfl ?_
  ·exactλb o e=>qq.upd gt b o (gs2 b o (gs1 b o e))
  ·intro b o e
   by_cases z:b=t
   ·subst z;rw[qf]at e;cases e;rw[qe ntp,qe ntp,qf]
   ·rw[qe z]at e;have nb:b≠p:=λq=>by rw[q,gp2]at e;cases e
    rw[qe nb,qe nb,qe z];exact sub2 b o e
  ·rw[qe ntp.symm];exact gp2
  ·intro b o nb e;have e2:=hs2 b o (hs1 b o e);have nt:b≠t:=λq=>by rw[q,ht]at e2;cases e2
   rw[qe nb,qe nb,qe nt];exact e2
  ·intro b o e
   by_cases z:b=t
   ·subst z;exact .inr (qq.none hs1 (qq.none hs2 ht))
   ·rw[qe z]at e;exact(y8.trans fr1 hs1 fr2) b o e
  ·rw[qf];rfl
  ·simp![List.map_cons,List.map_nil,qp,Rep];exact{_,_,rfl,{t,xs,rfl,qf,(rl.same gs1 |>.same gs2).same (qq.upd gt)},_,_,rfl,rfl,rfl}
def qeT:FnScope ["self","lands","most","span"] ["self","lands","most","span"] (qh (mem 30 0)):={rfl,rfl,rfl,(3:),rfl,(3:),(3:)}
def qgw:FnScope ["self","lands","most","leave"] ["self","lands","most","leave"] (qh (mem 31 0)):={rfl,rfl,rfl,(3:),rfl,(3:),(3:)}
def Zf{fR cR:Addr}{dR:FuncData}(tx:Tx U K mg)(FR:Fun K "__init__" "Rule.__init__" (mem 29 0) fR dR)(bR:qR K dR ["self","lands","most"] [])(mR:mg "Rule" = some (.ref cR))(cf:ClsFn K cR "__init__" fR)
  (at0:Zj P wd U K mg base pg j) (at1:Zj P wd U K mg base pg (j+1)) (ck0:Ck pg j) (ck1:Ck pg (j+1)):(Fun K "__init__" "Within.__init__" (mem 30 0) f fd->FnOk P wd K mg base CX0 (j+2) f fd ["self","lands","most","span"] (qcO U K okW (jQ "span")))/\(Fun K "__init__" "Since.__init__" (mem 31 0) f fd->FnOk P wd K mg base CX0 (j+2) f fd ["self","lands","most","leave"] (qcO U K okS (jQ "leave"))):=by
 constructor<;>(
  intro F;obtain⟨fB,dB,FB,mB,kB,bB⟩:=Zj.q at1 "is_between" (top 5) (4:);obtain⟨t1,g1⟩:=tx.gG;refine F.ok (by first|exact qeT |exact qgw) (λvs H Q E h=>?_) (λcdv A outer s H vs Q E hr h=>?_)
  ·obtain⟨G,c,C,p,dx,us,args,fs,rfl,_,_,_,_,_,ha,hg,_⟩:=h;obtain⟨b,l,m,z,rfl,_⟩:=y9 hg
   have:=ha.len
   simp at this;simp[<-this]
  ·obtain⟨G,c,C,p,dx,us,args,fs,rfl,hrk,hC,hp,gp,sub,ha,hg,k1⟩:=h;obtain⟨b,l,m,z,rfl,ol,om,oz,rfl⟩:=y9 hg;simp![JO]at ha;obtain⟨v1,us1,rfl,r1,v2,us2,rfl,r2,v3,us3,rfl,r3,rfl⟩:=ha;simp![ArR,Rep]at r2 r3;subst r2 r3
   refine{_,qK (yr (qbo cf (qgv tx FR at0 ck0) hr (by rfl) mR bR .nil qaE (qj (pv 0) (qj (pv 1) (qj (pv 2) qx)))))
    (qK (qcW (Zk (qbe (Jd FB hr (by rfl) mB kB bB .nil qaE (qj (pv 3) (qj qbd (qj (Ja (v:=.int 1000000000) (by rfl) g1 {_,rfl}) qx)))))) (jt JK) Jc)
    (jt (Zo (pv 0) (pv 3) rfl))),?_}
   refine{_,rfl,_,rfl,_,rfl,G,c,C,p,dx,[v1,.int m],[aA b l,.val (.int m)],_,rfl,(by first|exact qmB hrk|exact qmC hrk),hC,hp,gp,sub,{_,_,rfl,r1,_,_,rfl,by simp![ArR,Rep],rfl},qeQ ol om,λG1 H1 xs gs1 sub1 gp1 but1 fr1 hp1 hl1 rp1=>?_};simp![List.map_cons,List.map_nil,qp]at rp1;obtain⟨x1,w1,rfl,q1,x2,w2,rfl,q2,rfl⟩:=rp1;refine{_,rfl,qau (E:=E0) (G:=G1) (args:=[.val (.int z),.val (.int 1),.val (.int 1000000000)]) sub1 {_,_,rfl,by simp![ArR,Rep],_,_,rfl,by simp![ArR,Rep],_,_,rfl,by simp![ArR,Rep],rfl} (ck1.btw z 1 1000000000 oz) λv G2 H2 hs2 gs2 sub2 fr2 rr=>?_};simp![ReR,Rep]at rr;subst rr;refine{_,rfl,?_};have hp2:=hs2 _ _ hp1;have gp2:G2 p=none:=jr fr2 gp1 hp1;refine{_,rfl,_,rfl,p,C,dx,_,rfl,hp2,tx.cls c C hC,tx.nA c _ C (by first|exact qju hrk|exact qgu hrk) hC,(by show 2 < 1000;decide),?_};refine k1 G2 _ [x1,x2,.int z] (λb o e=>gs2 b o (gs1 b o e)) (λb o e=>?_) gp2 (λb o nb e=>?_) (λb o e=>?_) ?_ rfl ?_
   ·rw[qe (λq=>by rw[q,gp2]at e;cases e)];exact sub2 b o e
   ·rw[qe nb];exact hs2 b o (but1 b o nb e)
   ·exact(y8.transB fr1 but1 hp1 fr2) b o e
   ·rw[qf];rfl
   ·simp![List.map_cons,List.map_nil,qp];exact{_,_,rfl,q1.same gs2,_,_,rfl,q2.same gs2,_,_,rfl,by simp![Rep],rfl})
def qgx:FnScope ["self","lands","most"] ["self","lands","most"] (qh (mem 32 0)):={rfl,rfl,rfl,(3:),rfl,(3:),(3:)}
def qeU{fR cR fS cS:Addr}{dR dS:FuncData}(tx:Tx U K mg)(F:Fun K "__init__" "InRow.__init__" (mem 32 0) f fd)(FS:Fun K "__init__" "Since.__init__" (mem 31 0) fS dS)(bS:qR K dS ["self","lands","most","leave"] [])(mS:mg "Since" = some (.ref cS))(cfS:ClsFn K cS "__init__" fS)
  (FR:Fun K "__init__" "Rule.__init__" (mem 29 0) fR dR) (bR:qR K dR ["self","lands","most"] []) (mR:mg "Rule" = some (.ref cR)) (cf:ClsFn K cR "__init__" fR)
  (at0:Zj P wd U K mg base pg j) (at1:Zj P wd U K mg base pg (j+1)) (ck0:Ck pg j) (ck1:Ck pg (j+1)):FnOk P wd K mg base CX0 (j+3) f fd ["self","lands","most"] (qcO U K okI qcC):=by
 refine F.ok qgx (λvs H Q E h=>?_) (λcdv A outer s H vs Q E hr h=>?_)
 ·obtain⟨G,c,C,p,dx,us,args,fs,rfl,_,_,_,_,_,ha,hg,_⟩:=h;obtain⟨b,l,m,rfl,_⟩:=Ze hg
  have:=ha.len
  simp at this;simp[<-this]
 ·obtain⟨G,c,C,p,dx,us,args,fs,rfl,hrk,hC,hp,gp,sub,ha,hg,k1⟩:=h;obtain⟨b,l,m,rfl,ol,om,rfl⟩:=Ze hg;simp![JO]at ha;obtain⟨v1,us1,rfl,r1,v2,us2,rfl,r2,rfl⟩:=ha;simp![ArR,Rep]at r2;subst r2;refine{_,jt (yr (qbo cfS ((Zf tx FR bR mR cf at0 at1 ck0 ck1).2 FS) hr (by rfl) mS bS .nil qaE (qj (pv 0) (qj (pv 1) (qj (pv 2) (qj qbd qx)))))),?_}
  exact{_,rfl,_,rfl,_,rfl,G,c,C,p,dx,[v1,.int m,.int 1],[aA b l,.val (.int m),.val (.int 1)],_,rfl,qjt hrk,hC,hp,gp,sub,{_,_,rfl,r1,_,_,rfl,by simp![ArR,Rep],_,_,rfl,by simp![ArR,Rep],rfl},
   qeR ol om (2:),λG1 H1 xs gs1 sub1 gp1 but1 fr1 hp1 hl1 rp1=>k1 G1 H1 xs gs1 sub1 gp1 but1 fr1 hp1 hl1 rp1}
def qjw:FnScope ["self","rules","papers"] ["self","rules","papers"] (qh (mem 65 0)):={rfl,rfl,rfl,(3:),rfl,(3:),(3:)}
def qgy(tx:Tx U K mg)(F:Fun K "__init__" "Book.__init__" (mem 65 0) f fd)(at_:Zj P wd U K mg base pg j)(ck:Ck pg j):FnOk P wd K mg base CX0 (j+1) f fd ["self","rules","papers"] (qcO U K okB Y5):=by
 obtain⟨fA,dA,FA,mA,kA,bA⟩:=Zj.q at_ "are_rules" (top 62) (4:);obtain⟨fB,dB,FB,mB,kB,bB⟩:=Zj.q at_ "check_papers" (top 64) (4:);refine F.ok qjw (λvs H Q E h=>?_) (λcdv A outer s H vs Q E hr h=>?_)
 ·obtain⟨G,c,C,p,dx,us,args,fs,rfl,_,_,_,_,_,ha,hg,_⟩:=h;obtain⟨b0,c0,l,ps,rfl,_⟩:=YJ hg
  have:=ha.len
  simp at this;simp[<-this]
 ·obtain⟨G,c,C,p,dx,us,args,fs,rfl,hrk,hC,hp,gp,sub,ha,hg,k1⟩:=h;obtain⟨b0,c0,l,ps,rfl,ol,op,rfl⟩:=YJ hg;simp![JO]at ha;obtain⟨v1,us1,rfl,r1,v2,us2,rfl,r2,rfl⟩:=ha;obtain⟨a,xs,rfl,hxa,rl⟩:=qa9 sub r1;obtain⟨b,ys,rfl,hb,rp⟩:=qa9 sub r2
  refine{_,qK (qcW (Zk (qbe (Jd FA hr (by rfl) mA kA bA .nil qaE (qj (pv 1) qx)))) (jt JK) Jc)
   (qK (yr (Jd FB hr (by rfl) mB kB bB .nil qaE (qj (pv 2) (qj (qL Jp (by rfl) tx.len PySem.boot_len (qj (pv 1) qx)) qx))))
   (qK (Zo (pv 0) (zA jO (by rfl) tx.lst PyProof.Rows.boot_list (qj (pv 1) qx)) rfl)
   (jt (Zo (pv 0) (zA jO (by rfl) tx.lst PyProof.Rows.boot_list (qj (pv 2) qx)) rfl)))),?_}
  refine{_,rfl,qau (E:=E0) (G:=G) (args:=[aA b0 l]) sub {_,_,rfl,r1,rfl} (ck.rules b0 l ol) λv G1 H1 hs1 gs1 sub1 fr1 rr=>?_};simp![ReR,Rep]at rr;subst rr;refine{_,rfl,?_};have ga1:H1 a=some (.lst xs):=hs1 _ _ hxa;refine{_,rfl,_,rfl,a,xs,rfl,.inl (SqL.of ga1),?_};refine qau (E:=E0) (G:=G1) (args:=[aA c0 ps,.val (.int l.length)]) sub1 ⟨_,_,rfl,qmA r2 gs1 hs1,_,_,rfl,by simp![ArR,Rep];rw[rl.len],rfl⟩ (ck.papers c0 ps l.length op) λv G2 H2 hs2 gs2 sub2 fr2 rr=>?_;have hp2:H2 p=some (.ins C dx []):=hs2 _ _ (hs1 _ _ hp);have gp1:G1 p=none:=jr fr1 gp hp;have gp2:G2 p=none:=jr fr2 gp1 (hs1 _ _ hp);have ga2:H2 a=some (.lst xs):=hs2 _ _ ga1;have hb2:H2 b=some (.lst ys):=hs2 _ _ (hs1 _ _ hb);refine{_,rfl,a,xs,rfl,.inl (SqL.of ga2),λt ht=>?_};have ntp:t≠p:=λz=>by rw[z,hp2]at ht;cases ht
  have gt:G2 t=none:=qq.none sub2 ht;refine{_,rfl,p,C,dx,_,rfl,by rw[qe ntp.symm];exact hp2,tx.cls c C hC,tx.nA c _ C (qeS hrk).1 hC,by decide,?_};have nbt:b≠t:=λz=>by rw[z,ht]at hb2;cases hb2
  have nbp:b≠p:=λz=>by rw[z,hp2]at hb2;cases hb2
  refine{_,rfl,b,ys,rfl,.inl (SqL.of (by rw[qe nbp,qe nbt];exact hb2)),λu hu=>?_};have nup:u≠p:=λz=>by rw[z,qf]at hu;cases hu
  have nut:u≠t:=λz=>by rw[z,qe ntp,qf]at hu;cases hu
  have hu2:H2 u=none:=by rw[qe nup,qe nut]at hu;exact hu
  have gu:G2 u=none:=qq.none sub2 hu2;refine{_,rfl,p,C,dx,_,rfl,by rw[qe nup.symm,qf],tx.cls c C hC,tx.nA c _ C (qeS hrk).2 hC,(by show 1 < 1000;decide),?_};have gut:upd G2 t (.lst xs) u=none:=by rw[qe nut];exact gu
  refine k1 (upd (upd G2 t (.lst xs)) u (.lst ys)) _ [.ref t,.ref u] ?_ ?_ ?_ ?_ ?_ ?_ rfl ?_
  ·exactλb o e=>qq.upd gut b o (qq.upd gt b o (gs2 b o (gs1 b o e)))
  ·intro q o e
   by_cases z:q=u
   ·subst z;rw[qf]at e;cases e;rw[qe nup,qf]
   ·rw[qe z]at e
    by_cases z2:q=t
    ·subst z2;rw[qf]at e;cases e;rw[qe ntp,qe z,qe ntp,qf]
    ·rw[qe z2]at e;have nq:q≠p:=λw=>by rw[w,gp2]at e;cases e
     rw[qe nq,qe z,qe nq,qe z2];exact sub2 q o e
  ·rw[qe nup.symm,qe ntp.symm];exact gp2
  ·intro q o nq e;have e2:=hs2 q o (hs1 q o e);have n1:q≠t:=λw=>by rw[w,ht]at e2;cases e2
   have n2:q≠u:=λw=>by rw[w,hu2]at e2;cases e2
   rw[qe nq,qe n2,qe nq,qe n1];exact e2
  ·intro q o e
   by_cases z:q=u
   ·subst z;exact .inr (qq.none hs1 (qq.none hs2 hu2))
   ·rw[qe z]at e
    by_cases z2:q=t
    ·subst z2;exact .inr (qq.none hs1 (qq.none hs2 ht))
    ·rw[qe z2]at e;exact(y8.trans fr1 hs1 fr2) q o e
  ·rw[qf];rfl
  ·simp![List.map_cons,List.map_nil,qp,Rep];exact{_,_,rfl,{t,xs,rfl,by rw[qe nut.symm];exact qf,((rl.same gs1 |>.same gs2).same (qq.upd gt)).same (qq.upd gut)},_,_,rfl,{u,ys,rfl,qf,((rp.same gs1 |>.same gs2).same (qq.upd gt)).same (qq.upd gut)},rfl}
end
end K41
namespace DG
open PySem PySem.Spec PyProof.Rows L2 DE
def qjx(b:Bool)(l:List D):aA b l=aL b l:=by cases b<;>rfl
def qba{pg:Pg}[CH pg][RU pg][BO pg](j:Nat):Ck pg (j+5) where
 lands:=λb l h=>by rw[qjx];exact qaR (j+1) b l h
 rules:=λb l h=>by rw[qjx];exact qaS (j+4) b l h
 papers:=λb ps n h=>by rw[qjx];exact YS j b ps n h
 btw:=λn a b h=>qma (j+3) n a b h
def kap(cW cS cI cB:Addr):KC:=λc=>if c = "Within" then some cW else if c = "Since" then some cS else if c = "InRow" then some cI else if c = "Book" then some cB else none
def qmD{cW cS cI cB C:Addr}{c:Str}(h:kap cW cS cI cB c=some C):(c = "Within"/\C=cW)\/(c = "Since"/\C=cS)\/(c = "InRow"/\C=cI)\/(c = "Book"/\C=cB):=by
 unfold kap at h
 split at h
 ·cases h;exact .inl ⟨‹_›,rfl⟩
 split at h
 ·cases h;exact .inr (.inl ⟨‹_›,rfl⟩)
 split at h
 ·cases h;exact .inr (.inr (.inl ⟨‹_›,rfl⟩))
 split at h
 ·cases h;exact .inr (.inr (.inr ⟨‹_›,rfl⟩))
 cases h
def qcP{c:Str}(h:rk c=true):c = "Within"\/c = "Since"\/c = "InRow":=by
 unfold rk at h
 simpa [or_assoc] using h
def qmE{c x:Str}(h:(pcs {}).fld c x=true):(rk c=true/\(x = "lands"\/x = "most"))\/(c = "Within"/\x = "span")\/((c = "Since"\/c = "InRow")/\x = "leave")\/(c = "Book"/\(x = "kept_rules"\/x = "kept_papers")):=by
 have h:((rk c&&(x == "lands" || x == "most" || (x == "span" && c == "Within")||(x == "leave" && c != "Within")))||(c == "Book" && (x == "kept_rules" || x == "kept_papers")))=true:=h;simp![Bool.or_eq_true,Bool.and_eq_true,beq_iff_eq,bne_iff_ne]at h;rcases h with ⟨h1,((h2|h2)|h2)|h2⟩|h2
 ·exact .inl ⟨h1,.inl h2⟩
 ·exact .inl ⟨h1,.inr h2⟩
 ·exact .inr (.inl ⟨h2.2,h2.1⟩)
 ·refine .inr (.inr (.inl ⟨?_,h2.1⟩));rcases qcP h1 with q|q
  ·exact absurd q h2.2
  ·exact q
 ·exact .inr (.inr (.inr h2))
def qof{c x f:Str}(h:(pcs {}).mt c x=some f):(rk c=true/\x = "weight"/\f = "Rule.weight")\/(c = "Book"/\x = "rules"/\f = "Book.rules")\/(c = "Book"/\x = "lifted"/\f = "Book.lifted")\/(c = "Book"/\x = "papers"/\f = "Book.papers"):=by
 have h:(if (rk c&&x == "weight")=true then some ("Rule.weight" : Str) else if (c == "Book" && x == "rules")=true then some ("Book.rules" : Str) else if (c == "Book" && x == "lifted")=true then some ("Book.lifted" : Str) else if (c == "Book" && x == "papers")=true then some ("Book.papers" : Str) else none)=some f:=h
 split at h
 ·rename_i q;simp![Bool.and_eq_true,beq_iff_eq]at q;cases h;exact .inl ⟨q.1,q.2,rfl⟩
 split at h
 ·rename_i q;simp![Bool.and_eq_true,beq_iff_eq]at q;cases h;exact .inr (.inl ⟨q.1,q.2,rfl⟩)
 split at h
 ·rename_i q;simp![Bool.and_eq_true,beq_iff_eq]at q;cases h;exact .inr (.inr (.inl ⟨q.1,q.2,rfl⟩))
 split at h
 ·rename_i q;simp![Bool.and_eq_true,beq_iff_eq]at q;cases h;exact .inr (.inr (.inr ⟨q.1,q.2,rfl⟩))
 cases h
def qmF{c t:Str}{b:Bool}(h:(pcs {}).sub c t=some b):rk c=true/\((t = "Within"/\b=(c == "Within"))\/(t = "Since"/\b=(c != "Within"))):=by
 have h:(if (rk c&&t == "Within")=true then some (c == "Within") else if (rk c&&t == "Since")=true then some (c != "Within") else none)=some b:=h
 split at h
 ·rename_i q;simp![Bool.and_eq_true,beq_iff_eq]at q;cases h;exact{q.1,.inl ⟨q.2,rfl⟩}
 split at h
 ·rename_i q;simp![Bool.and_eq_true,beq_iff_eq]at q;cases h;exact{q.1,.inr ⟨q.2,rfl⟩}
 cases h
theorem Zg{c:Str}{o:Option (List (Str×D))}{r:Rv}(h:qbG c o=.ok r):∃fs,o=some fs/\r=.val (.ins c (fs.map (·.1)) (fs.map (·.2))):=by
 cases o with
 |none=>cases h
 |some fs=>cases h;exact⟨fs,rfl,rfl⟩
def qax(b:Bool)(l l':List D):aA b l≠.scr l':=by cases b<;>(intro z;cases z)
def qgz{k:Nat}{f:Str}{args:List Ar}{c:Addr}{l:List (Str×D)}:pnw k f args≠.exc c l:=by
 have o:∀{n:Str} {x:Option (List (Str×D))},qbG n x≠.exc c l:=λ{n x}=>by cases x<;>exact nofun
 unfold pnw
 repeat' first|exact o|(intro h;cases h)|split
def qpF{j:Nat}{args:List Ar}{r:Rv}(h:pnw (j+12) "Within" args=.ok r):(∀a∈args,∀l,a≠.scr l)/\∃fs,jQ "span" args=some fs/\r=.val (.ins "Within" (fs.map (·.1)) (fs.map (·.2))):=by
 have h:(if j+12 < 12 then R.no else qbG "Within" (jQ "span" args))=.ok r:=h;rw[if_neg (1:)]at h;obtain⟨fs,e,er⟩:=Zg h;obtain⟨b,l,m,s,rfl,_⟩:=y9 e;refine{λa ha=>?_,fs,e,er};simp![List.mem_cons,List.not_mem_nil,or_false]at ha;rcases ha with rfl|rfl|rfl
 ·exactλl'=>qax b l l'
 ·exactλl' z=>by cases z
 ·exactλl' z=>by cases z
def qpG{j:Nat}{args:List Ar}{r:Rv}(h:pnw (j+12) "Since" args=.ok r):(∀a∈args,∀l,a≠.scr l)/\∃fs,jQ "leave" args=some fs/\r=.val (.ins "Since" (fs.map (·.1)) (fs.map (·.2))):=by
 have h:(if j+12 < 12 then R.no else qbG "Since" (jQ "leave" args))=.ok r:=h;rw[if_neg (1:)]at h;obtain⟨fs,e,er⟩:=Zg h;obtain⟨b,l,m,s,rfl,_⟩:=y9 e;refine{λa ha=>?_,fs,e,er};simp![List.mem_cons,List.not_mem_nil,or_false]at ha;rcases ha with rfl|rfl|rfl
 ·exactλl'=>qax b l l'
 ·exactλl' z=>by cases z
 ·exactλl' z=>by cases z
def qpH{j:Nat}{args:List Ar}{r:Rv}(h:pnw (j+12) "InRow" args=.ok r):(∀a∈args,∀l,a≠.scr l)/\∃fs,qcC args=some fs/\r=.val (.ins "InRow" (fs.map (·.1)) (fs.map (·.2))):=by
 have h:(if j+12 < 12 then R.no else qbG "InRow" (qcC args))=.ok r:=h;rw[if_neg (1:)]at h;obtain⟨fs,e,er⟩:=Zg h;obtain⟨b,l,m,rfl,_⟩:=Ze e;refine{λa ha=>?_,fs,e,er};simp![List.mem_cons,List.not_mem_nil,or_false]at ha;rcases ha with rfl|rfl
 ·exactλl'=>qax b l l'
 ·exactλl' z=>by cases z
def qpI{j:Nat}{args:List Ar}{r:Rv}(h:pnw (j+12) "Book" args=.ok r):(∀a∈args,∀l,a≠.scr l)/\∃fs,Y5 args=some fs/\r=.val (.ins "Book" (fs.map (·.1)) (fs.map (·.2))):=by
 have h:(if j+12 < 12 then R.no else qbG "Book" (Y5 args))=.ok r:=h;rw[if_neg (1:)]at h;obtain⟨fs,e,er⟩:=Zg h;obtain⟨b,c,l,ps,rfl,_⟩:=YJ e;refine{λa ha=>?_,fs,e,er};simp![List.mem_cons,List.not_mem_nil,or_false]at ha;rcases ha with rfl|rfl
 ·exactλl'=>qax b l l'
 ·exactλl'=>qax c ps l'
structure Kl(K:Frag)(C:Addr):Prop where
 cls:Cls K C
 tc:PySem.W.findIn K (.ref C) "__class__" = some (some (.builtin "object.__class__"))
 mo:PySem.W.mroIn K C (.type "object")=some true
structure Kr(K:Frag)(fw C cW cS:Addr)(x:Str)(b:Bool):Prop where
 kl:Kl K C
 la:zd K C "lands"
 mo:zd K C "most"
 fx:zd K C x
 wt:Meth K C "weight" fw
 iw:PySem.W.kitOne K (.ref C) (.ref cW)=some b
 is:PySem.W.kitOne K (.ref C) (.ref cS)=some (!b)
structure Kb(K:Frag)(fr fl fp C:Addr):Prop where
 kl:Kl K C
 a1:zd K C "kept_rules"
 a2:zd K C "kept_papers"
 m1:Meth K C "rules" fr
 m2:Meth K C "lifted" fl
 m3:Meth K C "papers" fp
section
variable{K:Frag}{mg:PR}{cW cS cI cB fw fr fl fp:Addr}(W:Kr K fw cW cW cS "span" true)(S:Kr K fw cS cW cS "leave" false)(I:Kr K fw cI cW cS "leave" false)(B:Kb K fr fl fp cB)
include W S I B
theorem qhv(c:Str)(C:Addr)(h:kap cW cS cI cB c=some C):Cls K C:=by
 rcases qmD h with ⟨_,rfl⟩|⟨_,rfl⟩|⟨_,rfl⟩|⟨_,rfl⟩
 ·exact W.kl.cls
 ·exact S.kl.cls
 ·exact I.kl.cls
 ·exact B.kl.cls
theorem qeV(c x:Str)(C:Addr)(hf:(pcs {}).fld c x=true)(h:kap cW cS cI cB c=some C):zd K C x:=by
 rcases qmE hf with ⟨hr,rfl|rfl⟩|⟨rfl,rfl⟩|⟨rfl|rfl,rfl⟩|⟨rfl,rfl|rfl⟩
 ·rcases qcP hr with rfl|rfl|rfl
  ·cases h;exact W.la
  ·cases h;exact S.la
  ·cases h;exact I.la
 ·rcases qcP hr with rfl|rfl|rfl
  ·cases h;exact W.mo
  ·cases h;exact S.mo
  ·cases h;exact I.mo
 ·cases h;exact W.fx
 ·cases h;exact S.fx
 ·cases h;exact I.fx
 ·cases h;exact B.a1
 ·cases h;exact B.a2
theorem qcQ{C:Addr}(k:Kl K C)(n:PySem.W.specialIn K (.builtin "object.__class__") "__get__" = some (some (.builtin "getset_descriptor.__get__")))(tk:PySem.W.takesIn K (.builtin "object.__class__")=some true) :
  ∀(H:Hp) (p dx:Addr) (fs:List (Str×V)),H p=some (L2.HO.ins C dx fs)->TyOf K H (.ref p) (.ref C):=λH p dx fs hp=>.ins hp k.cls k.tc n tk k.mo
theorem qjy(n:PySem.W.specialIn K (.builtin "object.__class__") "__get__" = some (some (.builtin "getset_descriptor.__get__")))(tk:PySem.W.takesIn K (.builtin "object.__class__")=some true)(mW:mg "Within" = some (.ref cW))(mS:mg "Since" = some (.ref cS))
  (c t:Str) (b:Bool) (h:(pcs {}).sub c t=some b):∃C T,kap cW cS cI cB c=some C/\(∀H p dx fs,H p=some (L2.HO.ins C dx fs)->TyOf K H (.ref p) (.ref C))/\mg t=some (.ref T)/\PySem.W.kitOne K (.ref C) (.ref T)=some b:=by
 obtain⟨hr,⟨rfl,rfl⟩|⟨rfl,rfl⟩⟩:=qmF h
 ·rcases qcP hr with rfl|rfl|rfl
  ·exact{cW,cW,rfl,qcQ W S I B W.kl n tk,mW,W.iw}
  ·exact{cS,cW,rfl,qcQ W S I B S.kl n tk,mW,S.iw}
  ·exact{cI,cW,rfl,qcQ W S I B I.kl n tk,mW,I.iw}
 ·rcases qcP hr with rfl|rfl|rfl
  ·exact{cW,cS,rfl,qcQ W S I B W.kl n tk,mS,W.is}
  ·exact{cS,cS,rfl,qcQ W S I B S.kl n tk,mS,S.is}
  ·exact{cI,cS,rfl,qcQ W S I B I.kl n tk,mS,I.is}
end
def Qp(K:Frag)(f:Addr)(n q:Str)(st:Stmt):Prop:=∃oc od kV dc pm an cd ct sl,K.lookup f=some ⟨oc,od,.func (PySem.W.fnOf n q (qW st) (qw st) (qh st) .none kV dc pm an cd ct),sl⟩/\PySem.W.codeIn K cd q=true/\PySem.W.keepIn K (.ref f)=true
noncomputable abbrev FG(K:Frag)(f:Addr)(n:Str)(st:Stmt):Prop:=PySem.W.nsIn K mainGlobals n=some (some (.ref f))/\Qp K f n n st
section
variable{K:Frag}{f:Addr}{n q:Str}{st:Stmt}{mg:PR}{h:Heap}
def Qp.fn(i:Qp K f n q st):∃fd,Fun K n q st f fd:=by obtain⟨oc,od,kV,dc,pm,an,cd,ct,sl,l,c,k⟩:=i;exact{_,qgE l c k}
def Bd(n q:Str)(st:Stmt)(ps:List Str):Prop:=∀(kV doc pm:Value) (an:Option Addr) (cdv ct:Value) (us:List Value),us.length=ps.length->bindArgs (PySem.W.fnOf n q (qW st) (qw st) (qh st) .none kV doc pm an cdv ct) ⟨us,[]⟩=pure (ps.zip us)
def qmG(X:K.In h)(G:h.Ns mainGlobals mg)(a:PySem.W.nsIn K mainGlobals n=some (some (.ref f)))(i:Qp K f n n st){ps:List Str}(hp:YK st=ps)(hb:Bd n n st ps):FnF K mg n st:=by obtain⟨fd,F⟩:=i.fn;exact{f,fd,F,PySem.W.mg_of X G a,hp▸F.binds hb}
def ya(i:Qp K f n q st){ps:List Str}(hb:Bd n q st ps):∃fd,Fun K n q st f fd/\qR K fd ps []:=by obtain⟨fd,F⟩:=i.fn;exact{fd,F,F.binds hb}
def qmH(i:Qp K f n n st)(hb:Bd n n st ["_law_script"]):∃fd,Fun K n n st f fd/\∀(s:Shared) (v:Value),BindsTo s fd ⟨[v],[]⟩ [("_law_script",v)]:=by obtain⟨oc,od,kV,dc,pm,an,cd,ct,sl,l,c,k⟩:=i;exact{_,qgE l c k,λs v=>.of_eq (hb _ _ _ _ _ _ [v] rfl)}
end
section
variable{n q:Str}{st:Stmt}{a b c d e:Str}
def bd1(h:∀(kV doc pm:Value) (an:Option Addr) (cdv ct x:Value),bindArgs (PySem.W.fnOf n q (qW st) (qw st) (qh st) .none kV doc pm an cdv ct) ⟨[x],[]⟩=pure [(a,x)]):Bd n q st [a]:=λ_ _ _ _ _ _ us hl=>match us,hl with |[_],_=>h ..
def bd2(h:∀(kV doc pm:Value) (an:Option Addr) (cdv ct x y:Value),bindArgs (PySem.W.fnOf n q (qW st) (qw st) (qh st) .none kV doc pm an cdv ct) ⟨[x,y],[]⟩=pure [(a,x),(b,y)]):Bd n q st [a,b]:=λ_ _ _ _ _ _ us hl=>match us,hl with |[_,_],_=>h ..
def bd3(h:∀(kV doc pm:Value) (an:Option Addr) (cdv ct x y z:Value),bindArgs (PySem.W.fnOf n q (qW st) (qw st) (qh st) .none kV doc pm an cdv ct) ⟨[x,y,z],[]⟩=pure [(a,x),(b,y),(c,z)]):Bd n q st [a,b,c]:=λ_ _ _ _ _ _ us hl=>match us,hl with |[_,_,_],_=>h ..
def bd4(h:∀(kV doc pm:Value) (an:Option Addr) (cdv ct x y z u:Value),bindArgs (PySem.W.fnOf n q (qW st) (qw st) (qh st) .none kV doc pm an cdv ct) ⟨[x,y,z,u],[]⟩=pure [(a,x),(b,y),(c,z),(d,u)]):Bd n q st [a,b,c,d]:=λ_ _ _ _ _ _ us hl=>match us,hl with |[_,_,_,_],_=>h ..
def bd5(h:∀(kV doc pm:Value) (an:Option Addr) (cdv ct x y z u v:Value),bindArgs (PySem.W.fnOf n q (qW st) (qw st) (qh st) .none kV doc pm an cdv ct) ⟨[x,y,z,u,v],[]⟩=pure [(a,x),(b,y),(c,z),(d,u),(e,v)]):Bd n q st [a,b,c,d,e]:=λ_ _ _ _ _ _ us hl=>match us,hl with |[_,_,_,_,_],_=>h ..
end
inductive BDs:List (Str×Stmt)->Prop
 | nil:BDs []
 | cons {n st l ps}:YK st=ps->Bd n n st ps->BDs l->BDs ((n,st)::l)
inductive FGs(K:Frag):List (Str×Stmt)->Prop
 | nil:FGs K []
 | cons {f n st l}:FG K f n st->FGs K l->FGs K ((n,st)::l)
inductive ZNs(K:Frag):List Str->Prop
 | nil:ZNs K []
 | cons {n l}:PySem.W.nsIn K mainGlobals n=some none->ZNs K l->ZNs K (n::l)
section
variable{K:Frag}{mg:PR}{h:Heap}
theorem FGs.all(X:K.In h)(G:h.Ns mainGlobals mg){l:List (Str×Stmt)}(a:FGs K l)(p:BDs l):AllF K mg l:=by
 induction a with
 |nil=>exact .nil
 |cons i _ ih=>
  cases p with
  |cons e b p=>exact .cons (qmG X G i.1 i.2 e b) (ih p)
theorem ZNs.all(X:K.In h)(G:h.Ns mainGlobals mg){l:List Str}(a:ZNs K l):∀f∈l,mg f=none:=by
 induction a with
 |nil=>exact nofun
 |cons i _ ih=>
  intro f hf;rcases List.mem_cons.mp hf with rfl|hf
  ·exact PySem.W.mg_none_of X G i
  ·exact ih f hf
end
end DG
namespace DE
open PySem PySem.W L2 DG
inductive Kt(K:Frag)(a:Addr):List Bool->List (Str×Addr)->Prop
 | nil:Kt K a [] []
 | cons {t:Str} {c:Addr} {b:Bool} {bs:List Bool} {r:List (Str×Addr)} (h:kitOne K (.ref a) (.ref c)=some b) (h':exmOne K (.ref a) (.ref c)=some b) (q:Kt K a bs r):Kt K a (b::bs) ((t,c)::r)
theorem Kt.at{K:Frag}{a c:Addr}{n t:Str}:∀{bs:List Bool} {r:List (Str×Addr)},Kt K a bs r->bs=r.map (λt=>isX n t.1)->r.lookup t=some c->kitOne K (.ref a) (.ref c)=some (isX n t)/\exmOne K (.ref a) (.ref c)=some (isX n t)
 |_,_,.nil,_,h=>by cases h
 | _,_,.cons (t:=t') (r:=r) h h' q,e,hl=>by
  rw[List.map_cons,List.cons.injEq]at e;rw[List.lookup_cons]at hl
  cases q':(t == t') with
  |true=>
   rw[q']at hl;cases hl
   have:t=t':=(-q':)
   subst this;rw[<-e.1];exact⟨h,h'⟩
  |false=>rw[q']at hl;exact q.at e.2 hl
structure XE(K:Frag)(mg:PR)(er:List (Str×Addr))(e:Str×Addr×List Str):Prop where
 m:mg e.1=some (.ref e.2.1)
 kv:kitOne K (.ref e.2.1) (.type "ValueError")=some true
 is_:ExcIs K e.2.1
 kt:∃bs,Kt K e.2.1 bs er/\bs=er.map λt=>isX e.1 t.1
 g:∀x∈e.2.2,XcG K e.2.1 x
 n0:e.2.2=[]->excIn K e.2.1 bV "ValueError.__new__" = true
 n1:e.2.2≠[]->∀P wd base j,∃fI fd,XcC K e.2.1 fI/\FnOk P wd K mg base CX0 (j+1) fI fd ("self" :: e.2.2) (qld e.2.1 e.2.2)/\qR K fd ("self" :: e.2.2) []
section
variable{K:Frag}{mg:PR}{l:List (Str×Addr×List Str)}{er:List (Str×Addr)}
theorem qmI{n:Str}{ns:List Str}:∀{l:List (Str×Addr×List Str)},(l.lookup n).map (·.2)=some ns->∃e∈l,e.1=n/\e.2.2=ns/\((l.lookup n).map (·.1)).getD 0=e.2.1
 |[],h=>by cases h
 | e::l,h=>by
  obtain⟨m,a,f⟩:=e;rw[List.lookup_cons]at h ⊢
  cases q:(n == m) with
  |true=>rw[q]at h;cases h;exact{_,List.mem_cons_self ..,(by simpa using q:n=m).symm,rfl,rfl}
  |false=>rw[q]at h;obtain⟨e,h1,h2,h3,h4⟩:=qmI h;exact{e,List.mem_cons_of_mem _ h1,h2,h3,h4}
theorem qmJ{C:Addr}{t:Str}{b:Bool}(h:(qe0 l er).xs C t=some b):∃e∈l,e.2.1=C/\((t = "ValueError"/\b=true)\/∃c,er.lookup t=some c/\b=isX e.1 t):=by
 have h:((l.find? λe=>e.2.1 == C).bind λe=>if t == "ValueError" then some true else (er.lookup t).map λ_=>isX e.1 t)=some b:=h
 cases q:l.find? λe=>e.2.1 == C with
 |none=>rw[q]at h;cases h
 |some e=>
  rw[q]at h;refine{e,List.mem_of_find?_eq_some q,by simpa using List.find?_some q,?_};have h:(if t == "ValueError" then some true else (er.lookup t).map λ_=>isX e.1 t)=some b:=h
  split at h
  ·rename_i hv;cases h;exact .inl ⟨by simpa using hv,rfl⟩
  ·obtain⟨c,h1,h2⟩:=Option.map_eq_some_iff.mp h;exact .inr ⟨c,h1,h2.symm⟩
variable(A:∀e∈l,XE K mg er e)(er_:∀t c,er.lookup t=some c->mg t=some (.ref c))(mV:mg "ValueError" = none)
include A er_ mV in
theorem qjz(C:Addr)(t:Str)(b:Bool)(h:(qe0 l er).xs C t=some b):ExcIs K C/\((∃T,mg t=some (.ref T)/\kitOne K (.ref C) (.ref T)=some b)\/(mg t=none/\t = "ValueError"/\kitOne K (.ref C) (.type "ValueError")=some b)):=by
 obtain⟨e,he,rfl,⟨rfl,rfl⟩|⟨c,hc,rfl⟩⟩:=qmJ h
 ·exact{(A e he).is_,.inr {mV,rfl,(A e he).kv}}
 ·obtain⟨bs,k1,k2⟩:=(A e he).kt;exact{(A e he).is_,.inl {c,er_ t c hc,(k1.at k2 hc).1}}
include A er_ in
theorem qog(C:Addr)(t:Str)(b:Bool)(hn:t≠("ValueError" : Str))(h:(qe0 l er).xs C t=some b):∃D,mg t=some (.ref D)/\exmOne K (.ref C) (.ref D)=some b:=by
 obtain⟨e,he,rfl,⟨rfl,rfl⟩|⟨c,hc,rfl⟩⟩:=qmJ h
 ·exact absurd rfl hn
 ·obtain⟨bs,k1,k2⟩:=(A e he).kt;exact{c,er_ t c hc,(k1.at k2 hc).2}
include A in
theorem qpJ(C:Addr)(x:Str)(h:(qe0 l er).xg C x=true):XcG K C x:=by
 obtain⟨e,he,h⟩:=List.any_eq_true.mp h;rw[Bool.and_eq_true]at h;have hc:e.2.1=C:=(-h.1:)
 subst hc;exact(A e he).g x (-h.2:)
include A in
theorem qoh(n:Str)(ns:List Str)(h:(qe0 l er).xn n=some ns)(hne:ns≠[])(P:Program)(wd:World)(base:Heap)(j:Nat):∃fI fd,mg n=some (.ref ((qe0 l er).xa n))/\XcC K ((qe0 l er).xa n) fI/\FnOk P wd K mg base CX0 (j+1) fI fd ("self" :: ns) (qld ((qe0 l er).xa n) ns)/\qR K fd ("self" :: ns) []:=by obtain⟨e,he,rfl,rfl,h4⟩:=qmI (l:=l) h;rw[show(qe0 l er).xa e.1=e.2.1 from h4];obtain⟨fI,fd,q1,q2,q3⟩:=(A e he).n1 hne P wd base j;exact{fI,fd,(A e he).m,q1,q2,q3}
end
inductive ENs(K:Frag):List (Str×Addr)->Prop
 | nil:ENs K []
 | cons {n:Str} {a:Addr} {l:List (Str×Addr)}:nsIn K mainGlobals n=some (some (.ref a))->ENs K l->ENs K ((n,a)::l)
theorem ENs.all{K:Frag}{mg:PR}{h:Heap}(X:K.In h)(G:h.Ns mainGlobals mg):∀{l:List (Str×Addr)},ENs K l->∀t c,l.lookup t=some c->mg t=some (.ref c)
 |_,.nil,t,c,q=>by cases q
 | _,.cons (n:=n) h e,t,c,q=>by
  rw[List.lookup_cons]at q
  cases z:(t == n) with
  |true=>rw[z]at q;cases q;rw[show t=n by simpa using z];exact mg_of X G h
  |false=>rw[z]at q;exact e.all X G t c q
end DE
namespace K41
open PySem PySem.W L2 DE DG
def qmK{l:OpenLaw}{w:World}{K:Frag}{h:Heap}{mg:PR}{fa cR cW cS cI cB f46 fiR fiW fiS fiI fiB fmw fmr fmp fml:Addr}{t0 t1 t2 t3 t4 t5 t6 t7 t8:Tok}(X:K.In h)(G:h.Ns mainGlobals mg)(hfa:mg "law" = some (.ref fa))
  (aL:FG K f46 "law" (top 79))
  (a:FGs K pg.defs)
  (z:ZNs K qdL)
  (v0:nsIn K mainGlobals "GREATEST" = some (some (.int 1000000000 t0)))
  (v1:nsIn K mainGlobals "LETTERS" = some (some (.str "abcdefghijklmnopqrstuvwxyz" t1)))
  (v2:nsIn K mainGlobals "LONGEST_NAME" = some (some (.int 8 t2)))
  (v3:nsIn K mainGlobals "MOST_LANDS" = some (some (.int 6 t3)))
  (v4:nsIn K mainGlobals "GREATEST_WEIGHT" = some (some (.int 9 t4)))
  (v5:nsIn K mainGlobals "MOST_STAYS" = some (some (.int 60 t5)))
  (v6:nsIn K mainGlobals "NEVER" = some (some (.int 3000000000 t6)))
  (v7:nsIn K mainGlobals "MOST_RULES" = some (some (.int 8 t7)))
  (v8:nsIn K mainGlobals "MOST_PAPERS" = some (some (.int 12 t8)))
  (ncR:nsIn K mainGlobals "Rule" = some (some (.ref cR)))
  (ncW:nsIn K mainGlobals "Within" = some (some (.ref cW)))
  (ncS:nsIn K mainGlobals "Since" = some (some (.ref cS)))
  (ncI:nsIn K mainGlobals "InRow" = some (some (.ref cI)))
  (ncB:nsIn K mainGlobals "Book" = some (some (.ref cB)))
  (inR:findIn K (.ref cR) "__init__" = some (some (.ref fiR)))
  (inW:findIn K (.ref cW) "__init__" = some (some (.ref fiW)))
  (inS:findIn K (.ref cS) "__init__" = some (some (.ref fiS)))
  (inI:findIn K (.ref cI) "__init__" = some (some (.ref fiI)))
  (inB:findIn K (.ref cB) "__init__" = some (some (.ref fiB)))
  (tmr:findIn K (.ref cB) "rules" = some (some (.ref fmr)))
  (tml:findIn K (.ref cB) "lifted" = some (some (.ref fml)))
  (tmp:findIn K (.ref cB) "papers" = some (some (.ref fmp)))
  (tw:findIn K (.ref cW) "weight" = some (some (.ref fmw)))
  (rW:Kr K fmw cW cW cS "span" true)
  (rS:Kr K fmw cS cW cS "leave" false)
  (rI:Kr K fmw cI cW cS "leave" false)
  (rB:Kb K fmr fml fmp cB)
  (hiR:Qp K fiR "__init__" "Rule.__init__" (mem 29 0))
  (hiW:Qp K fiW "__init__" "Within.__init__" (mem 30 0))
  (niW:isFn K (.ref fiW)=true)
  (hiS:Qp K fiS "__init__" "Since.__init__" (mem 31 0))
  (niS:isFn K (.ref fiS)=true)
  (hiI:Qp K fiI "__init__" "InRow.__init__" (mem 32 0))
  (niI:isFn K (.ref fiI)=true)
  (hiB:Qp K fiB "__init__" "Book.__init__" (mem 65 0))
  (niB:isFn K (.ref fiB)=true)
  (hmw:Qp K fmw "weight" "Rule.weight" (mem 29 1))
  (hmr:Qp K fmr "rules" "Book.rules" (mem 65 1))
  (hmp:Qp K fmp "papers" "Book.papers" (mem 65 2))
  (hml:Qp K fml "lifted" "Book.lifted" (mem 65 3))
  (mkW:makesIn K cW=true)
  (kcW:keepIn K (.ref cW)=true)
  (mkS:makesIn K cS=true)
  (kcS:keepIn K (.ref cS)=true)
  (mkI:makesIn K cI=true)
  (kcI:keepIn K (.ref cI)=true)
  (mkB:makesIn K cB=true)
  (kcB:keepIn K (.ref cB)=true)
  (cfR:ClsFn K cR "__init__" fiR)
  (cfS:ClsFn K cS "__init__" fiS)
  (og:specialIn K (.builtin "object.__class__") "__get__" = some (some (.builtin "getset_descriptor.__get__")))
  (ot:takesIn K (.builtin "object.__class__")=some true)
  (ens:ENs K xR)
  (ncV:nsIn K mainGlobals "ValueError" = some none)
  (ci:ClsIni K 87)
  (xv0:kitOne K (.ref 138) (.type "ValueError")=some true)
  (xk0:Kt K 138 [true,false,false,true,false,false,false,false,false] xR)
  (hI0:Qp K 135 "__init__" "NoStay.__init__" (mem 18 0))
  (xc0:XcC K 138 135)
  (xs0_0:XcS K 138 "number")
  (xg0_0:XcG K 138 "number")
  (xv1:kitOne K (.ref 157) (.type "ValueError")=some true)
  (xk1:Kt K 157 [true,false,false,false,true,false,false,false,false] xR)
  (hI1:Qp K 154 "__init__" "NotLet.__init__" (mem 19 0))
  (xc1:XcC K 157 154)
  (xs1_0:XcS K 157 "day")
  (xg1_0:XcG K 157 "day")
  (xs1_1:XcS K 157 "number")
  (xg1_1:XcG K 157 "number")
  (xs1_2:XcS K 157 "first")
  (xg1_2:XcG K 157 "first")
  :
  ∃fd:FuncData,(∀(s:Shared) (v:Value),BindsTo s fd ⟨[v],[]⟩ [("_law_script",v)])/\∀base:Heap,K.In base->base.Ns mainGlobals mg->FnOk l.prog w K mg base CX0 20 fa fd ["_law_script"] (spL (kap cW cS cI cB) K pg 20):=by
 have e:=hfa.symm.trans (mg_of X G aL.1);cases e;obtain⟨dL,FL,bL⟩:=qmH aL.2 ((bd1 λ_ _ _ _ _ _ _ =>rfl));have z:=z.all X G;obtain⟨diR,FiR,biR⟩:=ya hiR (ps:=["self","lands","most"]) ((bd3 λ_ _ _ _ _ _ _ _ _ =>rfl));obtain⟨diW,FiW,biW⟩:=ya hiW (ps:=["self","lands","most","span"]) ((bd4 λ_ _ _ _ _ _ _ _ _ _ =>rfl));obtain⟨diS,FiS,biS⟩:=ya hiS (ps:=["self","lands","most","leave"]) ((bd4 λ_ _ _ _ _ _ _ _ _ _ =>rfl));obtain⟨diI,FiI,biI⟩:=ya hiI (ps:=["self","lands","most"]) ((bd3 λ_ _ _ _ _ _ _ _ _ =>rfl));obtain⟨diB,FiB,biB⟩:=ya hiB (ps:=["self","rules","papers"]) ((bd3 λ_ _ _ _ _ _ _ _ _ =>rfl));obtain⟨dmw,Fmw,bmw⟩:=ya hmw (ps:=["self","land"]) ((bd2 λ_ _ _ _ _ _ _ _ =>rfl));obtain⟨dmr,Fmr,bmr⟩:=ya hmr (ps:=["self"]) ((bd1 λ_ _ _ _ _ _ _ =>rfl));obtain⟨dmp,Fmp,bmp⟩:=ya hmp (ps:=["self"]) ((bd1 λ_ _ _ _ _ _ _ =>rfl));obtain⟨dml,Fml,bml⟩:=ya hml (ps:=["self","number"]) ((bd2 λ_ _ _ _ _ _ _ _ =>rfl));have mcR:=mg_of X G ncR;have mcW:=mg_of X G ncW;have mcS:=mg_of X G ncS;have mcI:=mg_of X G ncI;have mcB:=mg_of X G ncB;have tx:Tx (kap cW cS cI cB) K mg:={z "tuple" (3:),z "list" (3:),z "len" (3:),{_,mg_of X G v0},qhv rW rS rI rB,qeV rW rS rI rB};have mV:=mg_none_of X G ncV;have er_:=ens.all X G;obtain⟨dI0,FI0,bI0⟩:=ya hI0 (ps:=["self","number"]) (bd2 λ_ _ _ _ _ _ _ _ =>rfl);obtain⟨dI1,FI1,bI1⟩:=ya hI1 (ps:=["self","day","number","first"]) (bd4 λ_ _ _ _ _ _ _ _ _ _ =>rfl)
 have A:∀e∈xE,XE K mg xR e:=by
  intro e he;simp![xE,List.mem_cons,List.not_mem_nil,or_false]at he;rcases he with rfl|rfl
  ·refine{er_ _ _ (3:),xv0,xg0_0.is_,{_,xk0,(3:)},(λn hn=>by simp![List.mem_cons,List.not_mem_nil,or_false]at hn;rcases hn with rfl<;>first |exact xg0_0),λh=>(by cases h),λ_ P wd base j=>{_,dI0,xc0,qhb (D:="DayError") (4:) (λh=>by cases h) FI0 ci (er_ _ _ (3:)) xc0.ok ((λn hn=>by simp![List.mem_cons,List.not_mem_nil,or_false]at hn;rcases hn with rfl<;>first|exact xs0_0)) j,bI0}}
  ·refine{er_ _ _ (3:),xv1,xg1_0.is_,{_,xk1,(3:)},(λn hn=>by simp![List.mem_cons,List.not_mem_nil,or_false]at hn;rcases hn with rfl|rfl|rfl<;>first|exact xg1_0|exact xg1_1 |exact xg1_2),λh=>(by cases h),λ_ P wd base j=>{_,dI1,xc1,qhb (D:="DayError") (4:) (λh=>by cases h) FI1 ci (er_ _ _ (3:)) xc1.ok ((λn hn=>by simp![List.mem_cons,List.not_mem_nil,or_false]at hn;rcases hn with rfl|rfl|rfl<;>first|exact xs1_0|exact xs1_1|exact xs1_2)) j,bI1}}
 refine{dL,bL,λbase _ _=>qlo (k:=19) (st:=top 79) ?ok FL (4:) (4:)}
 case ok=>
 refine { fn:=a.all X G ?q,blt:=z,gl:=?g,cls:=qhv rW rS rI rB,flds:=qeV rW rS rI rB,mts:=?m,mks:=?k,subs:=qjy rW rS rI rB og ot mcW mcS,xsubs:=qjz A er_ mV,xgs:=qpJ A,xn1:=qoh A,xhs:=qog A er_}
 case q=>repeat first|exact .nil |refine .cons (4:) (bd2 λ_ _ _ _ _ _ _ _ =>rfl) ?_ |refine .cons (4:) (bd3 λ_ _ _ _ _ _ _ _ _ =>rfl) ?_ |refine .cons (4:) (bd1 λ_ _ _ _ _ _ _ =>rfl) ?_ |refine .cons (4:) (bd4 λ_ _ _ _ _ _ _ _ _ _ =>rfl) ?_ |refine .cons (4:) (bd5 λ_ _ _ _ _ _ _ _ _ _ _ =>rfl) ?_ |refine .cons (4:) (bd6 λ_ _ _ _ _ _ _ _ _ _ _ _ =>rfl) ?_
 case g=>
  intro x d hd;unfold pg at hd;dsimp only at hd
  repeat (split at hd;· rename_i hx;cases hd;rw[hx];first |exact{.int _,_,mg_of X G (by assumption),{_,rfl},λ_=>by simp![Rep]} |exact{.str _,_,mg_of X G (by assumption),{_,rfl},λ_=>by simp![Rep]})
  cases hd
 case m=>
  intro c x f hm;rcases qof hm with ⟨hr,rfl,rfl⟩|⟨rfl,rfl,rfl⟩|⟨rfl,rfl,rfl⟩|⟨rfl,rfl,rfl⟩
  ·rcases qcP hr with rfl|rfl|rfl
   ·exact{cW,fmw,_,mem 29 1,"weight",rfl,rW.wt,(4:),(4:),Fmw,bmw}
   ·exact{cS,fmw,_,mem 29 1,"weight",rfl,rS.wt,(4:),(4:),Fmw,bmw}
   ·exact{cI,fmw,_,mem 29 1,"weight",rfl,rI.wt,(4:),(4:),Fmw,bmw}
  ·exact{cB,fmr,_,mem 65 1,"rules",rfl,rB.m1,(4:),(4:),Fmr,bmr}
  ·exact{cB,fml,_,mem 65 3,"lifted",rfl,rB.m2,(4:),(4:),Fml,bml}
  ·exact{cB,fmp,_,mem 65 2,"papers",rfl,rB.m3,(4:),(4:),Fmp,bmp}
 case k=>
  intro P wd base k ih f hf
  by_cases hk:k < 12
  ·exact .inl λargs=>if_pos hk
  obtain⟨j,rfl⟩:∃j,k=j+12:={k - 12,by omega};right
  have hf:f = "Within"\/f = "Since"\/f = "InRow"\/f = "Book":=by
   have hf:((["Within","Since","InRow","Book"]:List Str).contains f)=true:=hf
   simpa using hf
  rcases hf with rfl|rfl|rfl|rfl
  ·exact{cW,fiW,_,_,_,⟨mkW,inW,niW,kcW⟩,FnOk.lift ((Zf (j:=j+9) tx FiR biR mcR cfR (ih (j+9) (by omega)) (ih (j+10) (by omega)) (qba (j+4)) (qba (j+5))).1 FiW),mcW,biW,by omega,Zd (c:="Within") rfl rfl (λa _ _=>qgz (k:=j+12) (f:="Within") (args:=a)) λargs r=>qpF (j:=j)}
  ·exact{cS,fiS,_,_,_,⟨mkS,inS,niS,kcS⟩,FnOk.lift ((Zf (j:=j+9) tx FiR biR mcR cfR (ih (j+9) (by omega)) (ih (j+10) (by omega)) (qba (j+4)) (qba (j+5))).2 FiS),mcS,biS,by omega,Zd (c:="Since") rfl rfl (λa _ _=>qgz (k:=j+12) (f:="Since") (args:=a)) λargs r=>qpG (j:=j)}
  ·exact{cI,fiI,_,_,_,⟨mkI,inI,niI,kcI⟩,FnOk.lift (qeU (j:=j+8) tx FiI FiS biS mcS cfS FiR biR mcR cfR (ih (j+8) (by omega)) (ih (j+9) (by omega)) (qba (j+3)) (qba (j+4))),mcI,biI,by omega,Zd (c:="InRow") rfl rfl (λa _ _=>qgz (k:=j+12) (f:="InRow") (args:=a)) λargs r=>qpH (j:=j)}
  ·exact{cB,fiB,_,_,_,⟨mkB,inB,niB,kcB⟩,FnOk.lift (qgy (j:=j+10) tx FiB (ih (j+10) (by omega)) (qba (j+5))),mcB,biB,by omega,Zd (c:="Book") rfl rfl (λa _ _=>qgz (k:=j+12) (f:="Book") (args:=a)) λargs r=>qpI (j:=j)}
def qpK{l:PySem.W.OpenLaw}{q:Program}{loose:List Str}{XP:(Str->Option Value)->Heap->Prop}{YP:World->Heap->Prop}{d:DefRec}{K:Params->Frag}{U:KC}(hn:l.most=some 63)(hdf:d.params.defaults=[])
  (hY:∀(w:World) (h:Heap),YP w h->(K w.params).In h)
  (F:∀(w:World) (mg:PR) (fa:Addr) (h:Heap),(K w.params).In h->h.Ns mainGlobals mg->mg d.name=some (.ref fa)->
   ∃fd:FuncData,(∀(s:Shared) (u:Value),BindsTo s fd ⟨[u],[]⟩ [("_law_script",u)])/\∀base:Heap,(K w.params).In base->base.Ns mainGlobals mg->FnOk l.prog w (K w.params) mg base CX0 20 fa fd ["_law_script"] (spL U (K w.params) pg 20)) :
  PySem.W.WalkO q loose XP YP l.row.toRowW d [] (λf vs=>PySem.call f vs):=
 L2.qhV (n:=63) (k:=20) (x:="_law_script") (CX:=λ_=>CX0) (sp:=λw=>spL U (K w.params) pg 20) hn (2:) hdf ⟨rfl,by decide,by decide⟩ hY F (λ_ _ a ns hl _ hS=>qlp hS (qgt ns hl)) λ_ _ _ _ _ z=>z
end K41
open PySem PySem.W PyProof.Rows
set_option maxHeartbeats 0 in
theorem PySem.Challenge.cw_daysgate_k41_limits_refused_holds : PySem.Challenge.rw_daysgate_k41_limits_refused.Holds := by
 w_on;refine holds_law saidX λsaid=>?_
 refine holds_open (q:=K41.Hq) (loose:=[]) (Xt:=K41.Hx) (XP:=XL K41.Hq []) (Yf:=λs=>K41.Has.map s.heap.get?) (Ya:=λw=>(K41.HK w.params).map λp=>some p.2) (YP:=InK K41.HK) (N:=10900) K41.qnn (InK.of K41.HKe) InK.keeps (λs e=>xl_of s (Bool.and_eq_true_iff.mp e).1) XL.keeps (by rfl) (by rfl) (by rfl) (λs e=>recFacts_of (Bool.and_eq_true_iff.mp e).2) (by rfl) (by first|assumption|decide+kernel) (3:) ⟨rfl,rfl,rfl,rfl,rfl,(3:)⟩ ?hw ?hc
 (case hw=>w_witness2)
 k_fill
 refine K41.qpK (l:=PySem.Challenge.rw_daysgate_k41_limits_refused) (U:=(DG.kap (273:) (299:) (325:) (525:))) rfl rfl (λw h Y=>Y) ?F
 case F=>
  intro w mg fa h KX G hmg
  refine' K41.qmK KX G hmg ?_ ?_ ?_ ?_ ?_ ?_ ?_ ?_ ?_ ?_ ?_ ?_ ?_ ?_ ?_ ?_ ?_ ?_ ?_ ?_ ?_ ?_ ?_ ?_ ?_ ?_ ?_ ?_ ?_ ?_ ?_ ?_ ?_ ?_ ?_ ?_ ?_ ?_ ?_ ?_ ?_ ?_ ?_ ?_ ?_ ?_ ?_ ?_ ?_ ?_ ?_ ?_ ?_ ?_ ?_ ?_ ?_ ?_ ?_ ?_ ?_ ?_ ?_ ?_ ?_ ?_ ?_ ?_ ?_ ?_ ?_ ?_ ?_ ?_
  all_goals try first|k_is|exact{by k_is,by unfold DG.Qp;exact{_,_,_,_,_,_,_,_,_,by k_is,by k_is,by k_is}}|(unfold DG.Qp;exact{_,_,_,_,_,_,_,_,_,by k_is,by k_is,by k_is})|(refine{{{?_,?_,?_,?_},?_,?_},?_,?_,?_,{?_,?_,?_},?_,?_}<;>first|k_is|kit_is|(unfold L2.zd;k_is))|(refine{{{?_,?_,?_,?_},?_,?_},?_,?_,{?_,?_,?_},{?_,?_,?_},?_,?_,?_}<;>first|k_is|(unfold L2.zd;k_is))|(refine{?_,?_,?_,?_}<;>k_is)|kit_is|(repeat first|exact .nil|refine .cons ⟨by k_is,by unfold DG.Qp;exact{_,_,_,_,_,_,_,_,_,by k_is,by k_is,by k_is}⟩ ?_|refine .cons (by k_is) ?_)
  all_goals try first|kernel_rfl|(refine{?_,?_,?_}<;>first|k_is|kernel_rfl)|(refine{{?_,?_,?_,?_,?_,?_,?_,?_},?_,?_}<;>first|k_is|kernel_rfl)|(refine{?_,?_,?_,?_,?_,?_,?_,?_}<;>first|k_is|kernel_rfl)|(repeat first|exact .nil|refine .cons (by k_is) ?_|refine .cons (by kit_is) (by kit_is) ?_|refine .cons (4:) (4:) ?_)
