import PyProof.Rows.All
import Wide.All
import OpenK.AllK
import PySem.Challenge.RW_daysgate_k14_a_book
set_option Elab.async false
set_option linter.all false
set_option maxRecDepth 100000
set_option compiler.extract_closed false
set_option bootstrap.genMatcherCode false
set_option genSizeOf false
set_option genInjectivity false
set_option backward.eqns.nonrecursive false
noncomputable section
abbrev PP:=List (PySem.Addr×PySem.Obj)
abbrev PQ:=PySem.Value->PySem.Shared->Prop
abbrev PR:=PySem.Str->Option PySem.Value
open PySem.W (Frag)
set_option hygiene false
local macro_rules
| `(%[$n:num|0])=>`(.cons (.var $n) .nil)
| `(%[$a|0])=>`(.cons $a .nil)
| `(%[$n:num,$b,*|0])=>`(.cons (.var $n) %[$b,*|0])
| `(%[$a,$b,*|0])=>`(.cons $a %[$b,*|0])
| `(%[$n:num|1])=>`(qz (pg:=pg) (st:=top $n) (4:) λk cl=>(4:))
def saidX:PySem.Challenge.rw_daysgate_k14_a_book.wellSaid=true:=by kernel_rfl
local macro_rules|`(($n:num :))=>`(nat_lit $n)
local macro_rules|`((1:))=>`(by lia)|`((5:))=>`(by simp)|`((-$e :))=>`(by simpa using $e)|`((3:))=>`(by decide+kernel)|`((4:))=>`(by kernel_rfl)|`((2:))=>`(by decide)
local macro_rules|`(tactic| simp?![$ls,*])=>do
  let f (s:String) (k:Lean.Name):=(s.splitOn " ").toArray.map λn=>Lean.mkIdent (k++n.toName)
  let b<-(f "Rv.list? Rv.plain? Rv.data Rv.int? Rv.str? Rv.bl? Rv.tup? int2 seqD Rv.non? idxD sliceD truthD rprD lenD listD intD strD tupD maxD minD B1.go B2.go Ty.of Ty.go tyG toAr toSl flR slN runD th_ok of_some slR_s slR_v slR_o slR_b slR_c slX_s slX_o ownI_s ownI_o kk_f kk_x2 at_0 at_1 ixN_app set_app emp_app xR_var xR_con xR_bin xR_neg xR_not xR_one xR_and xR_cmp xR_idx xR_sli xR_lst xR_tup xR_calF xR_call xR_b1 xR_b2 xR_isc xR_fld xR_met xR_fst xR_new xR_isi xR_comp n_ok n_R n_Es ix_ok ix_tt ix_As n_As yRet yBl yTmp yB1 yB2 yNeg yNot yAnd yC1 yC2 yI1 yI2 yS1 yS2 yS3 yLst yTup yCalF yCall yF1 yG1 yG2 yIsc yDat yFld yMt3 yMt2 yMt1 yMtO yMtN yMtI yStr yFst bm_s yMts yNew yIsi yComp xT_not xT_one xT_and xT_or xT_cmp xT_val yBo yTn yTa yTo yD1 yD2 yTv xF_yes xF_test xEs_nil xEs_cons yE1 yE2 xAs_nil xAs_cons yA1 yA2 xO_none xO_some yO xI_nam xI_seq xI_rng yNam slC_s slC_o xI_enum ySeq yRng yEnum yVal yValt yValL yValLt yValLm yX yXt yAx yAxt yCons xE_s xE_v xE_o xL_s xL_z xL_o xS_expr oGo_some xS_app yApp yApp2 xS_clr xS_ret yRt xS_set ySet xS_setT yST yNx xS_setI ySI ySI2 ySI3 ySI4 xS_ite yIte xS_for yFor xS_rai yRai xS_try yTry_exc th_exc xSs_nil xSs_cons yNext yNextr xFo_cons yFo1 yFo2 yFo2r xP_cons yP1 yP2 yP3 vc_bin vc_neg vc_and vc_idx vc_sli vc_lst vc_fst vc_tup vc_call vc_b1 vc_b2 vc_fld vc_met vc_new vc_comp eE_g eL_g eX_g eA_g eE_var eE_con eL_var eX_var eX_con eA_con bAdd bAdds bAddtt bAddct bAddvt bSub bMult bDiv bMod bPow cEq cNe cLt cLe cGt cIn cNi mIn rgoV rgoT setIs_nil setIs_cons g_mapc g_mapn g_lenc g_lenn g_rep0 g_reps g_appc g_appn g_set0 g_sets g_last g_nott g_notf g_omap g_fe g_and g_dt g_df lend_v" `DE++f "Int.reduceLT Int.reduceLE Nat.reduceAdd Nat.reduceSub" .anonymous).mapM λn=>`(Lean.Parser.Tactic.simpLemma| $n:ident)
  let d<-(f "n_var sA_p sA_R sA_L rA_l rA_s rA_t rA_y" `DE++f "reduceIte" .anonymous).mapM λn=>`(Lean.Parser.Tactic.simpLemma| ↓ $n:ident)
  let c:Array (Lean.TSyntax [`Lean.Parser.Tactic.simpStar, `Lean.Parser.Tactic.simpErase, `Lean.Parser.Tactic.simpLemma]):=(b++d).map (⟨·.raw⟩)++ls.getElems
  `(tactic| simp only[$c,*])
local macro_rules|`({$xs:term,*})=>`(⟨$xs,*⟩)
local macro_rules|`(tactic|simp?[$ls,*])=>`(tactic|(refine(qv _).symm.trans ?_;simp?![$ls,*]))
local macro_rules|`(tactic|simp![$ls,*]$[$l:location]?)=>`(tactic|simp only[$ls,*]$[$l]?)
open Lean Parser.Tactic in
local macro_rules|`(tactic|let$d:letDecl)=>do
 let s:=d.raw[0]
 unless s[0].isOfKind ``Parser.Term.tuple do Macro.throwUnsupported
 let N k (a:Array Syntax):Syntax:=.node .none k a
 let M x:=N ``rcasesPatMed #[mkNullNode #[x]]
 let q:=s[0].rewriteBottomUp λs=>if s.isIdent then N ``rcasesPat.one #[s] else if s.isOfKind ``Parser.Term.hole then N ``rcasesPat.ignore #[mkAtom "_"] else if s.isOfKind ``Parser.Term.tuple then N ``rcasesPat.tuple #[mkAtom "⟨",mkSepArray ((#[s[1][0]]++s[1][2].getSepArgs).map λx=>N ``rcasesPatLo #[M x,mkNullNode]) (mkAtom ",")|>mkNullNode,mkAtom "⟩"] else s
 return N ``obtain #[mkAtom "obtain",mkNullNode #[M q],mkNullNode s[2][0].getArgs,mkNullNode #[mkAtom ":=",mkNullNode #[s[4]]]]
local macro_rules|`(command|$d:definition)=>`(command|noncomputable $d:definition)
namespace L2
open PySem PySem.Spec PyProof.Rows
abbrev Key:=Sum Int Str
def qhr:Key->Value->Bool
 |.inl k,v=>Value.isInt k v
 |.inr x,v=>Value.isStrOf x v
def qmo(w:World):Key->Int
 |.inl k=>hashInt k
 |.inr x=>hashStr w x
theorem qC:∀{k:Key} {v:Value},qhr k v=true->(∃i t,k=Sum.inl i/\v=Value.int i t)\/(∃x t,k=Sum.inr x/\v=Value.str x t)
 |.inl i,v,h=>by let(t,e):=Value.isInt_shape (k:=i) (v:=v) h;exact .inl ⟨i,t,rfl,e⟩
 |.inr x,v,h=>by let(t,e):=Value.isStrOf_shape (x:=x) (v:=v) h;exact .inr ⟨x,t,rfl,e⟩
def qhs(a b:Int):decide ((Sum.inl a:Key)=Sum.inl b)=(a == b):=by
 by_cases e:a=b
 ·subst e;simp
 ·have h:¬ (Sum.inl a:Key)=Sum.inl b:=λq=>e (Sum.inl.inj q);rw[decide_eq_false h];exact(beq_eq_false_iff_ne.mpr e).symm
def qht(a b:Str):decide ((Sum.inr a:Key)=Sum.inr b)=decide (a=b):=by
 by_cases e:a=b
 ·subst e;simp
 ·have h:¬ (Sum.inr a:Key)=Sum.inr b:=λq=>e (Sum.inr.inj q);rw[decide_eq_false h,decide_eq_false e]
def qhu(a:Int)(b:Str):decide ((Sum.inl a:Key)=Sum.inr b)=false:=decide_eq_false (λq=>nomatch q)
def qhv(a:Str)(b:Int):decide ((Sum.inr a:Key)=Sum.inl b)=false:=decide_eq_false (λq=>nomatch q)
def QT(prog:Program)(w:World):PySem.KeyKind prog w Key where
 is:=qhr
 hash:=qmo w
 inj:=λv a b ha hb=>by
  rcases qC ha with ⟨i,t,rfl,rfl⟩|⟨x,t,rfl,rfl⟩
  ·rcases qC hb with ⟨j,u,rfl,e⟩|⟨y,u,rfl,e⟩
   ·injection e with e1 _;rw[e1]
   ·exact nomatch e
  ·rcases qC hb with ⟨j,u,rfl,e⟩|⟨y,u,rfl,e⟩
   ·exact nomatch e
   ·injection e with e1 _;rw[e1]
 byValue:=λk v h=>by rcases qC h with ⟨i,t,rfl,rfl⟩|⟨x,t,rfl,rfl⟩<;>rfl
 pyHash:=λhv h=>by
  rcases qC hv with ⟨i,t,rfl,rfl⟩|⟨x,t,rfl,rfl⟩
  ·exact wpAny_pyHash_int h
  ·exact wpAny_pyHash_str h
 eqBool:=λhu hv h=>by
  rcases qC hu with ⟨i,t,rfl,rfl⟩|⟨x,t,rfl,rfl⟩
  ·rcases qC hv with ⟨j,u,rfl,rfl⟩|⟨y,u,rfl,rfl⟩
   ·rw[qhs]at h;exact wpAny_eqBool_int h
   ·rw[qhu]at h;exact SeqAt.EqAt.int_str i t y u _ _ _ _ h
  ·rcases qC hv with ⟨j,u,rfl,rfl⟩|⟨y,u,rfl,rfl⟩
   ·rw[qhv]at h;exact SeqAt.EqAt.str_int x t j u _ _ _ _ h
   ·rw[qht]at h;exact wpAny_eqBool_str h
 «strs»:=λk x t v h=>by
  rcases qC h with ⟨i,u,rfl,e⟩|⟨y,u,rfl,e⟩
  ·exact nomatch e
  ·injection e with e1 _;subst e1;cases v<;>rfl
inductive V where
 | non|bl (b:Bool)|int (i:Int)|str (x:Str)|byt (b:Array UInt8)|flt (b:UInt64)|ref (a:Addr)|ty (n:String)
 deriving DecidableEq
def qH:V->Value->Prop
 |.non,u=>u=Value.none
 |.bl b,u=>u=Value.bool b
 |.int i,u=>∃t,u=Value.int i t
 |.str x,u=>∃t,u=Value.str x t
 |.byt b,u=>∃t,u=Value.bytes b t
 |.flt b,u=>∃t,u=Value.float b t
 |.ref a,u=>u=Value.ref a
 |.ty n,u=>u=Value.type n
abbrev qD:List V->List Value->Prop:=Paired qH
def qD.length{xs:List V}{us:List Value}(r:qD xs us):xs.length=us.length:=Paired.length r
theorem qD.get:∀{xs:List V} {us:List Value} {i:Nat} {x:V},qD xs us->xs[i]?=some x->∃u,us[i]?=some u/\qH x u
 |_,_,_,_,.nil,e=>by simp at e
 |_,_,0,_,.cons r _,e=>by simp at e;subst e;exact{_,rfl,r}
 | _,_,i+1,x,.cons _ t,e=>by let(u,h1,h2):=qD.get (i:=i) (x:=x) t (-e:);exact{u,(-h1:),h2}
theorem qD.set{x:V}{u:Value}(r:qH x u):∀{xs:List V} {us:List Value} (i:Nat),qD xs us->qD (xs.set i x) (us.set i u)
 |_,_,_,.nil=>.nil
 |_,_,0,.cons _ t=>.cons r t
 | _,_,i+1,.cons q t=>.cons q (qD.set r i t)
theorem qD.append{xs ys:List V}{us ws:List Value}(h:qD xs us)(s:qD ys ws):qD (xs++ys) (us++ws):=by
 induction h with
 |nil=>exact s
 |cons r t ih=>exact .cons r ih
theorem qD.take:∀{xs:List V} {us:List Value} (n:Nat),qD xs us->qD (xs.take n) (us.take n)
 |_,_,0,_=>.nil
 | _,_,_+1,.nil=>.nil
 | _,_,n+1,.cons r t=>.cons r (qD.take n t)
theorem qD.drop:∀{xs:List V} {us:List Value} (n:Nat),qD xs us->qD (xs.drop n) (us.drop n)
 |_,_,0,r=>r
 | _,_,_+1,.nil=>.nil
 | _,_,n+1,.cons _ t=>qD.drop n t
def Zy:Option V->Option Value->Prop
 |some v,some u=>qH v u
 |none,none=>True
 |_,_=>False
def KV{U:Type}:List (U×V)->List (U×Value)->Prop:=Paired λ(p:U×V) (q:U×Value)=>p.1=q.1/\qH p.2 q.2
def kV:Key->V
 |.inl i=>.int i
 |.inr x=>.str x
inductive HO where
 | lst (xs:List V)
 | tup (xs:List V)
 | dK (kvs:List (Key×V))|dT (kvs:List (List Key×V))
 | set (S:Int->Bool) (n:Nat)
 | ins (C dx:Addr) (fs:List (Str×V))
 | own (x:Addr)
 | xd (fs:List (Str×V))
 | met (f x:Addr)
 | rng (lo hi:Int)
 | frz (o:Obj) (u:HO)
 | tbl (ps:Array Value)
 | ext (φ:Heap->Prop)
abbrev Hp:=Addr->Option HO
def upd(H:Hp)(a:Addr)(o:HO):Hp:=λb=>if b=a then some o else H b
def qf{H:Hp}{a:Addr}{o:HO}:upd H a o a=some o:=by unfold upd;rw[if_pos rfl]
def qc{H:Hp}{a b:Addr}{o:HO}(h:b≠a):upd H a o b=H b:=by unfold upd;rw[if_neg h]
def qfa{H:Hp}{a:Addr}{o u:HO}:upd (upd H a o) a u=upd H a u:=by funext b;unfold upd;split<;>rfl
def qS{H:Hp}{a b:Addr}{o:HO}(h:H a=some o)(h':H b=none):a≠b:=by intro e;subst e;rw[h]at h';cases h'
section
variable(P:Program)(w:World)
def qQ(H:Hp)(h:Heap)(a:Addr):HO->Prop
 |.lst xs=>xs.length<=sizeLine/\∃(its:List Value) (n:Nat),qD xs its/\h.get? a=some { cls:=.type "list",data:=.seq its.toArray n }
 |.tup xs=>xs.length<=sizeLine/\∃its:List Value,qD xs its/\IsTup h a its.toArray
 |.dK kvs=>kvs.length<=sizeLine/\(a == sysModules)=false/\∃vs,KV kvs vs/\h.DictOf (QT P w) a vs
 |.dT kvs=>kvs.length<=sizeLine/\(a == sysModules)=false/\∃xs:List (List Key×Addr×Value),
   Paired (λ(p:List Key×V) (q:List Key×Addr×Value)=>p.1=q.1/\H q.2.1=some (.tup (p.1.map kV))/\qH p.2 q.2.2) kvs xs/\
   ∃o es ep,h.get? a=some o/\o.ExactDict/\o.data=.dict es ep/\es.toList=xs.map (entryOfKey (tupleKind (QT P w)))/\(xs.map (·.1)).Nodup
 |.set S n=>h.SetOf (intKind P w) a S n
 |.ins C dx fs=>H dx=some (.own a)/\fs.length<=1000/\dx≠a/\h.get? a=some (PySem.W.instObj C dx)/\
   ∃mA,h.Ns1 dx mA/\(∀f,Zy (fs.lookup f) (mA f))/\PySem.Within mA (fs.map (·.1))
 |.own _=>∃o,h.get? a=some o
 |.xd fs=>∃mA,h.Ns1 a mA/\∀f,Zy (fs.lookup f) (mA f)
 |.rng lo hi=>∃t u v,h.get? a=some { cls:=.type "range",data:=.fields #[.int lo t,.int hi u,.int 1 v] }
 |.frz o u=>h.get? a=some o/\qQ H h a u
 |.tbl ps=>h.get? a=some { cls:=.none,data:=.fields ps }
 |.met f x=>h.get? a=some (PySem.W.methodObj (.ref f) (.ref x))
 |.ext φ=>φ h/\(∃o,h.get? a=some o)/\∀h1 h2:Heap,φ h1->(∀o,h1.get? a=some o->h2.get? a=some o)->φ h2
def HOk(H:Hp)(h:Heap):Prop:=∀a o,H a=some o->qQ P w H h a o
end
section
variable{P:Program}{w:World}{H H':Hp}{h h':Heap}{a:Addr}{o:HO}
theorem qQ.lt(x:qQ P w H h a o):a < h.objs.size:=by
 cases o with
 |lst xs=>let(_,_,_,_,e):=x;exact Heap.lt_size e
 |tup xs=>let(_,_,_,p):=x;exact p.lt
 |dK kvs=>let(_,_,_,_,o,_,_,e,_):=x;exact Heap.lt_size e
 |dT kvs=>let(_,_,_,_,o,_,_,e,_):=x;exact Heap.lt_size e
 |set S n=>let(o,_,_,_,e,_):=x;exact Heap.lt_size e
 |ins C dx fs=>let(_,_,_,e,_):=x;exact Heap.lt_size e
 |own y=>let(_,e):=x;exact Heap.lt_size e
 |xd fs=>let(_,(_,_,_,e,_),_):=x;exact Heap.lt_size e
 |rng lo hi=>let(_,_,_,e):=x;exact Heap.lt_size e
 |frz ob u=>let(e,_):=x;exact Heap.lt_size e
 |tbl ps=>exact Heap.lt_size (show h.get? a=some _ from x)
 |met f y=>exact Heap.lt_size (show h.get? a=some _ from x)
 |ext φ=>let(_,(_,e),_):=x;exact Heap.lt_size e
theorem Paired.mapP{α M:Type}{F G:α->M->Prop}{l₁:List α}{l₂:List M}(h:Paired F l₁ l₂)(f:∀a b,F a b->G a b):Paired G l₁ l₂:=by
 induction h with
 |nil=>exact .nil
 |cons r t ih=>exact .cons (f _ _ r) ih
theorem qQ.stay(x:qQ P w H h a o)(k:∀b u,(b=a\/H b=some (.own a))->h.get? b=some u->h'.get? b=some u)
  (ho:∀b,H b=some (.own a)->H' b=some (.own a)) (ht:∀b xs,H b=some (.tup xs)->H' b=some (.tup xs)):qQ P w H' h' a o:=by
 induction o with
 |lst xs=>let(z,its,n,r,e):=x;exact{z,its,n,r,k _ _ (.inl rfl) e}
 |tup xs=>let(z,its,r,ob,e,c):=x;exact{z,its,r,ob,k _ _ (.inl rfl) e,c}
 |dK kvs=>let(z,y,vs,r,ob,es,ep,e,c):=x;exact{z,y,vs,r,ob,es,ep,k _ _ (.inl rfl) e,c}
 |dT kvs=>let(z,y,xs,r,ob,es,ep,e,c):=x;exact{z,y,xs,Paired.mapP r λp q z=>{z.1,ht _ _ z.2.1,z.2.2},ob,es,ep,k _ _ (.inl rfl) e,c}
 |set S n=>let(ob,es,ep,t,e,c):=x;exact{ob,es,ep,t,k _ _ (.inl rfl) e,c}
 |ins C dx fs=>let(d,z,ne,e,mA,(od,es,ep,e2,c),r):=x;exact{ho _ d,z,ne,k _ _ (.inl rfl) e,mA,{od,es,ep,k _ _ (.inr d) e2,c},r}
 |own y=>let(ob,e):=x;exact{ob,k _ _ (.inl rfl) e}
 |xd fs=>let(mA,(od,es,ep,e,c),r):=x;exact{mA,{od,es,ep,k _ _ (.inl rfl) e,c},r}
 |rng lo hi=>let(t,u,v,e):=x;exact{t,u,v,k _ _ (.inl rfl) e}
 |frz ob u ih=>let(e,q):=x;exact{k _ _ (.inl rfl) e,ih q}
 |tbl ps=>have e:h.get? a=some { cls:=.none,data:=.fields ps }:=x;show h'.get? a=some { cls:=.none,data:=.fields ps };exact k a _ (.inl rfl) e
 |met f y=>have e:h.get? a=some (PySem.W.methodObj (.ref f) (.ref y)):=x;show h'.get? a=some (PySem.W.methodObj (.ref f) (.ref y));exact k a _ (.inl rfl) e
 |ext φ=>let(p,(o,e),st):=x;exact{st _ _ p λo q=>k _ _ (.inl rfl) q,{o,k _ _ (.inl rfl) e},st}
def HOk.lt(x:HOk P w H h)(e:H a=some o):a < h.objs.size:=(x a o e).lt
theorem HOk.fresh(x:HOk P w H h)(e:h.objs.size<=a):H a=none:=by
 cases q:H a with
 |none=>rfl
 |some u=>exact absurd (Nat.lt_of_lt_of_le (x.lt q) e) (Nat.lt_irrefl _)
def HOk.kept(x:HOk P w H h)(k:∀b u,h.get? b=some u->h'.get? b=some u):HOk P w H h':=λa o e=>(x a o e).stay (λb u _ q=>k b u q) (λ_ q=>q) λ_ _ q=>q
def HOk.laid(x:HOk P w H h)(k:∀b u,h.get? b=some u->h'.get? b=some u)(hp:h.objs.size<=a)(new:qQ P w (upd H a o) h' a o):HOk P w (upd H a o) h':=λb u e=>by
 have hn:=x.fresh hp
 by_cases hb:b=a
 ·subst hb;rw[qf]at e;cases e;exact new
 ·rw[qc hb]at e;exact(x b u e).stay (λc v _ q=>k c v q) (λc q=>by rw[qc (qS q hn)];exact q) λc xs q=>by rw[qc (qS q hn)];exact q
end
def Rd(H:Hp)(a:Addr)(u:HO):Prop:=H a=some u\/∃o,H a=some (.frz o u)
def Rd.ok{P:Program}{w:World}{H:Hp}{h:Heap}{a:Addr}{u:HO}(r:Rd H a u)(x:HOk P w H h):qQ P w H h a u:=by
 rcases r with r|⟨o,r⟩
 ·exact x a u r
 ·let(_,q):=x a _ r;exact q
def Mut:Option HO->Prop
 |some (.lst _)=>True
 |some (.dK _)=>True
 |some (.dT _)=>True
 |some (.set _ _)=>True
 |some (.ins _ _ _)=>True
 |some (.ext _)=>True
 |_=>False
section
variable{P:Program}{w:World}{H:Hp}{h h':Heap}{x e:Addr}{o':HO}
def HOk.write(ok:HOk P w H h)(mu:Mut (H x))(he:e=x\/H e=some (.own x))(k:∀b u,b≠e->h.get? b=some u->h'.get? b=some u)(heo:∃u,h'.get? e=some u)
  (new:qQ P w (upd H x o') h' x o'):HOk P w (upd H x o') h':=λb u q=>by
 have nown:∀c y,H c=some (.own y)->c≠x:=λc y r z=>by subst z;rw[r]at mu;exact mu
 have ntup:∀c xs,H c=some (.tup xs)->c≠x:=λc xs r z=>by subst z;rw[r]at mu;exact mu
 by_cases hb:b=x
 ·subst hb;rw[qf]at q;cases q;exact new
 ·rw[qc hb]at q
  by_cases hbe:b=e
  ·have q':H b=some (.own x):=by
    rcases he with z|z
    ·exact absurd (hbe.trans z) hb
    ·rw[hbe];exact z
   rw[q]at q';cases q';let(v,hv):=heo;exact{v,by rw[hbe];exact hv}
  ·refine(ok b u q).stay (λc v hc r=>k c v ?_ r) (λc r=>by rw[qc (nown c b r)];exact r) λc xs r=>by rw[qc (ntup c xs r)];exact r
   rcases hc with rfl|hc
   ·exact hbe
   ·rintro rfl;rcases he with z|z
    ·exact nown c b hc z
    ·rw[hc]at z;cases z;exact hb rfl
end
structure Un(fs ex:List Addr)(H H':Hp)(h h':Heap):Prop where
 keep:∀b o,h.get? b=some o->H b=none->b∉fs->b∉ex->h'.get? b=some o
 slot:∀b o,h.get? b=some o->H b=none->b∈fs->b∉ex->∃sl,h'.get? b=some { o with slots:=sl }
 free:∀b o,h.get? b=some o->H b=none->b∉ex->H' b=none
 there:∀b o,h.get? b=some o->b∉ex->∃o',h'.get? b=some o'
 tups:∀b xs,H b=some (.tup xs)->H' b=some (.tup xs)
 frzs:∀b o u,H b=some (.frz o u)->H' b=some (.frz o u)
 tbls:∀b ps,H b=some (.tbl ps)->∃more,H' b=some (.tbl (ps++more))
section
variable{fs fs' ex ex':List Addr}{H H1 H2:Hp}{h h1 h2 h':Heap}{a x e:Addr}{o:HO}
def Un.any(u:Un fs ex H H1 h h1){b:Addr}{ob:Obj}(q:h.get? b=some ob)(n:H b=none)(hx:b∉ex):∃sl,h1.get? b=some { ob with slots:=sl }:=by
 by_cases hb:b∈fs
 ·exact u.slot b ob q n hb hx
 ·exact{ob.slots,u.keep b ob q n hb hx}
def Un.kept(k:∀b u,h.get? b=some u->h'.get? b=some u):Un fs ex H H h h':=
 ⟨λb ob q _ _ _=>k b ob q,λb ob q _ _ _=>{ob.slots,k b ob q},λ_ _ _ n _=>n,λb ob q _=>{ob,k b ob q},λ_ _ q=>q,λ_ _ _ q=>q,λ_ ps q=>{#[],by rw[q];simp}⟩
def Un.refl:Un fs ex H H h h:=Un.kept λ_ _ q=>q
def Un.laid(k:∀b u,h.get? b=some u->h'.get? b=some u)(hp:h.objs.size<=a)(hn:H a=none):Un fs ex H (upd H a o) h h' where
 keep:=λb u q _ _ _=>k b u q
 slot:=λb u q _ _ _=>{u.slots,k b u q}
 free:=λb u q n _=>by rw[qc (Nat.ne_of_lt (Nat.lt_of_lt_of_le (Heap.lt_size q) hp))];exact n
 there:=λb u q _=>{u,k b u q}
 tups:=λb xs q=>by rw[qc (qS q hn)];exact q
 frzs:=λb u xs q=>by rw[qc (qS q hn)];exact q
 tbls:=λb ps q=>{#[],by rw[qc (qS q hn),q];simp}
def Un.write(mu:Mut (H x))(he:e=x\/H e=some (.own x))(k:∀b u,b≠e->h.get? b=some u->h'.get? b=some u)(heo:∃u,h'.get? e=some u):Un fs ex H (upd H x o) h h':=by
 have hx:∀b,H b=none->b≠x:=λb n z=>by subst z;rw[n]at mu;exact mu
 have hb:∀b,H b=none->b≠e:=λb n z=>by
  subst z;rcases he with r|r
  ·exact hx b n r
  ·rw[n]at r;cases r
 have hm:∀b u,H b=some u->¬ Mut (some u)->b≠x:=λb u q nm z=>by subst z;rw[q]at mu;exact nm mu
 refine{λb u q n _ _=>k b u (hb b n) q,λb u q n _ _=>{u.slots,k b u (hb b n) q},λb u q n _=>by rw[qc (hx b n)];exact n,λb u q _=>?_,
  λb xs q=>by rw[qc (hm b _ q λz=>z)];exact q,λb u xs q=>by rw[qc (hm b _ q λz=>z)];exact q,λb ps q=>{#[],by rw[qc (hm b _ q λz=>z),q];simp}}
 by_cases hbe:b=e
 ·subst hbe;exact heo
 ·exact{u,k b u hbe q}
end
def trk(h:Heap)(H:Hp):List Addr:=(List.range h.objs.size).filter λa=>(H a).isSome
def qcV(h:Heap)(H:Hp):Heap:=PySem.W.hideAll h (trk h H)
def qa6(h:Heap)(H:Hp):(qcV h H).objs.size=h.objs.size:=PySem.W.hideAll_size _ _
def qcW{h:Heap}{H:Hp}{b:Addr}{o:Obj}(e:h.get? b=some o)(n:H b=none):(qcV h H).get? b=some o:=
 PySem.W.hideAll_get _ e λhm=>by have q:(H b).isSome=true:=(List.mem_filter.mp hm).2;rw[n]at q;simp at q
theorem qfb{h:Heap}{H:Hp}{b:Addr}{o:Obj}(e:(qcV h H).get? b=some o):h.get? b=some o/\H b=none:=by
 have e':h.get? b=some o:=PySem.W.of_hideAll (trk h H) e;refine{e',?_}
 cases q:H b with
 |none=>rfl
 |some x=>have hm:b∈trk h H:=List.mem_filter.mpr ⟨List.mem_range.mpr (Heap.lt_size e'),by simp[q]⟩;have z:(qcV h H).get? b=none:=PySem.W.hideAll_none (trk h H) hm;rw[z]at e;cases e
structure Mod(K:Frag)(mg:PR)(base:Heap):Prop where
 kin:K.In base
 glob:base.Ns mainGlobals mg
 blt:∃mb,base.Ns builtinsNs mb/\∀x:Str,x≠"__name__"->mb x=bootBuiltins x
 nolimit:base.NoLimit
structure Cx where
 prog:Program
 w:World
 K:Frag
 mg:PR
 base:Heap
 A:Around
 N:List Str
 s₀:Shared
 Hv:Hp
 env:Env
 outer:List Env
 stack:List Env
 ex:List Addr
 fn:Str->Bool
 calm:Bool
 pn:PP
 xe:PQ
def frs(l:List Env):List Addr:=l.filterMap (·.frame)
abbrev Cx.fs(X:Cx):List Addr:=frs X.outer
def Vis(sc:Scope)(x:Str):Prop:=sc.names.lookup x=some .local\/sc.names.lookup x=some .cell\/sc.names.lookup x=some .free
def Loc(sc:Scope)(x:Str):Prop:=sc.names.lookup x=some .local\/sc.names.lookup x=some .cell
def qmp(env:Env)(h:Heap)(m:PR)(x:Str)(u:Value):Prop:=
 (env.kindOf x=some .local/\m x=some u)\/((env.kindOf x=some .cell\/env.kindOf x=some .free)/\∃c,env.cells.lookup x=some c/\h.IsCell c (some u))
structure Cx.Ok(X:Cx):Prop where
 mod:Mod X.K X.mg X.base
 kind:X.env.scope.kind=.function
 glob:X.env.globals=mainGlobals
 blt:X.env.builtins=builtinsNs
 above:X.s₀.heap.objs.size<=X.env.locals
 inj:∀x y c,X.env.cells.lookup x=some c->X.env.cells.lookup y=some c->x=y
 has:∀x,(X.env.kindOf x=some .cell\/X.env.kindOf x=some .free)->∃c,X.env.cells.lookup x=some c
 cab:∀x c,X.fn x=true->X.env.cells.lookup x=some c->X.s₀.heap.objs.size<=c
 hd:X.calm=true->X.A.handled=none
 frames:X.A.frames=some X.stack
 stk:X.stack=X.outer\/(X.stack=X.env::X.outer/\X.env.frame=some X.env.locals)
 exf:∀b∈X.ex,b≠X.env.locals/\∀x c,X.env.cells.lookup x=some c->c≠b
 bs:∀b o,X.base.get? b=some o->X.s₀.heap.get? b=some o/\X.Hv b=none
 bsz:X.base.objs.size<=X.s₀.heap.objs.size
 noex:∀b o,X.base.get? b=some o->b∉X.ex
 exfs:∀b∈X.ex,b∉X.fs
 funs:X.s₀.heap.FunFrames X.base X.outer
 frf:∀b∈X.fs,X.Hv b=none
structure Inv(X:Cx)(pins:PP)(Z:List (Option V))(H:Hp)(s:Shared):Prop where
 ok:X.Ok
 os:s.os=X.s₀.os
 bare:AllBare s.gens
 base:Un X.fs X.ex X.Hv H X.s₀.heap s.heap
 loc:∃m,s.heap.Ns X.env.locals m/\∀(i:Nat) (x:Str) (v:V),X.N[i]?=some x->Z[i]?=some (some v)->Vis X.env.scope x->∃u,qH v u/\qmp X.env s.heap m x u
 cell:∀x c,X.env.cells.lookup x=some c->∃v,s.heap.IsCell c v
 free:H X.env.locals=none
 freeC:∀x c,X.env.cells.lookup x=some c->H c=none
 pin:∀p∈X.pn++pins,s.heap.get? p.1=some p.2/\H p.1=none/\p.1≠X.env.locals/\p.1∉X.fs/\∀v,p.2.data≠.cell v
 hok:HOk X.prog X.w H s.heap
 len:Z.length=X.N.length
section
variable{X:Cx}{pins:PP}{Z:List (Option V)}{H H':Hp}{s:Shared}{h':Heap}
def Cx.Ok.nofr(ok:X.Ok){b:Addr}{o:Obj}(e:X.base.get? b=some o):b∉X.fs:=λhb=>by
 have:=(ok.funs.mem hb).1
 rw[e]at this;cases this
def Inv.bs(I:Inv X pins Z H s):∀b o,X.base.get? b=some o->s.heap.get? b=some o/\H b=none:=λb o e=>{I.base.keep b o (I.ok.bs b o e).1 (I.ok.bs b o e).2 (I.ok.nofr e) (I.ok.noex b o e),I.base.free b o (I.ok.bs b o e).1 (I.ok.bs b o e).2 (I.ok.noex b o e)}
def Inv.bk(I:Inv X pins Z H s):∀b o,X.base.get? b=some o->s.heap.get? b=some o:=λb o e=>(I.bs b o e).1
def Inv.mod(I:Inv X pins Z H s):Mod X.K X.mg X.base:=I.ok.mod
def Inv.kIn(I:Inv X pins Z H s):X.K.In s.heap:=I.ok.mod.kin.keeps I.bk
def Inv.lt(I:Inv X pins Z H s):X.env.locals < s.heap.objs.size:=let ⟨_,hn,_⟩:=I.loc;hn.lt
def Inv.sz(I:Inv X pins Z H s):X.s₀.heap.objs.size<=s.heap.objs.size:=Nat.le_trans I.ok.above (Nat.le_of_lt I.lt)
def Inv.nofs(I:Inv X pins Z H s){a:Addr}(h:s.heap.objs.size<=a):a∉X.fs:=λhb=>by let(_,o,ho,_):=I.ok.funs.mem hb;exact absurd (Nat.lt_of_lt_of_le (Heap.lt_size ho) (Nat.le_trans I.sz h)) (Nat.lt_irrefl _)
def Inv.cne(I:Inv X pins Z H s):∀x c,X.env.cells.lookup x=some c->c≠X.env.locals:=λx c e z=>by let(v,o,ho,hd):=I.cell x c e;let(m,(o',es,ep,ho',hd',_),_):=I.loc;rw[z,ho']at ho;cases ho;rw[hd']at hd;cases hd
def Inv.funs(I:Inv X pins Z H s):s.heap.FunFrames X.base X.outer:=by
 have all:∀(l:List Env),(∀b∈frs l,b∈X.fs)->X.s₀.heap.FunFrames X.base l->s.heap.FunFrames X.base l:=by
  intro l
  induction l with
  |nil=>intro _ _;trivial
  |cons env r ih=>intro hs hl;let(hk,(L,o,hf,hn,ho,hd),hr):=hl;have hL:L∈X.fs:=hs L (by unfold frs;rw[List.filterMap_cons,hf];exact List.mem_cons_self);let(sl,e):=I.base.slot L o ho (I.ok.frf L hL) hL λz=>I.ok.exfs L z hL;exact{hk,{L,_,hf,hn,e,hd},ih (λb hb=>hs b (by unfold frs;rw[List.filterMap_cons,hf];exact List.mem_cons_of_mem _ hb)) hr}
 exact all X.outer (λ_ hb=>hb) I.ok.funs
def Inv.stack(I:Inv X pins Z H s):s.heap.FunFrames X.base X.stack:=by
 rcases I.ok.stk with e|⟨e,hf⟩
 ·rw[e];exact I.funs
 ·rw[e];let(m,hn,_):=I.loc;refine .cons (by rw[I.ok.kind];decide) hf hn ?_ I.funs;exact Heap.get?_none_of_le (Nat.le_trans I.ok.bsz I.ok.above)
def Inv.stkSub(I:Inv X pins Z H s):∀b∈frs X.stack,b∈X.env.locals::X.fs:=λb hb=>by
 rcases I.ok.stk with e|⟨e,hf⟩
 ·rw[e]at hb;exact List.mem_cons_of_mem _ hb
 ·rw[e]at hb;unfold frs at hb;rw[List.filterMap_cons,hf]at hb;exact hb
def Inv.stkFree(I:Inv X pins Z H s):∀b∈frs X.stack,H b=none:=λb hb=>by
 rcases List.mem_cons.mp (I.stkSub b hb) with e|hb
 ·rw[e];exact I.free
 ·let(_,o,ho,_):=I.ok.funs.mem hb;exact I.base.free b o ho (I.ok.frf b hb) λz=>I.ok.exfs b z hb
def Inv.step{g':Array GenState}{t':Nat}{d':Drawn}{ch:List Addr}(I:Inv X pins Z H s)
  (hch:∀b∈ch,(b∈X.ex\/X.s₀.heap.objs.size<=b)/\b≠X.env.locals/\(∀x c,X.env.cells.lookup x=some c->c≠b)/\∀p∈X.pn++pins,p.1≠b)
  (keep:∀b o,b≠X.env.locals->b∉X.fs->b∉ch->s.heap.get? b=some o->H b=none->h'.get? b=some o)
  (slot:∀b o,b≠X.env.locals->b∈X.fs->b∉ch->s.heap.get? b=some o->H b=none->∃sl,h'.get? b=some { o with slots:=sl }) (free:∀b o,b∉ch->s.heap.get? b=some o->H b=none->H' b=none)
  (there:∀b o,b∉ch->s.heap.get? b=some o->∃o',h'.get? b=some o')
  (tups:∀b xs,H b=some (.tup xs)->H' b=some (.tup xs)) (frzs:∀b o u,H b=some (.frz o u)->H' b=some (.frz o u)) (tbls:∀b ps,H b=some (.tbl ps)->∃more,H' b=some (.tbl (ps++more)))
  (ns:∀m,s.heap.Ns X.env.locals m->h'.Ns X.env.locals m) (hok:HOk X.prog X.w H' h') (hg:AllBare g') :
  Inv X pins Z H' { s with heap:=h',gens:=g',drawn:=d',toks:=t' }:=by
 have neL:∀b o,X.s₀.heap.get? b=some o->b≠X.env.locals:=λb o e=>Nat.ne_of_lt (Nat.lt_of_lt_of_le (Heap.lt_size e) I.ok.above)
 have neC:∀b o,X.s₀.heap.get? b=some o->b∉X.ex->b∉ch:=λb o e hx hb=>by
  rcases (hch b hb).1 with z|z
  ·exact hx z
  ·exact absurd (Nat.lt_of_lt_of_le (Heap.lt_size e) z) (Nat.lt_irrefl _)
 have cellK:∀x c,X.env.cells.lookup x=some c->∀v,s.heap.IsCell c v->h'.IsCell c v:=λx c e v ⟨o,ho,hd⟩=>by
  have nch:c∉ch:=λz=>(hch c z).2.2.1 x c e rfl
  by_cases hc:c∈X.fs
  ·let(sl,q):=slot c o (I.cne x c e) hc nch ho (I.freeC x c e);exact{_,q,hd}
  ·exact{o,keep c o (I.cne x c e) hc nch ho (I.freeC x c e),hd}
 refine{I.ok,I.os,hg,{λb o e n hb hx=>?_,λb o e n hb hx=>?_,λb o e n hx=>?_,λb o e hx=>?_,λb xs e=>tups b xs (I.base.tups b xs e),λb o xs e=>frzs b o xs (I.base.frzs b o xs e),λb ps e=>?_},?_,λx c e=>?_,?_,λx c e=>?_,λp hp=>?_,hok,I.len}
 ·exact keep b o (neL b o e) hb (neC b o e hx) (I.base.keep b o e n hb hx) (I.base.free b o e n hx)
 ·let(sl,e1):=I.base.slot b o e n hb hx;let(sl',e2):=slot b _ (neL b o e) hb (neC b o e hx) e1 (I.base.free b o e n hx);exact⟨sl',e2⟩
 ·let(o',e1):=I.base.there b o e hx;exact free b o' (neC b o e hx) e1 (I.base.free b o e n hx)
 ·let(o',e1):=I.base.there b o e hx;exact there b o' (neC b o e hx) e1
 ·let(m1,e1):=I.base.tbls b ps e;let(m2,e2):=tbls b _ e1;exact{m1++m2,by rw[e2,Array.append_assoc]}
 ·let(m,hn,hl):=I.loc;refine{m,ns m hn,λi x v e1 e2 e3=>?_};let(u,r,l):=hl i x v e1 e2 e3;refine{u,r,?_};rcases l with l|⟨k,c,e,z⟩
  ·exact .inl l
  ·exact .inr ⟨k,c,e,cellK x c e _ z⟩
 ·let(v,z):=I.cell x c e;exact{v,cellK x c e v z}
 ·let(m,(o,_,_,ho,_),_):=I.loc;exact free _ o (λz=>(hch _ z).2.1 rfl) ho I.free
 ·let(v,o,ho,hd):=I.cell x c e;exact free c o (λz=>(hch c z).2.2.1 x c e rfl) ho (I.freeC x c e)
 ·let(e,n,ne,nf,d):=I.pin p hp;have nch:p.1∉ch:=λz=>(hch p.1 z).2.2.2 p hp rfl;exact{keep p.1 p.2 ne nf nch e n,free p.1 p.2 nch e n,ne,nf,d}
def Inv.un{t':Nat}(I:Inv X pins Z H s)(u:Un X.fs [] H H' s.heap h')(hok:HOk X.prog X.w H' h'):Inv X pins Z H' { s with heap:=h',toks:=t' }:=by
 let(m,(o,es,ep,ho,r),_):=id I.loc;let(sl,hL):=u.any ho I.free (5:)
 exact I.step (g':=s.gens) (d':=s.drawn) (ch:=[]) (λ_ z=>nomatch z) (λb o _ hb _ e n=>u.keep b o e n hb (5:)) (λb o _ hb _ e n=>u.slot b o e n hb (5:)) (λb o _ e n=>u.free b o e n (5:)) (λb o _ e=>u.there b o e (5:)) u.tups u.frzs u.tbls (λm' hm=>by let(o',es',ep',ho',r'):=hm;rw[ho]at ho';cases ho';exact{_,es',ep',hL,r'}) hok I.bare
def Inv.call{g':Array GenState}{t':Nat}{d':Drawn}{ch:List Addr}(I:Inv X pins Z H s)(u:Un (frs X.stack) ch H H' s.heap h')(hok:HOk X.prog X.w H' h')(hg:AllBare g')
  (hch:∀b∈ch,(b∈X.ex\/X.s₀.heap.objs.size<=b)/\b≠X.env.locals/\(∀x c,X.env.cells.lookup x=some c->c≠b)/\∀p∈X.pn++pins,p.1≠b) :
  Inv X pins Z H' { s with heap:=h',gens:=g',drawn:=d',toks:=t' }:=by
 let(m,(o,es,ep,ho,r),_):=id I.loc;let(sl,hL):=u.any ho I.free λz=>(hch _ z).2.1 rfl
 exact I.step (ch:=ch) hch (λb o hL hb hc e n=>u.keep b o e n (λz=>(List.mem_cons.mp (I.stkSub b z)).elim hL hb) hc) (λb o _ _ hc e n=>u.any e n hc) (λb o hc e n=>u.free b o e n hc) (λb o hc e=>u.there b o e hc) u.tups u.frzs u.tbls (λm' hm=>by let(o',es',ep',ho',r'):=hm;rw[ho]at ho';cases ho';exact{_,es',ep',hL,r'}) hok hg
def Inv.turned{t':Nat}{it:Addr}(I:Inv X pins Z H s)(k:∀b o,b≠it->s.heap.get? b=some o->h'.get? b=some o)(hn:H it=none)(hL:it≠X.env.locals)
  (h1:it∈X.ex\/X.s₀.heap.objs.size<=it) (h2:∀x c,X.env.cells.lookup x=some c->c≠it) (h3:∀p∈X.pn++pins,p.1≠it):Inv X pins Z H { s with heap:=h',toks:=t' }:=by
 have nit:∀b u,H b=some u->b≠it:=λb u e z=>by rw[z,hn]at e;cases e
 refine I.step (g':=s.gens) (d':=s.drawn) (ch:=[it]) (λb hb=>?_) (λb o _ _ hc e _=>k b o (λz=>hc (by simp[z])) e) (λb o _ _ hc e _=>{o.slots,k b o (λz=>hc (by simp[z])) e}) (λ_ _ _ _ n=>n)
  (λb o hc e=>{o,k b o (λz=>hc (by simp[z])) e}) (λ_ _ e=>e) (λ_ _ _ e=>e) (λb ps e=>{#[],by rw[e];simp}) (λm hm=>?_) (λb u e=>?_) I.bare
 ·have e:b=it:=(-hb:)
  subst e;exact⟨h1,hL,h2,h3⟩
 ·let(o,es,ep,ho,r):=hm;exact{o,es,ep,k _ o (Ne.symm hL) ho,r}
 ·refine(I.hok b u e).stay (λc v hc q=>k c v ?_ q) (λ_ q=>q) λ_ _ q=>q;rcases hc with z|z
  ·rw[z];exact nit b u e
  ·exact nit c _ z
def Inv.tok(I:Inv X pins Z H s)(t:Nat):Inv X pins Z H { s with toks:=t }:=I.un (h':=s.heap) (t':=t) Un.refl I.hok
def Inv.kept{t':Nat}(I:Inv X pins Z H s)(k:∀b u,s.heap.get? b=some u->h'.get? b=some u):Inv X pins Z H { s with heap:=h',toks:=t' }:=I.un (Un.kept k) (I.hok.kept k)
def Inv.laid{a:Addr}{o:HO}{t':Nat}(I:Inv X pins Z H s)(k:∀b u,s.heap.get? b=some u->h'.get? b=some u)(hp:s.heap.objs.size<=a)(new:qQ X.prog X.w (upd H a o) h' a o) :
  Inv X pins Z (upd H a o) { s with heap:=h',toks:=t' }:=I.un (Un.laid k hp (I.hok.fresh hp)) (I.hok.laid k hp new)
def Inv.write{x e:Addr}{o:HO}{t':Nat}(I:Inv X pins Z H s)(mu:Mut (H x))(he:e=x\/H e=some (.own x))(k:∀b u,b≠e->s.heap.get? b=some u->h'.get? b=some u)(heo:∃u,h'.get? e=some u)
  (new:qQ X.prog X.w (upd H x o) h' x o):Inv X pins Z (upd H x o) { s with heap:=h',toks:=t' }:=I.un (Un.write mu he k heo) (I.hok.write mu he k heo new)
def Inv.pins_of{pins':PP}(I:Inv X pins Z H s)(h:∀p∈pins',s.heap.get? p.1=some p.2/\H p.1=none/\p.1≠X.env.locals/\p.1∉X.fs/\∀v,p.2.data≠.cell v):Inv X pins' Z H s:=
 ⟨I.ok,I.os,I.bare,I.base,I.loc,I.cell,I.free,I.freeC,λp hp=>(List.mem_append.mp hp).elim (λz=>I.pin p (List.mem_append_left _ z)) (h p),I.hok,I.len⟩
def J3{N:List Str}(hN:N.Nodup){i j:Nat}{x:Str}(a:N[i]?=some x)(b:N[j]?=some x):i=j:=by let(h1,e1):=List.getElem?_eq_some_iff.mp a;let(h2,e2):=List.getElem?_eq_some_iff.mp b;exact(List.getElem_inj hN).mp (e1.trans e2.symm)
def jX{M:Model}{A:Around}{E:PQ}{i:Nat}{x:Str}{v:V}{u:Value}{Q:Unit->Shared->Prop}(I:Inv X pins Z H s)(hN:X.N.Nodup)(hi:X.N[i]?=some x)(hx:Loc X.env.scope x)(r:qH v u)
  (h:∀s',Inv X pins (Z.set i (some v)) H s'->(∃a,Heap.SameBut a s.heap s'.heap/\(a=X.env.locals\/X.env.cells.lookup x=some a))->Q () s') (hf:X.fn x=true\/X.env.scope.names.lookup x=some .local:=by first|exact .inl rfl|exact .inr rfl|assumption):wpAny M A (storeName X.env x u) Q E s:=by
 let(m,hn,hl):=id I.loc;have hcls:(X.env.scope.kind == .class||(X.env.scope.kind == .module&&X.env.locals != X.env.globals))=false:=by rw[I.ok.kind];rfl
 have hiσ:i < Z.length:=by rw[I.len];exact(List.getElem?_eq_some_iff.mp hi).1
 have cne:=I.cne
 have tracked:∀{a:Addr} {h':Heap},(∃o,s.heap.get? a=some o/\H a=none)->Heap.SameBut a s.heap h'->HOk X.prog X.w H h':=λ{a h'} ha hs b ob e=>by
  let(_,_,hfree):=ha;refine(I.hok b ob e).stay (λc w' hc q=>(hs.2 c ?_).trans q) (λ_ q=>q) λ_ _ q=>q;rintro rfl;rcases hc with rfl|hc
  ·rw[hfree]at e;cases e
  ·rw[hfree]at hc;cases hc
 rcases hx with hk|hk
 ·refine wpAny_storeName_local hk hn (λh' hn' hs=>?_) hcls;let(oL,_,_,hoL,_):=id hn;refine h _ ⟨I.ok,I.os,I.bare,⟨λb o e n hb hx=>?_,λb o e n hb hx=>?_,I.base.free,λb o e hx=>?_,I.base.tups,I.base.frzs,I.base.tbls⟩,⟨_,hn',λj y v' e1 e2 e3=>?_⟩,λy c e=>?_,I.free,I.freeC,λp hp=>?_,tracked ⟨oL,hoL,I.free⟩ hs,(-I.len:)⟩ ⟨_,hs,.inl rfl⟩
  ·exact(hs.2 b (Nat.ne_of_lt (Nat.lt_of_lt_of_le (Heap.lt_size e) I.ok.above))).trans (I.base.keep b o e n hb hx)
  ·let(sl,e1):=I.base.slot b o e n hb hx;exact{sl,(hs.2 b (Nat.ne_of_lt (Nat.lt_of_lt_of_le (Heap.lt_size e) I.ok.above))).trans e1}
  ·let(o',e1):=I.base.there b o e hx;exact{o',(hs.2 b (Nat.ne_of_lt (Nat.lt_of_lt_of_le (Heap.lt_size e) I.ok.above))).trans e1}
  ·by_cases hj:j=i
   ·subst hj;rw[hi]at e1;cases e1;rw[List.getElem?_set_self hiσ]at e2;cases e2;exact{u,r,.inl {hk,by simp}}
   ·rw[List.getElem?_set_ne (Ne.symm hj)]at e2;let(u',r',q):=hl j y v' e1 e2 e3;refine{u',r',?_};rcases q with ⟨k,e⟩|⟨k,c,e,z⟩
    ·refine .inl ⟨k,?_⟩
     have:y≠x:=λe=>hj (J3 hN e1 (e▸hi))
     simp[this,e]
    ·exact .inr ⟨k,c,e,z.sameBut hs (cne y c e)⟩
  ·let(w',z):=I.cell y c e;exact{w',z.sameBut hs (cne y c e)}
  ·let(e,n,ne,nf,d):=I.pin p hp;exact{(hs.2 p.1 ne).trans e,n,ne,nf,d}
 ·have hfn:X.fn x=true:=by
   rcases hf with z|z
   ·exact z
   ·rw[z]at hk;cases hk
  let(c,hc):=I.ok.has x (.inl hk);let(w',z):=I.cell x c hc;refine wpAny_storeName_cell I.ok.kind hk hc z (λh' hc' hs=>?_);let(oc,hoc,hocd):=id z;refine h { s with heap:=h' } ⟨I.ok,I.os,I.bare,⟨λb o e n hb hx=>?_,λb o e n hb hx=>?_,I.base.free,λb o e hx=>?_,I.base.tups,I.base.frzs,I.base.tbls⟩,⟨m,hn.sameBut hs (Ne.symm (cne x c hc)),λj y v' e1 e2 e3=>?_⟩,λy c' e=>?_,I.free,I.freeC,λp hp=>?_,tracked ⟨oc,hoc,I.freeC x c hc⟩ hs,(-I.len:)⟩ ⟨c,hs,.inr hc⟩
  ·exact(hs.2 b (Nat.ne_of_lt (Nat.lt_of_lt_of_le (Heap.lt_size e) (I.ok.cab x c hfn hc)))).trans (I.base.keep b o e n hb hx)
  ·let(sl,e1):=I.base.slot b o e n hb hx;exact{sl,(hs.2 b (Nat.ne_of_lt (Nat.lt_of_lt_of_le (Heap.lt_size e) (I.ok.cab x c hfn hc)))).trans e1}
  ·let(o',e1):=I.base.there b o e hx;exact{o',(hs.2 b (Nat.ne_of_lt (Nat.lt_of_lt_of_le (Heap.lt_size e) (I.ok.cab x c hfn hc)))).trans e1}
  ·by_cases hj:j=i
   ·subst hj;rw[hi]at e1;cases e1;rw[List.getElem?_set_self hiσ]at e2;cases e2;exact{u,r,.inr {.inl hk,c,hc,hc'}}
   ·rw[List.getElem?_set_ne (Ne.symm hj)]at e2;let(u',r',q):=hl j y v' e1 e2 e3;refine{u',r',?_};rcases q with q|⟨k,c',e,z'⟩
    ·exact .inl q
    ·refine .inr ⟨k,c',e,z'.sameBut hs ?_⟩;rintro rfl;exact hj (J3 hN e1 (I.ok.inj _ _ _ e hc▸hi))
  ·by_cases hcc:c'=c
   ·subst hcc;exact{_,hc'}
   ·let(w2,z2):=I.cell y c' e;exact{w2,z2.sameBut hs hcc}
  ·let(e,n,ne,nf,d):=I.pin p hp;refine{(hs.2 p.1 ?_).trans e,n,ne,nf,d};intro q;rw[q,hoc]at e;have q':oc=p.2:=Option.some.inj e;exact d w' (by rw[<-q'];exact hocd)
def Zz{M:Model}{A:Around}{E:PQ}{i:Nat}{x:Str}{v:V}{u:Value}{Q:Unit->Shared->Prop}(I:Inv X pins Z H s)(hN:X.N.Nodup)(hi:X.N[i]?=some x)(hx:Loc X.env.scope x)(r:qH v u)
  (h:∀s',Inv X pins (Z.set i (some v)) H s'->Q () s') (hf:X.fn x=true\/X.env.scope.names.lookup x=some .local:=by first|exact .inl rfl|exact .inr rfl|assumption):wpAny M A (storeName X.env x u) Q E s:=
 jX I hN hi hx r (λs' I' _=>h s' I') hf
def Inv.call'{s':Shared}{ch:List Addr}(I:Inv X pins Z H s)(ho:s'.os=s.os)(u:Un (frs X.stack) ch H H' s.heap s'.heap)(hok:HOk X.prog X.w H' s'.heap)(hg:AllBare s'.gens)
  (hch:∀b∈ch,(b∈X.ex\/X.s₀.heap.objs.size<=b)/\b≠X.env.locals/\(∀x c,X.env.cells.lookup x=some c->c≠b)/\∀p∈X.pn++pins,p.1≠b):Inv X pins Z H' s':=by
 let(h',g',d',t',o'):=s';have e:o'=s.os:=ho;subst e;exact I.call (g':=g') (t':=t') (d':=d') u hok hg hch
end
abbrev XK:=Value->Option Addr->Hp->Prop
abbrev St:=List (Option V)
abbrev VK:=V->Hp->Prop
abbrev TE:=St->Hp->VK->Prop
abbrev TT:=St->Hp->(Bool->Hp->Prop)->Prop
abbrev TA:=St->Hp->(List V->Hp->Prop)->Prop
structure Ends where
 nx:St->Hp->Prop
 rt:VK
 bk:St->Hp->Prop:=λ_ _=>False
 ct:St->Hp->Prop:=λ_ _=>False
abbrev TS:=Ends->St->Hp->Prop
def EP(X:Cx)(pins:PP)(Z:St)(Q:VK)(u:Value)(s':Shared):Prop:=∃v H',Inv X pins Z H' s'/\qH v u/\Q v H'
def TP(X:Cx)(pins:PP)(Z:St)(Q:Bool->Hp->Prop)(b:Bool)(s':Shared):Prop:=∃H',Inv X pins Z H' s'/\Q b H'
def AP(X:Cx)(pins:PP)(Z:St)(Q:List V->Hp->Prop)(us:List Value)(s':Shared):Prop:=∃vs H',Inv X pins Z H' s'/\qD vs us/\Q vs H'
def SP(X:Cx)(pins:PP)(D:Ends)(f:Flow)(s':Shared):Prop:=
 match f with
 |.next=>∃Z' H',Inv X pins Z' H' s'/\D.nx Z' H'
 |.brk=>∃Z' H',Inv X pins Z' H' s'/\D.bk Z' H'
 |.cont=>∃Z' H',Inv X pins Z' H' s'/\D.ct Z' H'
 |.ret u=>∃v Z' H',Inv X pins Z' H' s'/\qH v u/\D.rt v H'
def PE(X:Cx)(e:Expr)(t:TE):Prop:=
 ∀(pins:PP) (s:Shared) (Z:St) (H:Hp) (Q:VK),Inv X pins Z H s->t Z H Q->wpAny (model X.prog X.w) X.A (eval e X.env) (EP X pins Z Q) X.xe s
def PT(X:Cx)(e:Expr)(t:TT):Prop:=
 ∀(pins:PP) (s:Shared) (Z:St) (H:Hp) (Q:Bool->Hp->Prop),Inv X pins Z H s->t Z H Q->wpAny (model X.prog X.w) X.A (isTrue e X.env (eval e X.env)) (TP X pins Z Q) X.xe s
def PW(X:Cx)(e:Expr)(t:TT):Prop:=
 ∀(whole:Sem Value) (pins:PP) (s:Shared) (Z:St) (H:Hp) (Q:Bool->Hp->Prop),Inv X pins Z H s->t Z H Q->wpAny (model X.prog X.w) X.A (isTrue e X.env whole) (TP X pins Z Q) X.xe s
def PW.pt{X:Cx}{e:Expr}{t:TT}(h:PW X e t):PT X e t:=h _
def PA(X:Cx)(es:List Expr)(t:TA):Prop:=
 ∀(pos:Pos) (pins:PP) (s:Shared) (Z:St) (H:Hp) (Q:List V->Hp->Prop),Inv X pins Z H s->t Z H Q->wpAny (model X.prog X.w) X.A (spliced (backTo pos (starEach es X.env))) (AP X pins Z Q) X.xe s
def PS(X:Cx)(st:Stmt)(t:TS):Prop:=
 ∀(pins:PP) (s:Shared) (Z:St) (H:Hp) (D:Ends),Inv X pins Z H s->t D Z H->wpAny (model X.prog X.w) X.A (exec st X.env) (SP X pins D) X.xe s
def PSs(X:Cx)(st:List Stmt)(t:TS):Prop:=
 ∀(pins:PP) (s:Shared) (Z:St) (H:Hp) (D:Ends),Inv X pins Z H s->t D Z H->wpAny (model X.prog X.w) X.A (execs st X.env) (SP X pins D) X.xe s
def thn{α:Type}{t:Sem α}{Q Q':α->Shared->Prop}{M:Model}{A:Around}{E:PQ}{s:Shared}(h:wpAny M A t Q E s)(hQ:∀a s,Q a s->Q' a s):wpAny M A t Q' E s:=wpAny_mono h hQ λ_ _ x=>x
section
variable{X:Cx}
def bin{a b:Expr}{ta tb:TE}(ha:PE X a ta)(hb:PE X b tb){pins:PP}{s:Shared}{Z:St}{H:Hp}{R:V->V->Hp->Prop}(I:Inv X pins Z H s)(h:ta Z H λx H1=>tb Z H1 λy H2=>R x y H2)
  {α:Type} {Q:α->Shared->Prop} {f:Value->Value->Sem α}
  (hf:∀v u s2 x y H2,Inv X pins Z H2 s2->qH x v->qH y u->R x y H2->wpAny (model X.prog X.w) X.A (f v u) Q X.xe s2) :
  wpAny (model X.prog X.w) X.A (eval a X.env) (λv s₁=>wpAny (model X.prog X.w) X.A (eval b X.env) (λu s₂=>wpAny (model X.prog X.w) X.A (f v u) Q X.xe s₂) X.xe s₁) X.xe s:=by
 refine thn (ha pins s Z H _ I h) λv s1 hq1=>?_;let(x,H1,I1,r1,q1):=hq1;refine thn (hb pins s1 Z H1 _ I1 q1) λu s2 hq1=>?_;let(y,H2,I2,r2,q2):=hq1;exact hf v u s2 x y H2 I2 r1 r2 q2
def qaZ(i:Nat):TE:=λZ H Q=>∃v,Z[i]?=some (some v)/\Q v H
def tC(v:V):TE:=λ_ H Q=>Q v H
def jA{i:Nat}{x:Str}{pos:Pos}(hN:X.N[i]?=some x)(hv:Vis X.env.scope x)(hd:(x == ("__debug__" : Str))=false:=by decide)(hcd:(x == ("__classdict__" : Str))=false:=by decide):PE X (.Name x pos) (qaZ i):=by
 intro pins s Z H Q I h;let(v,e,h):=h;let(m,hn,hl):=I.loc;let(u,r,l):=hl i x v hN e hv;have fin:EP X pins Z Q u s:=⟨v,H,I,r,h⟩;rcases l with ⟨hk,hm⟩|⟨hk,c,hc,hcell⟩
 ·exact wpAny_Name (wpAny_loadName_local I.ok.kind hk hn hm fin) hd
 ·rcases hk with hk|hk
  ·exact wpAny_Name (wpAny_loadName_cell I.ok.kind hk hc hcell fin) hd
  ·exact wpAny_Name (wpAny_loadName_free I.ok.kind hk hc hcell fin hcd) hd
def YL{i j pos}:PE X (.Constant (.int i) j pos) (tC (.int i)):=λ_ _ _ H _ I h=>wpAny_Constant_int ⟨.int i,H,I.tok _,⟨_,rfl⟩,h⟩
def qhw{b j pos}:PE X (.Constant (.bool b) j pos) (tC (.bl b)):=λ_ _ _ H _ I h=>Constant_bool ⟨.bl b,H,I,rfl,h⟩
def qej{j pos}:PE X (.Constant .none j pos) (tC .non):=λ_ _ _ H _ I h=>Constant_none ⟨.non,H,I,rfl,h⟩
def ZA{x j pos}:PE X (.Constant (.str x) j pos) (tC (.str x)):=λ_ _ _ H _ I h=>Calls.Constant_str ⟨.str x,H,I.tok _,⟨_,rfl⟩,h⟩
def Gl(X:Cx)(x:Str):Prop:=X.env.kindOf x=some .globalImplicit
def zi{E:PQ}{pins:PP}{s:Shared}{Z:St}{H:Hp}{x:Str}{u:Value}{pos:Pos}{Q:PQ}(I:Inv X pins Z H s)(hg:Gl X x)(hm:X.mg x=some u)(h:Q u s)
  (hd:(x == ("__debug__" : Str))=false:=by decide):wpAny (model X.prog X.w) X.A (eval (.Name x pos) X.env) Q E s:=
 Calls.Name_function_global I.ok.kind hg (Calls.loadGlobal_global (by rw[I.ok.glob];exact I.mod.glob.keeps I.bk) hm h) hd
def YM{E:PQ}{pins:PP}{s:Shared}{Z:St}{H:Hp}{x:Str}{u:Value}{pos:Pos}{Q:PQ}(I:Inv X pins Z H s)(hg:Gl X x)(hm:X.mg x=none)(hv:bootBuiltins x=some u)(h:Q u s)
  (hn:x≠"__name__":=by decide) (hd:(x == ("__debug__" : Str))=false:=by decide):wpAny (model X.prog X.w) X.A (eval (.Name x pos) X.env) Q E s:=by
 let(mb,h1,h2):=I.mod.blt;exact Calls.Name_function_global I.ok.kind hg (Calls.loadGlobal_builtin (by rw[I.ok.glob];exact I.mod.glob.keeps I.bk) hm (by rw[I.ok.blt];exact h1.keeps I.bk) ((h2 x hn).trans hv) h) hd
def yf{x:Str}{v:V}{u:Value}{pos:Pos}(hg:Gl X x)(hm:X.mg x=some u)(r:qH v u)(hd:(x == ("__debug__" : Str))=false:=by decide):PE X (.Name x pos) (tC v):=
 λ_ _ _ H _ I h=>zi I hg hm ⟨v,H,I,r,h⟩ hd
def yg{x:Str}{v:V}{u:Value}{pos:Pos}(hg:Gl X x)(hm:X.mg x=none)(hv:bootBuiltins x=some u)(r:qH v u)(hn:x≠"__name__":=by decide)(hd:(x == ("__debug__" : Str))=false:=by decide):PE X (.Name x pos) (tC v):=
 λ_ _ _ H _ I h=>YM I hg hm hv ⟨v,H,I,r,h⟩ hn hd
variable{a b:Expr}{ta tb:TE}{pos:Pos}
def tB(t:TE):TT:=λZ H Q=>t Z H λx H1=>∃c,x=.bl c/\Q c H1
def JH{e:Expr}{t:TE}(h:PE X e t)(he:∀whole,isTrue e X.env whole=(do let v<-whole;standAt e.pos;holding [v] (truthy v)):=by intro _;rfl):PT X e (tB t):=by intro pins s Z H Q I hw;refine isTrue_plain (thn (h pins s Z H _ I hw) λv s1 hz10=>?_) (he _);let(x,H1,I1,r1,q1):=hz10;let(d,rfl,q):=q1;cases r1;exact wpAny_truthy_bool ⟨H1,I1,q⟩
variable{tA tB':TT}{rest:List Expr}
def tOr(t u:TT):TT:=λZ H Q=>t Z H λc H1=>if c=true then Q true H1 else u Z H1 Q
def qmq(t:TT):TT:=λZ H Q=>t Z H λc H1=>Q (!c) H1
theorem qfc(ha:PT X a tA):PW X (.BoolOp .And [a] pos) tA:=by
 intro wh pins s Z H Q I h;refine isTrue_and (thn (ha pins s Z H Q I h) λc s1 e=>?_)
 cases c with
 |true=>exact isTrue_and_nil e
 |false=>exact e
theorem qek(ha:PT X a tA):PW X (.BoolOp .Or [a] pos) tA:=by
 intro wh pins s Z H Q I h;refine isTrue_or (thn (ha pins s Z H Q I h) λc s1 e=>?_)
 cases c with
 |false=>exact isTrue_or_nil e
 |true=>exact e
theorem qkx(ha:PT X a tA)(hb:PW X (.BoolOp .Or (b::rest) pos) tB'):PW X (.BoolOp .Or (a::b::rest) pos) (tOr tA tB'):=by
 intro wh pins s Z H Q I h;refine isTrue_or (thn (ha pins s Z H _ I h) λc s1 hq1=>?_);let(H1,I1,q1):=hq1
 cases c with
 |true=>exact⟨H1,I1,q1⟩
 |false=>exact hb wh pins s1 Z H1 Q I1 q1
def yV(ha:PT X a tA):PT X (.UnaryOp .Not a pos) (qmq tA):=by intro pins s Z H Q I h;exact isTrue_not (ha pins s Z H (λc H1=>Q (!c) H1) I h)
def qky(ta tb:TE):TE:=λZ H Q=>ta Z H λx H1=>∃c,x=.bl c/\if c=true then tb Z H1 Q else Q (.bl false) H1
def qkz(ta:TE):TE:=λZ H Q=>ta Z H λx H1=>∃c,x=.bl c/\Q (.bl (!c)) H1
def qhx{op}{t:TE}(h:PE X a t):PE X (.BoolOp op [a] pos) t:=λpins s Z H Q I hw=>BoolOp_one (h pins s Z H Q I hw)
theorem qhy(ha:PE X a ta)(hb:PE X (.BoolOp .And (b::rest) pos) tb):PE X (.BoolOp .And (a::b::rest) pos) (qky ta tb):=by
 intro pins s Z H Q I h;refine BoolOp_and (thn (ha pins s Z H _ I h) λv s1 hq1=>?_);let(x,H1,I1,r1,q1):=hq1;let(c,rfl,q1):=q1;cases r1;refine wpAny_truthy_bool ?_
 cases c with
 |true=>exact hb pins s1 Z H1 Q I1 q1
 |false=>exact{.bl false,H1,I1,rfl,q1}
def qhz(ha:PE X a ta):PE X (.UnaryOp .Not a pos) (qkz ta):=by intro pins s Z H Q I h;refine UnaryOp_ (thn (ha pins s Z H _ I h) λv s1 hq1=>?_);let(x,H1,I1,r1,q1):=hq1;let(c,rfl,q1):=q1;cases r1;exact not_of (wpAny_truthy_bool ⟨.bl (!c),H1,I1,rfl,q1⟩)
end
def SqL(K:Frag)(H:Hp)(a:Addr)(xs:List V):Prop:=
 Rd H a (.lst xs)\/
  ∃(o:Obj) (its:Array Value) (n:Nat),K.lookup a=some o/\o.cls=.type "list"/\o.dict=none/\o.data=.seq its n/\its.size<=sizeLine/\qD xs its.toList
def SqT(K:Frag)(H:Hp)(a:Addr)(xs:List V):Prop:=
 Rd H a (.tup xs)\/
  ∃(o:Obj) (its:Array Value) (n:Nat),K.lookup a=some o/\o.cls=.type "tuple"/\o.data=.seq its n/\its.size<=sizeLine/\qD xs its.toList
def qmr:Value->Option V
 |.none=>some .non
 |.bool b=>some (.bl b)
 |.int i _=>some (.int i)
 |.str x _=>some (.str x)
 |.bytes b _=>some (.byt b)
 |.float b _=>some (.flt b)
 |.ref a=>some (.ref a)
 |.type n=>some (.ty n)
 |_=>none
theorem qH.abs{x:V}{u:Value}(r:qH x u):qmr u=some x:=by
 cases x with
 |non=>cases r;rfl
 |bl _=>cases r;rfl
 |int _=>let(t,rfl):=r;rfl
 |str _=>let(t,rfl):=r;rfl
 |byt _=>let(t,rfl):=r;rfl
 |flt _=>let(t,rfl):=r;rfl
 |ref _=>cases r;rfl
 |ty _=>cases r;rfl
def qH.inj{x y:V}{u:Value}(r:qH x u)(q:qH y u):x=y:=Option.some.inj (r.abs.symm.trans q.abs)
theorem qD.inj{xs ys:List V}{us:List Value}(h:qD xs us)(k:qD ys us):xs=ys:=by
 induction h generalizing ys with
 |nil=>cases k;rfl
 |cons r t ih=>cases k with
  | cons r' t'=>rw[r.inj r',ih t']
section
variable{X:Cx}{pins:PP}{Z:St}{H:Hp}{s:Shared}{a:Addr}{xs ys:List V}
def SqL.of{K:Frag}(h:H a=some (.lst xs)):SqL K H a xs:=.inl (.inl h)
def SqT.of{K:Frag}(h:H a=some (.tup xs)):SqT K H a xs:=.inl (.inl h)
def Inv.list(I:Inv X pins Z H s)(h:SqL X.K H a xs):∃its:List Value,qD xs its/\PlainL s.heap a its.toArray/\xs.length<=sizeLine:=by
 rcases h with h|⟨o,its,n,hk,hc,hd,hs,hz,r⟩
 ·let(z,its,n,r,e):=h.ok I.hok;exact{its,r,{_,n,e,rfl,rfl,rfl},z}
 ·refine{its.toList,r,{o,n,I.kIn a o hk,hc,hd,(-hs:)},?_};have e:=r.length;simp![Array.length_toList]at e
  lia
def Inv.tuple(I:Inv X pins Z H s)(h:SqT X.K H a xs):∃its:List Value,qD xs its/\IsTup s.heap a its.toArray/\xs.length<=sizeLine:=by
 rcases h with h|⟨o,its,n,hk,hc,hs,hz,r⟩
 ·let(z,its,r,p):=h.ok I.hok;exact⟨its,r,p,z⟩
 ·refine{its.toList,r,{o,I.kIn a o hk,hc,n,(-hs:)},?_};have e:=r.length;simp![Array.length_toList]at e
  lia
def Inv.list_inj(I:Inv X pins Z H s)(h:SqL X.K H a xs)(h':SqL X.K H a ys):xs=ys:=by
 let(its,r,(o,n,e,_,_,d),_):=I.list h;let(its',r',(o',n',e',_,_,d'),_):=I.list h';rw[e]at e';cases e';rw[d]at d';injection d' with d1 _
 have:its=its':=by simpa using congrArg Array.toList d1
 subst this;exact r.inj r'
def Inv.tuple_inj(I:Inv X pins Z H s)(h:SqT X.K H a xs)(h':SqT X.K H a ys):xs=ys:=by
 let(its,r,(o,e,_,n,d),_):=I.tuple h;let(its',r',(o',e',_,n',d'),_):=I.tuple h';rw[e]at e';cases e';rw[d]at d';injection d' with d1 _
 have:its=its':=by simpa using congrArg Array.toList d1
 subst this;exact r.inj r'
end
abbrev Cx.wish(X:Cx)(E:PQ):Cx:={ X with xe:=E }
abbrev Cx.nox(X:Cx):Cx:=X.wish λ_ _=>False
def Cx.Ok.wish{X:Cx}(ok:X.Ok)(E:PQ):(X.wish E).Ok:=
 ⟨ok.mod,ok.kind,ok.glob,ok.blt,ok.above,ok.inj,ok.has,ok.cab,ok.hd,ok.frames,ok.stk,ok.exf,ok.bs,ok.bsz,ok.noex,ok.exfs,ok.funs,ok.frf⟩
def Cx.Ok.unwish{X:Cx}{E:PQ}(ok:(X.wish E).Ok):X.Ok:=
 ⟨ok.mod,ok.kind,ok.glob,ok.blt,ok.above,ok.inj,ok.has,ok.cab,ok.hd,ok.frames,ok.stk,ok.exf,ok.bs,ok.bsz,ok.noex,ok.exfs,ok.funs,ok.frf⟩
section
variable{X:Cx}{pins:PP}{Z:St}{H:Hp}{s:Shared}{E:PQ}
def Inv.wish(I:Inv X pins Z H s)(E:PQ):Inv (X.wish E) pins Z H s:={I.ok.wish E,I.os,I.bare,I.base,I.loc,I.cell,I.free,I.freeC,I.pin,I.hok,I.len}
def Inv.unwish(I:Inv (X.wish E) pins Z H s):Inv X pins Z H s:=⟨I.ok.unwish,I.os,I.bare,I.base,I.loc,I.cell,I.free,I.freeC,I.pin,I.hok,I.len⟩
theorem SP.unwish{D:Ends}{f:Flow}{s':Shared}(h:SP (X.wish E) pins D f s'):SP X pins D f s':=by
 cases f with
 |next=>let(Z',H',I,q):=h;exact⟨Z',H',I.unwish,q⟩
 |brk=>let(Z',H',I,q):=h;exact⟨Z',H',I.unwish,q⟩
 |cont=>let(Z',H',I,q):=h;exact⟨Z',H',I.unwish,q⟩
 |ret u=>let(v,Z',H',I,r,q):=h;exact⟨v,Z',H',I.unwish,r,q⟩
def PSs.nox{st:List Stmt}{t:TS}(h:PSs X.nox st t):PSs X st t:=λpins s Z H D I hw=>wpAny_mono (h pins s Z H D (I.wish _) hw) (λ_ _ q=>q.unwish) λ_ _ z=>False.elim z
end
section
variable{X:Cx}{st:Stmt}{rest:List Stmt}{t u:TS}{e:Expr}{te:TE}{pos:Pos}
def qhA:TS:=λD Z H=>D.nx Z H
def qlU(t u:TS):TS:=λD Z H=>t { D with nx:=u D } Z H
def zQ:PSs X [] qhA:=λ_ _ Z H _ I h=>wpAny_execs_nil ⟨Z,H,I,h⟩
theorem qo(h1:PS X st t)(h2:PSs X rest u):PSs X (st::rest) (qlU t u):=by
 intro pins s Z H D I h;refine wpAny_execs_cons (thn (h1 pins s Z H { D with nx:=u D } I h) λf s1 q=>?_)
 cases f with
 |next=>let(Z',H',I',q):=q;exact h2 pins s1 Z' H' D I' q
 |ret v=>exact q
 |brk=>exact q
 |cont=>exact q
theorem zd(h1:PS X st t):PSs X [st] t:=by
 intro pins s Z H D I h;refine wpAny_execs_cons (thn (h1 pins s Z H D I h) λf s1 q=>?_)
 cases f with
 |next=>exact wpAny_execs_nil q
 |ret v=>exact q
 |brk=>exact q
 |cont=>exact q
def qfd:PS X (.Pass pos) qhA:=λ_ _ Z H _ I h=>wpAny_Pass ⟨Z,H,I,h⟩
def Inv.quiet{pins:PP}{Z:St}{H:Hp}{s:Shared}(I:Inv X pins Z H s):interactive X.env=false:=by simp[interactive,I.ok.kind]
def qkA(te:TE):TS:=λD Z H=>te Z H λ_ H1=>D.nx Z H1
def zx(he:PE X e te)(hs:swapsWith e none pos.line X.env=pure false:=by rfl):PS X (.Expr e pos) (qkA te):=by intro pins s Z H D I h;refine wpAny_Expr_any (thn (he pins s Z H _ I h) λv s1 hz11=>?_) I.quiet hs;let(x,H1,I1,r1,q1):=hz11;exact⟨Z,H1,I1,q1⟩
def qms(te:TE):TS:=λD Z H=>te Z H D.rt
def ZB(he:PE X e te):PS X (.Return (some e) pos) (qms te):=by intro pins s Z H D I h;refine wpAny_Return_some (thn (he pins s Z H _ I h) λv s1 hz12=>?_);let(x,H1,I1,r1,q1):=hz12;exact⟨x,Z,H1,I1,r1,q1⟩
def qkB:TS:=λD _ H=>D.rt .non H
def qfe:PS X (.Return none pos) qkB:=λ_ _ Z H _ I h=>wpAny_Return_none ⟨.non,Z,H,I,rfl,h⟩
def qmt(c:TT)(t u:TS):TS:=λD Z H=>c Z H λb H1=>if b=true then t D Z H1 else u D Z H1
theorem YN{c:Expr}{a b:List Stmt}{tc:TT}(hc:PT X c tc)(ha:PSs X a t)(hb:PSs X b u):PS X (.If c a b pos) (qmt tc t u):=by
 intro pins s Z H D I h;refine wpAny_If (thn (hc pins s Z H _ I h) λd s1 hq1=>?_);let(H1,I1,q1):=hq1
 cases d with
 |true=>exact ha pins s1 Z H1 D I1 q1
 |false=>exact hb pins s1 Z H1 D I1 q1
def qel:TS:=λ_ _ _=>False
def jY:PS X st qel:=λ_ _ _ _ _ _ h=>h.elim
def YO{sts:List Stmt}:PSs X sts qel:=λ_ _ _ _ _ _ h=>h.elim
end
abbrev TG:=V->St->Hp->(St->Hp->Prop)->Prop
abbrev TGs:=List V->St->Hp->(St->Hp->Prop)->Prop
def PG(X:Cx)(target:Expr)(t:TG):Prop:=
 ∀(pins:PP) (s:Shared) (Z:St) (H:Hp) (v:V) (u:Value) (Q:St->Hp->Prop),Inv X pins Z H s->qH v u->t v Z H Q->
  wpAny (model X.prog X.w) X.A (assign target X.env u) (λ_ s'=>∃Z' H',Inv X pins Z' H' s'/\Q Z' H') X.xe s
def PGs(X:Cx)(ts:List Expr)(t:TGs):Prop:=
 ∀(pins:PP) (s:Shared) (Z:St) (H:Hp) (vs:List V) (us:List Value) (Q:St->Hp->Prop),Inv X pins Z H s->qD vs us->t vs Z H Q->
  wpAny (model X.prog X.w) X.A (assignInOrder ((assignEach ts X.env).map (·.2)) us) (λ_ s'=>∃Z' H',Inv X pins Z' H' s'/\Q Z' H') X.xe s
abbrev qkC:=V->V->V->Hp->(Hp->Prop)->Prop
def qlV(X:Cx)(t:qkC):Prop:=
 ∀(pins:PP) (s:Shared) (Z:St) (H:Hp) (o i v:V) (ov iv u:Value) (Q:Hp->Prop),Inv X pins Z H s->qH o ov->qH i iv->qH v u->t o i v H Q->
  wpAny (model X.prog X.w) X.A (setItem ov iv u) (λ_ s'=>∃H',Inv X pins Z H' s'/\Q H') X.xe s
section
variable{X:Cx}{pos:Pos}
def qa7(i:Nat):TG:=λv Z H Q=>Q (Z.set i (some v)) H
def qff{i:Nat}{x:Str}(hN:X.N.Nodup)(hi:X.N[i]?=some x)(hx:Loc X.env.scope x)(hf:X.fn x=true\/X.env.scope.names.lookup x=some .local:=by first|exact .inl rfl|exact .inr rfl|assumption):PG X (.Name x pos) (qa7 i):=by intro pins s Z H v u Q I r h;exact wpAny_assign_Name (Zz I hN hi hx r (λs' I'=>{_,H,I',h}) hf)
def qmu:TGs:=λvs Z H Q=>vs=[]/\Q Z H
def qkD(t:TG)(u:TGs):TGs:=λvs Z H Q=>∃v r,vs=v::r/\t v Z H λZ' H'=>u r Z' H' Q
def qfg:PGs X [] qmu:=by intro pins s Z H vs us Q I r h;let(e,h):=h;subst e;cases r;exact assignInOrder_nil ⟨Z,H,I,h⟩
theorem qcX{e:Expr}{es:List Expr}{t:TG}{u:TGs}(h1:PG X e t)(h2:PGs X es u)
  (hs:(assignEach (e::es) X.env).map (·.2)=assign e X.env::(assignEach es X.env).map (·.2):=by rfl):PGs X (e::es) (qkD t u):=by
 intro pins s Z H vs us Q I r h;let(v,vr,e1,h):=h;subst e1
 cases r with
 |cons r rr=>rw[hs];refine assignInOrder_cons (thn (h1 pins s Z H _ _ _ I r h) λ_ s1 hq1=>?_);let(Z1,H1,I1,q1):=hq1;exact h2 pins s1 Z1 H1 _ _ Q I1 rr q1
def qmv(K:Frag)(n:Nat)(t:TGs):TG:=λv Z H Q=>∃a xs,v=.ref a/\SqT K H a xs/\xs.length=n/\t xs Z H Q
def qhB{es:List Expr}{k:Nat}{t:TGs}{n:Nat}(hc:X.calm=true)(h:PGs X es t)
  (hn:(assignEach es X.env).length=n:=by rfl) (hst:(assignEach es X.env).findIdx? (·.1)=none:=by rfl):PG X (.Tuple es k pos) (qmv X.K n t):=by
 intro pins s Z H v u Q I r hw;let(a,xs,e1,hq,hl,hw):=hw;subst e1;cases r;let(its,rv,ht,hz):=I.tuple hq;refine assign_Tuple_tuple (I.ok.hd hc) ht (by simp[hn,<-hl,rv.length]) hst λh' hx=>?_;have I1:Inv X pins Z H { s with heap:=h' }:=I.kept (t':=s.toks) λb o e=>hx b o (Nat.ne_of_lt (Heap.lt_size e)) e;exact h pins _ Z H xs _ Q I1 (-rv:) hw
def qmw(to ti:TE)(t:qkC):TG:=λv Z H Q=>to Z H λo H1=>ti Z H1 λi H2=>t o i v H2 λH3=>Q Z H3
def qhC{o i:Expr}{to ti:TE}{t:qkC}(ho:PE X o to)(hi:PE X i ti)(hs:qlV X t)
  (ha:∀v,assign (.Subscript o i pos) X.env v=(do
   let ov<-holding [v] (eval o X.env)
   let iv<-holding [v,ov] (eval i X.env)
   standAt pos
   holding [v,ov,iv] (setItem ov iv v)
   release [v,ov,iv] []):=by intro _;rfl):PG X (.Subscript o i pos) (qmw to ti t):=by
 intro pins s Z H v u Q I r h;rw[ha];refine wpAny_bind (wpAny_holding (thn (ho pins s Z H _ I h) λov s1 hq1=>?_));let(x,H1,I1,r1,q1):=hq1;refine wpAny_bind (wpAny_holding (thn (hi pins s1 Z H1 _ I1 q1) λiv s2 hq1=>?_));let(y,H2,I2,r2,q2):=hq1;refine wpAny_bind (wpAny_standAt (wpAny_bind (wpAny_holding (thn (hs pins s2 Z H2 x y v ov iv u _ I2 r1 r2 r q2) λ_ s3 hq1=>?_))));let(H3,I3,q3):=hq1;exact wpAny_release ⟨Z,H3,I3,q3⟩
def qkf(te:TE)(g:TG):TS:=λD Z H=>te Z H λx H1=>g x Z H1 D.nx
def qem{tg e:Expr}{te:TE}{g:TG}(he:PE X e te)(hg:PG X tg g)(hs:swapsWithSole [tg] e pos.line X.env=pure false:=by rfl)(hw:swappedStores [tg] e X.env=pure none:=by rfl)
  (h1:(assignEach [tg] X.env).map (·.2)=[assign tg X.env]:=by rfl):PS X (.Assign [tg] e pos) (qkf te g):=by
 intro pins s Z H D I h;refine wpAny_Assign_stores (thn (he pins s Z H _ I h) λv s1 hz13=>?_) hs hw;let(x,H1,I1,r1,q1):=hz13;rw[h1];exact thn (hg pins s1 Z H1 x v _ I1 r1 q1) λ_ s2 q=>q
def YQ{i:Nat}{x:Str}{e:Expr}{te:TE}{pos':Pos}(hN:X.N.Nodup)(hi:X.N[i]?=some x)(hx:Loc X.env.scope x)(he:PE X e te)(hs:swapsWith e (some (.Name x pos')) pos.line X.env=pure false:=by rfl)(hf:X.fn x=true\/X.env.scope.names.lookup x=some .local:=by first|exact .inl rfl|exact .inr rfl|assumption) :
  PS X (.Assign [.Name x pos'] e pos) (qkf te (qa7 i)):=by
 intro pins s Z H D I h;refine wpAny_Assign_Name (thn (he pins s Z H _ I h) λv s1 hz14=>?_) hs;let(y,H1,I1,r1,q1):=hz14;exact Zz I1 hN hi hx r1 (λs2 I2=>{_,H1,I2,q1}) hf
end
structure It where
 go:Nat->Hp->Prop
 yld:Nat->Hp->V->Hp->Prop
 stop:Nat->Hp->Prop
def qaq(X:Cx)(pins:PP)(H:Hp)(b:Addr):Prop:=
 H b=none/\b≠X.env.locals/\b∉X.fs/\(b∈X.ex\/X.s₀.heap.objs.size<=b)/\(∀x c,X.env.cells.lookup x=some c->c≠b)/\∀p∈X.pn++pins,p.1≠b
def Inv.fpOk{X:Cx}{pins:PP}{Z:St}{H H':Hp}{s:Shared}{b:Addr}(I:Inv X pins Z H s)(hb:s.heap.objs.size<=b)(hn:H' b=none):qaq X pins H' b:=by
 refine{hn,Nat.ne_of_gt (Nat.lt_of_lt_of_le I.lt hb),I.nofs hb,.inr (Nat.le_trans I.sz hb),λx c e z=>?_,λp hp z=>?_}
 ·let(v,q):=I.cell x c e;exact absurd (Nat.lt_of_lt_of_le q.lt (by rw[z];exact hb)) (Nat.lt_irrefl _)
 ·exact absurd (Nat.lt_of_lt_of_le (Heap.lt_size (I.pin p hp).1) (by rw[z];exact hb)) (Nat.lt_irrefl _)
structure Turn(P:Program)(w:World)(K:Frag)(tg:Expr)(J:It)(fp:List Addr)(it:Addr)(tn:Nat->Heap->Prop):Prop where
 mem:it∈fp
 obj:∀i h,tn i h->∀b∈fp,∃o,h.get? b=some o/\∀v,o.data≠.cell v
 keep:∀i h h',tn i h->(∀b∈fp,∀o,h.get? b=some o->h'.get? b=some o)->tn i h'
 item:∀(X:Cx),X.prog=P->X.w=w->X.K=K->X.calm=true->∀(i:Nat) (pins:PP) (s:Shared) (Z:St) (H:Hp) (E:PQ),Inv X pins Z H s->(∀b∈fp,qaq X pins H b)->tn i s.heap->J.go i H->
  wpAny (model P w) X.A (pyNext (.ref it)) (λr s1=>∃u,r=some u/\
   wpAny (model P w) X.A (letOwnedTupleGo tg (.ref it) u) (λ_ s2=>∃x H',Inv X pins Z H' s2/\qH x u/\J.yld i H x H'/\tn (i+1) s2.heap/\∀b∈fp,H' b=none) E s1) E s
 done:∀(X:Cx),X.prog=P->X.w=w->X.K=K->X.calm=true->∀(i:Nat) (pins:PP) (s:Shared) (Z:St) (H:Hp) (E:PQ),Inv X pins Z H s->(∀b∈fp,qaq X pins H b)->tn i s.heap->J.stop i H->
  wpAny (model P w) X.A (pyNext (.ref it)) (λr s1=>r=none/\Inv X pins Z H s1) E s
 self:∀(A:Around) (i:Nat) (s:Shared) (Q:PQ) (E:PQ),tn i s.heap->Q (.ref it) s->wpAny (model P w) A (pyIter (.ref it)) Q E s
abbrev TI:=St->Hp->(It->Hp->Prop)->Prop
def PIE(X:Cx)(pins:PP)(Z:St)(tg:Expr)(R:It->Hp->Prop)(itv:Value)(s2:Shared):Prop:=
 ∃(it:Addr) (fp:List Addr) (tn:Nat->Heap->Prop) (J:It) (H':Hp),itv=.ref it/\Inv X pins Z H' s2/\Turn X.prog X.w X.K tg J fp it tn/\tn 0 s2.heap/\(∀b∈fp,qaq X pins H' b)/\R J H'
def PI(X:Cx)(tg iter:Expr)(wi:TI):Prop:=
 ∀(pins:PP) (s:Shared) (Z:St) (H:Hp) (R:It->Hp->Prop),Inv X pins Z H s->wi Z H R->
  wpAny (model X.prog X.w) X.A (eval iter X.env) (λv s1=>wpAny (model X.prog X.w) X.A (pyIter v) (PIE X pins Z tg R) X.xe s1) X.xe s
def qcY{M:Model}{A:Around}{E:PQ}{s:Shared}{tg:Expr}{it:Addr}{u:Value}{o:Obj}{n:String}{vs:Array Value}{Q:Unit->Shared->Prop}(ho:s.heap.get? it=some o)(hc:o.cls=.type n)(hd:o.data=.fields vs)
  (hn:["enumerate","zip","dict_itemiterator","dict_reverseitemiterator","odict_iterator","itertools.zip_longest","itertools.pairwise"].contains n=false) (hQ:Q () s):wpAny M A (letOwnedTupleGo tg (.ref it) u) Q E s:=by
 unfold letOwnedTupleGo
 cases tg<;>first
  | exact wpAny_pure hQ
  | (cases u<;>first
    | exact wpAny_pure hQ
    | (refine wpAny_bind (wpAny_load ho ?_)
       rw[hc,hd];show wpAny M A (if (["enumerate","zip","dict_itemiterator","dict_reverseitemiterator","odict_iterator","itertools.zip_longest","itertools.pairwise"].contains n&&vs[0]? == some (rawInt _))=true then _ else _) Q E s;rw[if_neg (by intro h;rw[hn,Bool.false_and]at h;cases h)];exact wpAny_pure hQ))
def Itl(K:Frag)(a:Addr):It:=
 ⟨λi H=>∃xs x,SqL K H a xs/\xs[i]?=some x,λi H x H'=>H'=H/\∀xs,SqL K H a xs->xs[i]?=some x,λi H=>∃xs,SqL K H a xs/\xs.length<=i⟩
def Itt(K:Frag)(a:Addr):It:=
 ⟨λi H=>∃xs x,SqT K H a xs/\xs[i]?=some x,λi H x H'=>H'=H/\∀xs,SqT K H a xs->xs[i]?=some x,λi H=>∃xs,SqT K H a xs/\xs.length<=i⟩
def Itr(lo:Int)(n:Nat):It:={λi _=>i < n,λi H x H'=>H'=H/\x=.int (lo+i),λi _=>n<=i}
def qa8{P:Program}{w:World}{K:Frag}{tg:Expr}(a it:Addr):Turn P w K tg (Itl K a) [it] it (λi h=>h.IsListIter it a i) where
 mem:=by simp
 obj:=λi h st b hb=>by
  have e:b=it:=(-hb:)
  subst e;let(o,e,c,d):=st;exact{o,e,λv z=>by rw[d]at z;cases z}
 keep:=λi h h' st k=>st.at λo e=>k it (5:) o e
 item:=by intro X hP hw hK hc i pins s Z H E I hf st hg;subst hP hw hK;let(xs,x,hq,hx):=hg;let(its,rv,p,hz):=I.list hq;let(u,hu,ru):=rv.get hx;let(f0,f1,f2,f3,f4,f5):=hf it (5:);refine wpAny_pyNext_list_item st p.isList (x:=u) (-hu:) λh' st' sb=>?_;have I1:Inv X pins Z H { s with heap:=h' }:=I.turned (t':=s.toks) (λb o hb e=>(sb.2 b hb).trans e) f0 f1 f3 f4 f5;let(o,e,c,d):=id st';exact{u,rfl,qcY (s:={ s with heap:=h' }) e c d (2:) ⟨x,H,I1,ru,⟨rfl,λys hy=>by rw[I.list_inj hy hq];exact hx⟩,st',λb hb=>(hf b hb).1⟩}
 done:=by intro X hP hw hK hc i pins s Z H E I hf st hg;subst hP hw hK;let(xs,hq,hx):=hg;let(its,rv,p,hz):=I.list hq;let(f0,f1,f2,f3,f4,f5):=hf it (5:);have hl:=rv.length;exact wpAny_pyNext_list_end (I.ok.hd hc) st p.isList (by simp;lia) λh' eb=>{rfl,I.turned (t':=s.toks) (λb o hb e=>eb b o hb e) f0 f1 f3 f4 f5}
 self:=λ_ _ _ _ _ st h=>wpAny_pyIter_listiter st h
def qar{P:Program}{w:World}{K:Frag}{tg:Expr}(a it:Addr):Turn P w K tg (Itt K a) [it] it (λi h=>h.IsTupleIter it a i) where
 mem:=by simp
 obj:=λi h st b hb=>by
  have e:b=it:=(-hb:)
  subst e;let(o,e,c,d):=st;exact{o,e,λv z=>by rw[d]at z;cases z}
 keep:=λi h h' st k=>st.at λo e=>k it (5:) o e
 item:=by intro X hP hw hK hc i pins s Z H E I hf st hg;subst hP hw hK;let(xs,x,hq,hx):=hg;let(its,rv,p,hz):=I.tuple hq;let(u,hu,ru):=rv.get hx;let(f0,f1,f2,f3,f4,f5):=hf it (5:);refine wpAny_pyNext_tuple_item st (show s.heap.IsTuple a its.toArray from p) (x:=u) (-hu:) λh' st' sb=>?_;have I1:Inv X pins Z H { s with heap:=h' }:=I.turned (t':=s.toks) (λb o hb e=>(sb.2 b hb).trans e) f0 f1 f3 f4 f5;let(o,e,c,d):=id st';exact{u,rfl,qcY (s:={ s with heap:=h' }) e c d (2:) ⟨x,H,I1,ru,⟨rfl,λys hy=>by rw[I.tuple_inj hy hq];exact hx⟩,st',λb hb=>(hf b hb).1⟩}
 done:=by intro X hP hw hK hc i pins s Z H E I hf st hg;subst hP hw hK;let(xs,hq,hx):=hg;let(its,rv,p,hz):=I.tuple hq;let(f0,f1,f2,f3,f4,f5):=hf it (5:);have hl:=rv.length;exact wpAny_pyNext_tuple_end (I.ok.hd hc) st (show s.heap.IsTuple a its.toArray from p) (by simp;lia) λh' eb=>{rfl,I.turned (t':=s.toks) (λb o hb e=>eb b o hb e) f0 f1 f3 f4 f5}
 self:=λ_ _ _ _ _ st h=>wpAny_pyIter_tupleiter st h
def qas{P:Program}{w:World}{K:Frag}{tg:Expr}(it:Addr)(lo:Int)(n:Nat):Turn P w K tg (Itr lo n) [it] it (λi h=>IsRangeIter h it (lo+(i:Nat) * 1) ((n:Int) - (i:Nat)) 1) where
 mem:=by simp
 obj:=λi h st b hb=>by
  have e:b=it:=(-hb:)
  subst e
  exact{_,st,λv z=>by have z':Data.fields _=Data.cell v:=z;cases z'}
 keep:=λi h h' st k=>k it (5:) _ st
 item:=by intro X hP hw hK hc i pins s Z H E I hf st hg;subst hP hw hK;let(f0,f1,f2,f3,f4,f5):=hf it (5:);have W:=Walks.range (prog:=X.prog) (w:=X.w) (I.ok.hd hc) it lo 1 n;refine W.item i s _ _ hg st λv h' tk hv st' kk=>?_;let(t,rfl):=hv;have I1:Inv X pins Z H { s with heap:=h',toks:=tk }:=I.turned (λb o hb e=>kk b o (-hb:) e) f0 f1 f3 f4 f5;refine{_,rfl,qcY (s:={ s with heap:=h',toks:=tk }) (n:="range_iterator") st' rfl rfl (2:) ⟨.int (lo+i),H,I1,⟨t,?_⟩,⟨rfl,rfl⟩,st',λb hb=>(hf b hb).1⟩};rw[Int.mul_one]
 done:=by intro X hP hw hK hc i pins s Z H E I hf st hg;subst hP hw hK;let(f0,f1,f2,f3,f4,f5):=hf it (5:);exact wpAny_pyNext_range_end (I.ok.hd hc) st (by have:n<=i:=hg;lia) λh' eb=>{rfl,I.turned (t':=s.toks) (λb o hb e=>eb b o hb e) f0 f1 f3 f4 f5}
 self:=λ_ _ _ _ _ st h=>wpAny_pyIter_rangeiter st h
section
variable{X:Cx}{tg:Expr}
def qcZ{pins:PP}{Z:St}{H:Hp}{s:Shared}{R:It->Hp->Prop}{E:PQ}{lo hi:Int}{t u v:Tok}{tk:Nat}(I:Inv X pins Z H s)(h1:-(2 ^ 62)<=lo)(h2:lo < 2 ^ 62)(h3:-(2 ^ 62)<=hi)(h4:hi < 2 ^ 62)
  (q:R (Itr lo (hi - lo).toNat) H):wpAny (model X.prog X.w) X.A (pyIter (.ref s.heap.objs.size)) (PIE X pins Z tg R) E { s with heap:=s.heap.push { cls:=.type "range",data:=.fields #[.int lo t,.int hi u,.int 1 v] },toks:=tk }:=by
 refine wpAny_pyIter_range (IsRange.new ..) (small_one h1 h2 h3 h4) ?_;have I1:Inv X pins Z H { s with heap:=s.heap.push { cls:=.type "range",data:=.fields #[.int lo t,.int hi u,.int 1 v] },toks:=tk }:=I.kept λb o e=>Heap.get?_push_of_some _ e
 refine{(s.heap.push { cls:=.type "range",data:=.fields #[.int lo t,.int hi u,.int 1 v] }).objs.size,[(s.heap.push { cls:=.type "range",data:=.fields #[.int lo t,.int hi u,.int 1 v] }).objs.size],_,_,H,rfl,
  I1.kept (t':=tk) λb o e=>Heap.get?_push_of_some _ e,qas _ lo (hi - lo).toNat,?_,λb hb=>?_,q}
 ·have e1:lo+((0:Nat):Int) * 1=lo:=by simp
  have e2:(((hi - lo).toNat:Nat):Int) - ((0:Nat):Int)=Builtin.Range.rangeSize lo hi 1:=by rw[rangeSize_one];split<;>lia
  show IsRangeIter _ _ (lo+((0:Nat):Int) * 1) ((((hi - lo).toNat:Nat):Int) - ((0:Nat):Int)) 1;rw[e1,e2];exact Heap.get?_push_size _ rfl
 ·have e:b=(s.heap.push { cls:=.type "range",data:=.fields #[.int lo t,.int hi u,.int 1 v] }).objs.size:=(-hb:)
  subst e;exact I1.fpOk (Nat.le_refl _) (I1.hok.fresh (Nat.le_refl _))
def qkE(ta:TA):TI:=λZ H R=>ta Z H λvs H1=>∃j:Int,vs=[.int j]/\-(2 ^ 62)<=j/\j < 2 ^ 62/\R (Itr 0 j.toNat) H1
theorem qa9{a:Expr}{ta:TA}{p pos:Pos}(hg:Gl X "range")(hm:X.mg "range" = none)(ha:PA X [a] ta)(hs:starEach [a] X.env=[(false,eval a X.env)]:=by rfl):PI X tg (.Call (.Name "range" p) [a] [] pos) (qkE ta):=by
 intro pins s Z H R I h;refine Call_ (YM I hg hm boot_range (PyProof.Rows.callWith_type1 (thn (ha pos pins s Z H _ I h) λus s1 hz17=>?_) hs rfl));let(vs,H1,I1,r1,q1):=hz17;let(j,e,q1,q2,q):=q1;subst e
 cases r1 with
 |cons r rr=>cases rr;let(t,rfl):=r;exact call_range_1 (qcZ I1 (1:) (1:) q1 q2 (-q:))
def qmx(wi:TI)(g:TG)(tb:TS):TS:=λD Z H=>wi Z H λJ H1=>∃W:Nat->Nat->St->Hp->Prop,(∃m,W 0 m Z H1)/\∀i m Z H,W i m Z H->
 (J.stop i H/\D.nx Z H)\/(J.go i H/\∃N:St->Hp->Prop,(∀Z' H',N Z' H'->∃m',m' < m/\W (i+1) m' Z' H')/\∀x H',J.yld i H x H'->g x Z H' λZ2 H2=>tb { D with nx:=N,ct:=N,bk:=D.nx } Z2 H2)
def YR(fp:List Addr)(h:Heap):List (Addr×Obj):=fp.filterMap λb=>(h.get? b).map λo=>(b,o)
def jv{fp:List Addr}{h:Heap}{b:Addr}{o:Obj}(hb:b∈fp)(e:h.get? b=some o):(b,o)∈YR fp h:=List.mem_filterMap.mpr ⟨b,hb,by rw[e];rfl⟩
theorem qba{fp:List Addr}{h:Heap}{p:Addr×Obj}(hp:p∈YR fp h):p.1∈fp/\h.get? p.1=some p.2:=by
 let(b,hb,e):=List.mem_filterMap.mp hp
 cases q:h.get? b with
 |none=>rw[q]at e;cases e
 |some o=>rw[q]at e;have e':(b,o)=p:=Option.some.inj e;subst e';exact⟨hb,q⟩
def Inv.pinned{pins:PP}{Z:St}{H:Hp}{s:Shared}{fp:List Addr}(I:Inv X pins Z H s)(hf:∀b∈fp,qaq X pins H b)(ho:∀b∈fp,∃o,s.heap.get? b=some o/\∀v,o.data≠.cell v):Inv X (pins++YR fp s.heap) Z H s:=
 I.pins_of λp hp=>(List.mem_append.mp hp).elim (λz=>I.pin p (List.mem_append_right _ z)) λz=>by let(hb,e):=qba z;let(f0,f1,f2,_):=hf p.1 hb;let(o,e',d):=ho p.1 hb;rw[e]at e';cases e';exact⟨e,f0,f1,f2,d⟩
def Inv.unpinned{pins pl:PP}{Z:St}{H:Hp}{s:Shared}(I:Inv X (pins++pl) Z H s):Inv X pins Z H s:=I.pins_of λp hp=>I.pin p (List.mem_append_right _ (List.mem_append_left _ hp))
def qhD{iter:Expr}{body:List Stmt}{wi:TI}{g:TG}{tb:TS}{pos:Pos}(hp:PassesOwn (model X.prog X.w) X.A X.env X.xe)(hc:X.calm=true)(hi:PI X tg iter wi)(hg:PG X tg g)(hb:PSs X body tb)
  (hs:∀x,foldedSetIterable iter X.env x=pure x:=by intro _;rfl):PS X (.For tg iter body [] pos) (qmx wi g tb):=by
 intro pins s Z H D I h;refine wpAny_For (thn (hi pins s Z H _ I h) λv s1 h1=>thn h1 λitv s2 h2=>?_) hs;let(it,fp,tn,J,H2,e,I2,T,st2,f2,W,(m0,w0),turn):=h2;subst e;have stat:∀{H':Hp},(∀b∈fp,H' b=none)->∀b∈fp,qaq X pins H' b:=λhn b hb=>{hn b hb,(f2 b hb).2};refine codeAny_forLoop_any (λn s'=>∃i Z' H',Inv X pins Z' H' s'/\tn i s'.heap/\(∀b∈fp,H' b=none)/\W i n Z' H') ?_ m0 ⟨0,Z,H2,I2,st2,λb hb=>(f2 b hb).1,w0⟩;rintro n s3 ⟨i,Z3,H3,I3,st3,fr3,w3⟩;rcases turn i n Z3 H3 w3 with ⟨stop,qn⟩|⟨go,N,hN,step⟩
 ·refine wpAny_passesOwn hp (thn (T.done X rfl rfl rfl hc i pins s3 Z3 H3 X.xe I3 (stat fr3) st3 stop) λr s4 hq1=>?_);let(hr,I4):=hq1;subst hr;exact wpAny_execs_nil ⟨Z3,H3,I4,qn⟩
 ·refine wpAny_passesOwn hp (thn (T.item X rfl rfl rfl hc i pins s3 Z3 H3 X.xe I3 (stat fr3) st3 go) λr s4 hq1=>?_);let(u,hr,h4):=hq1;subst hr;refine wpAny_passesOwn hp (thn h4 λ_ s5 hq1=>?_);let(x,H5,I5,r5,y5,st5,fr5):=hq1;have I5':=I5.pinned (stat fr5) (T.obj _ _ st5);refine wpAny_passesOwn hp (thn (hg _ s5 Z3 H5 x u _ I5' r5 (step x H5 y5)) λ_ s6 hq1=>?_);let(Z6,H6,I6,q6):=hq1;refine wpAny_passesOwn hp (thn (hb _ s6 Z6 H6 _ I6 q6) λf s7 q7=>?_)
  have again:∀{Z7:St} {H7:Hp},Inv X (pins++YR fp s5.heap) Z7 H7 s7->N Z7 H7->∃m,m < n/\∃i Z' H',Inv X pins Z' H' s7/\tn i s7.heap/\(∀b∈fp,H' b=none)/\W i m Z' H':=λ{Z7 H7} I7 n7=>by let(m',hm,w7):=hN Z7 H7 n7;refine{m',hm,i+1,Z7,H7,I7.unpinned,T.keep _ _ _ st5 λb hb o e=>(I7.pin (b,o) (List.mem_append_right _ (List.mem_append_right _ (jv hb e)))).1,λb hb=>?_,w7};let(o,e,d):=T.obj _ _ st5 b hb;exact(I7.pin (b,o) (List.mem_append_right _ (List.mem_append_right _ (jv hb e)))).2.1
  cases f with
  |next=>let(Z7,H7,I7,n7):=q7;exact again I7 n7
  |cont=>let(Z7,H7,I7,n7):=q7;exact again I7 n7
  |brk=>let(Z7,H7,I7,q7):=q7;exact⟨Z7,H7,I7.unpinned,q7⟩
  |ret v=>let(x7,Z7,H7,I7,r7,q7):=q7;exact⟨x7,Z7,H7,I7.unpinned,r7,q7⟩
end
abbrev R2:=V->V->Hp->VK->Prop
def OpR(X:Cx)(f:Value->Value->Sem Value)(r:R2):Prop:=
 ∀(pins:PP) (s:Shared) (Z:St) (H:Hp) (x y:V) (v u:Value) (Q:VK),Inv X pins Z H s->qH x v->qH y u->r x y H Q->
  wpAny (model X.prog X.w) X.A (f v u) (EP X pins Z Q) X.xe s
def UnR(X:Cx)(f:Value->Sem Value)(r:V->Hp->VK->Prop):Prop:=
 ∀(pins:PP) (s:Shared) (Z:St) (H:Hp) (x:V) (v:Value) (Q:VK),Inv X pins Z H s->qH x v->r x H Q->
  wpAny (model X.prog X.w) X.A (f v) (EP X pins Z Q) X.xe s
def zy(X:Cx)(f:Value)(r:List V->Hp->VK->Prop):Prop:=
 ∀(pins:PP) (s:Shared) (Z:St) (H:Hp) (xs:List V) (us:List Value) (Q:VK),Inv X pins Z H s->qD xs us->r xs H Q->
  wpAny (model X.prog X.w) X.A (call f us) (EP X pins Z Q) X.xe s
def qmy(X:Cx)(r:V->Hp->(Bool->Hp->Prop)->Prop):Prop:=
 ∀(pins:PP) (s:Shared) (Z:St) (H:Hp) (x:V) (v:Value) (Q:Bool->Hp->Prop),Inv X pins Z H s->qH x v->r x H Q->
  wpAny (model X.prog X.w) X.A (truthy v) (TP X pins Z Q) X.xe s
def tOp(r:R2)(ta tb:TE):TE:=λZ H Q=>ta Z H λx H1=>tb Z H1 λy H2=>r x y H2 Q
def tUn(r:V->Hp->VK->Prop)(ta:TE):TE:=λZ H Q=>ta Z H λx H1=>r x H1 Q
def rI(C:Int->Int->Prop)(g:Int->Int->V):R2:=λx y H Q=>∃i j,x=.int i/\y=.int j/\C i j/\Q (g i j) H
def rI0(g:Int->Int->V):R2:=λx y H Q=>∃i j,x=.int i/\y=.int j/\Q (g i j) H
def rU(g:Int->V):V->Hp->VK->Prop:=λx H Q=>∃i,x=.int i/\Q (g i) H
section
variable{X:Cx}{a b c:Expr}{ta tb tc:TE}{pos:Pos}
def qkF(ha:PE X a ta)(hb:PE X b tb){pins:PP}{s:Shared}{Z:St}{H:Hp}{R:V->V->Hp->Prop}(I:Inv X pins Z H s)
  (h:ta Z H λx H1=>tb Z H1 λy H2=>R x y H2) {Q:PQ} {f:Value->Value->Sem Value}
  (hf:∀v u s2 x y H2,Inv X pins Z H2 s2->qH x v->qH y u->R x y H2->wpAny (model X.prog X.w) X.A (f v u) Q X.xe s2) :
  wpAny (model X.prog X.w) X.A (eval a X.env) (λv s₁=>wpAny (model X.prog X.w) X.A (eval b X.env) (λu s₂=>wpAny (model X.prog X.w) X.A (f v u) Q X.xe s₂) X.xe s₁) X.xe s:=by
 refine thn (ha pins s Z H _ I h) λv s1 hq1=>?_;let(x,H1,I1,r1,q1):=hq1;refine thn (hb pins s1 Z H1 _ I1 q1) λu s2 hq1=>?_;let(y,H2,I2,r2,q2):=hq1;exact hf v u s2 x y H2 I2 r1 r2 q2
def qkG{op:Operator}{r:R2}(ho:OpR X (binaryOp op) r)(ha:PE X a ta)(hb:PE X b tb):PE X (.BinOp a op b pos) (tOp r ta tb):=by intro pins s Z H Q I h;exact wpAny_BinOp (qkF ha hb I h λv u s2 x y H2 I2 rx ry q=>ho pins s2 Z H2 x y v u Q I2 rx ry q)
def qkH{op:UnaryOp}{r:V->Hp->VK->Prop}(ho:UnR X (unaryOp op) r)(ha:PE X a ta):PE X (.UnaryOp op a pos) (tUn r ta):=by intro pins s Z H Q I h;refine UnaryOp_ (thn (ha pins s Z H _ I h) λv s1 hz18=>?_);let(x,H1,I1,r1,q1):=hz18;exact ho pins s1 Z H1 x v Q I1 r1 q1
def opI{f:Value->Value->Sem Value}{C:Int->Int->Prop}{g:Int->Int->Int}
  (rule:∀(i j:Int) (t u:Tok) (s:Shared) (Q:PQ) (E:PQ),C i j->Q (.int (g i j) s.toks) { s with toks:=s.toks+1 }->wpAny (model X.prog X.w) X.A (f (.int i t) (.int j u)) Q E s) :
  OpR X f (rI C λi j=>.int (g i j)):=by
 intro pins s Z H x y v u Q I rx ry h;let(i,j,rfl,rfl,hc,q):=h;let(t,rfl):=rx;let(t',rfl):=ry;exact rule i j t t' s _ _ hc ⟨.int (g i j),H,I.tok _,⟨_,rfl⟩,q⟩
def qlW{f:Value->Value->Sem Value}{g:Int->Int->Int}
  (rule:∀(i j:Int) (t u:Tok) (s:Shared) (Q:PQ) (E:PQ),Q (.int (g i j) s.toks) { s with toks:=s.toks+1 }->wpAny (model X.prog X.w) X.A (f (.int i t) (.int j u)) Q E s) :
  OpR X f (rI0 λi j=>.int (g i j)):=by
 intro pins s Z H x y v u Q I rx ry h;let(i,j,rfl,rfl,q):=h;let(t,rfl):=rx;let(t',rfl):=ry;exact rule i j t t' s _ _ ⟨.int (g i j),H,I.tok _,⟨_,rfl⟩,q⟩
def qkg{f:Value->Value->Sem Value}{g:Int->Int->Bool}
  (rule:∀(i j:Int) (t u:Tok) (s:Shared) (Q:PQ) (E:PQ),Q (.bool (g i j)) s->wpAny (model X.prog X.w) X.A (f (.int i t) (.int j u)) Q E s) :
  OpR X f (rI0 λi j=>.bl (g i j)):=by
 intro pins s Z H x y v u Q I rx ry h;let(i,j,rfl,rfl,q):=h;let(t,rfl):=rx;let(t',rfl):=ry;exact rule i j t t' s _ _ ⟨.bl (g i j),H,I,rfl,q⟩
def qkI(i j:Int):Prop:=j≠0/\j.natAbs < 1073741824
def qmz(i j:Int):Prop:=0<=j/\j<=1000000/\i.natAbs < 2 ^ 64
def qkh(i j:Int):Prop:=(-(2 ^ 64) < i/\i < 2 ^ 64)\/(-(2 ^ 64) < j/\j < 2 ^ 64)
def qkh.ok{i j:Int}(h:qkh i j):IntMulOk i j:=by
 rcases h with ⟨h1,h2⟩|⟨h1,h2⟩
 ·exact .of_left (intBits_le_64 h1 h2)
 ·exact .of_right (intBits_le_64 h1 h2)
def qhE:OpR X (binaryOp .Add) (rI0 λi j=>.int (i+j)):=qlW λ_ _ _ _ _ _ _ q=>add_int q
def qhF:OpR X (binaryOp .Sub) (rI0 λi j=>.int (i - j)):=qlW λ_ _ _ _ _ _ _ q=>sub_int q
def qhG:OpR X (binaryOp .Mult) (rI qkh λi j=>.int (i * j)):=opI λ_ _ _ _ _ _ _ hc q=>mul_int q hc.ok
def qc0:OpR X (binaryOp .FloorDiv) (rI qkI λi j=>.int (i.fdiv j)):=opI λ_ _ _ _ _ _ _ hc q=>floordiv_int hc.1 q (.inl (PyProof.noPylong_small hc.2))
def qfh:OpR X (binaryOp .Mod) (rI (λ_ j=>j≠0) λi j=>.int (i.fmod j)):=opI λ_ _ _ _ _ _ _ hc q=>mod_int' hc q
def qhH:OpR X (binaryOp .Pow) (rI qmz λi j=>.int (i ^ j.toNat)):=opI λ_ _ _ _ _ _ _ hc q=>pow_int_small hc.1 hc.2.1 hc.2.2 q
def unI{f:Value->Sem Value}{g:Int->Int}
  (rule:∀(i:Int) (t:Tok) (s:Shared) (Q:PQ) (E:PQ),Q (.int (g i) s.toks) { s with toks:=s.toks+1 }->wpAny (model X.prog X.w) X.A (f (.int i t)) Q E s) :
  UnR X f (rU λi=>.int (g i)):=by
 intro pins s Z H x v Q I rx h;let(i,rfl,q):=h;let(t,rfl):=rx;exact rule i t s _ _ ⟨.int (g i),H,I.tok _,⟨_,rfl⟩,q⟩
def qhI:UnR X (unaryOp .USub) (rU λi=>.int (-i)):=unI λ_ _ _ _ _ q=>neg_int q
def ZC{pins:PP}{Z:St}{H:Hp}{s:Shared}{Q:VK}{k k':Bool}(I:Inv X pins Z H s)(q:Q (.bl k) H)(e:k=k'):EP X pins Z Q (.bool k') s:=by subst e;exact{.bl k,H,I,rfl,q}
def qkJ:OpR X (compareOp .Lt) (rI0 λi j=>.bl (decide (i < j))):=qkg λ_ _ _ _ _ _ _ q=>lt_int q
def qkK:OpR X (compareOp .LtE) (rI0 λi j=>.bl (decide (i<=j))):=qkg λ_ _ _ _ _ _ _ q=>le_int q
def qkL:OpR X (compareOp .Gt) (rI0 λi j=>.bl (decide (j < i))):=qkg λ_ _ _ _ _ _ _ q=>gt_int q
def qkM:OpR X (compareOp .GtE) (rI0 λi j=>.bl (decide (j<=i))):=qkg λ_ _ _ _ _ _ _ q=>ge_int q
def qbb:OpR X (compareOp .In) (λx y H Q=>∃i j,x=.str i/\y=.str j/\Q (.bl (!(Builtin.Str.occurrences j i 0 j.length 1).isEmpty)) H):=by intro pins s Z H x y v u Q I rx ry h;let(i,j,rfl,rfl,q):=h;let(t,rfl):=rx;let(t',rfl):=ry;exact in_str (ZC I q rfl)
def qhJ:OpR X (compareOp .Is) (λx y H Q=>y=.non/\Q (.bl (decide (x=.non))) H):=by
 intro pins s Z H x y v u Q I rx ry h;let(rfl,q):=h;cases ry;refine is_none_gen (ZC I q ?_)
 cases x<;>first
  | (cases rx;rfl)
  | (let(t,rfl):=rx;rfl)
def qfi:OpR X (compareOp .IsNot) (λx y H Q=>y=.non/\Q (.bl (!decide (x=.non))) H):=by
 intro pins s Z H x y v u Q I rx ry h;let(rfl,q):=h;cases ry;refine isnot_none_gen (ZC I q ?_)
 cases x<;>first
  | (cases rx;rfl)
  | (let(t,rfl):=rx;rfl)
def YS:OpR X (compareOp .NotIn) (λx y H Q=>∃i j,x=.str i/\y=.str j/\Q (.bl (!(!(Builtin.Str.occurrences j i 0 j.length 1).isEmpty))) H):=by intro pins s Z H x y v u Q I rx ry h;let(i,j,rfl,rfl,q):=h;let(t,rfl):=rx;let(t',rfl):=ry;exact notIn_str (ZC I q rfl)
def qfj{op:CmpOp}{r:R2}(ho:OpR X (compareOp op) r)(ha:PE X a ta)(hb:PE X b tb)(hm:behindInMarks op b=false):PE X (.Compare a [op] [b] pos) (tOp r ta tb):=by intro pins s Z H Q I h;exact wpAny_Compare1 (qkF ha hb I h λv u s2 x y H2 I2 rx ry q=>ho pins s2 Z H2 x y v u Q I2 rx ry q) hm
def qkN(t:TE):TT:=λZ H Q=>t Z H λx H'=>∃k,x=.bl k/\Q k H'
def QU{op:CmpOp}{r:R2}(ho:OpR X (compareOp op) r)(ha:PE X a ta)(hb:PE X b tb)(hm:behindInMarks op b=false):PT X (.Compare a [op] [b] pos) (qkN (tOp r ta tb)):=by intro pins s Z H Q I h;refine wpAny_isTrue_Compare1 (thn (ha pins s Z H _ I h) λv s1 hz19=>?_) hm;let(x,H1,I1,r1,q1):=hz19;refine thn (hb pins s1 Z H1 _ I1 q1) λu s2 hz20=>?_;let(y,H2,I2,r2,q2):=hz20;refine thn (ho pins s2 Z H2 x y v u _ I2 r1 r2 q2) λc s3 hz21=>?_;let(z,H3,I3,r3,k,e,q3):=hz21;subst e;cases r3;exact wpAny_truthy_bool ⟨H3,I3,q3⟩
def qki(K:Frag)(x:V)(H:Hp)(k:Bool):Prop:=
 match x with
 |.non=>k=false
 |.bl b=>k=b
 |.int i=>k=(i != 0)
 |.str y=>y.length<=sizeLine/\k=((y.length:Int) != 0)
 |.byt y=>y.size<=sizeLine/\k=((y.size:Int) != 0)
 |.ref p=>(∃xs,SqL K H p xs/\k = !xs.isEmpty)\/(∃xs,SqT K H p xs/\k = !xs.isEmpty)\/∃kvs,H p=some (.dK kvs)/\k = !kvs.isEmpty
 |_=>False
def qat{U:Type}{kvs:List (U×V)}{vs:List (U×Value)}(r:KV kvs vs):(!vs.isEmpty) = !kvs.isEmpty:=by cases r<;>rfl
def JI{xs:List V}{its:List Value}(r:qD xs its):(!its.toArray.isEmpty) = !xs.isEmpty:=by cases r<;>simp
def yW:(sizeLine:Nat) < 2 ^ 63:=by rw[sizeLine_eq];decide
theorem qhK:qmy X (λx H Q=>∃k,qki X.K x H k/\Q k H):=by
 intro pins s Z H x v Q I rx h;let(k,e,q):=h;have hl:=yW;have hs:sizeLine=16777216:=sizeLine_eq
 cases x with
 |non=>cases rx;have e':k=false:=e;subst e';exact truthy_none ⟨H,I,q⟩
 |bl b=>cases rx;have e':k=b:=e;subst e';exact wpAny_truthy_bool ⟨H,I,q⟩
 |int i=>let(t,rfl):=rx;have e':k=(i != 0):=e;subst e';exact PySem.P.truthy_int ⟨H,I,q⟩
 |str y=>let(t,rfl):=rx;let(hy,e'):y.length<=sizeLine/\k=((y.length:Int) != 0):=e;subst e';exact PySem.P.truthy_str (1:) ⟨H,I.tok _,q⟩
 |byt y=>let(t,rfl):=rx;let(hy,e'):y.size<=sizeLine/\k=((y.size:Int) != 0):=e;subst e';exact PySem.W.truthy_bytes (1:) ⟨H,I.tok _,q⟩
 |ref p=>
  cases rx;have e':(∃xs,SqL X.K H p xs/\k = !xs.isEmpty)\/(∃xs,SqT X.K H p xs/\k = !xs.isEmpty)\/∃kvs,H p=some (.dK kvs)/\k = !kvs.isEmpty:=e;rcases e' with ⟨xs,hx,e'⟩|⟨xs,hx,e'⟩|⟨kvs,hx,e'⟩
  ·subst e';let(its,r,pl,hz):=I.list hx;have hlen:=r.length;exact wpAny_truthy_list pl.isList (by simp![List.size_toArray];lia) ⟨H,I.tok _,by rw[JI r];exact q⟩
  ·subst e';let(its,r,pl,hz):=I.tuple hx;have hlen:=r.length;exact truthy_tuple pl (by simp![List.size_toArray];lia) ⟨H,I.tok _,by rw[JI r];exact q⟩
  ·subst e';let(hz,hS,vs,r,m):kvs.length<=sizeLine/\(p == sysModules)=false/\∃vs,KV kvs vs/\s.heap.DictOf (QT X.prog X.w) p vs:=I.hok p _ hx;have hlen:kvs.length=vs.length:=Paired.length r;exact wpAny_truthy_dict hS m (1:) ⟨H,I.tok _,by rw[qat r];exact q⟩
 |_=>exact(show False from e).elim
def qc1(ha:PE X a ta)(he:∀whole,isTrue a X.env whole=(do let v<-whole;standAt a.pos;holding [v] (truthy v))) :
  PT X a (λZ H Q=>ta Z H λx H'=>∃k,qki X.K x H' k/\Q k H'):=by
 intro pins s Z H Q I h;refine isTrue_plain (thn (ha pins s Z H _ I h) λv s1 hz29=>?_) (he _);let(x,H1,I1,r1,q1):=hz29;exact qhK pins s1 Z H1 x v Q I1 r1 q1
def qau:OpR X (binaryOp .Add) (λx y H Q=>∃i j,x=.str i/\y=.str j/\i.length+j.length<=sizeLine/\Q (.str (i++j)) H):=by intro pins s Z H x y v u Q I rx ry h;let(i,j,rfl,rfl,hz,q):=h;let(t,rfl):=rx;let(t',rfl):=ry;exact add_str (λt' tk=>{.str (i++j),H,I.tok _,{_,rfl},q}) hz
theorem YT{x:V}{us:List Value}(r:qD [x] us):∃u,us=[u]/\qH x u:=by
 cases r with
 |cons r1 r2=>cases r2;exact{_,rfl,r1}
theorem QV{x y:V}{us:List Value}(r:qD [x,y] us):∃u w',us=[u,w']/\qH x u/\qH y w':=by
 cases r with
 |cons r1 r2=>
  cases r2 with
  |cons r3 r4=>cases r4;exact{_,_,rfl,r1,r3}
def qbc(hc:X.calm=true):zy X (.builtin "max") (λxs H Q=>∃i j,xs=[.int i,.int j]/\Q (.int (if j > i then j else i)) H):=by
 intro pins s Z H xs us Q I r h;let(i,j,rfl,q):=h;let(u,w',rfl,(t,rfl),(t',rfl)):=QV r;refine max_two_ints (I.ok.hd hc) λh' tk k=>{_,H,I.kept k,?_,q}
 by_cases hj:j > i
 ·rw[if_pos hj,if_pos hj];exact{_,rfl}
 ·rw[if_neg hj,if_neg hj];exact{_,rfl}
def qbd(hc:X.calm=true):zy X (.builtin "min") (λxs H Q=>∃i j,xs=[.int i,.int j]/\Q (.int (if j < i then j else i)) H):=by
 intro pins s Z H xs us Q I r h;let(i,j,rfl,q):=h;let(u,w',rfl,(t,rfl),(t',rfl)):=QV r;refine min_two_ints (I.ok.hd hc) λh' tk k=>{_,H,I.kept k,?_,q}
 by_cases hj:j < i
 ·rw[if_pos hj,if_pos hj];exact{_,rfl}
 ·rw[if_neg hj,if_neg hj];exact{_,rfl}
def YU:zy X (.type "int") (λxs H Q=>(∃i,xs=[.int i]/\Q (.int i) H)\/∃k,xs=[.bl k]/\Q (.int (if k then 1 else 0)) H):=by
 intro pins s Z H xs us Q I r h;rcases h with ⟨i,rfl,q⟩|⟨k,rfl,q⟩
 ·let(u,rfl,t,rfl):=YT r;exact call_int_int ⟨.int i,H,I,⟨_,rfl⟩,q⟩
 ·let(u,rfl,r1):=YT r;cases r1;exact call_int_bool ⟨.int (if k then 1 else 0),H,I.tok _,⟨_,rfl⟩,q⟩
end
structure ObjM(h:Heap)(x dx C:Addr)(mA:PR):Prop where
 obj:h.get? x=some (PySem.W.instObj C dx)
 ns:h.Ns1 dx mA
 ne:dx≠x
def yY{h:Heap}{dx:Addr}{mA:PR}(n:h.Ns1 dx mA):∃od,h.get? dx=some od/\∀name,PySem.W.lookIn name od=some (mA name):=by
 let(o,es,ep,ho,hd,hk,_,hm):=n;refine{o,ho,λname=>?_};have e:=hm name;unfold nsFind findBy at e;rw[<-Array.find?_toList]at e;unfold PySem.W.lookIn;rw[hd];dsimp only;split
 ·rename_i y q;rw[q]at e;exact congrArg some e
 ·rename_i q;rw[q]at e
  have a:es.toList.any (·.refKey)=false:=by rw[List.any_eq_false];intro y hy;let(z,t,hkey):=hk y (Array.mem_toList_iff.mp hy);simp[DictEntry.refKey,hkey]
  have a':¬ es.toList.any (·.refKey)=true:=by rw[a];exact Bool.false_ne_true
  rw[if_neg a'];exact congrArg some e
def ObjM.look{h:Heap}{x dx C:Addr}{mA:PR}(I:ObjM h x dx C mA):∃od,PySem.W.InstAt h x (PySem.W.instObj C dx) C (some od)/\∀name,PySem.W.lookIn name od=some (mA name):=
 let ⟨od,ho,hl⟩:=yY I.ns
 ⟨od,⟨I.obj,rfl,rfl,ho⟩,hl⟩
section
variable{prog:Program}{w:World}{A:Around}{E:PQ}{s:Shared}{K:Frag}{x dx C f:Addr}{mA:PR}{name:Str}{v:Value}
def qfk{expr:Bool}{Q:PQ}(X:K.In s.heap)(I:ObjM s.heap x dx C mA)(hg:PySem.W.plainGet K C name=true)(hh:PySem.W.hasDictIn K C=true)
  (ha:PySem.W.findIn K (.ref C) name=some none) (hv:mA name=some v) (hv':PySem.W.handedIn v=true) (h:Q v { s with toks:=s.toks+1 }) :
  wpAny (model prog w) A (getAttr (.ref x) name expr) Q E s:=by
 let(od,J,hl):=I.look;exact PySem.W.get_value X J (PySem.W.plainGet_of hg).1 (PySem.W.findObj_own hh ha rfl (by rw[hl,hv])) hv' h
def qc2{pl:Sem Bool}{Q:Value×List Value->Shared->Prop}(X:K.In s.heap)(I:ObjM s.heap x dx C mA)(hg:PySem.W.plainGet K C name=true)
  (hf:PySem.W.findIn K (.ref C) name=some (some (.ref f))) (ht:PySem.W.isFn K (.ref f)=true) (hv:mA name=none) (h:Q (.ref f,[.ref x]) s) :
  wpAny (model prog w) A (getMethod (.ref x) name pl) Q E s:=by
 let(od,J,hl):=I.look;exact PySem.W.method_fn X J (PySem.W.plainGet_of hg).1 (PySem.W.plainGet_of hg).2 hf (beq_iff_eq.mp ht) (by show(PySem.W.lookIn name od).map (·.isSome)=some false;rw[hl,hv];rfl) h
def qfl{ns:List Str}{Q:Unit->Shared->Prop}(X:K.In s.heap)(I:ObjM s.heap x dx C mA)
  (hs:PySem.W.findIn K (.ref C) "__setattr__" = some (some (.builtin "object.__setattr__"))) (hp:PySem.W.plainOver K C=true) (ht:PySem.W.takerIn K C name=some none) (hh:PySem.W.hasDictIn K C=true)
  (hw:PySem.Within mA ns) (hsz:ns.length<=sizeLine)
  (h:∀h',ObjM h' x dx C (λy=>if y=name then some v else mA y)->Heap.SameBut dx s.heap h'->Q () { s with heap:=h',toks:=s.toks+2 }) :
  wpAny (model prog w) A (setAttr (.ref x) name v) Q E s:=by
 let(od,J,hl):=I.look;refine PySem.W.set_plain X J hs (PySem.W.osa_open (s:={ s with toks:=s.toks+1 }) (r:=none) X J hp ht λb=>?_);let(cd,hc,hd'):=PySem.W.any_some hh;have hx:s.heap.get? x=some ⟨.ref C,some dx,.plain,#[]⟩:=I.obj;refine wpAny_bind (wpAny_pure (wpAny_bind (wpAny_bind (wpAny_loadPart hx (wpAny_bind (PySem.W.Looks.here (s:={ s with toks:=s.toks+1 }) (PySem.W.looks_clsIn X hc) ?_))))));rw[hd'];refine wpAny_pure (a:=some dx) (wpAny_bind (wpAny_pure (wpAny_bind ?_)));refine wpAny_nsSet1 (s:={ s with toks:=s.toks+1 }) I.ns λh' hn2 hs2=>?_;let(oD,esD,epD,hoD,hdD,hcD):=hn2.count (PySem.Within.cons name v hw);refine wpAny_bind (wpAny_lookBehind hoD (by rw[hdD];exact pastItsLine_dict (Nat.le_trans hcD (by rw[List.length_cons];lia))) ?_);exact wpAny_pure (h _ ⟨(hs2.2 _ (Ne.symm I.ne)).trans I.obj,hn2,I.ne⟩ hs2)
def qc3{R:Result->Shared->Prop}{vs:List Value}{kw:List (Str×Value)}(X:K.In s.heap)(hm:PySem.W.makesIn K C=true)
  (hi:PySem.W.findIn K (.ref C) "__init__" = some (some (.ref f))) (hf:PySem.W.typeIn K (.ref f)=some (.type "function"))
  (h:codeAny (model prog w) (A.under (.builtin "type.__call__" ⟨.ref C::vs,kw⟩)) (.call (.ref f) ⟨.ref (s.heap.objs.size+1)::vs,kw⟩) (PySem.W.InitBack (s.heap.objs.size+1) R)
   { s with heap:=(s.heap.push PySem.W.emptyDict).push (PySem.W.instObj C s.heap.objs.size) }) :
  codeAny (model prog w) A (.call (.ref C) ⟨vs,kw⟩) R s:=by
 let(hh,g,d,t,os):=s;exact PySem.W.make_core (PySem.W.makes_of X hm) (PySem.W.looks_findIn X hi) (λself=>PySem.W.bind_fn X self hf) (.inl rfl) h
end
def yZ(f:Str)(v:V):List (Str×V)->List (Str×V)
 |[]=>[(f,v)]
 | (g,x)::r=>if g=f then (g,v)::r else (g,x)::yZ f v r
theorem jL(f g:Str)(v:V):∀fs:List (Str×V),(yZ f v fs).lookup g=if g=f then some v else fs.lookup g
 |[]=>by
  show List.lookup g [(f,v)]=_
  by_cases h:g=f
  ·have hb:(g == f)=true:=beq_iff_eq.mpr h;simp![List.lookup,hb,if_pos h]
  ·have hb:(g == f)=false:=beq_eq_false_iff_ne.mpr h;simp![List.lookup,hb,if_neg h]
 | (k,x)::r=>by
  have ih:=jL f g v r;rw[show yZ f v ((k,x)::r)=(if k=f then (k,v)::r else (k,x)::yZ f v r) from rfl]
  by_cases hk:k=f
  ·rw[if_pos hk]
   by_cases h:g=k
   ·have hb:(g == k)=true:=beq_iff_eq.mpr h;simp![List.lookup,hb,if_pos (h.trans hk)]
   ·have hb:(g == k)=false:=beq_eq_false_iff_ne.mpr h;simp![List.lookup,hb,if_neg (λe:g=f=>h (e.trans hk.symm))]
  ·rw[if_neg hk]
   by_cases h:g=k
   ·have hb:(g == k)=true:=beq_iff_eq.mpr h;simp![List.lookup,hb,if_neg (λe:g=f=>hk (h.symm.trans e))]
   ·have hb:(g == k)=false:=beq_eq_false_iff_ne.mpr h;simp![List.lookup,hb];exact ih
theorem jd(f:Str)(v:V):∀fs:List (Str×V),f∈(yZ f v fs).map (·.1)/\∀g,g∈fs.map (·.1)->g∈(yZ f v fs).map (·.1)
 |[]=>{by simp[yZ],λg h=>by simp at h}
 | (k,x)::r=>by
  let(i1,i2):=jd f v r;rw[show yZ f v ((k,x)::r)=(if k=f then (k,v)::r else (k,x)::yZ f v r) from rfl]
  by_cases hk:k=f
  ·rw[if_pos hk];subst hk;exact{by simp,λg h=>(-h:)}
  ·rw[if_neg hk];refine{?_,λg h=>?_}
   ·rw[List.map_cons];exact List.mem_cons_of_mem _ i1
   ·rw[List.map_cons]at h ⊢;rcases List.mem_cons.mp h with e|e
    ·exact List.mem_cons.mpr (.inl e)
    ·exact List.mem_cons_of_mem _ (i2 g e)
theorem y8(f:Str)(v:V):∀fs:List (Str×V),(yZ f v fs).length<=fs.length+1
 |[]=>by simp[yZ]
 | (k,x)::r=>by
  have ih:=y8 f v r;rw[show yZ f v ((k,x)::r)=(if k=f then (k,v)::r else (k,x)::yZ f v r) from rfl]
  by_cases hk:k=f
  ·rw[if_pos hk,List.length_cons,List.length_cons];lia
  ·rw[if_neg hk,List.length_cons,List.length_cons];lia
theorem Zy.some_of{v:V}{o:Option Value}(r:Zy (some v) o):∃u,o=some u/\qH v u:=by
 cases o with
 |none=>exact(show False from r).elim
 |some u=>exact⟨u,rfl,r⟩
theorem Zy.none_of{o:Option Value}(r:Zy none o):o=none:=by
 cases o with
 |none=>rfl
 |some u=>exact(show False from r).elim
theorem qbe{v:V}{u:Value}(r:qH v u):PySem.W.handedIn u=true:=by
 cases v with
 |non=>cases (show u=Value.none from r);rfl
 |bl b=>cases (show u=Value.bool b from r);rfl
 |int i=>let(t,e):=(show∃t,u=Value.int i t from r);cases e;rfl
 |str x=>let(t,e):=(show∃t,u=Value.str x t from r);cases e;rfl
 |byt b=>let(t,e):=(show∃t,u=Value.bytes b t from r);cases e;rfl
 |flt b=>let(t,e):=(show∃t,u=Value.float b t from r);cases e;rfl
 |ref a=>cases (show u=Value.ref a from r);rfl
 |ty n=>cases (show u=Value.type n from r);rfl
section
variable{P:Program}{w:World}{H H':Hp}{h h':Heap}{a C dx:Addr}{fs fs':List (Str×V)}
def J4(hok:HOk P w H h)(e:H a=some (.ins C dx fs)):∃mA,ObjM h a dx C mA/\(∀f,Zy (fs.lookup f) (mA f))/\PySem.Within mA (fs.map (·.1))/\fs.length<=1000/\H dx=some (.own a):=by let(d,z,ne,ob,mA,n,r,q):=(show qQ P w H h a (.ins C dx fs) from hok a _ e);exact{mA,⟨ob,n,ne⟩,r,q,z,d}
end
structure Cls(K:Frag)(C:Addr):Prop where
 pg:PySem.W.plainGet K C Str.empty=true
 hd:PySem.W.hasDictIn K C=true
 po:PySem.W.plainOver K C=true
 sa:PySem.W.findIn K (.ref C) "__setattr__" = some (some (.builtin "object.__setattr__"))
def Cls.get{K:Frag}{C:Addr}(c:Cls K C)(f:Str):PySem.W.plainGet K C f=true:=c.pg
def zj(K:Frag)(C:Addr)(f:Str):Prop:=PySem.W.findIn K (.ref C) f=some none
def zj.taker{K:Frag}{C:Addr}{f:Str}(n:zj K C f):PySem.W.takerIn K C f=some none:=by unfold PySem.W.takerIn;rw[show PySem.W.findIn K (.ref C) f=some none from n];rfl
structure Meth(K:Frag)(C:Addr)(m:Str)(f:Addr):Prop where
 at_:PySem.W.findIn K (.ref C) m=some (some (.ref f))
 fn:PySem.W.isFn K (.ref f)=true
 kp:PySem.W.keepIn K (.ref f)=true
section
variable{X:Cx}{pins:PP}{Z:St}{H:Hp}{s:Shared}{a C dx:Addr}{fs:List (Str×V)}{f:Str}{v:V}{A:Around}{E:PQ}
def qav{b:Bool}{Q:PQ}(I:Inv X pins Z H s)(e:H a=some (.ins C dx fs))(c:Cls X.K C)(n:zj X.K C f)(l:fs.lookup f=some v)
  (h:∀u s',Inv X pins Z H s'->qH v u->Q u s'):wpAny (model X.prog X.w) A (getAttr (.ref a) f b) Q E s:=by
 let(mA,O,r,_,_,_):=J4 I.hok e;let(u,hu,ru):=Zy.some_of (v:=v) (o:=mA f) (by rw[<-l];exact r f);exact qfk I.kIn O (c.get f) c.hd n hu (qbe ru) (h u _ (I.tok _) ru)
def JJ{m:Str}{g:Addr}{pl:Sem Bool}{Q:Value×List Value->Shared->Prop}(I:Inv X pins Z H s)(e:H a=some (.ins C dx fs))(c:Cls X.K C)(k:Meth X.K C m g)(l:fs.lookup m=none)
  (h:Q (.ref g,[.ref a]) s):wpAny (model X.prog X.w) A (getMethod (.ref a) m pl) Q E s:=by
 let(mA,O,r,_,_,_):=J4 I.hok e;have hn:mA m=none:=Zy.none_of (by rw[<-l];exact r m);exact qc2 I.kIn O (c.get m) k.at_ k.fn hn h
def qaw{y:V}{u:Value}{Q:Unit->Shared->Prop}(I:Inv X pins Z H s)(e:H a=some (.ins C dx fs))(c:Cls X.K C)(n:zj X.K C f)(hl:fs.length < 1000)(ry:qH y u)
  (h:∀s',Inv X pins Z (upd H a (.ins C dx (yZ f y fs))) s'->Q () s'):wpAny (model X.prog X.w) A (setAttr (.ref a) f u) Q E s:=by
 let(mA,O,r,wi,_,ho):=J4 I.hok e;have hz:(fs.map (·.1)).length<=sizeLine:=by rw[List.length_map,sizeLine_eq];lia
 refine qfl I.kIn O c.sa c.po n.taker c.hd wi hz λh' O' sb=>h _ ?_;have hd:∃o,h'.get? dx=some o:=let ⟨o,_,_,e',_⟩:=O'.ns;⟨o,e'⟩;refine I.write (x:=a) (e:=dx) (by rw[e];exact True.intro) (.inr ho) (λb q hb z=>(sb.2 b hb).trans z) hd ?_;refine{by rw[qc O.ne];exact ho,?_,O.ne,O'.obj,_,O'.ns,λg=>?_,λg hg=>?_}
 ·have:=y8 f y fs;lia
 ·show Zy ((yZ f y fs).lookup g) (if g=f then some u else mA g);rw[jL]
  by_cases q:g=f
  ·rw[if_pos q,if_pos q];exact ry
  ·rw[if_neg q,if_neg q];exact r g
 ·by_cases q:g=f
  ·rw[q];exact(jd f y fs).1
  ·refine(jd f y fs).2 g (wi g λz=>hg ?_);show(if g=f then some u else mA g)=none;rw[if_neg q];exact z
def Inv.made(I:Inv X pins Z H s):Inv X pins Z (upd (upd H s.heap.objs.size (.own (s.heap.objs.size+1))) (s.heap.objs.size+1) (.ins C s.heap.objs.size []))
  { s with heap:=(s.heap.push PySem.W.emptyDict).push (PySem.W.instObj C s.heap.objs.size) }:=by
 have e1:(s.heap.push PySem.W.emptyDict).get? s.heap.objs.size=some PySem.W.emptyDict:=Heap.get?_push_size s.heap rfl
 have e2:((s.heap.push PySem.W.emptyDict).push (PySem.W.instObj C s.heap.objs.size)).get? (s.heap.objs.size+1)=some (PySem.W.instObj C s.heap.objs.size):=by
  have:=Heap.get?_push_size (s.heap.push PySem.W.emptyDict) (o:=PySem.W.instObj C s.heap.objs.size) rfl
  rwa[Heap.size_push]at this
 have e3:(s.heap.push PySem.W.emptyDict).Ns s.heap.objs.size (λ_=>none):={PySem.W.emptyDict,#[],_,e1,rfl,(λe he=>absurd he (5:)),λ_=>rfl};have I1:=I.laid (a:=s.heap.objs.size) (o:=.own (s.heap.objs.size+1)) (h':=s.heap.push PySem.W.emptyDict) (t':=s.toks) (λb u q=>Heap.get?_push_of_some _ q) (Nat.le_refl _) ⟨_,e1⟩;refine I1.laid (a:=s.heap.objs.size+1) (o:=.ins C s.heap.objs.size []) (t':=s.toks) (λb u q=>Heap.get?_push_of_some _ q) (Nat.le_of_eq (Heap.size_push _ _)) ?_;have ne:s.heap.objs.size≠s.heap.objs.size+1:=Nat.ne_of_lt (Nat.lt_succ_self _);refine{by rw[qc ne,qf],Nat.zero_le _,ne,e2,λ_=>none,(Heap.Ns1.of_empty e3).at λo q=>Heap.get?_push_of_some _ q,λ_=>True.intro,λy hy=>absurd rfl hy}
def qbf{prog:Program}{w:World}{env:Env}{e:Expr}{f:Str}{pos:Pos}{s:Shared}{Q:PQ}(hb:attributeBase e f env (eval e env)=eval e env)
  (h:wpAny (model prog w) A (eval e env) (λo s₁=>wpAny (model prog w) A (getAttr o f true) Q E s₁) E s):wpAny (model prog w) A (eval (.Attribute e f pos) env) Q E s:=
 Attribute_any_ h (by rw[arm_eval_Attribute,hb])
end
def qmA(K:Frag)(ta:TE)(f:Str):TE:=λZ H Q=>ta Z H λx H1=>∃a C dx fs v,x=.ref a/\H1 a=some (.ins C dx fs)/\Cls K C/\zj K C f/\fs.lookup f=some v/\Q v H1
def qmB(K:Frag)(ta tv:TE)(f:Str):TS:=λD Z H=>tv Z H λy H1=>ta Z H1 λx H2=>∃a C dx fs,x=.ref a/\H2 a=some (.ins C dx fs)/\Cls K C/\zj K C f/\fs.length < 1000/\
 D.nx Z (upd H2 a (.ins C dx (yZ f y fs)))
section
variable{X:Cx}{o e value:Expr}{f:Str}{pos pos' tpos:Pos}{ta tv:TE}
def qhL(he:PE X e ta)(hb:attributeBase e f X.env (eval e X.env)=eval e X.env):PE X (.Attribute e f pos) (qmA X.K ta f):=by intro pins s Z H Q I h;refine qbf hb (thn (he pins s Z H _ I h) λu s1 hq1=>?_);let(x,H1,I1,rx,a,C,dx,fs,v,ex,ea,c,n,l,q):=hq1;subst ex;obtain rfl:u=Value.ref a:=rx;exact qav I1 ea c n l λu' s2 I2 ru=>⟨v,H1,I2,ru,q⟩
def YV(ha:PE X o ta)(hv:PE X value tv)(hs:swapsWith value (some (.Attribute o f pos')) pos.line X.env=pure false):PS X (.Assign [.Attribute o f pos'] value pos) (qmB X.K ta tv f):=by intro pins s Z H D I h;refine plainObj_wpAny_Assign_Attribute (thn (hv pins s Z H _ I h) λu s1 hz30=>?_) hs;let(y,H1,I1,ry,q):=hz30;refine thn (ha pins s1 Z H1 _ I1 q) λov s2 hz31=>?_;let(x,H2,I2,rx,a,C,dx,fs,ex,ea,c,n,l,q2):=hz31;subst ex;obtain rfl:ov=Value.ref a:=rx;exact qaw I2 ea c n l ry λs3 I3=>{Z,_,I3,q2}
end
section
variable{X:Cx}{pins:PP}{Z:St}{H:Hp}{s:Shared}{A:Around}{E:PQ}{Q:PQ}{c:Value}{b:Bool}
inductive TyOf(K:Frag)(H:Hp):V->Value->Prop where
 | non:TyOf K H .non (.type "NoneType")
 | bl (x:Bool):TyOf K H (.bl x) (.type "bool")
 | int (i:Int):TyOf K H (.int i) (.type "int")
 | str (x:Str):TyOf K H (.str x) (.type "str")
 | flt (x:UInt64):TyOf K H (.flt x) (.type "float")
 | lst {a:Addr} {xs:List V} (e:H a=some (.lst xs)):TyOf K H (.ref a) (.type "list")
 | frz {a:Addr} {o:Obj} {xs:List V} (e:H a=some (.frz o (.lst xs))):TyOf K H (.ref a) (.type "list")
 | tup {a:Addr} {xs:List V} (e:H a=some (.tup xs)):TyOf K H (.ref a) (.type "tuple")
 | dK {a:Addr} {kvs:List (Key×V)} (e:H a=some (.dK kvs)):TyOf K H (.ref a) (.type "dict")
 | dT {a:Addr} {kvs:List (List Key×V)} (e:H a=some (.dT kvs)):TyOf K H (.ref a) (.type "dict")
 | ins {a C dx:Addr} {fs:List (Str×V)} (e:H a=some (.ins C dx fs)) (cl:Cls K C) (ha:PySem.W.findIn K (.ref C) "__class__" = some (some (.builtin "object.__class__")))
   (hn:PySem.W.specialIn K (.builtin "object.__class__") "__get__" = some (some (.builtin "getset_descriptor.__get__"))) (htk:PySem.W.takesIn K (.builtin "object.__class__")=some true)
   (hm:PySem.W.mroIn K C (.type "object")=some true):TyOf K H (.ref a) (.ref C)
theorem YW{x:V}{u t:Value}(I:Inv X pins Z H s)(rx:qH x u)(ty:TyOf X.K H x t)(e:PySem.W.kitOne X.K t c=some b)(h:∀tk,Q (.bool b) { s with toks:=tk }) :
  wpAny (model X.prog X.w) A (call (.builtin "isinstance") [u,c]) Q E s:=by
 cases ty with
 |non=>cases (show u=Value.none from rx);exact PySem.W.kia_one PySem.W.kitx_none I.kIn True.intro e (λz=>nomatch z) h
 |bl y=>cases (show u=Value.bool y from rx);exact PySem.W.kia_one PySem.W.kitx_bool I.kIn True.intro e (λz=>nomatch z) h
 |int i=>let(t,q):=(show∃t,u=Value.int i t from rx);cases q;exact PySem.W.kia_one PySem.W.kitx_int I.kIn True.intro e (λz=>nomatch z) h
 |str y=>let(t,q):=(show∃t,u=Value.str y t from rx);cases q;exact PySem.W.kia_one PySem.W.kitx_str I.kIn True.intro e (λz=>nomatch z) h
 |flt y=>let(t,q):=(show∃t,u=Value.float y t from rx);cases q;exact PySem.W.kia_one PySem.W.kitx_float I.kIn True.intro e (λz=>nomatch z) h
 |@lst a xs ea=>
  cases (show u=Value.ref a from rx)
  let(_,_,n,_,h1):=(show qQ X.prog X.w H s.heap a (.lst xs) from I.hok a _ ea);exact PySem.W.kia_one PySem.W.kitx_list I.kIn ⟨_,h1,rfl⟩ e (λz=>nomatch z) h
 |@frz a ob xs ea=>
  cases (show u=Value.ref a from rx)
  let(_,_,_,n,_,h1):=(show qQ X.prog X.w H s.heap a (.frz ob (.lst xs)) from I.hok a _ ea);exact PySem.W.kia_one PySem.W.kitx_list I.kIn ⟨_,h1,rfl⟩ e (λz=>nomatch z) h
 |@tup a xs ea=>
  cases (show u=Value.ref a from rx)
  let(_,_,_,p):=(show qQ X.prog X.w H s.heap a (.tup xs) from I.hok a _ ea);let(o,h1,h2,_):=p;exact PySem.W.kia_one PySem.W.kitx_tuple I.kIn ⟨o,h1,h2⟩ e (λz=>nomatch z) h
 |@dK a kvs ea=>
  cases (show u=Value.ref a from rx)
  let(_,_,vs,_,p):=(show qQ X.prog X.w H s.heap a (.dK kvs) from I.hok a _ ea);let(o,es,ep,h1,h2,_):=p;exact PySem.W.kia_one PySem.W.kitx_dict I.kIn ⟨o,h1,h2.1⟩ e (λz=>nomatch z) h
 |@dT a kvs ea=>
  cases (show u=Value.ref a from rx)
  let(_,_,xs,_,o,es,ep,h1,h2,_):=(show qQ X.prog X.w H s.heap a (.dT kvs) from I.hok a _ ea);exact PySem.W.kia_one PySem.W.kitx_dict I.kIn ⟨o,h1,h2.1⟩ e (λz=>nomatch z) h
 |@ins a C dx fs ea cl ha hn htk hm=>
  cases (show u=Value.ref a from rx)
  let(mA,O,_):=J4 I.hok ea;let(od,J,_):=O.look;exact PySem.W.kia_one (PySem.W.kitx_own (cl.get _) cl.hd ha hn htk hm) I.kIn J e (λz=>nomatch z) h
end
structure Room(k:Nat)(A:Around):Prop where
 hd:A.handled=none
 dp:A.depth+3 * k+5 < recursionLimit
 un:A.units+16 * k+200 < cLine
def Room.deeper{k:Nat}{A:Around}(r:Room (k+1) A)(env:Env):Room k (A.deeper env):=
 ⟨r.hd,by have:=r.dp;show A.depth+1+3 * k+5 < _;lia,by have:=r.un;show A.units+3+16 * k+200 < _;lia⟩
def qax{A:Around}{C:Addr}{us:List Value}{kw:List (Str×Value)}:(A.under (.builtin "type.__call__" ⟨.ref C::us,kw⟩)).depth=A.depth+1:=by first|rfl|simp[Around.under,Code.weight,Code.isCreation,Code.isGuard,Code.isCaller,Code.frames,Code.isFrame,guardIds]
def qay{A:Around}{C:Addr}{us:List Value}{kw:List (Str×Value)}:(A.under (.builtin "type.__call__" ⟨.ref C::us,kw⟩)).units=A.units+1:=by first|rfl|simp[Around.under,Code.cUnits,Code.frames,Code.isFrame]
def Room.make{k:Nat}{A:Around}(r:Room (k+1) A)(C:Addr)(us:List Value)(kw:List (Str×Value)):Room k (A.under (.builtin "type.__call__" ⟨.ref C::us,kw⟩)):=
 ⟨r.hd,by have:=r.dp;rw[qax];lia,by have:=r.un;rw[qay];lia⟩
def Room.depth{k:Nat}{A:Around}(r:Room k A):A.depth < recursionLimit:=by have:=r.dp;lia
def qfm:TA:=λ_ H Q=>Q [] H
def qaz(ta:TE)(tr:TA):TA:=λZ H Q=>ta Z H λx H1=>tr Z H1 λxs H2=>Q (x::xs) H2
section
variable{X:Cx}{e:Expr}{es:List Expr}{te:TE}{t:TA}{pos:Pos}
def qq:PA X [] qfm:=λ_ _ _ _ H Q I h=>Calls.spliced_nil ⟨[],H,I,.nil,h⟩
def qg(ha:PE X e te)(hr:PA X es t)(hs:starEach (e::es) X.env=(false,eval e X.env)::starEach es X.env:=by rfl):PA X (e::es) (qaz te t):=by intro pos pins s Z H Q I h;rw[hs];show wpAny _ _ (spliced ((false,eval e X.env)::backTo pos (starEach es X.env))) _ _ s;refine Calls.spliced_cons (thn (ha pins s Z H _ I h) λu s1 hq1=>?_);let(x,H1,I1,r1,q1):=hq1;refine thn (hr pos pins s1 Z H1 _ I1 q1) λus s2 hz34=>?_;let(xs,H2,I2,r2,q2):=hz34;exact{x::xs,H2,I2,.cons r1 r2,q2}
def qmC(t:TA):TE:=λZ H Q=>t Z H λxs H1=>xs.length<=sizeLine/\∀p,H1 p=none->Q (.ref p) (upd H1 p (.tup xs))
def qmD(t:TA):TE:=λZ H Q=>t Z H λxs H1=>xs.length<=sizeLine/\∀p,H1 p=none->Q (.ref p) (upd H1 p (.lst xs))
def qhM{x1}(h:PA X es t):PE X (.Tuple es x1 pos) (qmC t):=by intro pins s Z H Q I hq;refine wpAny_Tuple_spliced (thn (h pos pins s Z H _ I hq) λus s1 ⟨xs,H1,I1,r,z,q⟩=>{by rw[<-r.length];exact z,?_});have hf:H1 s1.heap.objs.size=none:=I1.hok.fresh (Nat.le_refl _);refine{.ref s1.heap.objs.size,upd H1 s1.heap.objs.size (.tup xs),I1.laid (t':=s1.toks) (λb u e=>Heap.get?_push_of_some _ e) (Nat.le_refl _) ?_,rfl,q _ hf};exact{z,us,r,{_,Heap.get?_push_size _ rfl,rfl,_,rfl}}
def qen(h:PA X es t):PE X (.List es pos) (qmD t):=by intro pins s Z H Q I hq;refine wpAny_List_spliced (thn (h pos pins s Z H _ I hq) λus s1 ⟨xs,H1,I1,r,z,q⟩=>{by rw[<-r.length];exact z,?_});have hf:H1 s1.heap.objs.size=none:=I1.hok.fresh (Nat.le_refl _);refine{.ref s1.heap.objs.size,upd H1 s1.heap.objs.size (.lst xs),I1.laid (t':=s1.toks) (λb u e=>Heap.get?_push_of_some _ e) (Nat.le_refl _) ?_,rfl,q _ hf};exact{z,us,0,r,Heap.get?_push_size _ rfl}
end
abbrev Sp:=List V->Hp->VK->XK->Prop
abbrev CXT:=List Env->Hp->Shared->XK->Value->Shared->Prop
structure Env0(P:Program)(w:World)(K:Frag)(mg:PR)(base:Heap)(A:Around)(outer:List Env)(s:Shared)(H:Hp):Prop where
 frames:A.frames=some outer
 mod:Mod K mg base
 bs:∀b o,base.get? b=some o->s.heap.get? b=some o/\H b=none
 bsz:base.objs.size<=s.heap.objs.size
 funs:s.heap.FunFrames base outer
 frf:∀b∈frs outer,H b=none
 hok:HOk P w H s.heap
 bare:AllBare s.gens
def CE(outer:List Env)(P:Program)(w:World)(H:Hp)(s:Shared)(Q:VK)(u:Value)(s':Shared):Prop:=
 ∃v H',s'.os=s.os/\AllBare s'.gens/\Un (frs outer) [] H H' s.heap s'.heap/\HOk P w H' s'.heap/\qH v u/\Q v H'
def CR(CX:CXT)(outer:List Env)(P:Program)(w:World)(H:Hp)(s:Shared)(Q:VK)(E:XK)(r:Result)(s':Shared):Prop:=
 match r with
 |.ok (.ret u)=>CE outer P w H s Q u s'
 |.ok _=>False
 |.error e=>CX outer H s E e s'
structure FnOk(P:Program)(w:World)(K:Frag)(mg:PR)(base:Heap)(CX:CXT)(k:Nat)(f:Addr)(fd:FuncData)(ps:List Str)(sp:Sp):Prop where
 len:∀vs H Q E,sp vs H Q E->vs.length=ps.length
 run:∀(A:Around) (outer:List Env) (s:Shared) (H:Hp) (args:Args) (us:List Value) (vs:List V) (Q:VK) (E:XK),Room k A->Env0 P w K mg base A outer s H->BindsTo s fd args (ps.zip us)->qD vs us->sp vs H Q E->
  codeAny (model P w) A (.call (.ref f) args) (CR CX outer P w H s Q E) s
def Env0.make{P:Program}{w:World}{K:Frag}{mg:PR}{base:Heap}{A:Around}{outer:List Env}{s:Shared}{H:Hp}(e:Env0 P w K mg base A outer s H)(C:Addr)(us:List Value)(kw:List (Str×Value)) :
  Env0 P w K mg base (A.under (.builtin "type.__call__" ⟨.ref C::us,kw⟩)) outer s H:={by first|exact e.frames|(simpa [Around.under,Code.envs,Code.isFrame,pushEnvs] using e.frames),e.mod,e.bs,e.bsz,e.funs,e.frf,e.hok,e.bare}
section
variable{X:Cx}{pins:PP}{Z:St}{H:Hp}{s s':Shared}
def Inv.env0(I:Inv X pins Z H s):Env0 X.prog X.w X.K X.mg X.base X.A X.stack s H:=
 ⟨I.ok.frames,I.ok.mod,I.bs,Nat.le_trans I.ok.bsz I.sz,I.stack,I.stkFree,I.hok,I.bare⟩
def Inv.after{Q:VK}{u:Value}(I:Inv X pins Z H s)(h:CE X.stack X.prog X.w H s Q u s'):EP X pins Z Q u s':=by let(v,H',os,bare,un,hok,r,q):=h;let(hh,g,d,t,os'):=s';obtain rfl:os'=s.os:=os;exact{v,H',I.call (h':=hh) (g':=g) (d':=d) (t':=t) (ch:=[]) un hok bare (λb z=>absurd z (5:)),r,q}
end
def qbg(sp:Sp)(dvs:List V)(E:XK)(t:TA):TE:=λZ H Q=>t Z H λvs H1=>sp (vs++dvs) H1 Q E
def qfn(C:Addr)(m:Str)(sp:Sp)(dvs:List V)(E:XK)(ta:TE)(t:TA):TE:=λZ H Q=>ta Z H λx H1=>∃a dx fs,x=.ref a/\H1 a=some (.ins C dx fs)/\fs.lookup m=none/\
 t Z H1 λvs H2=>sp (x::(vs++dvs)) H2 Q E
def qc4(C:Addr)(sp:Sp)(dvs:List V)(E:XK)(t:TA):TE:=λZ H Q=>t Z H λvs H1=>∀x dx,H1 x=none->H1 dx=none->dx≠x->
 sp (.ref x::(vs++dvs)) (upd (upd H1 dx (.own x)) x (.ins C dx [])) (λv H2=>v=.non/\Q (.ref x) H2) E
def qM(K:Frag)(fd:FuncData)(ps:List Str)(ds:List Value):Prop:=
 ∀(s:Shared) (us:List Value),K.In s.heap->(us++ds).length=ps.length->BindsTo s fd ⟨us,[]⟩ (ps.zip (us++ds))
def qM.all{K:Frag}{fd:FuncData}{ps:List Str}(h:∀us:List Value,us.length=ps.length->bindArgs fd ⟨us,[]⟩=pure (ps.zip us)):qM K fd ps []:=λs us _ hl=>by rw[List.append_nil]at hl ⊢;exact .of_eq (h us hl)
def zr(CX:CXT)(X:Cx)(E:XK):Prop:=∀(pins:PP) (Z:St) (H:Hp) (s:Shared) (e:Value) (s':Shared),Inv X pins Z H s->CX X.stack H s E e s'->X.xe e s'
section
variable{X:Cx}{CX:CXT}{k:Nat}{f C:Addr}{fd:FuncData}{ps:List Str}{sp:Sp}{dvs:List V}{ds:List Value}{E:XK}{x m:Str}{p pos apos:Pos}{e o:Expr}{es:List Expr}{ta:TE}{t:TA}
theorem YX{pins:PP}{Z:St}{H:Hp}{s:Shared}{Q:VK}{us:List Value}{vs:List V}(F:FnOk X.prog X.w X.K X.mg X.base CX k f fd ps sp)(hr:Room k X.A)(hb:qM X.K fd ps ds)(hd:qD dvs ds)(hx:zr CX X E)
  (I:Inv X pins Z H s) (r:qD vs us) (h:sp (vs++dvs) H Q E):wpAny (model X.prog X.w) X.A (call (.ref f) us) (EP X pins Z Q) X.xe s:=by
 have r2:qD (vs++dvs) (us++ds):=r.append hd;have hl:(us++ds).length=ps.length:=by rw[<-r2.length];exact F.len _ _ _ _ h
 refine wpAny_call (codeAny_mono (F.run X.A X.stack s H ⟨us,[]⟩ (us++ds) (vs++dvs) Q E hr I.env0 (hb s us I.kIn hl) r2 h) λr s' hq=>?_)
 cases r with
 |error e=>exact hx pins Z H s e s' I hq
 |ok fl=>
  cases fl with
  |ret u=>exact I.after hq
  |next=>exact False.elim hq
  |brk=>exact False.elim hq
  |cont=>exact False.elim hq
def zz(F:FnOk X.prog X.w X.K X.mg X.base CX k f fd ps sp)(hr:Room k X.A)(hg:Gl X x)(hm:X.mg x=some (.ref f))(hk:PySem.W.keepIn X.K (.ref f)=true)(hb:qM X.K fd ps ds)(hd:qD dvs ds)(hx:zr CX X E)
  (ha:PA X (e::es) t) (hdb:(x == ("__debug__" : Str))=false:=by decide) (he:starEach (e::es) X.env=(false,eval e X.env)::starEach es X.env:=by rfl) (hpl:(backTo pos (starEach es X.env)).any (·.1)=false:=by rfl) :
  PE X (.Call (.Name x p) (e::es) [] pos) (qbg sp dvs E t):=by
 intro pins s Z H Q I h;refine wpAny_Call_Name_kw (zi I hg hm ?_ hdb);refine PySem.W.callWith_K (h₀:=X.base) I.ok.mod.kin hk (thn (ha pos pins s Z H _ I h) λus s1 hz35=>?_) he hpl;let(vs,H1,I1,r,q):=hz35;refine{I1.kIn,?_};exact YX F hr hb hd hx I1 r q
def ZD(F:FnOk X.prog X.w X.K X.mg X.base CX k f fd ps sp)(hr:Room k X.A)(hg:Gl X x)(hm:X.mg x=some (.ref f))(hk:PySem.W.keepIn X.K (.ref f)=true)(hb:qM X.K fd ps ds)(hd:qD dvs ds)(hx:zr CX X E)
  (hdb:(x == ("__debug__" : Str))=false:=by decide):PE X (.Call (.Name x p) [] [] pos) (qbg sp dvs E qfm):=by
 intro pins s Z H Q I h;refine wpAny_Call_Name_kw (zi I hg hm ?_ hdb);exact PySem.W.callWith_K0 I.kIn hk (YX (us:=[]) F hr hb hd hx I .nil h)
def qfo{pl:Sem Bool}(he:PE X o ta)(c:Cls X.K C)(hm:Meth X.K C m f)(F:FnOk X.prog X.w X.K X.mg X.base CX k f fd ps sp)(hr:Room k X.A)(hb:qM X.K fd ps ds)(hd:qD dvs ds)(hx:zr CX X E)(ha:PA X (e::es) t)
  (hst:starEach (e::es) X.env=(false,eval e X.env)::starEach es X.env:=by rfl) (hpl:(backTo pos (starEach es X.env)).any (·.1)=false:=by rfl)
  (ht:eval (.Call (.Attribute o m apos) (e::es) [] pos) X.env=(do
   let ov<-eval o X.env
   standAt apos.atName
   let (f,first)<-holding [ov] (getMethod ov m pl)
   callWith pos f first (backTo pos (starEach (e::es) X.env)) (backToKw pos (keywordEach [] X.env))):=by rfl) :
  PE X (.Call (.Attribute o m apos) (e::es) [] pos) (qfn C m sp dvs E ta t):=by
 intro pins s Z H Q I h;refine PySem.W.methodCall_KW (pl:=pl) (thn (he pins s Z H _ I h) λu s1 hz36=>?_) ht;let(x,H1,I1,rx,a,dx,fs,ex,ea,l,q):=hz36;subst ex;obtain rfl:u=Value.ref a:=rx;refine JJ I1 ea c hm l ?_;refine PySem.W.callWith_K (first:=[.ref a]) (h₀:=X.base) I.ok.mod.kin hm.kp (thn (ha pos pins s1 Z H1 _ I1 q) λus s2 hz37=>?_) hst hpl;let(vs,H2,I2,r,q2):=hz37;refine{I2.kIn,?_};exact YX (us:=.ref a::us) (vs:=.ref a::vs) F hr hb hd hx I2 (.cons rfl r) q2
def qc5{pl:Sem Bool}(he:PE X o ta)(c:Cls X.K C)(hm:Meth X.K C m f)(F:FnOk X.prog X.w X.K X.mg X.base CX k f fd ps sp)(hr:Room k X.A)(hb:qM X.K fd ps ds)(hd:qD dvs ds)(hx:zr CX X E)
  (ht:eval (.Call (.Attribute o m apos) [] [] pos) X.env=(do
   let ov<-eval o X.env
   standAt apos.atName
   let (f,first)<-holding [ov] (getMethod ov m pl)
   callWith pos f first (backTo pos (starEach [] X.env)) (backToKw pos (keywordEach [] X.env))):=by rfl) :
  PE X (.Call (.Attribute o m apos) [] [] pos) (qfn C m sp dvs E ta qfm):=by
 intro pins s Z H Q I h;refine PySem.W.methodCall_KW (pl:=pl) (thn (he pins s Z H _ I h) λu s1 hz38=>?_) ht;let(x,H1,I1,rx,a,dx,fs,ex,ea,l,q):=hz38;subst ex;obtain rfl:u=Value.ref a:=rx;refine JJ I1 ea c hm l ?_;exact PySem.W.callWith_K0 (first:=[.ref a]) I1.kIn hm.kp (YX (us:=[.ref a]) (vs:=[.ref a]) F hr hb hd hx I1 %[rfl|0] q)
structure Mk(K:Frag)(C f:Addr):Prop where
 makes:PySem.W.makesIn K C=true
 init:PySem.W.findIn K (.ref C) "__init__" = some (some (.ref f))
 fn:PySem.W.isFn K (.ref f)=true
 kp:PySem.W.keepIn K (.ref C)=true
theorem ZE{pins:PP}{Z:St}{H:Hp}{s:Shared}{Q:VK}{us:List Value}{vs:List V}(M:Mk X.K C f)(F:FnOk X.prog X.w X.K X.mg X.base CX k f fd ps sp)(hr:Room (k+1) X.A)(hb:qM X.K fd ps ds)(hd:qD dvs ds)
  (hx:zr CX X E) (I:Inv X pins Z H s) (r:qD vs us)
  (h:∀x dx,H x=none->H dx=none->dx≠x->sp (.ref x::(vs++dvs)) (upd (upd H dx (.own x)) x (.ins C dx [])) (λv H2=>v=.non/\Q (.ref x) H2) E) :
  wpAny (model X.prog X.w) X.A (call (.ref C) us) (EP X pins Z Q) X.xe s:=by
 have hq:=h (s.heap.objs.size+1) s.heap.objs.size (I.hok.fresh (Nat.le_succ _)) (I.hok.fresh (Nat.le_refl _)) (Nat.ne_of_lt (Nat.lt_succ_self _));have I2:=Inv.made (C:=C) I;have r2:qD (V.ref (s.heap.objs.size+1)::(vs++dvs)) (Value.ref (s.heap.objs.size+1)::(us++ds)):=.cons rfl (r.append hd)
 have hl:(Value.ref (s.heap.objs.size+1)::us++ds).length=ps.length:=by have e:=r2.length;rw[F.len _ _ _ _ hq]at e;exact e.symm
 refine wpAny_call (qc3 (f:=f) I.kIn M.makes M.init (beq_iff_eq.mp M.fn) (codeAny_mono (F.run _ X.stack _ _ ⟨Value.ref (s.heap.objs.size+1)::us,[]⟩ (Value.ref (s.heap.objs.size+1)::(us++ds)) _ _ E (hr.make C us [])
  (I2.env0.make C us []) (hb _ (Value.ref (s.heap.objs.size+1)::us) I2.kIn hl) r2 hq) λr s' hq'=>?_))
 cases r with
 |error e=>exact hx pins Z _ _ e s' I2 hq'
 |ok fl=>
  cases fl with
  |ret u=>let(v,H',I3,rv,ev,q3):=I2.after hq';subst ev;exact{rv,{V.ref (s.heap.objs.size+1),H',I3,rfl,q3}}
  |next=>exact False.elim hq'
  |brk=>exact False.elim hq'
  |cont=>exact False.elim hq'
def qbh(M:Mk X.K C f)(F:FnOk X.prog X.w X.K X.mg X.base CX k f fd ps sp)(hr:Room (k+1) X.A)(hg:Gl X x)(hm:X.mg x=some (.ref C))(hb:qM X.K fd ps ds)(hd:qD dvs ds)(hx:zr CX X E)
  (ha:PA X (e::es) t) (hdb:(x == ("__debug__" : Str))=false:=by decide) (he:starEach (e::es) X.env=(false,eval e X.env)::starEach es X.env:=by rfl) (hpl:(backTo pos (starEach es X.env)).any (·.1)=false:=by rfl) :
  PE X (.Call (.Name x p) (e::es) [] pos) (qc4 C sp dvs E t):=by
 intro pins s Z H Q I h;refine wpAny_Call_Name_kw (zi I hg hm ?_ hdb);refine PySem.W.callWith_K (h₀:=X.base) I.ok.mod.kin M.kp (thn (ha pos pins s Z H _ I h) λus s1 hz39=>?_) he hpl;let(vs,H1,I1,r,q):=hz39;refine{I1.kIn,?_};exact ZE M F hr hb hd hx I1 r q
def qc6(M:Mk X.K C f)(F:FnOk X.prog X.w X.K X.mg X.base CX k f fd ps sp)(hr:Room (k+1) X.A)(hg:Gl X x)(hm:X.mg x=some (.ref C))(hb:qM X.K fd ps ds)(hd:qD dvs ds)(hx:zr CX X E)
  (hdb:(x == ("__debug__" : Str))=false:=by decide):PE X (.Call (.Name x p) [] [] pos) (qc4 C sp dvs E qfm):=by
 intro pins s Z H Q I h;refine wpAny_Call_Name_kw (zi I hg hm ?_ hdb);exact PySem.W.callWith_K0 I.kIn M.kp (ZE (us:=[]) M F hr hb hd hx I .nil h)
end
structure FnScope(N P:List Str)(sc:Scope):Prop where
 kind:sc.kind=.function
 co:sc.isCoroutine=false
 gen:sc.isGenerator=false
 nd:N.Nodup
 pre:N.take P.length=P
 par:∀x∈P,sc.names.lookup x=some .local\/sc.names.lookup x=some .cell
 nofree:∀y∈sc.names,y.2≠.free
theorem YY{kindOf:Str->Option NameKind}{x:Str}:∀{binds:List (Str×Value)} {m:PR},(∀v,(x,v)∉binds)->bindL kindOf binds m x=m x
 |[],_,_=>rfl
 | (n,v)::r,m,h=>by
  unfold bindL;rw[YY λw hw=>h w (List.mem_cons_of_mem _ hw)];split
  ·have:x≠n:=by rintro rfl;exact h v List.mem_cons_self
   simp[this]
  ·rfl
theorem YZ{kindOf:Str->Option NameKind}{x:Str}:∀{binds:List (Str×Value)} {m:PR},(∀v,(x,v)∉binds)->bindC kindOf binds m x=m x
 |[],_,_=>rfl
 | (n,v)::r,m,h=>by
  unfold bindC;rw[YZ λw hw=>h w (List.mem_cons_of_mem _ hw)];split
  ·rfl
  ·have:x≠n:=by rintro rfl;exact h v List.mem_cons_self
   simp[this]
theorem Y0{kindOf:Str->Option NameKind}{x:Str}{v:Value}:∀{P:List Str} {vs:List Value} {i:Nat} {m:PR},P.Nodup->P[i]?=some x->vs[i]?=some v->kindOf x=some .local->
  bindL kindOf (P.zip vs) m x=some v
 |[],_,_,_,_,h,_,_=>by simp at h
 | _::_,[],_,_,_,_,h,_=>by simp at h
 | p::P,w::vs,0,m,nd,h1,h2,hk=>by simp at h1 h2;subst h1;subst h2;show bindL kindOf ((p,w)::P.zip vs) m p=_;unfold bindL;rw[YY λv hv=>(List.nodup_cons.mp nd).1 (List.of_mem_zip hv).1,if_pos hk];simp
 | p::P,w::vs,i+1,m,nd,h1,h2,hk=>by show bindL kindOf ((p,w)::P.zip vs) m x=_;unfold bindL;exact Y0 (i:=i) (List.nodup_cons.mp nd).2 (-h1:) (-h2:) hk
theorem Y1{kindOf:Str->Option NameKind}{x:Str}{v:Value}:∀{P:List Str} {vs:List Value} {i:Nat} {m:PR},P.Nodup->P[i]?=some x->vs[i]?=some v->kindOf x≠some .local->
  bindC kindOf (P.zip vs) m x=some v
 |[],_,_,_,_,h,_,_=>by simp at h
 | _::_,[],_,_,_,_,h,_=>by simp at h
 | p::P,w::vs,0,m,nd,h1,h2,hk=>by simp at h1 h2;subst h1;subst h2;show bindC kindOf ((p,w)::P.zip vs) m p=_;unfold bindC;rw[YZ λv hv=>(List.nodup_cons.mp nd).1 (List.of_mem_zip hv).1,if_neg hk];simp
 | p::P,w::vs,i+1,m,nd,h1,h2,hk=>by show bindC kindOf ((p,w)::P.zip vs) m x=_;unfold bindC;exact Y1 (i:=i) (List.nodup_cons.mp nd).2 (-h1:) (-h2:) hk
def jM(N:List Str)(vs:List V):St:=vs.map some++List.replicate (N.length - vs.length) none
def JC(CX:CXT)(P:Program)(w:World)(K:Frag)(mg:PR)(base:Heap)(N:List Str)(qual:Str)(scope:Scope)(f:Addr)(cd:Value)(A:Around)(outer:List Env)(s:Shared)(H:Hp)(E:XK):Cx where
 prog:=P
 w:=w
 K:=K
 mg:=mg
 base:=base
 A:=A.deeper (envOfC qual scope s.heap.objs.size f cd)
 N:=N
 s₀:=s
 Hv:=H
 env:=envOfC qual scope s.heap.objs.size f cd
 outer:=outer
 stack:=envOfC qual scope s.heap.objs.size f cd::outer
 ex:=[]
 calm:=true
 fn:=λ_=>true
 pn:=[]
 xe:=λe s'=>wpAny (model P w) (A.deeper (envOfC qual scope s.heap.objs.size f cd)) (leaving (envOfC qual scope s.heap.objs.size f cd) e) (λ_ s''=>CX outer H s E e s'') (λe' s''=>CX outer H s E e' s'') s'
def ZF{sc:Scope}{n:Nat}{x:Str}(h:sc.names.lookup x=some .cell):∃c,(cellsFrom n sc.names []).lookup x=some c:=by have q:=PySem.W.cellsFrom_some sc.names n [] (.inl h);exact Option.isSome_iff_exists.mp q
def qbi{CX:CXT}{P:Program}{w:World}{K:Frag}{mg:PR}{base:Heap}{N ps:List Str}{qual:Str}{scope:Scope}{f:Addr}{cd:Value}{A:Around}{outer:List Env}{s s1:Shared}{H:Hp}{E:XK}{us:List Value}{vs:List V}
  (S:FnScope N ps scope) (hd:A.handled=none) (e0:Env0 P w K mg base A outer s H) (hl:vs.length=ps.length) (r:qD vs us)
  (x:InCallC s s.heap.objs.size (bindL (envOfC qual scope s.heap.objs.size f cd).kindOf (ps.zip us) λ_=>none) (cellsFrom (s.heap.objs.size+1) scope.names []) (bindC (envOfC qual scope s.heap.objs.size f cd).kindOf (ps.zip us) λ_=>none) s1) :
  Inv (JC CX P w K mg base N qual scope f cd A outer s H E) [] (jM N vs) H s1:=by
 have hpl:ps.length<=N.length:=by have:=congrArg List.length S.pre;rw[List.length_take]at this;lia
 let(h1,tk,rfl,hk):=x.done;have noA:∀b:Addr,b∉(JC CX P w K mg base N qual scope f cd A outer s H E).ex:=λb z=>absurd (show b∈([]:List Addr) from z) (5:)
 refine{{e0.mod,S.kind,rfl,rfl,Nat.le_refl _,λy z c h1 h2=>?_,λy hy=>?_,λy c _ h=>?_,λ_=>hd,Around.frames_deeper e0.frames,.inr ⟨rfl,rfl⟩,λb z=>absurd z (noA b),e0.bs,e0.bsz,λb _ _=>noA b,λb z=>absurd z (noA b),e0.funs,e0.frf},
  rfl,e0.bare,Un.kept hk,{_,x.toInCall.ns,λi y v h1 h2 h3=>?_},λy c h=>{_,x.cell y c h},e0.hok.fresh (Nat.le_refl _),λy c h=>?_,λp hp=>absurd (show p∈([]:PP) from hp) (5:),e0.hok.kept hk,?_}
 ·exact name_of_addr x.apart (PySem.mem_of_lookup h1) (PySem.mem_of_lookup h2)
 ·have hy:scope.names.lookup y=some .cell\/scope.names.lookup y=some .free:=hy;rcases hy with hy|hy
  ·exact ZF hy
  ·exact absurd rfl (S.nofree _ (PySem.mem_of_lookup hy))
 ·exact Nat.le_of_lt (x.above y c (PySem.mem_of_lookup h))
 ·have hi:i < vs.length:=by
   unfold jM at h2
   by_cases hi:i < vs.length
   ·exact hi
   ·rw[List.getElem?_append_right (-hi:)]at h2;rw[List.getElem?_replicate]at h2
    split at h2<;>cases h2
  have ha:vs[i]?=some v:=by
   unfold jM at h2;rw[List.getElem?_append_left (-hi:),List.getElem?_map]at h2
   cases e:vs[i]? with
   |none=>rw[e]at h2;cases h2
   |some a=>rw[e]at h2;cases h2;rfl
  let(u,hu,rv):=r.get ha
  have hp:ps[i]?=some y:=by rw[<-S.pre,List.getElem?_take_of_lt (1:)];exact h1
  have ndP:ps.Nodup:=by rw[<-S.pre];exact S.nd.sublist (List.take_sublist _ _)
  refine{u,rv,?_};rcases S.par y (List.mem_of_getElem? hp) with k|k
  ·exact .inl ⟨k,Y0 ndP hp hu k⟩
  ·let(c,e):=ZF (n:=s.heap.objs.size+1) k;refine .inr ⟨.inl k,c,e,?_⟩;have q:=x.cell y c e;rw[Y1 ndP hp hu (by show scope.names.lookup y≠_;rw[k];decide)]at q;exact q
 ·exact e0.hok.fresh (Nat.le_of_lt (x.above y c (PySem.mem_of_lookup h)))
 ·unfold jM;show _=N.length;rw[List.length_append,List.length_map,List.length_replicate]
  lia
theorem qhN{CX:CXT}{P:Program}{w:World}{K:Frag}{mg:PR}{base:Heap}{k:Nat}{f:Addr}{name qual:Str}{params:Arguments}{body:List Stmt}{scope:Scope}{dV kV doc pm cdv ct oc:Value}{an od:Option Addr}
  {osl:Array (Option Value)} {N ps:List Str} {sp:Sp} (lk:K.lookup f=some ⟨oc,od,.func (PySem.W.fnOf name qual params body scope dV kV doc pm an cdv ct),osl⟩) (hcd:PySem.W.codeIn K cdv qual=true) (S:FnScope N ps scope)
  (len:∀vs H Q E,sp vs H Q E->vs.length=ps.length)
  (hbody:∀(A:Around) (outer:List Env) (s:Shared) (H:Hp) (vs:List V) (Q:VK) (E:XK),Room k (A.deeper (envOfC qual scope s.heap.objs.size f cdv))->sp vs H Q E->
   ∃t,PSs (JC CX P w K mg base N qual scope f cdv A outer s H E) body t/\t { nx:=λ_ H'=>Q .non H',rt:=Q } (jM N vs) H) :
  FnOk P w K mg base CX (k+1) f (PySem.W.fnOf name qual params body scope dV kV doc pm an cdv ct) ps sp:=by
 refine{len,λA outer s H args us vs Q E hr e0 hb r hsp=>?_};have hl:=len _ _ _ _ hsp;have KX:K.In s.heap:=e0.mod.kin.keeps λb o e=>(e0.bs b o e).1;have lim:s.heap.NoLimit:=e0.mod.nolimit.keeps λb o e=>(e0.bs b o e).1
 have hkind:∀y∈ps.zip us,scope.names.lookup y.1=some .local\/(scope.names.lookup y.1=some .cell/\((cellsFrom (s.heap.objs.size+1) scope.names []).lookup y.1).isSome=true):=λ⟨n,v⟩ hy=>by
  rcases S.par n (List.of_mem_zip hy).1 with q|q
  ·exact .inl q
  ·exact .inr ⟨q,PySem.W.cellsFrom_some _ _ _ (.inl q)⟩
 refine codeAny_call_function hr.depth (KX _ _ lk) rfl S.co S.gen rfl (PySem.W.codeRec_of KX hcd) (hb _ _ _ _ ?_);refine wpAny_newFunctionEnv_cells S.kind hkind λenv he s1 x=>?_;subst he;refine{lim.keeps x.toInCall.keep,codeAny_func ?_};let(t,ht,hq):=hbody A outer s H vs Q E (hr.deeper _) hsp;have I:Inv (JC CX P w K mg base N qual scope f cdv A outer s H E) [] (jM N vs) H s1:=qbi S hr.hd e0 hl r x;refine wpAny_mono (ht [] s1 (jM N vs) H _ I hq) (λfl s' hs=>?_) λe s' hs=>hs
 have fin:∀{Z':St} {H':Hp} {v:V} {u:Value},Inv (JC CX P w K mg base N qual scope f cdv A outer s H E) [] Z' H' s'->qH v u->Q v H'->CE outer P w H s Q u s':=
  λ{Z' H' v u} J rv q=>⟨v,H',J.os,J.bare,J.base,J.hok,rv,q⟩
 cases fl with
 |ret u=>let(v,Z',H',J,rv,q):=hs;exact fin J rv q
 |next=>let(Z',H',J,q):=hs;exact fin (v:=V.non) (u:=Value.none) J rfl q
 |brk=>let(_,_,_,q):=hs;exact False.elim q
 |cont=>let(_,_,_,q):=hs;exact False.elim q
section
variable{X:Cx}{x:Str}{p pos:Pos}{e:Expr}{es:List Expr}{t:TA}{id T:String}{r:List V->Hp->VK->Prop}
def tCB(r:List V->Hp->VK->Prop)(t:TA):TE:=λZ H Q=>t Z H λvs H1=>r vs H1 Q
def qN(hc:zy X (.builtin id) r)(hg:Gl X x)(hm:X.mg x=none)(hv:bootBuiltins x=some (.builtin id))(ha:PA X (e::es) t)(hn:x≠"__name__":=by decide)(hdb:(x == ("__debug__" : Str))=false:=by decide)
  (he:starEach (e::es) X.env=(false,eval e X.env)::starEach es X.env:=by rfl) (hpl:(backTo pos (starEach es X.env)).any (·.1)=false:=by rfl):PE X (.Call (.Name x p) (e::es) [] pos) (tCB r t):=by
 intro pins s Z H Q I h;refine wpAny_Call_Name_kw (YM I hg hm hv ?_ hn hdb);refine PyProof.Rows.callWith_builtin1 (thn (ha pos pins s Z H _ I h) λus s1 hz44=>?_) he hpl;let(vs,H1,I1,r1,q1):=hz44;exact hc pins s1 Z H1 vs us Q I1 r1 q1
def qX(hc:zy X (.type T) r)(hg:Gl X x)(hm:X.mg x=none)(hv:bootBuiltins x=some (.type T))(ha:PA X (e::es) t)(hn:x≠"__name__":=by decide)(hdb:(x == ("__debug__" : Str))=false:=by decide)
  (he:starEach (e::es) X.env=(false,eval e X.env)::starEach es X.env:=by rfl) (hpl:(backTo pos (starEach es X.env)).any (·.1)=false:=by rfl):PE X (.Call (.Name x p) (e::es) [] pos) (tCB r t):=by
 intro pins s Z H Q I h;refine wpAny_Call_Name_kw (YM I hg hm hv ?_ hn hdb);refine PyProof.Rows.callWith_type1 (thn (ha pos pins s Z H _ I h) λus s1 hz45=>?_) he hpl;let(vs,H1,I1,r1,q1):=hz45;exact hc pins s1 Z H1 vs us Q I1 r1 q1
end
end L2
namespace HT
open PySem PyProof.Rows
section
variable{prog:Program}{w:World}{A:Around}{E:PQ}{s:Shared}
def sIx(n d:Nat):Option Int->Nat
 |none=>d
 |some v=>if v < 0 then (v+(n:Int)).toNat else min v.toNat n
def ZG(n d:Nat):sIx n d none=d:=rfl
def J5(n d k:Nat):sIx n d (some (k:Int))=min k n:=by show(if (k:Int) < 0 then ((k:Int)+(n:Int)).toNat else min (k:Int).toNat n)=min k n;rw[if_neg (1:),Int.toNat_natCast]
end
end HT
namespace L2
open PySem PySem.Spec PyProof.Rows
abbrev TO:=St->Hp->(Option Int->Hp->Prop)->Prop
def PO(X:Cx)(e:Option Expr)(t:TO):Prop:=
 ∀(pins:PP) (s:Shared) (Z:St) (H:Hp) (Q:Option Int->Hp->Prop),Inv X pins Z H s->t Z H Q->
  wpAny (model X.prog X.w) X.A (evalPart e X.env) (λu s'=>∃o H',Inv X pins Z H' s'/\IsPart u o/\Q o H') X.xe s
def qfp:TO:=λ_ H Q=>Q none H
def qkO(t:TE):TO:=λZ H Q=>t Z H λx H1=>∃i,x=.int i/\Q (some i) H1
section
variable{X:Cx}{e:Expr}{te:TE}{lo hi:Option Expr}{tl th:TO}{pos p2:Pos}
def qfq:PO X none qfp:=by intro pins s Z H Q I h;rw[evalPart_none];exact wpAny_pure ⟨none,H,I,.none,h⟩
def qfr(h:PE X e te):PO X (some e) (qkO te):=by intro pins s Z H Q I hw;rw[evalPart_some];refine thn (h pins s Z H _ I hw) λu s1 hq1=>?_;let(x,H1,I1,r1,q1):=hq1;let(i,rfl,q):=q1;let(t,rfl):=r1;exact{some i,H1,I1,.int i t,q}
def SlR(X:Cx)(r:V->Option Int->Option Int->Hp->VK->Prop):Prop:=
 ∀(pins:PP) (s:Shared) (Z:St) (H:Hp) (x:V) (v vl vu:Value) (lo hi:Option Int) (sl:Addr) (Q:VK),Inv X pins Z H s->qH x v->s.heap.IsSliceOf sl vl vu .none->IsPart vl lo->IsPart vu hi->r x lo hi H Q->
  ∃T id,typeLookup (.type T) "__getitem__" = pure (some (.builtin id))/\s.TypeIs v T/\wpAny (model X.prog X.w) X.A (getItem v (.ref sl)) (EP X pins Z Q) X.xe s
def tSl(r:V->Option Int->Option Int->Hp->VK->Prop)(te:TE)(tl th:TO):TE:=λZ H Q=>te Z H λx H1=>tl Z H1 λl H2=>th Z H2 λu H3=>r x l u H3 Q
def qc7{r:V->Option Int->Option Int->Hp->VK->Prop}(hr:SlR X r)(he:PE X e te)(hl:PO X lo tl)(hu:PO X hi th):PE X (.Subscript e (.Slice lo hi none p2) pos) (tSl r te tl th):=by intro pins s Z H Q I h;refine Subscript_ (thn (he pins s Z H _ I h) λv s1 hq1=>?_);let(x,H1,I1,r1,q1):=hq1;refine wpAny_Slice (thn (hl pins s1 Z H1 _ I1 q1) λvl s2 hz46=>?_);let(l,H2,I2,pl,q2):=hz46;refine thn (hu pins s2 Z H2 _ I2 q2) λvu s3 hq1=>?_;let(u,H3,I3,pu,q3):=hq1;rw[evalPart_none];refine wpAny_pure ?_;have I4:Inv X pins Z H3 { s3 with heap:=s3.heap.push { cls:=.type "slice",data:=.fields #[vl,vu,.none] } }:=I3.kept (t':=s3.toks) λb ob q=>Heap.get?_push_of_some _ q;let(T,id,hT,ht,hg):=hr pins { s3 with heap:=s3.heap.push { cls:=.type "slice",data:=.fields #[vl,vu,.none] } } Z H3 x v vl vu l u s3.heap.objs.size Q I4 r1 (Heap.IsSliceOf.new ..) pl pu q3;show wpAny (model X.prog X.w) X.A (subscriptTail e (.Slice lo hi none p2) v (.ref s3.heap.objs.size)) (EP X pins Z Q) X.xe { s3 with heap:=s3.heap.push { cls:=.type "slice",data:=.fields #[vl,vu,.none] } };exact tail_any (ops:=[.ref s3.heap.objs.size,v]) ht hT hg (by with_unfolding_all rfl)
def qhi(xs:List V)(lo hi:Option Int):List V:=(xs.drop (HT.sIx xs.length 0 lo)).take (HT.sIx xs.length xs.length hi - HT.sIx xs.length 0 lo)
def QW(xs:List V)(lo hi:Option Int):(qhi xs lo hi).length<=xs.length:=by
 unfold qhi;rw[List.length_take,List.length_drop]
 lia
end
def ixN(n:Nat)(i:Int):Option Nat:=if 0<=i then (if i < n then some i.toNat else none) else if -(n:Int)<=i then some (i+n).toNat else none
def atI{α:Type}(xs:List α)(i:Int):Option α:=(ixN xs.length i).bind λj=>xs[j]?
def qbj{n:Nat}{i:Int}{j:Nat}(h:ixN n i=some j):seqIndex? i n=some j/\j < n/\-(n:Int)<=i/\i < n:=by
 unfold ixN at h
 by_cases h0:0<=i
 ·rw[if_pos h0]at h
  by_cases h1:i < n
  ·rw[if_pos h1]at h;have e:i.toNat=j:=Option.some.inj h;exact{by rw[seqIndex_of h0 h1,e],by lia,by lia,h1}
  ·rw[if_neg h1]at h;cases h
 ·rw[if_neg h0]at h
  by_cases h1:-(n:Int)<=i
  ·rw[if_pos h1]at h;have e:(i+n).toNat=j:=Option.some.inj h;exact{by rw[seqIndex_neg (1:) h1,e],by lia,h1,by lia}
  ·rw[if_neg h1]at h;cases h
theorem QX{α:Type}{xs:List α}{i:Int}{v:α}(h:atI xs i=some v):∃j,seqIndex? i xs.length=some j/\xs[j]?=some v/\j < xs.length/\-(xs.length:Int)<=i/\i < xs.length:=by
 unfold atI at h
 cases e:ixN xs.length i with
 |none=>rw[e]at h;cases h
 |some j=>rw[e]at h;let(h1,h2,h3,h4):=qbj e;exact⟨j,h1,h,h2,h3,h4⟩
def qc8{α:Type}(xs:List α)(v:α):atI (xs++[v]) (-1)=some v:=by
 have hl:(xs++[v]).length=xs.length+1:=by simp
 have e:ixN (xs++[v]).length (-1)=some xs.length:=by
  unfold ixN;rw[hl,if_neg (2:),if_pos (1:)]
  congr 1
  lia
 unfold atI;rw[e];show(xs++[v])[xs.length]?=some v;simp
def qbk(b:Expr):Prop:=∀o i,subscripted b false o i=operate [o,i] (getItem o i)
def IxR(X:Cx)(r:R2):Prop:=
 ∀(value slice:Expr) (pins:PP) (s:Shared) (Z:St) (H:Hp) (x y:V) (v u:Value) (Q:VK),Inv X pins Z H s->qH x v->qH y u->r x y H Q->
  subscripted slice false v u=operate [v,u] (getItem v u)->wpAny (model X.prog X.w) X.A (subscriptTail value slice v u) (EP X pins Z Q) X.xe s
def MtR(X:Cx)(id:String)(r:V->List V->Hp->VK->Prop):Prop:=
 ∀(pins:PP) (s:Shared) (Z:St) (H:Hp) (x:V) (xs:List V) (v:Value) (us:List Value) (Q:VK),Inv X pins Z H s->qH x v->qD xs us->r x xs H Q->
  wpAny (model X.prog X.w) X.A (call (.builtin id) (v::us)) (EP X pins Z Q) X.xe s
section
variable{X:Cx}{a b:Expr}{ta tb:TE}{pos:Pos}
def qhO{r:R2}(hr:IxR X r)(ha:PE X a ta)(hb:PE X b tb)(hs:qbk b):PE X (.Subscript a b pos) (tOp r ta tb):=by intro pins s Z H Q I h;exact Subscript_ (qkF ha hb I h λv u s2 x y H2 I2 rx ry q=>hr a b pins s2 Z H2 x y v u Q I2 rx ry q (hs _ _))
def qkj(K:Frag):R2:=λx y H Q=>∃p xs i v,x=.ref p/\y=.int i/\SqL K H p xs/\atI xs i=some v/\Q v H
def qmE(K:Frag):R2:=λx y H Q=>∃p xs i v,x=.ref p/\y=.int i/\SqT K H p xs/\atI xs i=some v/\Q v H
def qmF:R2:=λx y H Q=>∃z i c,x=.str z/\y=.int i/\z.length<=sizeLine/\atI z.cps.toList i=some c/\Q (.str ⟨#[c]⟩) H
def qbl:IxR X (qkj X.K):=by
 intro value slice pins s Z H x y v u Q I rx ry h hs;let(p,xs,i,z,rfl,rfl,hq,he,q):=h;cases rx;let(t,rfl):=ry;let(its,r,pl,hz):=I.list hq;let(j,h1,h2,h3,h4,h5):=QX he;let(w,ew,rw'):=r.get h2;have hl:=r.length;have hn:=yW;have fin:EP X pins Z Q w s:=⟨z,H,I,rw',q⟩
 by_cases h0:0<=i
 ·have hj:i.toNat=j:=by
   rw[seqIndex_of h0 h5]at h1;exact Option.some.inj h1
  exact item_listR pl.isList h0 (1:) (by rw[hj];simpa using ew) fin hs
 ·have hj:(i+(its.toArray.size:Int)).toNat=j:=by
   rw[seqIndex_neg (1:) h4]at h1;rw[List.size_toArray,<-hl];exact Option.some.inj h1
  exact subscriptTail_builtinR (x:=w) pl.isList.typeIs slot_list_getitem.lookup
   (wpAny_getItem_list_neg (Q:=λr s'=>r=w/\EP X pins Z Q r s') pl.isList (1:) (by rw[List.size_toArray]<;>lia) (1:) (by rw[hj];simpa using ew) ⟨rfl,fin⟩) hs
def qhP:IxR X (qmE X.K):=by
 intro value slice pins s Z H x y v u Q I rx ry h hs;let(p,xs,i,z,rfl,rfl,hq,he,q):=h;cases rx;let(t,rfl):=ry;let(its,r,pl,hz):=I.tuple hq;let(j,h1,h2,h3,h4,h5):=QX he;let(w,ew,rw'):=r.get h2;have hl:=r.length;have hn:=yW;have fin:EP X pins Z Q w s:=⟨z,H,I,rw',q⟩
 exact subscriptTail_builtinR (x:=w) pl.typeIs slot_tuple_getitem.lookup
  (getItem_tuple (j:=j) (Q:=λr s'=>r=w/\EP X pins Z Q r s') pl (1:) (1:) (by rw[List.size_toArray,<-hl];exact h1) (-ew:) ⟨rfl,fin⟩) hs
def qhQ:IxR X qmF:=by
 intro value slice pins s Z H x y v u Q I rx ry h hs;let(z,i,c,rfl,rfl,hz,he,q):=h;let(t,rfl):=rx;let(t',rfl):=ry;let(j,h1,h2,h3,h4,h5):=QX he;have hl:z.cps.toList.length=z.length:=by simp[Str.length]
 rw[hl]at h1 h4 h5;have hn:=yW
 exact tail_any (typeIs_str s z t) slot_str_getitem.lookup (getItem_str (c:=c) (by have e1:decide (i < -(2 ^ 63:Int))=false:=decide_eq_false (1:);have e2:decide (i≥2 ^ 63)=false:=decide_eq_false (1:);rw[e1,e2,Bool.or_false]) (by rw[h1];simpa using h2) ⟨.str ⟨#[c]⟩,H,I.tok _,⟨_,rfl⟩,q⟩) hs
def qaA(its:List Value)(n j:Nat)(u:Value):Obj.mapSeq (·.setIfInBounds j u) { cls:=.type "list",data:=.seq its.toArray n }={ cls:=.type "list",data:=.seq (its.set j u).toArray n }:=by simp[Obj.mapSeq]
def Inv.lst{pins:PP}{Z:St}{H:Hp}{s:Shared}{p:Addr}{xs:List V}(I:Inv X pins Z H s)(h:H p=some (.lst xs)) :
  ∃(its:List Value) (n:Nat),qD xs its/\s.heap.get? p=some { cls:=.type "list",data:=.seq its.toArray n }/\xs.length<=sizeLine:=by
 let(z,its,n,r,e):=I.hok p _ h;exact⟨its,n,r,e,z⟩
def Inv.lstUpd{pins:PP}{Z:St}{H:Hp}{s:Shared}{p:Addr}{xs ys:List V}{its its':List Value}{n n':Nat}{f:Obj->Obj}(I:Inv X pins Z H s)(h:H p=some (.lst xs))
  (ho:s.heap.get? p=some { cls:=.type "list",data:=.seq its.toArray n }) (hf:f { cls:=.type "list",data:=.seq its.toArray n }={ cls:=.type "list",data:=.seq its'.toArray n' }) (r:qD ys its') (hz:ys.length<=sizeLine) (t:Nat) :
  Inv X pins Z (upd H p (.lst ys)) { s with heap:=s.heap.update p f,toks:=t }:=by
 have e:(s.heap.update p f).get? p=some { cls:=.type "list",data:=.seq its'.toArray n' }:=by rw[Heap.get?_update_self f ho (by rw[hf]<;>rfl),hf]
 refine I.write (x:=p) (e:=p) (by rw[h];trivial) (.inl rfl) (λb u hb q=>(Heap.get?_update_other _ _ (Ne.symm hb)).trans q) ⟨_,e⟩ ?_;exact⟨hz,its',n',r,e⟩
def qkP:V->V->V->Hp->(Hp->Prop)->Prop:=λo i v H Q=>∃p xs k j,o=.ref p/\i=.int k/\H p=some (.lst xs)/\ixN xs.length k=some j/\Q (upd H p (.lst (xs.set j v)))
def qc9:qlV X qkP:=by
 intro pins s Z H o i v ov iv u Q I ro ri rv h;let(p,xs,k,j,rfl,rfl,hp,hj,q):=h;cases ro;let(t,rfl):=ri;let(its,n,r,ho,hz):=I.lst hp;let(h1,h2,h3,h4):=qbj hj;have hl:=r.length;have hn:=yW
 have I':Inv X pins Z (upd H p (.lst (xs.set j v))) { s with heap:=s.heap.update p (Obj.mapSeq (·.setIfInBounds j u)) }:=
  I.lstUpd hp ho (qaA its n j u) (r.set rv j) (by rw[List.length_set];exact hz) s.toks
 by_cases h0:0<=k
 ·have hk:k.toNat=j:=by
   rw[seqIndex_of h0 h4]at h1;exact Option.some.inj h1
  exact PySem.W.ki_setAt ho h0 (1:) (by rw[List.size_toArray,<-hl];exact h4) (by rw[hk];exact{_,I',q})
 ·have hk:(k+(its.toArray.size:Int)).toNat=j:=by
   rw[seqIndex_neg (1:) h3]at h1;rw[List.size_toArray,<-hl];exact Option.some.inj h1
  exact PySem.W.ki_setBack ho (1:) (by rw[List.size_toArray,<-hl];exact h3) (1:) (by rw[hk];exact{_,I',q})
def Y2(lo hi:Option Int)(n:Nat):(sliceBounds lo hi none n).1=((HT.sIx n 0 lo:Nat):Int)/\(sliceBounds lo hi none n).2.1=((HT.sIx n n hi:Nat):Int)/\(sliceBounds lo hi none n).2.2=1:=by
 refine{?_,?_,rfl}
 ·cases lo with
  |none=>simp[sliceBounds,HT.sIx]
  |some i=>
   simp![sliceBounds,HT.sIx,Option.getD_none,show(1:Int) > 0 by decide,if_true]
   by_cases h:i < 0
   ·simp![h,if_true]<;>lia
   ·simp![h,if_false]<;>lia
 ·cases hi with
  |none=>simp[sliceBounds,HT.sIx]
  |some i=>
   simp![sliceBounds,HT.sIx,Option.getD_none,show(1:Int) > 0 by decide,if_true]
   by_cases h:i < 0
   ·simp![h,if_true]<;>lia
   ·simp![h,if_false]<;>lia
def J6(its:List Value)(lo hi:Option Int):slicePick its.toArray lo hi none=((its.drop (HT.sIx its.length 0 lo)).take (HT.sIx its.length its.length hi - HT.sIx its.length 0 lo)).toArray:=by let(h1,h2,h3):=Y2 lo hi its.toArray.size;unfold slicePick;rw[h1,h2,h3];simp![sliceRange_one,pick_run,List.size_toArray]<;>rfl
def qmG(K:Frag):V->Option Int->Option Int->Hp->VK->Prop:=λx lo hi H Q=>∃a xs,x=.ref a/\SqL K H a xs/\∀p,H p=none->Q (.ref p) (upd H p (.lst (qhi xs lo hi)))
def qfs:SlR X (qmG X.K):=by intro pins s Z H x v vl vu lo hi sl Q I rx hs pl pu h;let(a,xs,rfl,hx,q):=h;cases rx;let(its,r,ht,hz):=I.list hx;have hlen:=r.length;refine{"list",_,slot_list_getitem.lookup,ht.isList.typeIs,?_};refine wpAny_getItem_list_slice ht.isList hs pl pu .none (5:) ?_ (by rw[List.size_toArray]<;>lia);rw[J6,<-hlen];refine{.ref s.heap.objs.size,_,I.laid (t':=s.toks) (o:=.lst (qhi xs lo hi)) (λb ob q=>Heap.get?_push_of_some _ q) (Nat.le_refl _) ?_,rfl,q _ (I.hok.fresh (Nat.le_refl _))};exact{Nat.le_trans (QW xs lo hi) hz,_,0,(r.drop (HT.sIx xs.length 0 lo)).take (HT.sIx xs.length xs.length hi - HT.sIx xs.length 0 lo),Heap.get?_push_size _ rfl}
def y9:V->Bool
 |.non=>true
 |.bl _=>true
 |.int _=>true
 |.str _=>true
 |_=>false
def eqV:V->V->Bool
 |.non,.non=>true
 |.bl a,.bl b=>a == b
 |.bl a,.int b=>(if a then 1 else 0) == b
 |.int a,.bl b=>a == (if b then 1 else 0)
 |.int a,.int b=>a == b
 |.str a,.str b=>a == b
 |_,_=>false
theorem qhR{A:Around}{s:Shared}{y x:V}{u v:Value}(ry:qH y u)(rx:qH x v)(fy:y9 y=true)(fx:y9 x=true):SeqAt.EqAt A s u v (eqV y x):=by
 cases y with
 |non=>
  cases ry
  cases x with
  |non=>cases rx;exact SeqAt.EqAt.same _
  |bl b=>cases rx;exact SeqAt.EqAt.none_bool b
  |int b=>let(t,rfl):=rx;exact SeqAt.EqAt.none_int b t
  |str b=>let(t,rfl):=rx;exact SeqAt.EqAt.none_str b t
  |_=>exact absurd (show false=true from fx) Bool.false_ne_true
 |bl a=>
  cases ry
  cases x with
  |non=>cases rx;exact SeqAt.EqAt.bool_none a
  |bl b=>cases rx;exact SeqAt.EqAt.bool_bool a b
  |int b=>let(t,rfl):=rx;exact SeqAt.EqAt.bool_int a b t
  |str b=>let(t,rfl):=rx;exact SeqAt.EqAt.bool_str a b t
  |_=>exact absurd (show false=true from fx) Bool.false_ne_true
 |int a=>
  let(t',rfl):=ry
  cases x with
  |non=>cases rx;exact SeqAt.EqAt.int_none a t'
  |bl b=>cases rx;exact SeqAt.EqAt.int_bool a t' b
  |int b=>let(t,rfl):=rx;exact SeqAt.EqAt.int_int a t' b t
  |str b=>let(t,rfl):=rx;exact SeqAt.EqAt.int_str a t' b t
  |_=>exact absurd (show false=true from fx) Bool.false_ne_true
 |str a=>
  let(t',rfl):=ry
  cases x with
  |non=>cases rx;exact SeqAt.EqAt.str_none a t'
  |bl b=>cases rx;exact SeqAt.EqAt.str_bool a t' b
  |int b=>let(t,rfl):=rx;exact SeqAt.EqAt.str_int a t' b t
  |str b=>let(t,rfl):=rx;exact SeqAt.EqAt.str_str a t' b t
  |_=>exact absurd (show false=true from fx) Bool.false_ne_true
 |_=>exact absurd (show false=true from fy) Bool.false_ne_true
def eqU(x:V)(u:Value):Bool:=match u with
 |.none=>eqV .non x
 |.bool b=>eqV (.bl b) x
 |.int i _=>eqV (.int i) x
 |.str z _=>eqV (.str z) x
 |_=>false
theorem qeo{x y:V}{u:Value}(r:qH y u)(f:y9 y=true):eqU x u=eqV y x:=by
 cases y with
 |non=>cases r;rfl
 |bl b=>cases r;rfl
 |int i=>let(t,rfl):=r;rfl
 |str z=>let(t,rfl):=r;rfl
 |_=>exact absurd (show false=true from f) Bool.false_ne_true
theorem Ja{x:V}:∀{xs:List V} {us:List Value},qD xs us->xs.all y9=true->us.any (eqU x)=xs.any λy=>eqV y x
 |_,_,.nil,_=>rfl
 | y::xs,u::us,.cons r t,f=>by rw[List.all_cons,Bool.and_eq_true]at f;rw[List.any_cons,List.any_cons,qeo r f.1,Ja t f.2]
theorem yL{A:Around}{s:Shared}{x:V}{v:Value}(rx:qH x v)(fx:y9 x=true){xs:List V}{us:List Value}(h:qD xs us)(f:xs.all y9=true):∀u∈us,SeqAt.EqAt A s u v (eqU x u):=by
 induction h with
 |nil=>intro u hu;cases hu
 |cons r t ih=>
  intro u' hu;rw[List.all_cons,Bool.and_eq_true]at f;rcases List.mem_cons.mp hu with rfl|hu
  ·rw[qeo r f.1];exact qhR r rx f.1 fx
  ·exact ih f.2 u' hu
def inV(x:V)(xs:List V):Bool:=xs.any λy=>eqV y x
def rIn(K:Frag)(neg:Bool):R2:=λx y H Q=>∃p xs,y=.ref p/\(SqL K H p xs\/SqT K H p xs)/\y9 x=true/\xs.all y9=true/\Q (.bl (if neg then !inV x xs else inV x xs)) H
def qbm:OpR X (compareOp .In) (rIn X.K false):=by
 intro pins s Z H x y v u Q I rx ry h;let(p,xs,rfl,hq,fx,fs,q):=h;cases ry;rcases hq with hq|hq
 ·let(its,r,pl,hz):=I.list hq;refine SeqAt.in_listAt (eqU x) pl.isList (λw hw=>yL rx fx r fs w (-hw:)) ⟨.bl _,H,I,rfl,?_⟩;rw[show its.toArray.any (eqU x)=its.any (eqU x) by simp,Ja r fs];exact q
 ·let(its,r,pl,hz):=I.tuple hq;refine SeqAt.in_tupleAt (eqU x) pl (λw hw=>yL rx fx r fs w (-hw:)) ⟨.bl _,H,I,rfl,?_⟩;rw[show its.toArray.any (eqU x)=its.any (eqU x) by simp,Ja r fs];exact q
def Y3:OpR X (compareOp .NotIn) (rIn X.K true):=by
 intro pins s Z H x y v u Q I rx ry h;let(p,xs,rfl,hq,fx,fs,q):=h;cases ry;rcases hq with hq|hq
 ·let(its,r,pl,hz):=I.list hq;refine SeqAt.notIn_listAt (eqU x) pl.isList (λw hw=>yL rx fx r fs w (-hw:)) ⟨.bl _,H,I,rfl,?_⟩;rw[show its.toArray.any (eqU x)=its.any (eqU x) by simp,Ja r fs];exact q
 ·let(its,r,pl,hz):=I.tuple hq;refine SeqAt.notIn_tupleAt (eqU x) pl (λw hw=>yL rx fx r fs w (-hw:)) ⟨.bl _,H,I,rfl,?_⟩;rw[show its.toArray.any (eqU x)=its.any (eqU x) by simp,Ja r fs];exact q
def zt:zy X (.builtin "len") (λxs H Q=>∃p ys,xs=[.ref p]/\(SqL X.K H p ys\/SqT X.K H p ys)/\Q (.int ys.length) H):=by
 intro pins s Z H xs us Q I r h;let(p,ys,rfl,hq,q):=h;let(u,rfl,rx):=YT r;cases rx;have hn:=yW;rcases hq with hq|hq
 ·let(its,r',pl,hz):=I.list hq;have hlen:=r'.length;exact Calls.call_len_list pl.isList (by simp![List.size_toArray]<;>lia) ⟨.int ys.length,H,I.tok _,⟨s.toks+1,by rw[List.size_toArray,hlen]⟩,q⟩
 ·let(its,r',pl,hz):=I.tuple hq;have hlen:=r'.length;exact len_tuple pl (by simp![List.size_toArray]<;>lia) ⟨.int ys.length,H,I.tok _,⟨s.toks+1,by rw[List.size_toArray,hlen]⟩,q⟩
def Y4:zy X (.builtin "len") (λxs H Q=>∃z,xs=[.str z]/\z.length<=sizeLine/\Q (.int z.length) H):=by intro pins s Z H xs us Q I r h;let(z,rfl,hz,q):=h;let(u,rfl,t,rfl):=YT r;have hn:=yW;exact len_str (1:) ⟨.int z.length,H,I.tok _,⟨_,rfl⟩,q⟩
def qY:zy X (.type "list") (λxs H Q=>∃p ys,xs=[.ref p]/\(SqL X.K H p ys\/SqT X.K H p ys)/\∀l,H l=none->Q (.ref l) (upd H l (.lst ys))):=by
 intro pins s Z H xs us Q I r h;let(p,ys,rfl,hq,q):=h;let(u,rfl,rx):=YT r;cases rx
 have fin:∀(its:List Value),qD ys its->ys.length<=sizeLine->∀(h':Heap) (c':Nat),(∀b o',s.heap.get? b=some o'->h'.get? b=some o')->
   h'.get? s.heap.objs.size=some { cls:=.type "list",dict:=none,data:=.seq its.toArray c',slots:=#[] }->EP X pins Z Q (.ref s.heap.objs.size) { s with heap:=h' }:=λits r' hz h' c' kp e=>
  ⟨.ref s.heap.objs.size,_,I.laid (t':=s.toks) kp (Nat.le_refl _) (show qQ X.prog X.w _ h' _ (.lst ys) from⟨hz,its,c',r',e⟩),rfl,q _ (I.hok.fresh (Nat.le_refl _))⟩
 rcases hq with hq|hq
 ·let(its,r',pl,hz):=I.list hq;have hlen:=r'.length;let(o,ho,hc,n,hd):=pl.isList;exact call_list_seq p (.inl rfl) ho hc hd (λh' c' kp e=>fin its r' hz h' c' kp e) (by simp![List.size_toArray]<;>lia)
 ·let(its,r',pl,hz):=I.tuple hq;have hlen:=r'.length;let(o,ho,hc,n,hd):=pl;exact call_list_seq p (.inr rfl) ho hc hd (λh' c' kp e=>fin its r' hz h' c' kp e) (by simp![List.size_toArray]<;>lia)
def jZ:zy X (.type "tuple") (λxs H Q=>∃p ys,xs=[.ref p]/\((SqL X.K H p ys/\∀l,H l=none->Q (.ref l) (upd H l (.tup ys)))\/(SqT X.K H p ys/\Q (.ref p) H))):=by
 intro pins s Z H xs us Q I r h;let(p,ys,rfl,h):=h;let(u,rfl,rx):=YT r;cases rx;rcases h with ⟨hq,q⟩|⟨hq,q⟩
 ·let(its,r',pl,hz):=I.list hq;have hlen:=r'.length;refine call_tuple_list pl.isList (λh' kp=>?_) (by simp![List.size_toArray]<;>lia);have I1:Inv X pins Z H { s with heap:=h' }:=I.kept (t':=s.toks) kp
  have I2:Inv X pins Z (upd H h'.objs.size (.tup ys)) { s with heap:=h'.push { cls:=.type "tuple",data:=.seq its.toArray } }:=
   I1.laid (t':=s.toks) (λb o e=>Heap.get?_push_of_some _ e) (Nat.le_refl _) (show qQ X.prog X.w _ _ _ (.tup ys) from⟨hz,its,r',IsTup.new _ _⟩)
  exact{.ref h'.objs.size,_,I2,rfl,q _ (I1.hok.fresh (Nat.le_refl _))}
 ·let(its,r',pl,hz):=I.tuple hq;exact call_tuple_same pl ⟨.ref p,H,I,rfl,q⟩
def tyV(K:Frag)(T:String)(x:V)(H:Hp):Prop:=match x with
 |.str _=>T = "str"
 |.int _=>T = "int"
 |.ref p=>(T = "list"/\∃xs,SqL K H p xs)\/(T = "tuple"/\∃o,K.lookup p=some o/\o.cls=.type "tuple"/\o.dict=none)\/
   (T = "dict"/\((∃kvs,H p=some (.dK kvs))\/∃kvs,H p=some (.dT kvs)))\/(T = "set"/\∃S n,H p=some (.set S n))
 |_=>False
theorem qep{pins:PP}{Z:St}{H:Hp}{s:Shared}{T:String}{x:V}{v:Value}(I:Inv X pins Z H s)(r:qH x v)(ty:tyV X.K T x H) :
  s.TypeIs v T/\∀a,v=.ref a->∃ob,s.heap.get? a=some ob/\ob.dict=none:=by
 cases x with
 |str z=>
  let(t,rfl):=r
  cases (show T = "str" from ty)
  exact{typeIs_str s z t,λ_ e=>nomatch e}
 |int i=>
  let(t,rfl):=r
  cases (show T = "int" from ty)
  exact{typeIs_int s i t,λ_ e=>nomatch e}
 |ref p=>
  cases r;rcases ty with ⟨rfl,xs,hq⟩|⟨rfl,o,hk,hc,hd⟩|⟨rfl,hk⟩|⟨rfl,S,n,hk⟩
  ·let(its,_,pl,_):=I.list hq;refine{pl.isList.typeIs,λa e=>?_};cases e;let(o,n,e,c,hd,_):=pl;exact⟨o,e,hd⟩
  ·refine{{o,I.kIn p o hk,hc},λa e=>?_};cases e;exact{o,I.kIn _ o hk,hd}
  ·have z:∃o,s.heap.get? p=some o/\o.ExactDict:=by
    rcases hk with ⟨kvs,hk⟩|⟨kvs,hk⟩
    ·let(_,_,_,_,o,_,_,e,ex,_):=I.hok p _ hk;exact⟨o,e,ex⟩
    ·let(_,_,_,_,o,_,_,e,ex,_):=I.hok p _ hk;exact⟨o,e,ex⟩
   let(o,e,ex):=z;refine{⟨o,e,ex.1⟩,λa e2=>?_};cases e2;exact⟨o,e,ex.2.1⟩
  ·let(o,_,_,_,e,ex,_):=I.hok p _ hk;refine{⟨o,e,ex.1⟩,λa e2=>?_};cases e2;exact⟨o,e,ex.2.1⟩
 |_=>exact False.elim ty
def qmH(K:Frag)(T:String)(r:V->List V->Hp->VK->Prop)(to:TE):TE:=λZ H Q=>to Z H λx H1=>tyV K T x H1/\r x [] H1 Q
def tBM(K:Frag)(T:String)(r:V->List V->Hp->VK->Prop)(to:TE)(t:TA):TE:=λZ H Q=>to Z H λx H1=>tyV K T x H1/\t Z H1 λxs H2=>r x xs H2 Q
variable{o e:Expr}{es:List Expr}{to:TE}{t:TA}{name:Str}{apos cpos:Pos}{T id:String}{r:V->List V->Hp->VK->Prop}
def qeq(pa:PlainAttrs T)(slot:Slot T name id)(hty:typeOf (.builtin id)=pure (.type "method_descriptor"))(hm:MtR X id r)(ho:PE X o to)
  (hbase:attributeBase o name X.env (eval o X.env)=eval o X.env:=by rfl) (hline:(apos.endLine == cpos.line)=true:=by rfl):PE X (.Call (.Attribute o name apos) [] [] cpos) (qmH X.K T r to):=by
 intro pins s Z H Q I h;refine wpAny_Call_method0_late hbase hline (thn (ho pins s Z H _ I h) λv s1 hq1=>?_);let(x,H1,I1,r1,ty,q1):=hq1;let(h1,h2):=qep I1 r1 ty;exact{T,id,pa,slot,hty,h1,h2,Calls.callWith_builtin rfl (PySem.evalArgs_none (hm pins s1 Z H1 x [] v [] Q I1 r1 .nil q1))}
def qft(pa:PlainAttrs T)(slot:Slot T name id)(hty:typeOf (.builtin id)=pure (.type "method_descriptor"))(hm:MtR X id r)(ho:PE X o to)(ha:PA X (e::es) t)
  (hbase:attributeBase o name X.env (eval o X.env)=eval o X.env:=by rfl)
  (hfew:((backTo cpos (starEach (e::es) X.env)).all (λx=>!x.1)&&(backToKw cpos (keywordEach [] X.env)).all (λx=>x.1.isSome)
   && decide ((e::es).length+([]:List Keyword).length+(if ([]:List Keyword).isEmpty then 0 else 1) < 30))=true:=by rfl)
  (hline:(apos.endLine == cpos.line)=true:=by rfl) (hs:starEach (e::es) X.env=(false,eval e X.env)::starEach es X.env:=by rfl) (hplain:(backTo cpos (starEach es X.env)).any (·.1)=false:=by rfl) :
  PE X (.Call (.Attribute o name apos) (e::es) [] cpos) (tBM X.K T r to t):=by
 intro pins s Z H Q I h;refine wpAny_Call_method_late hbase hfew hline rfl (thn (ho pins s Z H _ I h) λv s1 hq1=>?_);let(x,H1,I1,r1,ty,q1):=hq1;let(h1,h2):=qep I1 r1 ty;refine{T,id,pa,slot,hty,h1,h2,?_};have hA:=ha cpos pins s1 Z H1 _ I1 q1;rw[hs]at hA ⊢;refine Calls.callWith_builtin (by show(false||(backTo cpos (starEach es X.env)).any (·.1))=false;rw[hplain]<;>rfl) (Calls.evalArgs_plain ?_);refine thn hA λus s2 hz47=>?_;let(vs,H2,I2,r2,q2):=hz47;exact hm pins s2 Z H2 x vs v us Q I2 r1 r2 q2
end
def MtM(X:Cx)(id:String)(r:V->List V->Hp->VK->Prop):Prop:=
 ∀(pins:PP) (s:Shared) (Z:St) (H:Hp) (x:V) (xs:List V) (v:Value) (us:List Value) (Q:VK),Inv X pins Z H s->qH x v->qD xs us->r x xs H Q->
  wpAny (model X.prog X.w) X.A (call (.builtin id) (v::us)) (EP X pins Z Q) X.xe s
theorem qD.one{x:V}{us:List Value}(h:qD [x] us):∃u,us=[u]/\qH x u:=by
 cases h with
 |cons r t=>cases t;exact{_,rfl,r}
def qD.zero{us:List Value}(h:qD [] us):us=[]:=by cases h;rfl
theorem qD.rep{xs:List V}{us:List Value}(h:qD xs us):∀k:Nat,qD (List.replicate k xs).flatten (List.replicate k us).flatten
 |0=>.nil
 | k+1=>by rw[List.replicate_succ,List.replicate_succ,List.flatten_cons,List.flatten_cons];exact qD.append h (qD.rep h k)
theorem Y5(its:List Value):∀(k:Nat) (acc:List Value),
  List.foldl (λx1 x2=>x1++x2) acc.toArray (List.replicate k its.toArray)=(acc++(List.replicate k its).flatten).toArray
 |0,acc=>by simp
 | k+1,acc=>by
  have e:acc.toArray++its.toArray=(acc++its).toArray:=by simp
  have e2:(acc++its)++(List.replicate k its).flatten=acc++(List.replicate (k+1) its).flatten:=by rw[List.replicate_succ,List.flatten_cons,List.append_assoc]
  rw[<-e2,<-Y5 its k (acc++its),<-e,List.replicate_succ,List.foldl_cons]
section
variable{X:Cx}{pins:PP}{Z:St}{H:Hp}{s:Shared}{l b:Addr}{xs ys zs:List V}
def Inv.lset{its its':List Value}{n:Nat}{f:Array Value->Array Value}{t':Nat}(I:Inv X pins Z H s)(hH:H l=some (.lst xs))
  (e:s.heap.get? l=some { cls:=.type "list",data:=.seq its.toArray n }) (hf:f its.toArray=its'.toArray) (hv:qD ys its') (hz:ys.length<=sizeLine) :
  Inv X pins Z (upd H l (.lst ys)) { s with heap:=s.heap.update l (Obj.mapSeq f),toks:=t' }:=by
 have q:=PySem.IsL.update e f;rw[hf]at q;refine I.write (x:=l) (e:=l) (by rw[hH];exact trivial) (.inl rfl) (λb' u hb hu=>(Heap.get?_update_other s.heap (Obj.mapSeq f) (Ne.symm hb)).trans hu) ⟨_,q⟩ ?_;exact{hz,its',_,hv,q}
def Inv.lnew{its:List Value}{t':Nat}(I:Inv X pins Z H s)(hv:qD ys its)(hz:ys.length<=sizeLine) :
  Inv X pins Z (upd H s.heap.objs.size (.lst ys)) { s with heap:=s.heap.push { cls:=.type "list",data:=.seq its.toArray },toks:=t' }:=
 I.laid (λ_ _ q=>Heap.get?_push_of_some _ q) (Nat.le_refl _) ⟨hz,its,0,hv,Heap.get?_push_size _ rfl⟩
def Inv.fresh(I:Inv X pins Z H s):H s.heap.objs.size=none:=I.hok.fresh (Nat.le_refl _)
def Inv.lstM(I:Inv X pins Z H s)(hH:H l=some (.lst xs)):xs.length<=sizeLine/\∃(its:List Value) (n:Nat),qD xs its/\xs.length=its.length/\s.heap.get? l=some { cls:=.type "list",data:=.seq its.toArray n }:=by let(z,its,n,r,e):=I.hok l _ hH;exact⟨z,its,n,r,r.length,e⟩
def qda{n:Nat}(h:n<=sizeLine):Builtin.List.listTooLong n=false:=by unfold Builtin.List.listTooLong;exact decide_eq_false (1:)
end
section
variable{X:Cx}
def qfu:V->List V->Hp->VK->Prop:=λx vs H Q=>∃l xs y,x=.ref l/\vs=[y]/\H l=some (.lst xs)/\xs.length < sizeLine/\Q .non (upd H l (.lst (xs++[y])))
def Y6:MtM X "list.append" qfu:=by
 intro pins s Z H x vs v us Q I rx rv h;let(l,xs,y,rfl,rfl,hH,hz,q):=h;cases rx;let(u,rfl,ru):=rv.one;let(z,its,n,r,hl,e):=I.lstM hH;refine call_meets F.slot_list_append ⟨_,e,rfl⟩ F.entry_list_append (F.args_list_append_2 _ _) (PySem.list_append l its.toArray n u (by rw[List.size_toArray];lia)) ⟨e,?_⟩;refine{.non,_,I.lset (its':=its++[u]) hH e (5:) (r.append %[ru|0]) ?_,rfl,q};rw[List.length_append,List.length_singleton]
 lia
def qhS:V->List V->Hp->VK->Prop:=λx vs H Q=>∃l xs,x=.ref l/\vs=[]/\H l=some (.lst xs)/\Q .non (upd H l (.lst []))
def ZH:MtM X "list.clear" qhS:=by intro pins s Z H x vs v us Q I rx rv h;let(l,xs,rfl,rfl,hH,q):=h;cases rx;have hus:=rv.zero;subst hus;let(z,its,n,r,hl,e):=I.lstM hH;refine call_meets F.slot_list_clear ⟨_,e,rfl⟩ F.entry_list_clear (F.args_list_clear_1 _) (AutoSeq1.list_clear_list_0 l its.toArray n (by rw[List.size_toArray];lia)) ⟨e,?_⟩;exact{.non,_,I.lset (its':=[]) (ys:=[]) hH e rfl .nil (Nat.zero_le _),rfl,q}
def qmI:R2:=λx y H Q=>∃l b xs zs,x=.ref l/\y=.ref b/\H l=some (.lst xs)/\H b=some (.lst zs)/\xs.length+zs.length<=sizeLine/\∀p,H p=none->Q (.ref p) (upd H p (.lst (xs++zs)))
def qhT:OpR X (binaryOp .Add) qmI:=by
 intro pins s Z H x y v u Q I rx ry h;let(l,b,xs,zs,rfl,rfl,hH,hB,hz,q):=h;cases rx;cases ry;let(z,its,n,r,hl,e):=I.lstM hH;let(z2,its2,n2,r2,hl2,e2):=I.lstM hB;refine PySem.P.add_list e e2 ?_ (by rw[List.size_toArray,List.size_toArray];lia);have ea:its.toArray++its2.toArray=(its++its2).toArray:=by simp
 rw[ea];exact{.ref _,_,I.lnew (t':=s.toks) (r.append r2) (by rw[List.length_append];lia),rfl,q _ I.fresh}
def qmJ:R2:=λx y H Q=>∃l k xs,x=.ref l/\y=.int k/\H l=some (.lst xs)/\-(2 ^ 63)<=k/\k < 2 ^ 63/\xs.length * k.toNat<=sizeLine/\
 ∀p,H p=none->Q (.ref p) (upd H p (.lst (List.replicate k.toNat xs).flatten))
theorem qfv{α:Type}(xs:List α)(k:Nat):(List.replicate k xs).flatten.length=k * xs.length:=by
 induction k with
 |zero=>simp
 |succ k ih=>rw[List.replicate_succ,List.flatten_cons,List.length_append,ih,Nat.succ_mul,Nat.add_comm]
def qhU:OpR X (binaryOp .Mult) qmJ:=by
 intro pins s Z H x y v u Q I rx ry h;let(l,k,xs,rfl,rfl,hH,h1,h2,hz,q):=h;cases rx;let(t,rfl):=ry;let(z,its,n,r,hl,e):=I.lstM hH;have hlen:its.toArray.size * k.toNat<=sizeLine:=by rw[List.size_toArray,<-hl];exact hz
 have hcap:¬ its.toArray.size * k.toNat > (2 ^ 63 - 1) / 8:=by
  have:(sizeLine:Nat)<=(2 ^ 63 - 1) / 8:=by decide
  lia
 have hfit:¬ (!Builtin.List.listFitsIndex k)=true:=by rw[fitsIndex_both h1 h2];exact Bool.false_ne_true
 have hlong:¬ Builtin.List.listTooLong (its.toArray.size * k.toNat)=true:=by rw[qda hlen];exact Bool.false_ne_true
 have hnew:List.foldl (λx1 x2=>x1++x2) #[] (List.replicate (if its.toArray.isEmpty=true then 0 else k.toNat) its.toArray)=(List.replicate k.toNat its).flatten.toArray:=by
  have f0:∀m:Nat,List.foldl (λx1 x2=>x1++x2) #[] (List.replicate m its.toArray)=(List.replicate m its).flatten.toArray:=λm=>by
   have:=Y5 its m []
   rw[List.nil_append]at this;exact this
  rw[f0]
  cases its with
  |nil=>simp
  | cons a r'=>rw[if_neg (5:)]
 refine wpAny_binaryOp_repeat_ref (T:="list") (U:="int") (2:) ⟨_,e,rfl⟩ (λs'=>typeIs_int s' k t) noFill_list_mul F.fills_int_mul F.slot_int_rmul repeat_list F.slot_int_index.lookup
  (call_meets F.slot_int_rmul (typeIs_int s k t) F.entry_int_rmul (F.args_int_rmul_2 _ _) (int___rmul___int_list k t l its.toArray n)
   ⟨e,rfl,⟨_,e,rfl⟩,call_meets F.slot_list_mul ⟨_,e,rfl⟩ F.entry_list_mul (F.args_list_mul_2 _ _) (AutoListH.list___mul___list_int_3 l its.toArray n k t hfit hcap hlong) ⟨e,?_⟩⟩)
 rw[hnew];exact{.ref _,_,I.lnew (t':=s.toks) (r.rep k.toNat) (by rw[qfv,Nat.mul_comm];exact hz),rfl,q _ I.fresh}
end
end L2
namespace Att
open PySem PySem.W PySem.Calls PyProof.Rows
theorem Jb{P:Params}{h:Heap}:∀(ns:List Int) (vs:List Value),WellAll P h vs (ns.map WData.int)->IntsAre vs ns:=by
 intro ns
 induction ns with
 |nil=>intro vs w;rw[List.map_nil]at w;cases w;exact .nil
 |cons n ns ih=>
  intro vs w;rw[List.map_cons]at w
  cases w with
  |cons a b=>cases a;exact .cons _ _ (ih _ b)
theorem qbn{l:OpenLaw}{n:Nat}(hn:l.most=some n){P:Params}{h:Heap}{args:List WData}{vals:List Value}
  (hpre:l.row.toRowW.claim.pre args=true) (hwl:WellAll P h vals args) :
  ∃a vs ns,vals=[Value.ref a]/\args=[WData.list (ns.map WData.int)]/\h.get? a=some { cls:=.type "list",data:=.seq vs.toArray }/\IntsAre vs ns/\ns.length<=n:=by
 have hsh:WShape.hasAll [] args [.list .int]=true:=(pre_splitW hpre).1;have hc:l.pre.holds [] { args:=args }=true:=(pre_splitW hpre).2;let(d,r,rfl,h1,h2):=hasAllW_cons hsh;cases hasAllW_nil h2;let(xs,rfl,h3):=hasW_list h1;let(ns,rfl):=items_int h3
 have hlen:ns.length<=n:=by
  unfold OpenLaw.pre at hc
  have h4:(WTm.not (.lt (.lit (.int (n:Int))) (.len (.arg 0)))).holds [] { args:=[.list (ns.map .int)] }=true:=by have h4:=(holds_andW hc).1;rw[hn]at h4;exact h4
  have h5:=condW_of h4 (w_not (w_lt w_lit (w_len_list (w_arg rfl))));rw[List.length_map]at h5;refine Nat.le_of_not_lt λq=>?_;have q':(n:Int) < ((ns.length:Nat):Int):=by lia
  first
   | (rw[decide_eq_true q']at h5;exact absurd h5 (2:))
   | (simp at h5;lia)
 cases hwl with
 |cons w1 w2=>
  cases w2
  cases w1 with
  |list ho hall=>exact{_,_,ns,rfl,rfl,ho,Jb ns _ hall,hlen}
def qbo(l:OpenLaw)(args:List WData):l.row.toRowW.claim.post args (.bool true) args=true:=
 postW_of (r:=l.row.toRowW) (X:=(true == true))
  (show WShape.has [] (.bool true) .bool=true by first|rfl|decide|simp[WShape.has,WShape.arms,WShape.armsAll])
  (show(WTm.eq .res (.lit (.bool true))).value [] { args:=args,res:=some (.bool true),after:=args }=some (.bool (true == true)) from w_eq_bool (w_res rfl) w_lit) rfl
def QY{l:OpenLaw}{n:Nat}{q:Program}{loose:List Str}{XP:(Str->Option Value)->Heap->Prop}{YP:World->Heap->Prop}{d:DefRec}
  (hn:l.most=some n) (hdf:d.params.defaults=[])
  (call:∀(w:World) (s₀ s₁:Shared) (mg mb:PR) (fa:Addr) (o:Obj) (pm cd doc:Value) (a:Addr) (vs:List Value) (ns:List Int),
   Ground q loose [] XP w s₀ mg mb s₁.heap->YP w s₁.heap->
   s₁.heap.get? fa=some o->o.data=.func (docDef d.name d.params d.body d.scope pm cd doc)->s₁.heap.CodeRec cd d.name->mg d.name=some (.ref fa)->
   s₁.heap.get? a=some { cls:=.type "list",data:=.seq vs.toArray }->IntsAre vs ns->ns.length<=n->s₁.gens=#[]->
   codeAny (model l.prog w) callerA (.call (.ref fa) ⟨[.ref a],[]⟩) (λr s'=>r=.ok (.ret (.bool true))/\OldK s₁.heap s'.heap/\s'.os=s₁.os/\AllBare s'.gens) s₁) :
  WalkO q loose XP YP l.row.toRowW d [] (λf vs=>PySem.call f vs):=by
 intro w s₀ s₁ mg mb G Y fa o pm cd doc dV kV ho hd hcd hD hmg hg args vals as hpre hlay hrd hwl hlo;obtain rfl:dV=.none:=Dflts.none hD hdf;obtain rfl:kV=.none:=Dflts.noKw hD;let(a,vs,ns,rfl,rfl,hobj,hints,hlen):=qbn hn hpre hwl;refine enter_call (codeAny_mono (call w s₀ s₁ mg mb fa o pm cd doc a vs ns G Y ho (fd_plain hd) hcd hmg hobj hints hlen hg) λr s' hq=>?_);let(rfl,h2,h3,h4):=hq;exact{.inl {.bool true,.bool true,[],rfl,λ_=>rfl,.bool true,qbo l _,λ_=>{List.Pairwise.nil,λ_ hm=>(nomatch hm)}},h2,h3,h4}
end Att
namespace L2
open PySem PySem.Spec PyProof.Rows
theorem qbp{vs:List Value}{ns:List Int}(h:IntsAre vs ns):qD (ns.map V.int) vs:=by
 induction h with
 |nil=>exact .nil
 |cons n t h ih=>exact .cons ⟨t,rfl⟩ ih
def qkQ(H:Hp):Prop:=∀b,H b=none\/∃o xs,H b=some (.frz o (.lst xs))
theorem qdb{P:Program}{w:World}{K:Frag}{mg mb:PR}{CX:CXT}{k:Nat}{fa a:Addr}{fd:FuncData}{x:Str}{sp:Sp}{s₁:Shared}{vs:List Value}{ns:List Int}
  (KX:K.In s₁.heap) (hns:s₁.heap.Ns mainGlobals mg) (hb:s₁.heap.Ns builtinsNs mb) (hbb:∀x:Str,x≠"__name__"->mb x=bootBuiltins x) (hlim:s₁.heap.NoLimit) (hg:s₁.gens=#[])
  (ha:s₁.heap.get? a=some { cls:=.type "list",data:=.seq vs.toArray }) (hi:IntsAre vs ns) (hl:ns.length<=sizeLine) (hr:Room k callerA)
  (F:∀base:Heap,K.In base->base.Ns mainGlobals mg->FnOk P w K mg base CX k fa fd [x] sp) (hbind:∀(s:Shared) (u:Value),BindsTo s fd ⟨[u],[]⟩ [(x,u)])
  (hsp:∀H:Hp,qkQ H->SqL K H a (ns.map V.int)->sp [.ref a] H (λv _=>v=.bl true) λ_ _ _=>False)
  (hCX:∀H e s',CX [] H s₁ (λ_ _ _=>False) e s'->False) :
  codeAny (model P w) callerA (.call (.ref fa) ⟨[.ref a],[]⟩) (λr s'=>r=.ok (.ret (.bool true))/\OldK s₁.heap s'.heap/\s'.os=s₁.os/\AllBare s'.gens) s₁:=by
 have rv:=qbp hi;have lenV:=hi.length
 have core:∀H:Hp,qkQ H->SqL K H a (ns.map V.int)->HOk P w H s₁.heap->(∀b,H b≠none->b=a)->(H a≠none->K.lookup a=none)->
   codeAny (model P w) callerA (.call (.ref fa) ⟨[.ref a],[]⟩) (λr s'=>r=.ok (.ret (.bool true))/\OldK s₁.heap s'.heap/\s'.os=s₁.os/\AllBare s'.gens) s₁:=by
  intro H hO hS hok hA hK;have base_of:∀{b:Addr} {o:Obj},s₁.heap.get? b=some o->H b=none->(qcV s₁.heap H).get? b=some o:=λe n=>qcW e n
  have noA:∀{b:Addr} {o:Obj} {es:Array DictEntry} {ep:Nat},s₁.heap.get? b=some o->o.data=.dict es ep->H b=none:=λ{b o es ep} e d=>by
   cases q:H b with
   |none=>rfl
   |some u=>have e':b=a:=hA b (by rw[q];simp);subst e';rw[ha]at e;cases e;have d':Data.seq vs.toArray _=Data.dict es ep:=d;cases d'
  have nsK:∀{b:Addr} {m:PR},s₁.heap.Ns b m->(qcV s₁.heap H).Ns b m:=λ{b m} ⟨o,es,ep,e,d,r⟩=>{o,es,ep,base_of e (noA e d),d,r}
  have hKb:K.In (qcV s₁.heap H):=λb o e=>base_of (KX b o e) (by
   cases q:H b with
   |none=>rfl
   |some u=>have e':b=a:=hA b (by rw[q];simp);subst e';rw[hK (by rw[q];simp)]at e;cases e)
  have hM:Mod K mg (qcV s₁.heap H):={hKb,nsK hns,{mb,nsK hb,hbb},let ⟨mc,h1,h2⟩:=hlim;⟨mc,nsK h1,h2⟩};have e0:Env0 P w K mg (qcV s₁.heap H) callerA [] s₁ H:={rfl,hM,λb o e=>qfb e,Nat.le_of_eq (qa6 _ _),trivial,λb hb=>absurd (show b∈([]:List Addr) from hb) (5:),hok,.of_eq hg};refine codeAny_mono ((F _ hKb (nsK hns)).run callerA [] s₁ H ⟨[.ref a],[]⟩ [.ref a] [.ref a] _ _ hr e0 (hbind s₁ (.ref a)) %[rfl|0] (hsp H hO hS)) λr s' h=>?_
  cases r with
  |error e=>exact(hCX H e s' h).elim
  |ok fl=>
   cases fl with
   |next=>exact False.elim h
   |brk=>exact False.elim h
   |cont=>exact False.elim h
   |ret u=>
    let(v,H',os,bare,un,hok',r',q):=h;have q':v=.bl true:=q;subst q';obtain rfl:u=Value.bool true:=r';refine{rfl,OldK.of_keep λb o e=>?_,os,bare}
    cases q:H b with
    |none=>exact un.keep b o e q (by intro z;exact absurd (show b∈([]:List Addr) from z) (5:)) (5:)
    |some u=>
     rcases hO b with z|⟨ob,xs,z⟩
     ·rw[q]at z;cases z
     ·have z2:=un.frzs b ob _ z;let(e1,_):=hok b _ z;let(e2,_):=hok' b _ z2;rw[e]at e1;cases e1;exact e2
 cases hk:K.lookup a with
 |some o=>have e:=KX a o hk;rw[ha]at e;cases e;refine core (λ_=>none) (λ_=>.inl rfl) (.inr ⟨_,vs.toArray,_,hk,rfl,rfl,rfl,by rw[List.size_toArray,lenV];exact hl,(-rv:)⟩) (λb u z=>by have z':(none:Option HO)=some u:=z;cases z') (λb z=>absurd rfl z) λz=>absurd rfl z
 |none=>
  refine core (λb=>if b=a then some (.frz { cls:=.type "list",data:=.seq vs.toArray } (.lst (ns.map V.int))) else none) (λb=>?_) (.inl (.inr ⟨{ cls:=.type "list",data:=.seq vs.toArray },if_pos rfl⟩)) (λb u z=>?_) (λb z=>?_) λ_=>hk
  ·by_cases hb:b=a
   ·exact .inr ⟨_,_,if_pos hb⟩
   ·exact .inl (if_neg hb)
  ·by_cases hb:b=a
   ·have z':=(if_pos hb).symm.trans z;cases z';subst hb;exact{ha,by rw[List.length_map];exact hl,vs,_,rv,ha}
   ·have z':=(if_neg hb).symm.trans z;cases z'
  ·by_cases hb:b=a
   ·exact hb
   ·exact absurd (if_neg hb) z
def qfw{l:PySem.W.OpenLaw}{n k:Nat}{q:Program}{loose:List Str}{XP:(Str->Option Value)->Heap->Prop}{YP:World->Heap->Prop}{d:DefRec}{K:Params->Frag}{CX:World->CXT}{sp:World->Sp}{x:Str}
  (hn:l.most=some n) (hn2:n<=sizeLine) (hdf:d.params.defaults=[]) (hr:Room k callerA)
  (hY:∀(w:World) (h:Heap),YP w h->(K w.params).In h)
  (F:∀(w:World) (mg:PR) (fa:Addr) (h:Heap),(K w.params).In h->h.Ns mainGlobals mg->mg d.name=some (.ref fa)->
   ∃fd:FuncData,(∀(s:Shared) (u:Value),BindsTo s fd ⟨[u],[]⟩ [(x,u)])/\
    ∀base:Heap,(K w.params).In base->base.Ns mainGlobals mg->FnOk l.prog w (K w.params) mg base (CX w) k fa fd [x] (sp w))
  (hsp:∀(w:World) (H:Hp) (a:Addr) (ns:List Int),ns.length<=n->qkQ H->SqL (K w.params) H a (ns.map V.int)->sp w [.ref a] H (λv _=>v=.bl true) λ_ _ _=>False)
  (hCX:∀(w:World) (H:Hp) (s:Shared) (e:Value) (s':Shared),CX w [] H s (λ_ _ _=>False) e s'->False) :
  PySem.W.WalkO q loose XP YP l.row.toRowW d [] (λf vs=>PySem.call f vs):=by
 refine Att.QY hn hdf λw s₀ s₁ mg mb fa o pm cd doc a vs ns G Y ho hd hcd hmg hobj hints hlen hg=>?_;have KX:=hY w _ Y;let(fd,hb,hF):=F w mg fa _ KX G.T.g hmg;exact qdb KX G.T.g G.T.b G.T.builtins G.T.nolimit hg hobj hints (Nat.le_trans hlen hn2) hr hF hb (λH hO hS=>hsp w H a ns hlen hO hS) λH e s'=>hCX w H s₁ e s'
def ze(s:Stmt):Arguments:=match s with
 |.FunctionDef _ a _ _ _ _ _ _ _ _=>a
 |_=>{ posonlyargs:=[],args:=[],vararg:=none,kwonlyargs:=[],kw_defaults:=[],kwarg:=none,defaults:=[] }
def qt(s:Stmt):List Stmt:=match s with
 |.FunctionDef _ _ b _ _ _ _ _ _ _=>b
 |_=>[]
def qe(s:Stmt):Scope:=match s with
 |.FunctionDef _ _ _ _ _ _ sc _ _ _=>sc
 |_=>{ kind:=.function,names:=[],isGenerator:=false,isCoroutine:=false }
abbrev CX0:CXT:=λ_ _ _ _ _ _=>False
abbrev E0:XK:=λ_ _ _=>False
def J7{X:Cx}:zr CX0 X E0:=λ_ _ _ _ _ _ _ h=>h.elim
structure Fun(K:Frag)(x qual:Str)(st:Stmt)(f:Addr)(fd:FuncData):Prop where
 ex:∃(oc:Value) (od:Option Addr) (kV doc pm:Value) (an:Option Addr) (cdv ct:Value) (osl:Array (Option Value)),
  fd=PySem.W.fnOf x qual (ze st) (qt st) (qe st) .none kV doc pm an cdv ct/\K.lookup f=some ⟨oc,od,.func fd,osl⟩/\PySem.W.codeIn K cdv qual=true
 kp:PySem.W.keepIn K (.ref f)=true
section
variable{P:Program}{w:World}{K:Frag}{mg:PR}{base:Heap}
def Fun.ok{x qual:Str}{st:Stmt}{f:Addr}{fd:FuncData}{N ps:List Str}{k:Nat}{sp:Sp}(F:Fun K x qual st f fd)(S:FnScope N ps (qe st))(len:∀vs H Q E,sp vs H Q E->vs.length=ps.length)
  (hbody:∀(cdv:Value) (A:Around) (outer:List Env) (s:Shared) (H:Hp) (vs:List V) (Q:VK) (E:XK),Room k (A.deeper (envOfC qual (qe st) s.heap.objs.size f cdv))->sp vs H Q E->
   ∃t,PSs (JC CX0 P w K mg base N qual (qe st) f cdv A outer s H E).nox (qt st) t/\t { nx:=λ_ H'=>Q .non H',rt:=Q } (jM N vs) H):FnOk P w K mg base CX0 (k+1) f fd ps sp:=by
 let(oc,od,kV,doc,pm,an,cdv,ct,osl,rfl,lk,hcd):=F.ex;refine qhN lk hcd S len λA outer s H vs Q E hr hsp=>?_;let(t,h,q):=hbody cdv A outer s H vs Q E hr hsp;exact⟨t,h.nox,q⟩
def Fun.binds{x qual:Str}{st:Stmt}{f:Addr}{fd:FuncData}{ps:List Str}(F:Fun K x qual st f fd)
  (h:∀(kV doc pm:Value) (an:Option Addr) (cdv ct:Value) (us:List Value),us.length=ps.length->bindArgs (PySem.W.fnOf x qual (ze st) (qt st) (qe st) .none kV doc pm an cdv ct) ⟨us,[]⟩=pure (ps.zip us)):qM K fd ps []:=by
 let(oc,od,kV,doc,pm,an,cdv,ct,osl,rfl,lk,hcd):=F.ex;exact .all (h kV doc pm an cdv ct)
def qer{x qual:Str}{st:Stmt}{f:Addr}{oc:Value}{od an:Option Addr}{osl:Array (Option Value)}{kV doc pm cdv ct:Value}(l:K.lookup f=some ⟨oc,od,.func (PySem.W.fnOf x qual (ze st) (qt st) (qe st) .none kV doc pm an cdv ct),osl⟩)
  (c:PySem.W.codeIn K cdv qual=true) (k:PySem.W.keepIn K (.ref f)=true):Fun K x qual st f (PySem.W.fnOf x qual (ze st) (qt st) (qe st) .none kV doc pm an cdv ct):={⟨oc,od,kV,doc,pm,an,cdv,ct,osl,rfl,l,c⟩,k}
end
def qbq{n:Nat}(h:n<=1000):n < sizeLine:=Nat.lt_of_le_of_lt h (2:)
section
variable{X:Cx}
def pv(i:Nat){x:Str}{pos:Pos}(hN:X.N[i]?=some x:=by rfl)(hv:Vis X.env.scope x:=by first|exact Or.inl rfl|exact Or.inr (Or.inl rfl)|exact Or.inr (Or.inr rfl))(hd:(x == ("__debug__" : Str))=false:=by decide)
  (hcd:(x == ("__classdict__" : Str))=false:=by decide):PE X (.Name x pos) (qaZ i):=jA hN hv hd hcd
end
def qj(H H':Hp):Prop:=∀b o,H b=some o->H' b=some o
def qj.seq{K:Frag}{H H':Hp}{a:Addr}{xs:List V}(e:qj H H')(h:SqL K H a xs):SqL K H' a xs:=by
 rcases h with (h|⟨o,h⟩)|h
 ·exact .inl (.inl (e _ _ h))
 ·exact .inl (.inr ⟨o,e _ _ h⟩)
 ·exact .inr h
end L2
set_option maxHeartbeats 4000000
namespace DG
open PySem
def qfx:Stmt->List Stmt
 |.ClassDef _ _ _ b _ _ _ _ _ _ _=>b
 |_=>[]
end DG
namespace HD
open PySem PySem.W
def Jc(tb:String->Option Builtin)(p:Program)(w:World)(n₀:Nat)(ann:Option Value):Nat->SharedT->Thread->Option SharedT
 |0,_,_=>none
 | n+1,s,t=>match through t with
  |true=>some s
  |false=>match stepOk n₀ ann t with
   |false=>none
   |true=>match stepT (denote tb) p w s t with
    | some (s',t')=>Jc tb p w n₀ ann n s' t'
    |none=>none
theorem Y7{tb:String->Option Builtin}{p:Program}{w:World}{n₀:Nat}{ann:Option Value}:∀{n:Nat} {s s':SharedT} {t:Thread},Jc tb p w n₀ ann n s t=some s'->topRun tb p w n₀ ann n s.abs t=some s'.abs
 |0,_,_,_,h=>by cases h
 | n+1,s,s',t,h=>by
  unfold Jc at h;unfold topRun
  cases ht:through t with
  |true=>rw[ht]at h;cases h;rfl
  |false=>
   rw[ht]at h
   cases hk:stepOk n₀ ann t with
   |false=>rw[hk]at h;cases h
   |true=>
    rw[hk]at h
    cases hs:stepT (denote tb) p w s t with
    |none=>rw[hs]at h;cases h
    |some r=>let(s₂,t₂):=r;rw[hs]at h;dsimp only;rw[stepT_spec hs];exact Y7 h
def ofL:List Obj->Nat->BT->BT
 |[],_,t=>t
 | o::r,n,t=>ofL r (n+1) (t.ins n o)
def qfy(P:Params)(os:OsState):SharedT:={ofL (boot_heap P).objs.toList 0 .nil,(boot_heap P).objs.toList.length,(boot_heap P).life,Array.mk [],boot_drawn,boot_toks,os}
def qbr(P:Params)(os:OsState):(qfy P os).abs=⟨boot_heap P,Array.mk [],boot_drawn,boot_toks,os⟩:=(4:)
def qfz{α:Type}(p q:Program)(loose:List Str)(Xt:Shared->Bool)(Yf:Shared->α)(g0:Bool)(Hv:Heap)(s:Shared):=
 (staticsOk (importedModules p.main.body) Hv s.heap&&namesBound p s.heap&&gensDone s&&laidKept Hv s.heap,openSeen q loose (importedModules p.main.body) Xt g0 s,Yf s)
def qfA{p q:Program}{loose:List Str}{Xt:Shared->Bool}{α:Type}{Yf:Shared->α}{Ya:World->α}{N:Nat}{g0:Bool}{m₀:Nat}{ann:Option Value}
  (open_:∀w:World,(fencedOpening treeTable p w N).map (λs=>(s.heap,s.gens,s.drawn,s.toks))=some (boot_heap w.params,Array.mk [],boot_drawn,boot_toks))
  (size:∀w:World,((boot_heap w.params).isNs mainGlobals&&(Array.mk []:Array GenState).size == 0,(boot_heap w.params).objs.size,(boot_heap w.params).nsMap mainGlobals "__annotations__")=(true,m₀,ann))
  (h:∀w os,(Jc treeTable p w m₀ ann N (qfy w.params os) (topStub p)).map (λs=>qfz p q loose Xt Yf g0 (boot_heap w.params) s.abs)=some (true,openGood q loose,Ya w)):LeftO p q loose Xt Yf Ya N g0:=λw=>by
 let((h0,gs,d,k,os),e,e'):=Option.map_eq_some_iff.mp (open_ w);let(rfl,rfl,rfl,rfl):h0=boot_heap w.params/\gs=Array.mk []/\d=boot_drawn/\k=boot_toks:=(-e':)
 let(z1,z2,z3):_/\_/\_:=by simpa only[Prod.mk.injEq] using size w
 let(s₁,r,l):=Option.map_eq_some_iff.mp (h w os);have r':=Y7 r;rw[qbr]at r';let(l1,l2,l3):_/\_/\_:=by simpa only[qfz,Prod.mk.injEq] using l
 have t:topFrom treeTable p w N ⟨boot_heap w.params,Array.mk [],boot_drawn,boot_toks,os⟩=some s₁.abs:=by unfold topFrom;dsimp only;rw[z1,z2,z3,r'];show(match staticsOk (importedModules p.main.body) (boot_heap w.params) s₁.abs.heap&&namesBound p s₁.abs.heap&&gensDone s₁.abs&&laidKept (boot_heap w.params) s₁.abs.heap with |true=>_ |false=>_)=_;rw[l1]
 unfold openEnds;rw[e];show(topFrom treeTable p w N _).map _=_;rw[t];exact congrArg some (Prod.ext l2 l3)
def dE(P:Params)(k:Str)(t:Tok)(v:Value):DictEntry:={PyData.keyHash P k,.str k t,v}
def oFn(d:Option Addr)(st:Stmt)(name qual:Str)(dV kV doc pm:Value)(an:Option Addr)(cd ct:Value):Obj:={.type "function",d,.func (fnOf name qual (L2.ze st) (L2.qt st) (L2.qe st) dV kV doc pm an cd ct),#[]}
def oC(n:Str)(t1:Tok)(q:Str)(t2 t3:Tok)(l ar:Int)(a b:Addr)(x y:Value)(c:Addr)(u:Int)(v:Tok):Obj:={.type "code",none,.fields #[.str n t1,.str q t2,.str "/claim/cut.py" t3,.int l 0,.int ar 0,.int 0 0,.int 0 0,.int 3 0,.ref a,.bool true,.int 181 0,.ref b,.none,x,y,.ref c,.int u 0,.int l 0,.str "/claim/cut.py" v],#[]}
def oG(st:Stmt)(n m:Str)(t:Tok)(a:Addr):Obj:=oFn none st n n .none .none .none (.str m t) none (.ref a) .none
def oB(n:Str)(t:Tok)(l ar:Int)(a:Addr)(v:Nat):Obj:=oC n t n (t+1) (t+2) l ar a (a+1) (.ref (a+2)) (.ref (a+3)) (a+4) v (v+1)
def co(a:Addr)(o:Obj)(r:Frag):Frag:=(a,o)::r
def fB(st:Stmt)(m:Str)(mt:Tok)(a b:Addr)(n:Str)(t:Tok)(l ar:Int)(u:Nat)(r:Frag):Frag:=(a,oB n t l ar (a - 5) u)::(b,oG st n m mt a)::r
def fM(st:Stmt)(m:Str)(mt:Tok)(a b:Addr)(n q:Str)(t:Tok)(l ar:Int)(u:Nat)(r:Frag):Frag:=(a,oC n t q (t+1) (t+2) l ar (a - 5) (a - 4) (.ref (a - 3)) (.ref (a - 2)) (a - 1) u (u+1))::(b,oFn none st n q .none .none .none (.str m mt) none (.ref a) .none)::r
def dRs(P:Params)(L:List (Str×Tok×Addr))(r:List DictEntry):List DictEntry:=L.foldr (λx r=>dE P x.1 x.2.1 (.ref x.2.2)::r) r
def kD(P:Params)(m:Str)(mt t:Tok)(l:Int)(k:Nat)(L:List (Str×Tok×Addr))(d:Tok):Obj:={.type "dict",none,.dict {dE P "__module__" (t+7) (.str m mt)::dE P "__firstlineno__" (t+11) (.int l (t+10))::dRs P L [dE P "__doc__" d .none]} k,#[]}
def kO(nw:String)(a b:Addr)(n:Str)(t:Tok)(e:Value)(ms ss:List Value)(i:Option Value):Obj:={.type "type",none,.cls {n,[e],.ref b::ms,a,n,true,[],ss,false,none,false},#[i,none,some (.str n t),some (.str n (t+8)),some (.builtin nw),some (.bool true)]}
def kC(P:Params)(m:Str)(mt:Tok)(nw:String)(a b:Addr)(n:Str)(t:Tok)(l:Int)(k:Nat)(L:List (Str×Tok×Addr))(d:Tok)(e:Value)(ms ss:List Value)(i:Option Value)(r:Frag):Frag:=
 (a,kD P m mt t l k L d)::(b,kO nw a b n t e ms ss i)::r
def qbs(w:World):((boot_heap w.params).isNs mainGlobals&&(Array.mk []:Array GenState).size == 0,(boot_heap w.params).objs.size,(boot_heap w.params).nsMap mainGlobals "__annotations__")=(true,11,some (.ref 6)):=(4:)
end HD
namespace TS
open PySem PyProof.Rows
def gal:Bool->Keyed->Array Keyed->Nat->Nat->Nat->StateT SortSt Sem (Option Nat):=sortPriv% PySem.Builtin.gallop
def mlo:Array Keyed->Array Keyed->StateT SortSt Sem (Array Keyed):=sortPriv% PySem.Builtin.mergeLo
def mhi:Array Keyed->Array Keyed->StateT SortSt Sem (Array Keyed):=sortPriv% PySem.Builtin.mergeHi
def byd(left:Bool)(key:Keyed)(arr:Array Keyed)(p:Nat):StateT SortSt Sem (Option Bool):=do
 let x<-elem' arr p
 if left then lt' x key else return (<-lt' key x).map (!·)
def qdc(left:Bool)(key:Keyed)(arr:Array Keyed)(base n:Nat)(lw0 up0:Nat):StateT SortSt Sem (Option Nat):=do
  let mut lw:=lw0
  let mut up:=up0
  for _ in [0:n] do
   if lw≥up then break
   let mid:=lw+(up - lw) / 2
   let some mo<-byd left key arr (base+mid)|return none
   if mo then lw:=mid+1 else up:=mid
  return some up
def gup(left:Bool)(key:Keyed)(arr:Array Keyed)(base n hint:Nat):StateT SortSt Sem (Option Nat):=do
   let mut la:=0
   let mut of:=1
   for _ in [0:n] do
    if of≥n - hint then break
    let some mo<-byd left key arr (base+(hint+of))|return none
    if !mo then break
    la:=of
    of:=2 * of+1
   qdc left key arr base n (hint+la+1) (hint+min of (n - hint))
def gdn(left:Bool)(key:Keyed)(arr:Array Keyed)(base n hint:Nat):StateT SortSt Sem (Option Nat):=do
   let mut la:=0
   let mut of:=1
   for _ in [0:n] do
    if of≥hint+1 then break
    let some mo<-byd left key arr (base+(hint - of))|return none
    if mo then break
    la:=of
    of:=2 * of+1
   qdc left key arr base n (hint+1 - min of (hint+1)) (hint - la)
def qhV(left:Bool)(key:Keyed)(arr:Array Keyed)(base n hint:Nat):gal left key arr base n hint=(do
  let some rt<-byd left key arr (base+hint)|return none
  if rt then gup left key arr base n hint else gdn left key arr base n hint):=rfl
section
variable{M:Model}{A:Around}{E:PQ}{s:Shared}{O:KeyOrd}{kf:Keyed->O.α}{U:SortKind}{G:Keyed->Prop}
def yC(M:Model)(A:Around)(E:PQ)(s:Shared)(O:KeyOrd)(kf:Keyed->O.α)(U:SortKind)(G:Keyed->Prop):Prop:=
 ∀x y,G x->G y->∀(st:SortSt) (Q:Option Bool->SortSt->Prop),kindOf st=U->Q (some (O.blt (kf x) (kf y))) st->wpS M A E s (lt' x y) Q st
def pby(O:KeyOrd)(kf:Keyed->O.α)(left:Bool)(key x:Keyed):Bool:=if left then O.blt (kf x) (kf key) else !(O.blt (kf key) (kf x))
def qw{arr:Array Keyed}{p:Nat}{x:Keyed}{st:SortSt}{Q:Keyed->SortSt->Prop}(e:arr[p]?=some x)(h:Q x st):wpS M A E s (elem' arr p) Q st:=by rw[elem'_eq,e];exact wpS_pure h
theorem ZI(L:yC M A E s O kf U G){left:Bool}{key:Keyed}{arr:Array Keyed}{p:Nat}{x:Keyed}{st:SortSt}{Q:Option Bool->SortSt->Prop}(hk:kindOf st=U)(hG:G key)(e:arr[p]?=some x)(hx:G x)
  (h:Q (some (pby O kf left key x)) st):wpS M A E s (byd left key arr p) Q st:=by
 unfold byd;refine wpS_bind (qw e ?_);unfold pby at h
 cases left with
 |true=>simp![if_true]at h ⊢;exact L x key hx hG st Q hk h
 |false=>simp![Bool.false_eq_true,if_false]at h ⊢;exact wpS_bind (L key x hG hx st _ hk (wpS_pure h))
variable{left:Bool}{key:Keyed}{arr:Array Keyed}{base n hint:Nat}{st:SortSt}{P:Nat->Bool}
def ZJ(L:yC M A E s O kf U G){Q:Option Nat->SortSt->Prop}(hk:kindOf st=U)(hG:G key)(hA:∀i,i < n->∃x,arr[base+i]?=some x/\G x/\pby O kf left key x=P i)
  (mono:∀i j,i<=j->j < n->P j=true->P i=true) {lw up:Nat} (h1:lw<=up) (h2:up<=n) (hl:∀i,i < lw->P i=true) (hu:∀i,up<=i->i < n->P i=false)
  (h:∀k,k<=n->(∀i,i < k->P i=true)->(∀i,k<=i->i < n->P i=false)->Q (some k) st):wpS M A E s (qdc left key arr base n lw up) Q st:=by
 unfold qdc;dsimp only
 refine wpS_bind (wpS_mono (wpS_forRange (I:=λx c st'=>st'=st/\∃l u,c=(none,l,u)/\l<=u/\u<=n/\u - l<=n - x/\(∀i,i < l->P i=true)/\(∀i,u<=i->i < n->P i=false))
  (Q:=λc st'=>st'=st/\∃u,c=(none,u,u)/\u<=n/\(∀i,i < u->P i=true)/\(∀i,u<=i->i < n->P i=false)) ?step ?fin ⟨rfl,lw,up,rfl,h1,h2,by omega,hl,hu⟩) ?post)
 case post=>rintro c st' ⟨rfl,u,rfl,a,b,d⟩;exact wpS_pure (h u a b d)
 case fin=>
  rintro c st' ⟨rfl,l,u,rfl,a,b,d,e,f⟩
  have:l=u:=by omega
  subst this;exact⟨rfl,l,rfl,b,e,f⟩
 case step=>
  rintro x c st' _ hx ⟨rfl,l,u,rfl,a,b,d,e,f⟩;dsimp only
  by_cases hge:l≥u
  ·rw[if_pos hge]
   have:l=u:=by omega
   subst this;exact wpS_pure ⟨rfl,l,rfl,b,e,f⟩
  ·rw[if_neg hge];let(z,z1,z2,z3):=hA (l+(u - l) / 2) (by omega);refine wpS_bind (ZI L hk hG z1 z2 ?_);rw[z3]
   cases hp:P (l+(u - l) / 2) with
   |true=>simp![if_true];refine wpS_pure ⟨rfl,_,_,rfl,by omega,b,by omega,λi hi=>mono i _ (by omega) (by omega) hp,f⟩
   |false=>
    simp![Bool.false_eq_true,if_false];refine wpS_pure ⟨rfl,_,_,rfl,by omega,by omega,by omega,e,λi hi hn=>?_⟩
    cases q:P i with
    |false=>rfl
    |true=>rw[mono _ i hi hn q]at hp;cases hp
theorem qhW(L:yC M A E s O kf U G){Q:Option Nat->SortSt->Prop}(hk:kindOf st=U)(hG:G key)(hA:∀i,i < n->∃x,arr[base+i]?=some x/\G x/\pby O kf left key x=P i)
  (mono:∀i j,i<=j->j < n->P j=true->P i=true) (hh:hint < n)
  (h:∀k,k<=n->(∀i,i < k->P i=true)->(∀i,k<=i->i < n->P i=false)->Q (some k) st):wpS M A E s (gal left key arr base n hint) Q st:=by
 have monoF:∀i j,i<=j->j < n->P i=false->P j=false:=λi j a b c=>by
  cases q:P j with
  |false=>rfl
  |true=>rw[mono i j a b q]at c;cases c
 rw[qhV];let(z,z1,z2,z3):=hA hint hh;refine wpS_bind (ZI L hk hG z1 z2 ?_);rw[z3]
 cases hp:P hint with
 |true=>
  simp![if_true];unfold gup;dsimp only
  refine wpS_bind (wpS_mono (wpS_forRange (I:=λx c st'=>st'=st/\∃l o,c=(none,l,o)/\l < o/\x < o/\hint+l < n/\P (hint+l)=true)
   (Q:=λc st'=>st'=st/\∃l o,c=(none,l,o)/\l < o/\hint+l < n/\P (hint+l)=true/\(n - hint<=o\/(hint+o < n/\P (hint+o)=false))) ?step ?fin ⟨rfl,0,1,rfl,by omega,by omega,by omega,hp⟩) ?post)
  case fin=>rintro c st' ⟨rfl,l,o,rfl,a,b,d,e⟩;exact{rfl,l,o,rfl,a,d,e,.inl (by omega)}
  case post=>
   rintro c st' ⟨rfl,l,o,rfl,a,d,e,f⟩;dsimp only;refine ZJ L hk hG hA mono (by omega) (by omega) (λi hi=>mono i _ (by omega) d e) (λi hi hn=>?_) h;rcases f with f|⟨f,g⟩
   ·omega
   ·exact monoF _ i (by omega) hn g
  case step=>
   rintro x c st' _ hx ⟨rfl,l,o,rfl,a,b,d,e⟩;dsimp only
   by_cases hge:o≥n - hint
   ·rw[if_pos hge];exact wpS_pure ⟨rfl,l,o,rfl,a,d,e,.inl hge⟩
   ·rw[if_neg hge];let(y,y1,y2,y3):=hA (hint+o) (by omega);refine wpS_bind (ZI L hk hG y1 y2 ?_);rw[y3]
    cases hq:P (hint+o) with
    |false=>simp![Bool.not_false,if_true];exact wpS_pure ⟨rfl,l,o,rfl,a,d,e,.inr ⟨by omega,hq⟩⟩
    |true=>simp![Bool.not_true,Bool.false_eq_true,if_false];exact wpS_pure ⟨rfl,o,2 * o+1,rfl,by omega,by omega,by omega,hq⟩
 |false=>
  simp![Bool.false_eq_true,if_false];unfold gdn;dsimp only
  refine wpS_bind (wpS_mono (wpS_forRange (I:=λx c st'=>st'=st/\∃l o,c=(none,l,o)/\l < o/\x < o/\l<=hint/\P (hint - l)=false)
   (Q:=λc st'=>st'=st/\∃l o,c=(none,l,o)/\l < o/\l<=hint/\P (hint - l)=false/\(hint+1<=o\/(o<=hint/\P (hint - o)=true))) ?step ?fin ⟨rfl,0,1,rfl,by omega,by omega,by omega,hp⟩) ?post)
  case fin=>rintro c st' ⟨rfl,l,o,rfl,a,b,d,e⟩;exact{rfl,l,o,rfl,a,d,e,.inl (by omega)}
  case post=>
   rintro c st' ⟨rfl,l,o,rfl,a,d,e,f⟩;dsimp only;refine ZJ L hk hG hA mono (by omega) (by omega) (λi hi=>?_) (λi hi hn=>monoF _ i hi hn e) h;rcases f with f|⟨f,g⟩
   ·omega
   ·exact mono i _ (by omega) (by omega) g
  case step=>
   rintro x c st' _ hx ⟨rfl,l,o,rfl,a,b,d,e⟩;dsimp only
   by_cases hge:o≥hint+1
   ·rw[if_pos hge];exact wpS_pure ⟨rfl,l,o,rfl,a,d,e,.inl hge⟩
   ·rw[if_neg hge];let(y,y1,y2,y3):=hA (hint - o) (by omega);refine wpS_bind (ZI L hk hG y1 y2 ?_);rw[y3]
    cases hq:P (hint - o) with
    |true=>simp![if_true];exact wpS_pure ⟨rfl,l,o,rfl,a,d,e,.inr ⟨by omega,hq⟩⟩
    |false=>simp![Bool.false_eq_true,if_false];exact wpS_pure ⟨rfl,o,2 * o+1,rfl,by omega,by omega,by omega,hq⟩
end
section
variable{O:KeyOrd}{kf:Keyed->O.α}
def le(O:KeyOrd)(kf:Keyed->O.α)(x y:Keyed):Prop:=O.kle (kf x) (kf y)
def qA{x y z:Keyed}(h1:le O kf x y)(h2:le O kf y z):le O kf x z:=KeyOrd.kle_trans h1 h2
def le_of_lt{x y:Keyed}(h:O.blt (kf x) (kf y)=true):le O kf x y:=KeyOrd.kle_of_klt h
def qZ{x y:Keyed}(h:O.blt (kf x) (kf y)=false):le O kf y x:=h
def Srt(O:KeyOrd)(kf:Keyed->O.α)(a:Array Keyed)(lo hi:Nat):Prop:=∀(i j:Nat) (x y:Keyed),lo<=i->i<=j->j < hi->a[i]?=some x->a[j]?=some y->le O kf x y
def zR{a:Array Keyed}{i:Nat}{y:Keyed}:y∈a.toList.drop i↔∃t:Nat,i<=t/\a[t]?=some y:=by
 rw[List.mem_drop_iff_getElem];constructor
 ·rintro⟨t,ht,rfl⟩;refine{i+t,by lia,?_};have h2:i+t < a.size:=by have:=a.length_toList;lia
  rw[Array.getElem?_eq_getElem h2];simp
 ·rintro⟨t,ht,e⟩;let(h2,rfl):=Array.getElem?_eq_some_iff.mp e;refine{t - i,by simp;lia,?_}
  have:i+(t - i)=t:=by lia
  simp[this]
def Y8{a:Array Keyed}{i:Nat}(h:a.size<=i):a.toList.drop i=[]:=List.drop_eq_nil_of_le (-h:)
def jw(a:Array Keyed)(i:Nat):(a.extract i a.size).toList=a.toList.drop i:=by rw[Array.toList_extract,List.extract_eq_take_drop];rw[List.take_of_length_le];simp
def J8(a:Array Keyed)(i k:Nat):(a.extract i (i+k)).toList++a.toList.drop (i+k)=a.toList.drop i:=by
 rw[Array.toList_extract,List.extract_eq_take_drop]
 have:i+k - i=k:=by lia
 rw[this,<-List.drop_drop];exact List.take_append_drop k _
def QZ{a:Array Keyed}{i k:Nat}{x:Keyed}(h:x∈(a.extract i (i+k)).toList):∃t,t < k/\a[i+t]?=some x:=by
 let(t,ht,e):=List.mem_iff_getElem.mp h;have h1:t < (a.extract i (i+k)).size:=by rw[<-Array.length_toList];exact ht
 have h2:(a.extract i (i+k))[t]'h1=x:=(-e:)
 rw[Array.getElem_extract]at h2;refine{t,?_,?_}
 ·rw[Array.size_extract]at h1;lia
 ·rw[<-h2];exact Array.getElem?_eq_getElem _
def Srt.pw{a:Array Keyed}(h:Srt O kf a 0 a.size):a.toList.Pairwise (le O kf):=by
 rw[List.pairwise_iff_getElem];intro i j hi hj hij;have hj':j < a.size:=(-hj:)
 have hi':i < a.size:=(-hi:)
 exact h i j _ _ (1:) (1:) hj' (by simp[hi']) (by simp[hj'])
def Srt.of{a:Array Keyed}(h:a.toList.Pairwise (le O kf)):Srt O kf a 0 a.size:=by
 rw[List.pairwise_iff_getElem]at h;intro i j x y _ hij hj e1 e2;let(h1,rfl):=Array.getElem?_eq_some_iff.mp e1;let(h2,rfl):=Array.getElem?_eq_some_iff.mp e2
 by_cases e:i=j
 ·subst e;exact KeyOrd.kle_refl _
 ·exact h i j (-h1:) (-h2:) (1:)
structure MI(O:KeyOrd)(kf:Keyed->O.α)(a b o:Array Keyed)(i j:Nat):Prop where
 perm:(o.toList++(a.toList.drop i++b.toList.drop j)).Perm (a.toList++b.toList)
 srt:o.toList.Pairwise (le O kf)
 low:∀x∈o.toList,∀y∈a.toList.drop i++b.toList.drop j,le O kf x y
def Mrg(O:KeyOrd)(kf:Keyed->O.α)(a b r:Array Keyed):Prop:=r.toList.Perm (a.toList++b.toList)/\r.toList.Pairwise (le O kf)
variable{a b o:Array Keyed}{i j:Nat}
def Y9{o c ra rb all:List Keyed}(perm:(o++(c++(ra++rb))).Perm all)(srt:o.Pairwise (le O kf))(low:∀x∈o,∀y∈c++(ra++rb),le O kf x y)(sc:c.Pairwise (le O kf))(hc:∀x∈c,∀y∈ra++rb,le O kf x y) :
  ((o++c)++(ra++rb)).Perm all/\(o++c).Pairwise (le O kf)/\∀x∈o++c,∀y∈ra++rb,le O kf x y:=by
 refine{by rw[List.append_assoc];exact perm,List.pairwise_append.mpr {srt,sc,λx hx y hy=>low x hx y (List.mem_append_left _ hy)},λx hx y hy=>?_};rcases List.mem_append.mp hx with h|h
 ·exact low x h y (List.mem_append_right _ hy)
 ·exact hc x h y hy
def MI.blockA(h:MI O kf a b o i j)(sa:Srt O kf a 0 a.size){k:Nat}(hc:∀t x,t < k->a[i+t]?=some x->∀y∈b.toList.drop j,le O kf x y):MI O kf a b (o++a.extract i (i+k)) (i+k) j:=by
 have e:=J8 a i k
 have:=Y9 (all:=a.toList++b.toList) (o:=o.toList) (c:=(a.extract i (i+k)).toList) (ra:=a.toList.drop (i+k)) (rb:=b.toList.drop j) (by rw[<-List.append_assoc (a.extract i (i+k)).toList,e];exact h.perm) h.srt (by rw[<-List.append_assoc (a.extract i (i+k)).toList,e];exact h.low)
  ((sa.pw.sublist (List.drop_sublist i _)).sublist (by rw[<-e];exact List.sublist_append_left _ _)) (λx hx y hy=>by
   let(t,ht,ex):=QZ hx;rcases List.mem_append.mp hy with q|q
   ·let(u,hu,ey):=zR.mp q;have hlt:u < a.size:=(Array.getElem?_eq_some_iff.mp ey).1;exact sa _ _ _ _ (Nat.zero_le _) (1:) hlt ex ey
   ·exact hc t x ht ex y q)
 exact{by simpa using this.1,(-this.2.1:),(-this.2.2:)}
def MI.blockB(h:MI O kf a b o i j)(sb:Srt O kf b 0 b.size){k:Nat}(hc:∀t x,t < k->b[j+t]?=some x->∀y∈a.toList.drop i,le O kf x y):MI O kf a b (o++b.extract j (j+k)) i (j+k):=by
 have e:=J8 b j k
 have p1:(o.toList++((b.extract j (j+k)).toList++(a.toList.drop i++b.toList.drop (j+k)))).Perm (a.toList++b.toList):=by refine List.Perm.trans (List.Perm.append_left _ ?_) h.perm;rw[<-e,<-List.append_assoc,<-List.append_assoc];exact List.Perm.append_right _ List.perm_append_comm
 have:=Y9 (all:=a.toList++b.toList) (o:=o.toList) (c:=(b.extract j (j+k)).toList) (ra:=a.toList.drop i) (rb:=b.toList.drop (j+k)) p1 h.srt (λx hx y hy=>h.low x hx y (by
   rw[<-e];rcases List.mem_append.mp hy with q|q
   ·exact List.mem_append_right _ (List.mem_append_left _ q)
   ·rcases List.mem_append.mp q with q|q
    ·exact List.mem_append_left _ q
    ·exact List.mem_append_right _ (List.mem_append_right _ q)))
  ((sb.pw.sublist (List.drop_sublist j _)).sublist (by rw[<-e];exact List.sublist_append_left _ _)) (λx hx y hy=>by
   let(t,ht,ex):=QZ hx;rcases List.mem_append.mp hy with q|q
   ·exact hc t x ht ex y q
   ·let(u,hu,ey):=zR.mp q;have hlt:u < b.size:=(Array.getElem?_eq_some_iff.mp ey).1;exact sb _ _ _ _ (Nat.zero_le _) (1:) hlt ex ey)
 exact{by simpa using this.1,(-this.2.1:),(-this.2.2:)}
def Q0{a:Array Keyed}{i:Nat}{x:Keyed}(e:a[i]?=some x):a.extract i (i+1)=#[x]:=by
 let(h,rfl):=Array.getElem?_eq_some_iff.mp e;apply Array.ext
 ·simp;lia
 ·intro t h1 h2
  have:t=0:=by simp at h2;lia
  subst this;simp
def MI.pushA(h:MI O kf a b o i j)(sa:Srt O kf a 0 a.size){x:Keyed}(e:a[i]?=some x)(hc:∀y∈b.toList.drop j,le O kf x y):MI O kf a b (o.push x) (i+1) j:=by
 have:=h.blockA sa (k:=1) (λt y ht ey z hz=>by
  have:t=0:=by lia
  subst this;rw[Nat.add_zero,e]at ey;cases ey;exact hc z hz)
 rw[Q0 e]at this;exact this
def MI.pushB(h:MI O kf a b o i j)(sb:Srt O kf b 0 b.size){x:Keyed}(e:b[j]?=some x)(hc:∀y∈a.toList.drop i,le O kf x y):MI O kf a b (o.push x) i (j+1):=by
 have:=h.blockB sb (k:=1) (λt y ht ey z hz=>by
  have:t=0:=by lia
  subst this;rw[Nat.add_zero,e]at ey;cases ey;exact hc z hz)
 rw[Q0 e]at this;exact this
def MI.fin(h:MI O kf a b o i j)(sa:Srt O kf a 0 a.size)(sb:Srt O kf b 0 b.size)(z:a.size<=i\/b.size<=j):Mrg O kf a b (o++a.extract i a.size++b.extract j b.size):=by
 have e:(o++a.extract i a.size++b.extract j b.size).toList=o.toList++(a.toList.drop i++b.toList.drop j):=by rw[Array.toList_append,Array.toList_append,jw,jw,List.append_assoc]
 refine{by rw[e];exact h.perm,?_};rw[e];refine List.pairwise_append.mpr ⟨h.srt,?_,h.low⟩;rcases z with z|z
 ·rw[Y8 z];exact sb.pw.sublist (List.drop_sublist j _)
 ·rw[Y8 z,List.append_nil];exact sa.pw.sublist (List.drop_sublist i _)
def MI.lst(h:MI O kf a b o i j)(sa:Srt O kf a 0 a.size)(sb:Srt O kf b 0 b.size)(z:∀y∈b.toList.drop j,∀x∈a.toList.drop i,le O kf y x):Mrg O kf a b (o++b.extract j b.size++a.extract i a.size):=by
 have e:(o++b.extract j b.size++a.extract i a.size).toList=o.toList++(b.toList.drop j++a.toList.drop i):=by rw[Array.toList_append,Array.toList_append,jw,jw,List.append_assoc]
 refine{by rw[e];exact List.Perm.trans (List.Perm.append_left _ List.perm_append_comm) h.perm,?_};rw[e]
 refine List.pairwise_append.mpr ⟨h.srt,?_,λx hx y hy=>h.low x hx y (by
  rcases List.mem_append.mp hy with q|q
  ·exact List.mem_append_right _ q
  ·exact List.mem_append_left _ q)⟩
 exact List.pairwise_append.mpr ⟨sb.pw.sublist (List.drop_sublist j _),sa.pw.sublist (List.drop_sublist i _),z⟩
end
section
variable{M:Model}{A:Around}{E:PQ}{s:Shared}{O:KeyOrd}{kf:Keyed->O.α}{U:SortKind}{G:Keyed->Prop}
def yh(L:yC M A E s O kf U G){left:Bool}{key:Keyed}{arr:Array Keyed}{base n hint:Nat}{st:SortSt}{Q:Option Nat->SortSt->Prop}(hk:kindOf st=U)(hG:G key)(hA:∀x∈arr.toList,G x)
  (hs:Srt O kf arr base (base+n)) (hn:base+n<=arr.size) (hh:hint < n)
  (h:∀k,k<=n->(∀t x,t < k->arr[base+t]?=some x->pby O kf left key x=true)->(∀t x,k<=t->t < n->arr[base+t]?=some x->pby O kf left key x=false)->Q (some k) st):wpS M A E s (gal left key arr base n hint) Q st:=by
 have at':∀i,i < n->arr[base+i]?=some (arr.getD (base+i) (Value.none,Value.none)):=λi hi=>by
  have:base+i < arr.size:=by lia
  rw[Array.getElem?_eq_getElem this];simp[this]
 refine qhW L (P:=λi=>pby O kf left key (arr.getD (base+i) (Value.none,Value.none))) hk hG (λi hi=>{_,at' i hi,hA _ ?_,rfl}) (λi j hij hj hp=>?_) hh (λk hk1 h1 h2=>h k hk1 (λt x ht ex=>?_) (λt x ht htn ex=>?_))
 ·let(h1,h2):=Array.getElem?_eq_some_iff.mp (at' i hi);rw[<-h2];simp
 ·have hle:=hs (base+i) (base+j) _ _ (1:) (1:) (1:) (at' i (1:)) (at' j hj);unfold pby at hp ⊢
  cases left with
  |true=>simp![if_true]at hp ⊢;exact KeyOrd.klt_of_kle_of_klt hle hp
  |false=>simp![Bool.false_eq_true,if_false,Bool.not_eq_true']at hp ⊢;exact KeyOrd.kle_trans hle hp
 ·have:=h1 t ht
  rw[at' t (1:)]at ex;cases ex;exact this
 ·have:=h2 t ht htn
  rw[at' t (1:)]at ex;cases ex;exact this
end
abbrev C6:=Option (Array Keyed)×Array Keyed×Nat×Nat×Nat×Nat
abbrev C7:=Option (Array Keyed)×Array Keyed×Nat×Nat×Nat×Nat×Nat
def je(st:SortSt)(g:Nat):SortSt:=SortSt.mk' (kindOf st) (arrOf st) (pendingOf st) g (failedOf st)
def lo1(a b:Array Keyed)(mg:Nat)(o:Array Keyed)(i j:Nat):StateT SortSt Sem C6:=
 forIn [0:a.size+b.size] ((none,o,i,j,0,0):C6) λ_ c=>do
  let x<-elem' b c.2.2.2.1
  let y<-elem' a c.2.2.1
  let r<-lt' x y
  match r with
  |some bw=>
   if bw=true then do
    let z<-elem' b c.2.2.2.1
    if (c.2.2.2.1+1 == b.size)=true then pure (.done (some (c.2.1.push z++a.extract c.2.2.1 a.size++b.extract (c.2.2.2.1+1) b.size),c.2.1.push z,c.2.2.1,c.2.2.2.1+1,0,c.2.2.2.2.2+1))
    else if c.2.2.2.2.2+1≥mg then pure (.done (none,c.2.1.push z,c.2.2.1,c.2.2.2.1+1,0,c.2.2.2.2.2+1))
    else pure (.yield (none,c.2.1.push z,c.2.2.1,c.2.2.2.1+1,0,c.2.2.2.2.2+1))
   else do
    let z<-elem' a c.2.2.1
    if (c.2.2.1+1+1 == a.size)=true then pure (.done (some (c.2.1.push z++b.extract c.2.2.2.1 b.size++a.extract (c.2.2.1+1) a.size),c.2.1.push z,c.2.2.1+1,c.2.2.2.1,c.2.2.2.2.1+1,0))
    else if c.2.2.2.2.1+1≥mg then pure (.done (none,c.2.1.push z,c.2.2.1+1,c.2.2.2.1,c.2.2.2.2.1+1,0))
    else pure (.yield (none,c.2.1.push z,c.2.2.1+1,c.2.2.2.1,c.2.2.2.2.1+1,0))
  |_=>pure (.done (some (c.2.1++a.extract c.2.2.1 a.size++b.extract c.2.2.2.1 b.size),c.2))
def qkk(a b o:Array Keyed)(i j mg ac bc:Nat):StateT SortSt Sem (ForInStep C7):=do
 let z<-elem' a i
 if (i+1+1 == a.size)=true then pure (.done (some (o.push z++b.extract j b.size++a.extract (i+1) a.size),o.push z,i+1,j,mg,ac,bc))
 else if (decide (ac < 7)&&decide (bc < 7))=true then pure (.done (none,o.push z,i+1,j,mg,ac,bc))
 else pure (.yield (none,o.push z,i+1,j,mg,ac,bc))
def qhj(a b o:Array Keyed)(i j mg ac bc:Nat):StateT SortSt Sem (ForInStep C7):=do
 let z<-elem' b j
 if (j+1 == b.size)=true then pure (.done (some (o.push z++a.extract i a.size++b.extract (j+1) b.size),o.push z,i,j+1,mg,ac,bc))
 else do
  let y<-elem' a i
  let r<-gal true y b (j+1) (b.size - (j+1)) 0
  match r with
  |some k=>
   if k > 0 then
    if (j+1+k == b.size)=true then pure (.done (some (o.push z++b.extract (j+1) (j+1+k)++a.extract i a.size++b.extract (j+1+k) b.size),o.push z++b.extract (j+1) (j+1+k),i,j+1+k,mg,ac,k))
    else qkk a b (o.push z++b.extract (j+1) (j+1+k)) i (j+1+k) mg ac k
   else qkk a b (o.push z) i (j+1) mg ac k
  |_=>pure (.done (some (o.push z++a.extract i a.size++b.extract (j+1) b.size),o.push z,i,j+1,mg,ac,bc))
def qhk(a b o:Array Keyed)(i j mg ac bc:Nat):StateT SortSt Sem (ForInStep C7):=do
 modify λst=>je st mg
 let y<-elem' b j
 let r<-gal false y a i (a.size - i) 0
 match r with
 |some k=>
  if k > 0 then
   if (i+k+1 == a.size)=true then pure (.done (some (o++a.extract i (i+k)++b.extract j b.size++a.extract (i+k) a.size),o++a.extract i (i+k),i+k,j,mg,k,bc))
   else if (i+k == a.size)=true then pure (.done (some (o++a.extract i (i+k)++a.extract (i+k) a.size++b.extract j b.size),o++a.extract i (i+k),i+k,j,mg,k,bc))
   else qhj a b (o++a.extract i (i+k)) (i+k) j mg k bc
  else qhj a b o i j mg k bc
 |_=>pure (.done (some (o++a.extract i a.size++b.extract j b.size),o,i,j,mg,ac,bc))
def lo2(a b:Array Keyed)(mg:Nat)(o:Array Keyed)(i j ac bc:Nat):StateT SortSt Sem C7:=
 forIn [0:a.size+b.size] ((none,o,i,j,mg,ac,bc):C7) λ_ c=>
  if c.2.2.2.2.1 > 1 then qhk a b c.2.1 c.2.2.1 c.2.2.2.1 (c.2.2.2.2.1 - 1) c.2.2.2.2.2.1 c.2.2.2.2.2.2
  else qhk a b c.2.1 c.2.2.1 c.2.2.2.1 c.2.2.2.2.1 c.2.2.2.2.2.1 c.2.2.2.2.2.2
abbrev C5:=Option (Array Keyed)×Array Keyed×Nat×Nat×Nat
def qfB(a b:Array Keyed):mlo a b=(do
 rule "list.sort.merge-lo"
 let tot:=a.size+b.size
 let fin (o:Array Keyed) (i j:Nat):=o++a.extract i a.size++b.extract j b.size
 let lst (o:Array Keyed) (i j:Nat):=o++b.extract j b.size++a.extract i a.size
 let mut o:Array Keyed:=#[<-elem' b 0]
 let mut i:=0
 let mut j:=1
 if j == b.size then return fin o i j
 if i+1 == a.size then return lst o i j
 let mut mg:=gallopOf (<-get)
 for _ in [0:tot] do
  let mut ac:=0
  let mut bc:=0
  for _ in [0:tot] do
   let some bw<-lt' (<-elem' b j) (<-elem' a i)|return fin o i j
   if bw then
    o:=o.push (<-elem' b j)
    j:=j+1
    bc:=bc+1
    ac:=0
    if j == b.size then return fin o i j
    if bc≥mg then break
   else
    o:=o.push (<-elem' a i)
    i:=i+1
    ac:=ac+1
    bc:=0
    if i+1 == a.size then return lst o i j
    if ac≥mg then break
  rule "list.sort.gallop"
  mg:=mg+1
  for _ in [0:tot] do
   if mg > 1 then mg:=mg - 1
   modify λst=>SortSt.mk' (kindOf st) (arrOf st) (pendingOf st) mg (failedOf st)
   let some k<-gal false (<-elem' b j) a i (a.size - i) 0|return fin o i j
   ac:=k
   if k > 0 then
    o:=o++a.extract i (i+k)
    i:=i+k
    if i+1 == a.size then return lst o i j
    if i == a.size then return fin o i j
   o:=o.push (<-elem' b j)
   j:=j+1
   if j == b.size then return fin o i j
   let some k<-gal true (<-elem' a i) b j (b.size - j) 0|return fin o i j
   bc:=k
   if k > 0 then
    o:=o++b.extract j (j+k)
    j:=j+k
    if j == b.size then return fin o i j
   o:=o.push (<-elem' a i)
   i:=i+1
   if i+1 == a.size then return lst o i j
   if ac < 7&&bc < 7 then break
  mg:=mg+1
  modify λst=>SortSt.mk' (kindOf st) (arrOf st) (pendingOf st) mg (failedOf st)
 unsupported "internal:list.sort.merge-bound"):=rfl
def qhX(a b:Array Keyed):mlo a b=(do
 rule "list.sort.merge-lo"
 let x<-elem' b 0
 if (1 == b.size)=true then pure (#[x]++a.extract 0 a.size++b.extract 1 b.size)
 else if (0+1 == a.size)=true then pure (#[x]++b.extract 1 b.size++a.extract 0 a.size)
 else do
  let st<-get
  let c<-forIn [0:a.size+b.size] ((none,#[x],0,1,gallopOf st):C5) λ_ c=>do
   let d<-lo1 a b c.2.2.2.2 c.2.1 c.2.2.1 c.2.2.2.1
   match d.1 with
   |some r=>pure (.done (some r,d.2.1,d.2.2.1,d.2.2.2.1,c.2.2.2.2))
   |none=>do
    rule "list.sort.gallop"
    let f<-lo2 a b (c.2.2.2.2+1) d.2.1 d.2.2.1 d.2.2.2.1 d.2.2.2.2.1 d.2.2.2.2.2
    match f.1 with
    |some r=>pure (.done (some r,f.2.1,f.2.2.1,f.2.2.2.1,f.2.2.2.2.1))
    |none=>do
     modify λst=>je st (f.2.2.2.2.1+1)
     pure (.yield (none,f.2.1,f.2.2.1,f.2.2.2.1,f.2.2.2.2.1+1))
  match c.1 with
  |some r=>pure r
  |none=>unsupported "internal:list.sort.merge-bound"):=by
 rw[qfB];refine congrArg (λz=>_ >>= z) (funext λ_=>?_);show(elem' b 0 >>= _:StateT SortSt Sem (Array Keyed))=_;refine congrArg (λz=>_ >>= z) (funext λx=>?_);show(ite _ _ (ite _ _ (get >>= _)):StateT SortSt Sem (Array Keyed))=ite _ _ (ite _ _ (get >>= _));refine congrArg (ite _ _) (congrArg (ite _ _) (congrArg (λz=>get >>= z) (funext λst=>?_)));show(forIn _ _ _ >>= _:StateT SortSt Sem (Array Keyed))=forIn _ _ _ >>= _
 refine congr (congrArg Bind.bind ?_) (funext λc=>by
  let(c1,c2):=c
  cases c1 with
  |some r=>rfl
  |none=>rfl)
 refine congrArg (forIn _ _) (funext λ_=>funext λc=>?_);show(forIn _ _ _ >>= _:StateT SortSt Sem (ForInStep C5))=lo1 _ _ _ _ _ _ >>= _;refine congr (congrArg Bind.bind ?_) (funext λd=>?_)
 ·delta lo1
  refine congrArg (forIn _ _) (funext λ_=>funext λc=>?_);rfl
 ·let(d1,d2,d3,d4,d5,d6):=d
  cases d1 with
  |some r=>rfl
  |none=>
   refine congrArg (λz=>_ >>= z) (funext λ_=>?_);show(forIn _ _ _ >>= _:StateT SortSt Sem (ForInStep C5))=lo2 _ _ _ _ _ _ _ _ >>= _;refine congr (congrArg Bind.bind ?_) (funext λf=>?_)
   ·delta lo2
    refine congrArg (forIn _ _) (funext λ_=>funext λc=>?_);show(ite _ _ _:StateT SortSt Sem (ForInStep C7))=ite _ _ _;refine congr (congrArg (ite _) ?_) ?_
    all_goals
     delta qhk
     refine congrArg (λz=>_ >>= z) (funext λ_=>?_);refine congrArg (λz=>_ >>= z) (funext λy=>?_);refine congrArg (λz=>_ >>= z) (funext λr=>?_)
     cases r with
     |none=>exact rfl
     |some k=>
      show(ite _ _ _:StateT SortSt Sem (ForInStep C7))=ite _ _ _;refine congr (congrArg (ite _) ?_) ?_
      ·show(ite _ _ (ite _ _ _):StateT SortSt Sem (ForInStep C7))=ite _ _ (ite _ _ _);refine congrArg (ite _ _) (congrArg (ite _ _) ?_)
       delta qhj
       refine congrArg (λz=>_ >>= z) (funext λz=>?_);show(ite _ _ _:StateT SortSt Sem (ForInStep C7))=ite _ _ _;refine congrArg (ite _ _) ?_;refine congrArg (λz=>_ >>= z) (funext λy=>?_);refine congrArg (λz=>_ >>= z) (funext λr=>?_)
       cases r with
       |none=>exact rfl
       |some k=>exact rfl
      ·delta qhj
       refine congrArg (λz=>_ >>= z) (funext λz=>?_);show(ite _ _ _:StateT SortSt Sem (ForInStep C7))=ite _ _ _;refine congrArg (ite _ _) ?_;refine congrArg (λz=>_ >>= z) (funext λy=>?_);refine congrArg (λz=>_ >>= z) (funext λr=>?_)
       cases r with
       |none=>exact rfl
       |some k=>exact rfl
   ·let(f1,f2):=f
    cases f1 with
    |some r=>rfl
    |none=>rfl
section
variable{M:Model}{A:Around}{E:PQ}{s:Shared}{O:KeyOrd}{kf:Keyed->O.α}{U:SortKind}{G:Keyed->Prop}{a b:Array Keyed}
structure Two(O:KeyOrd)(kf:Keyed->O.α)(G:Keyed->Prop)(a b:Array Keyed):Prop where
 ga:∀x∈a.toList,G x
 gb:∀x∈b.toList,G x
 sa:Srt O kf a 0 a.size
 sb:Srt O kf b 0 b.size
 pa:0 < a.size
 pb:0 < b.size
 first:∀x y,b[0]?=some y->x∈a.toList->le O kf y x
 last:∀x y,a[a.size - 1]?=some x->y∈b.toList->le O kf y x
def qO{a:Array Keyed}{i:Nat}(h:i < a.size):∃x,a[i]?=some x/\x∈a.toList:={a[i],Array.getElem?_eq_getElem h,by simp}
def Jd{a:Array Keyed}{i:Nat}{x:Keyed}(h:x∈a.toList.drop i):x∈a.toList:=List.mem_of_mem_drop h
def Two.lastOne(T:Two O kf G a b){i j:Nat}(h:i+1=a.size):∀y∈b.toList.drop j,∀x∈a.toList.drop i,le O kf y x:=λy hy x hx=>by
 let(t,ht,e):=zR.mp hx
 have:t < a.size:=(Array.getElem?_eq_some_iff.mp e).1
 have e2:t=a.size - 1:=by lia
 subst e2;exact T.last x y e (Jd hy)
def Two.leA(T:Two O kf G a b){i:Nat}{x:Keyed}(e:a[i]?=some x):∀y∈a.toList.drop i,le O kf x y:=λy hy=>by let(t,ht,e'):=zR.mp hy;exact T.sa i t x y (Nat.zero_le _) ht (Array.getElem?_eq_some_iff.mp e').1 e e'
def Two.leB(T:Two O kf G a b){j:Nat}{x:Keyed}(e:b[j]?=some x):∀y∈b.toList.drop j,le O kf x y:=λy hy=>by let(t,ht,e'):=zR.mp hy;exact T.sb j t x y (Nat.zero_le _) ht (Array.getElem?_eq_some_iff.mp e').1 e e'
def qkR(O:KeyOrd)(kf:Keyed->O.α)(a b:Array Keyed)(n:Nat)(c:Option (Array Keyed))(o:Array Keyed)(i j:Nat):Prop:=
 (∃r,c=some r/\Mrg O kf a b r)\/(c=none/\MI O kf a b o i j/\i+1 < a.size/\j < b.size/\n<=i+j)
def qhY(L:yC M A E s O kf U G)(T:Two O kf G a b){mg i j:Nat}{o:Array Keyed}{st:SortSt}{Q:C6->SortSt->Prop}(hk:kindOf st=U)(hI:MI O kf a b o i j)(hi:i+1 < a.size)(hj:j < b.size)
  (h:∀c:C6,qkR O kf a b (i+j+1) c.1 c.2.1 c.2.2.1 c.2.2.2.1->Q c st):wpS M A E s (lo1 a b mg o i j) Q st:=by
 unfold lo1;refine wpS_forRange (I:=λx c st'=>st'=st/\∃o' i' j' ac bc,c=(none,o',i',j',ac,bc)/\MI O kf a b o' i' j'/\i'+1 < a.size/\j' < b.size/\i+j+x<=i'+j') ?step ?fin ⟨rfl,o,i,j,0,0,rfl,hI,hi,hj,by lia⟩
 case fin=>rintro c st' ⟨rfl,o',i',j',ac,bc,rfl,h1,h2,h3,h4⟩;exact h _ (.inr ⟨rfl,h1,h2,h3,by dsimp only;lia⟩)
 case step=>
  rintro x c st' _ hx ⟨rfl,o',i',j',ac,bc,rfl,h1,h2,h3,h4⟩;dsimp only;let(y,ey,my):=qO h3;let(z,ez,mz):=qO (show i' < a.size by lia);refine wpS_bind (qw ey (wpS_bind (qw ez (wpS_bind (L y z (T.gb y my) (T.ga z mz) _ _ hk ?_)))))
  cases hb:O.blt (kf y) (kf z) with
  |true=>
   simp![if_true];refine wpS_bind (qw ey ?_);have h5:=h1.pushB T.sb ey (λw hw=>qA (le_of_lt hb) (T.leA ez w hw))
   by_cases hfin:j'+1=b.size
   ·rw[if_pos (-hfin:)];exact wpS_pure (h _ (.inl ⟨_,rfl,h5.fin T.sa T.sb (.inr (1:))⟩))
   ·rw[if_neg (-hfin:)]
    by_cases hg:bc+1≥mg
    ·rw[if_pos hg];exact wpS_pure (h _ (.inr ⟨rfl,h5,h2,by dsimp only;lia,by dsimp only;lia⟩))
    ·rw[if_neg hg];exact wpS_pure ⟨rfl,_,_,_,_,_,rfl,h5,h2,by lia,by lia⟩
  |false=>
   simp![Bool.false_eq_true,if_false];refine wpS_bind (qw ez ?_);have h5:=h1.pushA T.sa ez (λw hw=>qA (qZ hb) (T.leB ey w hw))
   by_cases hfin:i'+1+1=a.size
   ·rw[if_pos (-hfin:)];exact wpS_pure (h _ (.inl ⟨_,rfl,h5.lst T.sa T.sb (T.lastOne hfin)⟩))
   ·rw[if_neg (-hfin:)]
    by_cases hg:ac+1≥mg
    ·rw[if_pos hg];exact wpS_pure (h _ (.inr ⟨rfl,h5,by dsimp only;lia,h3,by dsimp only;lia⟩))
    ·rw[if_neg hg];exact wpS_pure ⟨rfl,_,_,_,_,_,rfl,h5,by lia,h3,by lia⟩
def qfC(O:KeyOrd)(kf:Keyed->O.α)(a b:Array Keyed)(n:Nat)(r:ForInStep C7):Prop:=match r with
 |.done c=>qkR O kf a b n c.1 c.2.1 c.2.2.1 c.2.2.2.1
 |.yield c=>c.1=none/\MI O kf a b c.2.1 c.2.2.1 c.2.2.2.1/\c.2.2.1+1 < a.size/\c.2.2.2.1 < b.size/\n<=c.2.2.1+c.2.2.2.1
def qbt(T:Two O kf G a b){mg i j ac bc n:Nat}{o:Array Keyed}{z:Keyed}{st:SortSt}{Q:ForInStep C7->SortSt->Prop}(hI:MI O kf a b o i j)(hi:i+1 < a.size)(hj:j < b.size)(ez:a[i]?=some z)
  (hz:∀y∈b.toList.drop j,le O kf z y) (hn:n<=i+j) (h:∀r,qfC O kf a b n r->Q r st):wpS M A E s (qkk a b o i j mg ac bc) Q st:=by
 unfold qkk;refine wpS_bind (qw ez ?_);have h5:=hI.pushA T.sa ez hz
 by_cases hfin:i+1+1=a.size
 ·rw[if_pos (-hfin:)];exact wpS_pure (h _ (.inl ⟨_,rfl,h5.lst T.sa T.sb (T.lastOne hfin)⟩))
 ·rw[if_neg (-hfin:)]
  by_cases hg:(decide (ac < 7)&&decide (bc < 7))=true
  ·rw[if_pos hg];exact wpS_pure (h _ (.inr ⟨rfl,h5,by dsimp only;lia,hj,by dsimp only;lia⟩))
  ·rw[if_neg hg];exact wpS_pure (h _ ⟨rfl,h5,by dsimp only;lia,hj,by dsimp only;lia⟩)
def qbu(L:yC M A E s O kf U G)(T:Two O kf G a b){mg i j ac bc n:Nat}{o:Array Keyed}{y:Keyed}{st:SortSt}{Q:ForInStep C7->SortSt->Prop}(hk:kindOf st=U)(hI:MI O kf a b o i j)(hi:i+1 < a.size)(hj:j < b.size)(ey:b[j]?=some y)
  (hy:∀x∈a.toList.drop i,le O kf y x) (hn:n<=i+j) (h:∀r,qfC O kf a b n r->Q r st):wpS M A E s (qhj a b o i j mg ac bc) Q st:=by
 unfold qhj;refine wpS_bind (qw ey ?_);have h5:=hI.pushB T.sb ey hy
 by_cases hfin:j+1=b.size
 ·rw[if_pos (-hfin:)];exact wpS_pure (h _ (.inl ⟨_,rfl,h5.fin T.sa T.sb (.inr (1:))⟩))
 ·rw[if_neg (-hfin:)];let(z,ez,mz):=qO (show i < a.size by lia);refine wpS_bind (qw ez (wpS_bind (yh L hk (T.ga z mz) T.gb (λi' j' x y h1 h2 h3=>T.sb i' j' x y (Nat.zero_le _) h2 (1:)) (1:) (1:) λk hk1 hb1 hb2=>?_)));dsimp only
  have rest:∀w∈b.toList.drop (j+1+k),le O kf z w:=λw hw=>by
   let(t,ht,e):=zR.mp hw;have hlt:t < b.size:=(Array.getElem?_eq_some_iff.mp e).1
   have:=hb2 (t - (j+1)) w (1:) (1:) (by rw[show j+1+(t - (j+1))=t by lia];exact e)
   unfold pby at this;simp![if_true]at this;exact qZ this
  by_cases hk0:k > 0
  ·rw[if_pos hk0]
   have h6:=h5.blockB T.sb (k:=k) (λt x ht ex w hw=>by
    have:=hb1 t x ht ex
    unfold pby at this;simp![if_true]at this;exact qA (le_of_lt this) (T.leA ez w hw))
   by_cases hf2:j+1+k=b.size
   ·rw[if_pos (-hf2:)];exact wpS_pure (h _ (.inl ⟨_,rfl,h6.fin T.sa T.sb (.inr (1:))⟩))
   ·rw[if_neg (-hf2:)];exact qbt T h6 hi (1:) ez rest (1:) h
  ·rw[if_neg hk0]
   have:k=0:=by lia
   subst this;exact qbt T h5 hi (1:) ez rest (1:) h
def qfD(L:yC M A E s O kf U G)(T:Two O kf G a b){mg i j ac bc n:Nat}{o:Array Keyed}{st:SortSt}{Q:ForInStep C7->SortSt->Prop}(hk:kindOf st=U)(hI:MI O kf a b o i j)(hi:i+1 < a.size)(hj:j < b.size)
  (hn:n<=i+j) (h:∀r,qfC O kf a b n r->Q r (je st mg)):wpS M A E s (qhk a b o i j mg ac bc) Q st:=by
 unfold qhk;refine wpS_bind (wpS_modify ?_);let(y,ey,my):=qO hj;have hk':kindOf (je st mg)=U:=hk;refine wpS_bind (qw ey (wpS_bind (yh L hk' (T.gb y my) T.ga (λi' j' x y h1 h2 h3=>T.sa i' j' x y (Nat.zero_le _) h2 (1:)) (1:) (1:) λk hk1 ha1 ha2=>?_)));dsimp only
 have rest:∀w∈a.toList.drop (i+k),le O kf y w:=λw hw=>by
  let(t,ht,e):=zR.mp hw;have hlt:t < a.size:=(Array.getElem?_eq_some_iff.mp e).1
  have:=ha2 (t - i) w (1:) (1:) (by rw[show i+(t - i)=t by lia];exact e)
  unfold pby at this;simp![Bool.false_eq_true,if_false,Bool.not_eq_false']at this;exact le_of_lt this
 by_cases hk0:k > 0
 ·rw[if_pos hk0]
  have h6:=hI.blockA T.sa (k:=k) (λt x ht ex w hw=>by
   have:=ha1 t x ht ex
   unfold pby at this;simp![Bool.false_eq_true,if_false,Bool.not_eq_true']at this;exact qA (qZ this) (T.leB ey w hw))
  by_cases hf1:i+k+1=a.size
  ·rw[if_pos (-hf1:)];exact wpS_pure (h _ (.inl ⟨_,rfl,h6.lst T.sa T.sb (T.lastOne hf1)⟩))
  ·rw[if_neg (-hf1:)]
   by_cases hf2:i+k=a.size
   ·rw[if_pos (-hf2:)];exact wpS_pure (h _ (.inl ⟨_,rfl,h6.fin T.sa T.sb (.inl (1:))⟩))
   ·rw[if_neg (-hf2:)];exact qbu L T hk' h6 (1:) hj ey rest (1:) h
 ·rw[if_neg hk0]
  have:k=0:=by lia
  subst this;exact qbu L T hk' hI hi hj ey rest hn h
def qhZ(L:yC M A E s O kf U G)(T:Two O kf G a b){mg i j ac bc:Nat}{o:Array Keyed}{st:SortSt}{Q:C7->SortSt->Prop}(hk:kindOf st=U)(hI:MI O kf a b o i j)(hi:i+1 < a.size)(hj:j < b.size)
  (h:∀(c:C7) g,qkR O kf a b (i+j) c.1 c.2.1 c.2.2.1 c.2.2.2.1->Q c (je st g)):wpS M A E s (lo2 a b mg o i j ac bc) Q st:=by
 unfold lo2;refine wpS_forRange (I:=λx c st'=>(∃g,st'=je st g)/\∃o' i' j' mg ac bc,c=(none,o',i',j',mg,ac,bc)/\MI O kf a b o' i' j'/\i'+1 < a.size/\j' < b.size/\i+j<=i'+j') ?step ?fin ⟨⟨gallopOf st,rfl⟩,o,i,j,mg,ac,bc,rfl,hI,hi,hj,by lia⟩
 case fin=>rintro c st' ⟨⟨g,rfl⟩,o',i',j',mg,ac,bc,rfl,h1,h2,h3,h4⟩;exact h _ g (.inr ⟨rfl,h1,h2,h3,h4⟩)
 case step=>
  rintro x c st' _ hx ⟨⟨g,rfl⟩,o',i',j',mg',ac,bc,rfl,h1,h2,h3,h4⟩
  have go:∀m,wpS M A E s (qhk a b o' i' j' m ac bc) (λr st'=>match r with
    | .done c'=>Q c' st'
    | .yield c'=>(∃g,st'=je st g)/\∃o' i' j' mg ac bc,c'=(none,o',i',j',mg,ac,bc)/\MI O kf a b o' i' j'/\i'+1 < a.size/\j' < b.size/\i+j<=i'+j') (je st g):=λm=>by
   refine qfD L T (n:=i+j) hk h1 h2 h3 h4 λr hr=>?_
   cases r with
   | done c'=>exact h _ m hr
   | yield c'=>let(c1,c2,c3,c4,c5,c6,c7):=c';let(e,r1,r2,r3,r4):=hr;have e:c1=none:=e;subst e;exact{⟨m,rfl⟩,_,_,_,_,_,_,rfl,r1,r2,r3,r4}
  dsimp only
  by_cases hg:mg' > 1
  ·rw[if_pos hg];exact wpS_mono (go _) (λr st' hh=>by cases r<;>exact hh)
  ·rw[if_neg hg];exact wpS_mono (go _) (λr st' hh=>by cases r<;>exact hh)
def qh0(L:yC M A E s O kf U G)(T:Two O kf G a b){st:SortSt}{Q:Array Keyed->SortSt->Prop}(hk:kindOf st=U)(h:∀r g,Mrg O kf a b r->Q r (je st g)):wpS M A E s (mlo a b) Q st:=by
 rw[qhX];refine wpS_bind (wpS_lift (wpAny_rule ⟨rfl,?_⟩));let(y,ey,my):=qO T.pb;refine wpS_bind (qw ey ?_);have h0:MI O kf a b #[] 0 0:={by simp,by simp,by simp};have h1:MI O kf a b #[y] 0 1:=h0.pushB T.sb ey (λx hx=>T.first x y ey (Jd hx));have hst:st=je st (gallopOf st):=rfl
 by_cases hf1:1=b.size
 ·rw[if_pos (-hf1:)];exact wpS_pure (by rw[hst];exact h _ _ (h1.fin T.sa T.sb (.inr (1:))))
 ·rw[if_neg (-hf1:)]
  by_cases hf2:0+1=a.size
  ·rw[if_pos (-hf2:)];exact wpS_pure (by rw[hst];exact h _ _ (h1.lst T.sa T.sb (T.lastOne hf2)))
  ·rw[if_neg (-hf2:)];have hpa:=T.pa;have hpb:=T.pb;refine wpS_bind (wpS_get ?_)
   refine wpS_bind (wpS_mono (wpS_forRange (I:=λx c st'=>(∃g,st'=je st g)/\∃o' i' j' mg,c=(none,o',i',j',mg)/\MI O kf a b o' i' j'/\i'+1 < a.size/\j' < b.size/\x+1<=i'+j')
    (Q:=λc st'=>(∃g,st'=je st g)/\∃r,c.1=some r/\Mrg O kf a b r) ?step ?fin ⟨⟨_,hst⟩,_,0,1,_,rfl,h1,by lia,by lia,by lia⟩) ?post)
   case fin=>
    rintro c st' ⟨_,o',i',j',mg,rfl,r1,r2,r3,r4⟩;exfalso
    lia
   case post=>rintro c st' ⟨⟨g,rfl⟩,r,e,hr⟩;let(c1,c2):=c;have e:c1=some r:=e;subst e;exact wpS_pure (h _ _ hr)
   case step=>
    rintro x c st' _ hx ⟨⟨g,rfl⟩,o',i',j',mg,rfl,r1,r2,r3,r4⟩;dsimp only;refine wpS_bind (qhY L T (st:=je st g) hk r1 r2 r3 λc hc=>?_);let(c1,c2,c3,c4,c5,c6):=c;rcases hc with ⟨r,e,hr⟩|⟨e,q1,q2,q3,q4⟩
    ·have e:c1=some r:=e;subst e;exact wpS_pure ⟨⟨g,rfl⟩,r,rfl,hr⟩
    ·have e:c1=none:=e;subst e;dsimp only at q1 q2 q3 q4 ⊢;refine wpS_bind (wpS_lift (wpAny_rule ⟨rfl,?_⟩));refine wpS_bind (qhZ L T (st:=je st g) hk q1 q2 q3 λd g' hd=>?_);let(d1,d2,d3,d4,d5,d6,d7):=d;rcases hd with ⟨r,e,hr⟩|⟨e,p1,p2,p3,p4⟩
     ·have e:d1=some r:=e;subst e;exact wpS_pure ⟨⟨g',rfl⟩,r,rfl,hr⟩
     ·have e:d1=none:=e;subst e;dsimp only at p1 p2 p3 p4 ⊢;exact wpS_bind (wpS_modify (wpS_pure ⟨⟨_,rfl⟩,_,_,_,_,rfl,p1,p2,p3,by lia⟩))
end
abbrev D6:=Option (Array Keyed)×Nat×Nat×Array Keyed×Nat×Nat
abbrev D7:=Option (Array Keyed)×Nat×Nat×Array Keyed×Nat×Nat×Nat
abbrev D5:=Option (Array Keyed)×Nat×Nat×Array Keyed×Nat
def hi1(a b:Array Keyed)(mg:Nat)(p q:Nat)(o:Array Keyed):StateT SortSt Sem D6:=
 forIn [0:a.size+b.size] ((none,p,q,o,0,0):D6) λ_ c=>do
  let x<-elem' b (c.2.2.1 - 1)
  let y<-elem' a (c.2.1 - 1)
  let r<-lt' x y
  match r with
  |some aw=>
   if aw=true then do
    let z<-elem' a (c.2.1 - 1)
    if (c.2.1 - 1 == 0)=true then pure (.done (some (a.extract 0 (c.2.1 - 1)++b.extract 0 c.2.2.1++(c.2.2.2.1.push z).reverse),c.2.1 - 1,c.2.2.1,c.2.2.2.1.push z,c.2.2.2.2.1+1,0))
    else if c.2.2.2.2.1+1≥mg then pure (.done (none,c.2.1 - 1,c.2.2.1,c.2.2.2.1.push z,c.2.2.2.2.1+1,0))
    else pure (.yield (none,c.2.1 - 1,c.2.2.1,c.2.2.2.1.push z,c.2.2.2.2.1+1,0))
   else do
    let z<-elem' b (c.2.2.1 - 1)
    if (c.2.2.1 - 1 == 1)=true then pure (.done (some (b.extract 0 (c.2.2.1 - 1)++a.extract 0 c.2.1++(c.2.2.2.1.push z).reverse),c.2.1,c.2.2.1 - 1,c.2.2.2.1.push z,0,c.2.2.2.2.2+1))
    else if c.2.2.2.2.2+1≥mg then pure (.done (none,c.2.1,c.2.2.1 - 1,c.2.2.2.1.push z,0,c.2.2.2.2.2+1))
    else pure (.yield (none,c.2.1,c.2.2.1 - 1,c.2.2.2.1.push z,0,c.2.2.2.2.2+1))
  |_=>pure (.done (some (a.extract 0 c.2.1++b.extract 0 c.2.2.1++c.2.2.2.1.reverse),c.2))
def qkl(a b:Array Keyed)(p q:Nat)(o:Array Keyed)(mg ac bc:Nat):StateT SortSt Sem (ForInStep D7):=do
 let z<-elem' a (p - 1)
 if (p - 1 == 0)=true then pure (.done (some (a.extract 0 (p - 1)++b.extract 0 q++(o.push z).reverse),p - 1,q,o.push z,mg,ac,bc))
 else if (decide (ac < 7)&&decide (bc < 7))=true then pure (.done (none,p - 1,q,o.push z,mg,ac,bc))
 else pure (.yield (none,p - 1,q,o.push z,mg,ac,bc))
def qhl(a b:Array Keyed)(p q:Nat)(o:Array Keyed)(mg ac bc:Nat):StateT SortSt Sem (ForInStep D7):=do
 let z<-elem' b (q - 1)
 if (q - 1 == 1)=true then pure (.done (some (b.extract 0 (q - 1)++a.extract 0 p++(o.push z).reverse),p,q - 1,o.push z,mg,ac,bc))
 else do
  let y<-elem' a (p - 1)
  let r<-gal true y b 0 (q - 1) (q - 1 - 1)
  match r with
  |some u=>
   if q - 1 - u > 0 then
    if (u == 1)=true then pure (.done (some (b.extract 0 u++a.extract 0 p++(o.push z++(b.extract u (q - 1)).reverse).reverse),p,u,o.push z++(b.extract u (q - 1)).reverse,mg,ac,q - 1 - u))
    else if (u == 0)=true then pure (.done (some (a.extract 0 p++b.extract 0 u++(o.push z++(b.extract u (q - 1)).reverse).reverse),p,u,o.push z++(b.extract u (q - 1)).reverse,mg,ac,q - 1 - u))
    else qkl a b p u (o.push z++(b.extract u (q - 1)).reverse) mg ac (q - 1 - u)
   else qkl a b p (q - 1) (o.push z) mg ac (q - 1 - u)
  |_=>pure (.done (some (a.extract 0 p++b.extract 0 (q - 1)++(o.push z).reverse),p,q - 1,o.push z,mg,ac,bc))
def qhm(a b:Array Keyed)(p q:Nat)(o:Array Keyed)(mg ac bc:Nat):StateT SortSt Sem (ForInStep D7):=do
 modify λst=>je st mg
 let y<-elem' b (q - 1)
 let r<-gal false y a 0 p (p - 1)
 match r with
 |some u=>
  if p - u > 0 then
   if (u == 0)=true then pure (.done (some (a.extract 0 u++b.extract 0 q++(o++(a.extract u p).reverse).reverse),u,q,o++(a.extract u p).reverse,mg,p - u,bc))
   else qhl a b u q (o++(a.extract u p).reverse) mg (p - u) bc
  else qhl a b p q o mg (p - u) bc
 |_=>pure (.done (some (a.extract 0 p++b.extract 0 q++o.reverse),p,q,o,mg,ac,bc))
def hi2(a b:Array Keyed)(mg p q:Nat)(o:Array Keyed)(ac bc:Nat):StateT SortSt Sem D7:=
 forIn [0:a.size+b.size] ((none,p,q,o,mg,ac,bc):D7) λ_ c=>
  if c.2.2.2.2.1 > 1 then qhm a b c.2.1 c.2.2.1 c.2.2.2.1 (c.2.2.2.2.1 - 1) c.2.2.2.2.2.1 c.2.2.2.2.2.2
  else qhm a b c.2.1 c.2.2.1 c.2.2.2.1 c.2.2.2.2.1 c.2.2.2.2.2.1 c.2.2.2.2.2.2
def qfE(a b:Array Keyed):mhi a b=(do
 rule "list.sort.merge-hi"
 let tot:=a.size+b.size
 let fin (o:Array Keyed) (p q:Nat):=a.extract 0 p++b.extract 0 q++o.reverse
 let fst (o:Array Keyed) (p q:Nat):=b.extract 0 q++a.extract 0 p++o.reverse
 let mut p:=a.size - 1
 let mut q:=b.size
 let mut o:Array Keyed:=#[<-elem' a p]
 if p == 0 then return fin o p q
 if q == 1 then return fst o p q
 let mut mg:=gallopOf (<-get)
 for _ in [0:tot] do
  let mut ac:=0
  let mut bc:=0
  for _ in [0:tot] do
   let some aw<-lt' (<-elem' b (q - 1)) (<-elem' a (p - 1))|return fin o p q
   if aw then
    p:=p - 1
    o:=o.push (<-elem' a p)
    ac:=ac+1
    bc:=0
    if p == 0 then return fin o p q
    if ac≥mg then break
   else
    q:=q - 1
    o:=o.push (<-elem' b q)
    bc:=bc+1
    ac:=0
    if q == 1 then return fst o p q
    if bc≥mg then break
  rule "list.sort.gallop"
  mg:=mg+1
  for _ in [0:tot] do
   if mg > 1 then mg:=mg - 1
   modify λst=>je st mg
   let some u<-gal false (<-elem' b (q - 1)) a 0 p (p - 1)|return fin o p q
   let k:=p - u
   ac:=k
   if k > 0 then
    o:=o++(a.extract u p).reverse
    p:=u
    if p == 0 then return fin o p q
   q:=q - 1
   o:=o.push (<-elem' b q)
   if q == 1 then return fst o p q
   let some u<-gal true (<-elem' a (p - 1)) b 0 q (q - 1)|return fin o p q
   let k:=q - u
   bc:=k
   if k > 0 then
    o:=o++(b.extract u q).reverse
    q:=u
    if q == 1 then return fst o p q
    if q == 0 then return fin o p q
   p:=p - 1
   o:=o.push (<-elem' a p)
   if p == 0 then return fin o p q
   if ac < 7&&bc < 7 then break
  mg:=mg+1
  modify λst=>je st mg
 unsupported "internal:list.sort.merge-bound"):=rfl
def qh1(a b:Array Keyed):mhi a b=(do
 rule "list.sort.merge-hi"
 let x<-elem' a (a.size - 1)
 if (a.size - 1 == 0)=true then pure (a.extract 0 (a.size - 1)++b.extract 0 b.size ++ #[x].reverse)
 else if (b.size == 1)=true then pure (b.extract 0 b.size++a.extract 0 (a.size - 1) ++ #[x].reverse)
 else do
  let st<-get
  let c<-forIn [0:a.size+b.size] ((none,a.size - 1,b.size,#[x],gallopOf st):D5) λ_ c=>do
   let d<-hi1 a b c.2.2.2.2 c.2.1 c.2.2.1 c.2.2.2.1
   match d.1 with
   |some r=>pure (.done (some r,d.2.1,d.2.2.1,d.2.2.2.1,c.2.2.2.2))
   |none=>do
    rule "list.sort.gallop"
    let f<-hi2 a b (c.2.2.2.2+1) d.2.1 d.2.2.1 d.2.2.2.1 d.2.2.2.2.1 d.2.2.2.2.2
    match f.1 with
    |some r=>pure (.done (some r,f.2.1,f.2.2.1,f.2.2.2.1,f.2.2.2.2.1))
    |none=>do
     modify λst=>je st (f.2.2.2.2.1+1)
     pure (.yield (none,f.2.1,f.2.2.1,f.2.2.2.1,f.2.2.2.2.1+1))
  match c.1 with
  |some r=>pure r
  |none=>unsupported "internal:list.sort.merge-bound"):=by
 rw[qfE];refine congrArg (λz=>_ >>= z) (funext λ_=>?_);show(elem' a (a.size - 1) >>= _:StateT SortSt Sem (Array Keyed))=_;refine congrArg (λz=>_ >>= z) (funext λx=>?_);show(ite _ _ (ite _ _ (get >>= _)):StateT SortSt Sem (Array Keyed))=ite _ _ (ite _ _ (get >>= _));refine congrArg (ite _ _) (congrArg (ite _ _) (congrArg (λz=>get >>= z) (funext λst=>?_)));show(forIn _ _ _ >>= _:StateT SortSt Sem (Array Keyed))=forIn _ _ _ >>= _
 refine congr (congrArg Bind.bind ?_) (funext λc=>by
  let(c1,c2):=c
  cases c1 with
  |some r=>rfl
  |none=>rfl)
 refine congrArg (forIn _ _) (funext λ_=>funext λc=>?_);show(forIn _ _ _ >>= _:StateT SortSt Sem (ForInStep D5))=hi1 _ _ _ _ _ _ >>= _;refine congr (congrArg Bind.bind ?_) (funext λd=>?_)
 ·delta hi1
  refine congrArg (forIn _ _) (funext λ_=>funext λc=>?_);refine congrArg (λz=>_ >>= z) (funext λ_=>?_);refine congrArg (λz=>_ >>= z) (funext λ_=>?_);refine congrArg (λz=>_ >>= z) (funext λr=>?_)
  cases r with
  |none=>exact rfl
  |some r=>exact rfl
 ·let(d1,d2,d3,d4,d5,d6):=d
  cases d1 with
  |some r=>rfl
  |none=>
   refine congrArg (λz=>_ >>= z) (funext λ_=>?_);show(forIn _ _ _ >>= _:StateT SortSt Sem (ForInStep D5))=hi2 _ _ _ _ _ _ _ _ >>= _;refine congr (congrArg Bind.bind ?_) (funext λf=>?_)
   ·delta hi2
    refine congrArg (forIn _ _) (funext λ_=>funext λc=>?_);show(ite _ _ _:StateT SortSt Sem (ForInStep D7))=ite _ _ _;refine congr (congrArg (ite _) ?_) ?_
    all_goals
     delta qhm
     refine congrArg (λz=>_ >>= z) (funext λ_=>?_);refine congrArg (λz=>_ >>= z) (funext λy=>?_);refine congrArg (λz=>_ >>= z) (funext λr=>?_)
     cases r with
     |none=>exact rfl
     |some k=>
      show(ite _ _ _:StateT SortSt Sem (ForInStep D7))=ite _ _ _;refine congr (congrArg (ite _) ?_) ?_
      ·show(ite _ _ _:StateT SortSt Sem (ForInStep D7))=ite _ _ _;refine congrArg (ite _ _) ?_
       delta qhl
       refine congrArg (λz=>_ >>= z) (funext λz=>?_);show(ite _ _ _:StateT SortSt Sem (ForInStep D7))=ite _ _ _;refine congrArg (ite _ _) ?_;refine congrArg (λz=>_ >>= z) (funext λy=>?_);refine congrArg (λz=>_ >>= z) (funext λr=>?_)
       cases r with
       |none=>exact rfl
       |some k=>exact rfl
      ·delta qhl
       refine congrArg (λz=>_ >>= z) (funext λz=>?_);show(ite _ _ _:StateT SortSt Sem (ForInStep D7))=ite _ _ _;refine congrArg (ite _ _) ?_;refine congrArg (λz=>_ >>= z) (funext λy=>?_);refine congrArg (λz=>_ >>= z) (funext λr=>?_)
       cases r with
       |none=>exact rfl
       |some k=>exact rfl
   ·let(f1,f2):=f
    cases f1 with
    |some r=>rfl
    |none=>rfl
section
variable{O:KeyOrd}{kf:Keyed->O.α}{G:Keyed->Prop}{a b o:Array Keyed}{p q:Nat}
def zS{a:Array Keyed}{p:Nat}{y:Keyed}:y∈a.toList.take p↔∃t:Nat,t < p/\a[t]?=some y:=by
 rw[List.mem_take_iff_getElem];constructor
 ·rintro⟨t,ht,rfl⟩;have h2:t < a.size:=by have:=a.length_toList;lia
  exact{t,by lia,by rw[Array.getElem?_eq_getElem h2];simp}
 ·rintro⟨t,ht,e⟩;let(h2,rfl):=Array.getElem?_eq_some_iff.mp e;exact{t,by simp;lia,by simp}
def zT(a:Array Keyed)(p:Nat):(a.extract 0 p).toList=a.toList.take p:=by rw[Array.toList_extract,List.extract_eq_take_drop];simp
def ZK(a:Array Keyed){u p:Nat}(h:u<=p):a.toList.take u++(a.extract u p).toList=a.toList.take p:=by
 rw[Array.toList_extract,List.extract_eq_take_drop];have e:p=u+(p - u):=by lia
 conv=>rhs;rw[e,List.take_add]
def zu{a:Array Keyed}{u p:Nat}{x:Keyed}(h:x∈(a.extract u p).toList):∃t,u<=t/\t < p/\a[t]?=some x:=by
 by_cases hup:u<=p
 ·have e:p=u+(p - u):=by lia
  rw[e]at h;let(t,ht,ex):=QZ h;exact{u+t,by lia,by lia,ex}
 ·rw[Array.toList_extract,List.extract_eq_take_drop,show p - u=0 by lia]at h;simp at h
structure HI(O:KeyOrd)(kf:Keyed->O.α)(a b o:Array Keyed)(p q:Nat):Prop where
 perm:(a.toList.take p++(b.toList.take q++o.toList.reverse)).Perm (a.toList++b.toList)
 srt:o.toList.Pairwise (λx y=>le O kf y x)
 hi:∀x∈o.toList,∀y∈a.toList.take p++b.toList.take q,le O kf y x
def HI.blockA(h:HI O kf a b o p q)(sa:Srt O kf a 0 a.size)(hp:p<=a.size){u:Nat}(hu:u<=p)(hc:∀t x,u<=t->t < p->a[t]?=some x->∀y∈b.toList.take q,le O kf y x):HI O kf a b (o++(a.extract u p).reverse) u q:=by
 have e:=ZK a hu;refine{?_,?_,λx hx y hy=>?_}
 ·have e2:(o++(a.extract u p).reverse).toList.reverse=(a.extract u p).toList++o.toList.reverse:=by simp
  rw[e2];refine List.Perm.trans ?_ h.perm;rw[<-e,List.append_assoc];exact List.Perm.append_left _ (List.perm_append_comm_assoc _ _ _)
 ·rw[Array.toList_append,Array.toList_reverse];refine List.pairwise_append.mpr ⟨h.srt,?_,λx hx y hy=>h.hi x hx y (List.mem_append_left _ (by rw[<-e];exact List.mem_append_right _ (List.mem_reverse.mp hy)))⟩;rw[List.pairwise_reverse];exact(sa.pw.sublist (List.take_sublist p _)).sublist (by rw[<-e];exact List.sublist_append_right _ _)
 ·rw[Array.toList_append,Array.toList_reverse]at hx;rcases List.mem_append.mp hx with hx|hx
  ·refine h.hi x hx y ?_;rcases List.mem_append.mp hy with hy|hy
   ·exact List.mem_append_left _ (by rw[<-e];exact List.mem_append_left _ hy)
   ·exact List.mem_append_right _ hy
  ·let(t,t1,t2,et):=zu (List.mem_reverse.mp hx);rcases List.mem_append.mp hy with hy|hy
   ·let(w,w1,ew):=zS.mp hy;exact sa w t y x (Nat.zero_le _) (1:) (1:) ew et
   ·exact hc t x t1 t2 et y hy
def HI.blockB(h:HI O kf a b o p q)(sb:Srt O kf b 0 b.size)(hq:q<=b.size){u:Nat}(hu:u<=q)(hc:∀t x,u<=t->t < q->b[t]?=some x->∀y∈a.toList.take p,le O kf y x):HI O kf a b (o++(b.extract u q).reverse) p u:=by
 have e:=ZK b hu;refine{?_,?_,λx hx y hy=>?_}
 ·have e2:(o++(b.extract u q).reverse).toList.reverse=(b.extract u q).toList++o.toList.reverse:=by simp
  rw[e2]
  have:=h.perm
  rw[<-e,List.append_assoc]at this;exact this
 ·rw[Array.toList_append,Array.toList_reverse];refine List.pairwise_append.mpr ⟨h.srt,?_,λx hx y hy=>h.hi x hx y (List.mem_append_right _ (by rw[<-e];exact List.mem_append_right _ (List.mem_reverse.mp hy)))⟩;rw[List.pairwise_reverse];exact(sb.pw.sublist (List.take_sublist q _)).sublist (by rw[<-e];exact List.sublist_append_right _ _)
 ·rw[Array.toList_append,Array.toList_reverse]at hx;rcases List.mem_append.mp hx with hx|hx
  ·refine h.hi x hx y ?_;rcases List.mem_append.mp hy with hy|hy
   ·exact List.mem_append_left _ hy
   ·exact List.mem_append_right _ (by rw[<-e];exact List.mem_append_left _ hy)
  ·let(t,t1,t2,et):=zu (List.mem_reverse.mp hx);rcases List.mem_append.mp hy with hy|hy
   ·exact hc t x t1 t2 et y hy
   ·let(w,w1,ew):=zS.mp hy;exact sb w t y x (Nat.zero_le _) (1:) (1:) ew et
def qbv{a:Array Keyed}{p:Nat}{x:Keyed}(h:0 < p)(e:a[p - 1]?=some x):(a.extract (p - 1) p).reverse=#[x]:=by
 have:=Q0 e
 rw[show p - 1+1=p by lia]at this;rw[this];rfl
def HI.pushA(h:HI O kf a b o p q)(sa:Srt O kf a 0 a.size)(hp:p<=a.size)(h0:0 < p){x:Keyed}(e:a[p - 1]?=some x)(hc:∀y∈b.toList.take q,le O kf y x):HI O kf a b (o.push x) (p - 1) q:=by
 have:=h.blockA sa hp (u:=p - 1) (1:) (λt y h1 h2 ey z hz=>by
  have:t=p - 1:=by lia
  subst this;rw[e]at ey;cases ey;exact hc z hz)
 rw[qbv h0 e]at this;exact this
def HI.pushB(h:HI O kf a b o p q)(sb:Srt O kf b 0 b.size)(hq:q<=b.size)(h0:0 < q){x:Keyed}(e:b[q - 1]?=some x)(hc:∀y∈a.toList.take p,le O kf y x):HI O kf a b (o.push x) p (q - 1):=by
 have:=h.blockB sb hq (u:=q - 1) (1:) (λt y h1 h2 ey z hz=>by
  have:t=q - 1:=by lia
  subst this;rw[e]at ey;cases ey;exact hc z hz)
 rw[qbv h0 e]at this;exact this
def HI.fin(h:HI O kf a b o p q)(sa:Srt O kf a 0 a.size)(sb:Srt O kf b 0 b.size)(z:p=0\/q=0):Mrg O kf a b (a.extract 0 p++b.extract 0 q++o.reverse):=by
 have e:(a.extract 0 p++b.extract 0 q++o.reverse).toList=a.toList.take p++(b.toList.take q++o.toList.reverse):=by rw[Array.toList_append,Array.toList_append,zT,zT,Array.toList_reverse,List.append_assoc]
 refine{by rw[e];exact h.perm,?_};rw[e,<-List.append_assoc];refine List.pairwise_append.mpr ⟨?_,by rw[List.pairwise_reverse];exact h.srt,λx hx y hy=>h.hi y (List.mem_reverse.mp hy) x hx⟩;rcases z with z|z
 ·subst z
  simpa using sb.pw.sublist (List.take_sublist q _)
 ·subst z
  simpa using sa.pw.sublist (List.take_sublist p _)
def HI.fst(h:HI O kf a b o p q)(sa:Srt O kf a 0 a.size)(sb:Srt O kf b 0 b.size)(z:∀y∈b.toList.take q,∀x∈a.toList.take p,le O kf y x):Mrg O kf a b (b.extract 0 q++a.extract 0 p++o.reverse):=by
 have e:(b.extract 0 q++a.extract 0 p++o.reverse).toList=b.toList.take q++(a.toList.take p++o.toList.reverse):=by rw[Array.toList_append,Array.toList_append,zT,zT,Array.toList_reverse,List.append_assoc]
 refine{by rw[e];exact List.Perm.trans (List.perm_append_comm_assoc _ _ _) h.perm,?_};rw[e,<-List.append_assoc];refine List.pairwise_append.mpr ⟨List.pairwise_append.mpr ⟨sb.pw.sublist (List.take_sublist q _),sa.pw.sublist (List.take_sublist p _),z⟩,by rw[List.pairwise_reverse];exact h.srt,λx hx y hy=>h.hi y (List.mem_reverse.mp hy) x ?_⟩;rcases List.mem_append.mp hx with hx|hx
 ·exact List.mem_append_right _ hx
 ·exact List.mem_append_left _ hx
def Two.firstOne(T:Two O kf G a b){p q:Nat}(h:q=1):∀y∈b.toList.take q,∀x∈a.toList.take p,le O kf y x:=λy hy x hx=>by
 let(t,ht,e):=zS.mp hy
 have:t=0:=by lia
 subst this;exact T.first x y e (List.mem_of_mem_take hx)
def Two.geA(T:Two O kf G a b){p:Nat}{x:Keyed}(e:a[p - 1]?=some x):∀y∈a.toList.take p,le O kf y x:=λy hy=>by let(t,ht,e'):=zS.mp hy;exact T.sa t (p - 1) y x (Nat.zero_le _) (1:) (Array.getElem?_eq_some_iff.mp e).1 e' e
def Two.geB(T:Two O kf G a b){q:Nat}{x:Keyed}(e:b[q - 1]?=some x):∀y∈b.toList.take q,le O kf y x:=λy hy=>by let(t,ht,e'):=zS.mp hy;exact T.sb t (q - 1) y x (Nat.zero_le _) (1:) (Array.getElem?_eq_some_iff.mp e).1 e' e
end
section
variable{M:Model}{A:Around}{E:PQ}{s:Shared}{O:KeyOrd}{kf:Keyed->O.α}{U:SortKind}{G:Keyed->Prop}{a b:Array Keyed}
def qkS(O:KeyOrd)(kf:Keyed->O.α)(a b:Array Keyed)(n:Nat)(c:Option (Array Keyed))(p q:Nat)(o:Array Keyed):Prop:=
 (∃r,c=some r/\Mrg O kf a b r)\/(c=none/\HI O kf a b o p q/\0 < p/\p<=a.size/\1 < q/\q<=b.size/\p+q<=n)
def qh2(L:yC M A E s O kf U G)(T:Two O kf G a b){mg p q n:Nat}{o:Array Keyed}{st:SortSt}{Q:D6->SortSt->Prop}(hk:kindOf st=U)(hI:HI O kf a b o p q)(hp:0 < p)(hpa:p<=a.size)(hq:1 < q)(hqb:q<=b.size)(hn:p+q<=n+1)
  (h:∀c:D6,qkS O kf a b n c.1 c.2.1 c.2.2.1 c.2.2.2.1->Q c st):wpS M A E s (hi1 a b mg p q o) Q st:=by
 unfold hi1;refine wpS_forRange (I:=λx c st'=>st'=st/\∃p' q' o' ac bc,c=(none,p',q',o',ac,bc)/\HI O kf a b o' p' q'/\0 < p'/\p'<=a.size/\1 < q'/\q'<=b.size/\p'+q'+x<=n+1) ?step ?fin ⟨rfl,p,q,o,0,0,rfl,hI,hp,hpa,hq,hqb,by lia⟩
 case fin=>rintro c st' ⟨rfl,p',q',o',ac,bc,rfl,h1,h2,h3,h4,h5,h6⟩;exact h _ (.inr ⟨rfl,h1,h2,h3,h4,h5,by dsimp only;lia⟩)
 case step=>
  rintro x c st' _ hx ⟨rfl,p',q',o',ac,bc,rfl,h1,h2,h3,h4,h5,h6⟩;dsimp only;let(y,ey,my):=qO (show q' - 1 < b.size by lia);let(z,ez,mz):=qO (show p' - 1 < a.size by lia);refine wpS_bind (qw ey (wpS_bind (qw ez (wpS_bind (L y z (T.gb y my) (T.ga z mz) _ _ hk ?_)))))
  cases hb:O.blt (kf y) (kf z) with
  |true=>
   simp![if_true];refine wpS_bind (qw ez ?_);have h7:=h1.pushA T.sa h3 h2 ez (λw hw=>qA (T.geB ey w hw) (le_of_lt hb))
   by_cases hfin:p' - 1=0
   ·rw[if_pos (-hfin:)];exact wpS_pure (h _ (.inl ⟨_,rfl,h7.fin T.sa T.sb (.inl hfin)⟩))
   ·rw[if_neg (-hfin:)]
    by_cases hg:ac+1≥mg
    ·rw[if_pos hg];exact wpS_pure (h _ (.inr ⟨rfl,h7,by dsimp only;lia,by dsimp only;lia,h4,h5,by dsimp only;lia⟩))
    ·rw[if_neg hg];exact wpS_pure ⟨rfl,_,_,_,_,_,rfl,h7,by lia,by lia,h4,h5,by lia⟩
  |false=>
   simp![Bool.false_eq_true,if_false];refine wpS_bind (qw ey ?_);have h7:=h1.pushB T.sb h5 (1:) ey (λw hw=>qA (T.geA ez w hw) (qZ hb))
   by_cases hfin:q' - 1=1
   ·rw[if_pos (-hfin:)];exact wpS_pure (h _ (.inl ⟨_,rfl,h7.fst T.sa T.sb (T.firstOne hfin)⟩))
   ·rw[if_neg (-hfin:)]
    by_cases hg:bc+1≥mg
    ·rw[if_pos hg];exact wpS_pure (h _ (.inr ⟨rfl,h7,h2,h3,by dsimp only;lia,by dsimp only;lia,by dsimp only;lia⟩))
    ·rw[if_neg hg];exact wpS_pure ⟨rfl,_,_,_,_,_,rfl,h7,h2,h3,by lia,by lia,by lia⟩
def qfF(O:KeyOrd)(kf:Keyed->O.α)(a b:Array Keyed)(n:Nat)(r:ForInStep D7):Prop:=match r with
 |.done c=>qkS O kf a b n c.1 c.2.1 c.2.2.1 c.2.2.2.1
 |.yield c=>c.1=none/\HI O kf a b c.2.2.2.1 c.2.1 c.2.2.1/\0 < c.2.1/\c.2.1<=a.size/\1 < c.2.2.1/\c.2.2.1<=b.size/\c.2.1+c.2.2.1<=n
def qbw(T:Two O kf G a b){mg p q ac bc n:Nat}{o:Array Keyed}{z:Keyed}{st:SortSt}{Q:ForInStep D7->SortSt->Prop}(hI:HI O kf a b o p q)(hp:0 < p)(hpa:p<=a.size)(hq:1 < q)(hqb:q<=b.size)(hn:p+q<=n)(ez:a[p - 1]?=some z)
  (hz:∀y∈b.toList.take q,le O kf y z) (h:∀r,qfF O kf a b n r->Q r st):wpS M A E s (qkl a b p q o mg ac bc) Q st:=by
 unfold qkl;refine wpS_bind (qw ez ?_);have h7:=hI.pushA T.sa hpa hp ez hz
 by_cases hfin:p - 1=0
 ·rw[if_pos (-hfin:)];exact wpS_pure (h _ (.inl ⟨_,rfl,h7.fin T.sa T.sb (.inl hfin)⟩))
 ·rw[if_neg (-hfin:)]
  by_cases hg:(decide (ac < 7)&&decide (bc < 7))=true
  ·rw[if_pos hg];exact wpS_pure (h _ (.inr ⟨rfl,h7,by dsimp only;lia,by dsimp only;lia,hq,hqb,by dsimp only;lia⟩))
  ·rw[if_neg hg];exact wpS_pure (h _ ⟨rfl,h7,by dsimp only;lia,by dsimp only;lia,hq,hqb,by dsimp only;lia⟩)
def qbx(L:yC M A E s O kf U G)(T:Two O kf G a b){mg p q ac bc n:Nat}{o:Array Keyed}{y:Keyed}{st:SortSt}{Q:ForInStep D7->SortSt->Prop}(hk:kindOf st=U)(hI:HI O kf a b o p q)(hp:0 < p)(hpa:p<=a.size)(hq:1 < q)(hqb:q<=b.size)(hn:p+q<=n)
  (ey:b[q - 1]?=some y) (hy:∀x∈a.toList.take p,le O kf x y) (h:∀r,qfF O kf a b n r->Q r st):wpS M A E s (qhl a b p q o mg ac bc) Q st:=by
 unfold qhl;refine wpS_bind (qw ey ?_);have h7:=hI.pushB T.sb hqb (1:) ey hy
 by_cases hfin:q - 1=1
 ·rw[if_pos (-hfin:)];exact wpS_pure (h _ (.inl ⟨_,rfl,h7.fst T.sa T.sb (T.firstOne hfin)⟩))
 ·rw[if_neg (-hfin:)];let(z,ez,mz):=qO (show p - 1 < a.size by lia);refine wpS_bind (qw ez (wpS_bind (yh L hk (T.ga z mz) T.gb (λi' j' x y h1 h2 h3=>T.sb i' j' x y (Nat.zero_le _) h2 (1:)) (1:) (1:) λu hu1 hb1 hb2=>?_)));dsimp only
  have rest:∀w∈b.toList.take u,le O kf w z:=λw hw=>by
   let(t,ht,e):=zS.mp hw
   have:=hb1 t w ht (by rw[Nat.zero_add];exact e)
   unfold pby at this;simp![if_true]at this;exact le_of_lt this
  by_cases hk0:q - 1 - u > 0
  ·rw[if_pos hk0]
   have h8:=h7.blockB T.sb (1:) (u:=u) (1:) (λt x t1 t2 ex w hw=>by
    have:=hb2 t x t1 (1:) (by rw[Nat.zero_add];exact ex)
    unfold pby at this;simp![if_true]at this;exact qA (T.geA ez w hw) (qZ this))
   by_cases hf1:u=1
   ·rw[if_pos (-hf1:)];exact wpS_pure (h _ (.inl ⟨_,rfl,h8.fst T.sa T.sb (T.firstOne hf1)⟩))
   ·rw[if_neg (-hf1:)]
    by_cases hf2:u=0
    ·rw[if_pos (-hf2:)];exact wpS_pure (h _ (.inl ⟨_,rfl,h8.fin T.sa T.sb (.inr hf2)⟩))
    ·rw[if_neg (-hf2:)];exact qbw T h8 hp hpa (1:) (1:) (1:) ez rest h
  ·rw[if_neg hk0]
   have:u=q - 1:=by lia
   subst this;exact qbw T h7 hp hpa (1:) (1:) (1:) ez rest h
def qfG(L:yC M A E s O kf U G)(T:Two O kf G a b){mg p q ac bc n:Nat}{o:Array Keyed}{st:SortSt}{Q:ForInStep D7->SortSt->Prop}(hk:kindOf st=U)(hI:HI O kf a b o p q)(hp:0 < p)(hpa:p<=a.size)(hq:1 < q)(hqb:q<=b.size)(hn:p+q<=n)
  (h:∀r,qfF O kf a b n r->Q r (je st mg)):wpS M A E s (qhm a b p q o mg ac bc) Q st:=by
 unfold qhm;refine wpS_bind (wpS_modify ?_);let(y,ey,my):=qO (show q - 1 < b.size by lia);have hk':kindOf (je st mg)=U:=hk;refine wpS_bind (qw ey (wpS_bind (yh L hk' (T.gb y my) T.ga (λi' j' x y h1 h2 h3=>T.sa i' j' x y (Nat.zero_le _) h2 (1:)) (1:) (1:) λu hu1 ha1 ha2=>?_)));dsimp only
 have rest:∀w∈a.toList.take u,le O kf w y:=λw hw=>by
  let(t,ht,e):=zS.mp hw
  have:=ha1 t w ht (by rw[Nat.zero_add];exact e)
  unfold pby at this;simp![Bool.false_eq_true,if_false,Bool.not_eq_true']at this;exact qZ this
 by_cases hk0:p - u > 0
 ·rw[if_pos hk0]
  have h8:=hI.blockA T.sa hpa (u:=u) (1:) (λt x t1 t2 ex w hw=>by
   have:=ha2 t x t1 (1:) (by rw[Nat.zero_add];exact ex)
   unfold pby at this;simp![Bool.false_eq_true,if_false,Bool.not_eq_false']at this;exact qA (T.geB ey w hw) (le_of_lt this))
  by_cases hf1:u=0
  ·rw[if_pos (-hf1:)];exact wpS_pure (h _ (.inl ⟨_,rfl,h8.fin T.sa T.sb (.inl hf1)⟩))
  ·rw[if_neg (-hf1:)];exact qbx L T hk' h8 (1:) (1:) hq hqb (1:) ey rest h
 ·rw[if_neg hk0]
  have:u=p:=by lia
  subst this;exact qbx L T hk' hI hp hpa hq hqb hn ey rest h
def qh3(L:yC M A E s O kf U G)(T:Two O kf G a b){mg p q ac bc n:Nat}{o:Array Keyed}{st:SortSt}{Q:D7->SortSt->Prop}(hk:kindOf st=U)(hI:HI O kf a b o p q)(hp:0 < p)(hpa:p<=a.size)(hq:1 < q)(hqb:q<=b.size)(hn:p+q<=n)
  (h:∀(c:D7) g,qkS O kf a b n c.1 c.2.1 c.2.2.1 c.2.2.2.1->Q c (je st g)):wpS M A E s (hi2 a b mg p q o ac bc) Q st:=by
 unfold hi2;refine wpS_forRange (I:=λx c st'=>(∃g,st'=je st g)/\∃p' q' o' mg ac bc,c=(none,p',q',o',mg,ac,bc)/\HI O kf a b o' p' q'/\0 < p'/\p'<=a.size/\1 < q'/\q'<=b.size/\p'+q'<=n) ?step ?fin ⟨⟨gallopOf st,rfl⟩,p,q,o,mg,ac,bc,rfl,hI,hp,hpa,hq,hqb,hn⟩
 case fin=>rintro c st' ⟨⟨g,rfl⟩,p',q',o',mg,ac,bc,rfl,h1,h2,h3,h4,h5,h6⟩;exact h _ g (.inr ⟨rfl,h1,h2,h3,h4,h5,h6⟩)
 case step=>
  rintro x c st' _ hx ⟨⟨g,rfl⟩,p',q',o',mg',ac,bc,rfl,h1,h2,h3,h4,h5,h6⟩
  have go:∀m,wpS M A E s (qhm a b p' q' o' m ac bc) (λr st'=>match r with
    | .done c'=>Q c' st'
    | .yield c'=>(∃g,st'=je st g)/\∃p' q' o' mg ac bc,c'=(none,p',q',o',mg,ac,bc)/\HI O kf a b o' p' q'/\0 < p'/\p'<=a.size/\1 < q'/\q'<=b.size/\p'+q'<=n) (je st g):=λm=>by
   refine qfG L T (n:=n) hk h1 h2 h3 h4 h5 h6 λr hr=>?_
   cases r with
   | done c'=>exact h _ m hr
   | yield c'=>let(c1,c2,c3,c4,c5,c6,c7):=c';let(e,r1,r2,r3,r4,r5,r6):=hr;have e:c1=none:=e;subst e;exact{⟨m,rfl⟩,_,_,_,_,_,_,rfl,r1,r2,r3,r4,r5,r6}
  dsimp only
  by_cases hg:mg' > 1
  ·rw[if_pos hg];exact wpS_mono (go _) (λr st' hh=>by cases r<;>exact hh)
  ·rw[if_neg hg];exact wpS_mono (go _) (λr st' hh=>by cases r<;>exact hh)
def qh4(L:yC M A E s O kf U G)(T:Two O kf G a b){st:SortSt}{Q:Array Keyed->SortSt->Prop}(hk:kindOf st=U)(h:∀r g,Mrg O kf a b r->Q r (je st g)):wpS M A E s (mhi a b) Q st:=by
 rw[qh1];refine wpS_bind (wpS_lift (wpAny_rule ⟨rfl,?_⟩));have hpa:=T.pa;have hpb:=T.pb;let(y,ey,my):=qO (show a.size - 1 < a.size by lia);refine wpS_bind (qw ey ?_);have h0:HI O kf a b #[] a.size b.size:={by rw[<-Array.length_toList,<-Array.length_toList,List.take_length,List.take_length];simp,by simp,by simp};have h1:HI O kf a b #[y] (a.size - 1) b.size:=h0.pushA T.sa (Nat.le_refl _) hpa ey (λx hx=>T.last y x ey (List.mem_of_mem_take hx));have hst:st=je st (gallopOf st):=rfl
 by_cases hf1:a.size - 1=0
 ·rw[if_pos (-hf1:)];exact wpS_pure (by rw[hst];exact h _ _ (h1.fin T.sa T.sb (.inl hf1)))
 ·rw[if_neg (-hf1:)]
  by_cases hf2:b.size=1
  ·rw[if_pos (-hf2:)];exact wpS_pure (by rw[hst];exact h _ _ (h1.fst T.sa T.sb (T.firstOne hf2)))
  ·rw[if_neg (-hf2:)];refine wpS_bind (wpS_get ?_)
   refine wpS_bind (wpS_mono (wpS_forRange (I:=λx c st'=>(∃g,st'=je st g)/\∃p' q' o' mg,c=(none,p',q',o',mg)/\HI O kf a b o' p' q'/\0 < p'/\p'<=a.size/\1 < q'/\q'<=b.size/\p'+q'+x+1<=a.size+b.size)
    (Q:=λc st'=>(∃g,st'=je st g)/\∃r,c.1=some r/\Mrg O kf a b r) ?step ?fin ⟨⟨_,hst⟩,_,_,_,_,rfl,h1,by lia,by lia,by lia,by lia,by lia⟩) ?post)
   case fin=>
    rintro c st' ⟨_,o',i',j',mg,rfl,r1,r2,r3,r4,r5,r6⟩;exfalso
    lia
   case post=>rintro c st' ⟨⟨g,rfl⟩,r,e,hr⟩;let(c1,c2):=c;have e:c1=some r:=e;subst e;exact wpS_pure (h _ _ hr)
   case step=>
    rintro x c st' _ hx ⟨⟨g,rfl⟩,p',q',o',mg,rfl,r1,r2,r3,r4,r5,r6⟩;dsimp only;refine wpS_bind (qh2 L T (st:=je st g) (n:=p'+q' - 1) hk r1 r2 r3 r4 r5 (1:) λc hc=>?_);let(c1,c2,c3,c4,c5,c6):=c;rcases hc with ⟨r,e,hr⟩|⟨e,q1,q2,q3,q4,q5,q6⟩
    ·have e:c1=some r:=e;subst e;exact wpS_pure ⟨⟨g,rfl⟩,r,rfl,hr⟩
    ·have e:c1=none:=e;subst e;dsimp only at q1 q2 q3 q4 q5 q6 ⊢;refine wpS_bind (wpS_lift (wpAny_rule ⟨rfl,?_⟩));refine wpS_bind (qh3 L T (st:=je st g) (n:=p'+q' - 1) hk q1 q2 q3 q4 q5 q6 λd g' hd=>?_);let(d1,d2,d3,d4,d5,d6,d7):=d;rcases hd with ⟨r,e,hr⟩|⟨e,p1,p2,p3,p4,p5,p6⟩
     ·have e:d1=some r:=e;subst e;exact wpS_pure ⟨⟨g',rfl⟩,r,rfl,hr⟩
     ·have e:d1=none:=e;subst e;dsimp only at p1 p2 p3 p4 p5 p6 ⊢;exact wpS_bind (wpS_modify (wpS_pure ⟨⟨_,rfl⟩,_,_,_,_,rfl,p1,p2,p3,p4,p5,by lia⟩))
end
section
variable{O:KeyOrd}{kf:Keyed->O.α}
def KA(O:KeyOrd)(kf:Keyed->O.α)(xs:Array Keyed)(i:Nat):O.α:=kf (xs[i]?.getD (Value.none,Value.none))
def Inc(O:KeyOrd)(kf:Keyed->O.α)(xs:Array Keyed)(lo hi:Nat):Prop:=∀i j,lo<=i->i<=j->j < hi->O.kle (KA O kf xs i) (KA O kf xs j)
def Dec(O:KeyOrd)(kf:Keyed->O.α)(xs:Array Keyed)(lo hi:Nat):Prop:=∀i j,lo<=i->i<=j->j < hi->O.kle (KA O kf xs j) (KA O kf xs i)
def j0{xs ys:Array Keyed}{i j:Nat}(h:xs[i]?=ys[j]?):KA O kf xs i=KA O kf ys j:=by unfold KA;rw[h]
def qdd{xs:Array Keyed}{i:Nat}{x:Keyed}(h:xs[i]?=some x):KA O kf xs i=kf x:=by unfold KA;rw[h];rfl
def Inc.srt{xs:Array Keyed}{lo hi:Nat}(h:Inc O kf xs lo hi):Srt O kf xs lo hi:=λi j x y h1 h2 h3 e1 e2=>by
 have:=h i j h1 h2 h3
 rw[qdd e1,qdd e2]at this;exact this
def Je{xs:Array Keyed}{i j:Nat}(hj:j<=xs.size)(k:Nat):KA O kf (mirror xs i j ((j - i) / 2)) k=if i<=k/\k < j then KA O kf xs (i+j - 1 - k) else KA O kf xs k:=by
 have e:=getElem?_mirror_all (i:=i) hj k
 by_cases h:i<=k/\k < j
 ·rw[if_pos h]at e ⊢;exact j0 e
 ·rw[if_neg h]at e ⊢;exact j0 e
def zb{xs:Array Keyed}{i j:Nat}(hj:j<=xs.size)(heq:∀k,i<=k->k < j->KA O kf xs k=KA O kf xs (j - 1))(k:Nat):KA O kf (mirror xs i j ((j - i) / 2)) k=KA O kf xs k:=by
 rw[Je hj];split
 ·rw[heq _ (1:) (1:),heq k (1:) (1:)]
 ·rfl
def Qa{xs:Array Keyed}{src d:Nat}(hs:src < xs.size)(hd:d<=src)(k:Nat) :
  KA O kf (bubble xs src d) k=if k=src - d then KA O kf xs src else if src - d < k/\k<=src then KA O kf xs (k - 1) else KA O kf xs k:=by
 have e:=getElem?_bubble hs d hd k
 by_cases h1:k=src - d
 ·rw[if_pos h1]at e ⊢;exact j0 e
 ·rw[if_neg h1]at e ⊢
  by_cases h2:src - d < k/\k<=src
  ·rw[if_pos h2]at e ⊢;exact j0 e
  ·rw[if_neg h2]at e ⊢;exact j0 e
structure Re(lo:Nat)(xs ys:Array Keyed):Prop where
 perm:ys.Perm xs
 keep:∀k,k < lo->ys[k]?=xs[k]?
def Re.refl(lo:Nat)(xs:Array Keyed):Re lo xs xs:={Array.Perm.refl _,λ_ _=>rfl}
def Re.trans{lo:Nat}{xs ys zs:Array Keyed}(a:Re lo xs ys)(b:Re lo ys zs):Re lo xs zs:={b.perm.trans a.perm,λk h=>(b.keep k h).trans (a.keep k h)}
def Re.size{lo:Nat}{xs ys:Array Keyed}(a:Re lo xs ys):ys.size=xs.size:=a.perm.size_eq
def Re.mirror{lo i j:Nat}{xs:Array Keyed}(hi:lo<=i)(hj:j<=xs.size):Re lo xs (mirror xs i j ((j - i) / 2)):={mirror_perm _ _ _ _,λk h=>by rw[getElem?_mirror_all hj k,if_neg (1:)]}
def Re.bubble{lo src d:Nat}{xs:Array Keyed}(hs:src < xs.size)(hd:lo+d<=src):Re lo xs (bubble xs src d):={bubble_perm _ _ _,λk h=>by rw[getElem?_bubble hs d (1:),if_neg (1:),if_neg (1:)]}
def Re.mem{lo:Nat}{xs ys:Array Keyed}(a:Re lo xs ys){G:Keyed->Prop}(h:∀x∈xs.toList,G x):∀x∈ys.toList,G x:=λx hx=>h x ((Array.perm_iff_toList_perm.mp a.perm).mem_iff.mp hx)
end
abbrev ASt:=Option (Option Nat)×Nat
abbrev BSt:=Option (Option Nat)×Nat×Nat
def asc(lo a nrem:Nat):StateT SortSt Sem ASt:=
 forIn [a:nrem] ((none,a):ASt) λ_ c=>do
  let r<-ltAt' (lo+c.2) (lo+c.2 - 1)
  match r with
  |some sm=>if sm=true then pure (.done (none,c.2)) else pure (.yield (none,c.2+1))
  |_=>pure (.done (some none,c.2))
def dsc(lo a nrem:Nat):StateT SortSt Sem BSt:=
 forIn [a:nrem] ((none,a,0):BSt) λ_ c=>do
  let r<-ltAt' (lo+c.2.1) (lo+c.2.1 - 1)
  match r with
  |some sm=>
   if sm=true then
    if c.2.2 > 0 then do
     reverseSlice' (lo+c.2.1 - (c.2.2+1)) (lo+c.2.1)
     pure (.yield (none,c.2.1+1,0))
    else pure (.yield (none,c.2.1+1,0))
   else do
    let r<-ltAt' (lo+c.2.1 - 1) (lo+c.2.1)
    match r with
    |some lg=>if lg=true then pure (.done (none,c.2.1,c.2.2)) else pure (.yield (none,c.2.1+1,c.2.2+1))
    |_=>pure (.done (some none,c.2.1,c.2.2))
  |_=>pure (.done (some none,c.2.1,c.2.2))
def tl3(lo n nrem:Nat):StateT SortSt Sem (Option Nat):=do
 reverseSlice' lo (lo+n)
 let c<-asc lo n nrem
 match c.1 with
 |some r=>pure r
 |none=>pure (some c.2)
def dpt(lo n nrem:Nat):StateT SortSt Sem (Option Nat):=do
 rule "list.sort.descending-run"
 let c<-dsc lo (n+1) nrem
 match c.1 with
 |some r=>pure r
 |none=>if c.2.2 > 0 then do reverseSlice' (lo+c.2.1 - (c.2.2+1)) (lo+c.2.1);tl3 lo c.2.1 nrem else tl3 lo c.2.1 nrem
theorem qkT(lo nrem:Nat):countRun' lo nrem=(do
 let c<-asc lo 1 nrem
 match c.1 with
 |some r=>pure r
 |none=>
  if (c.2 == nrem)=true then pure (some c.2)
  else if c.2 > 1 then do
   let r<-ltAt' lo (lo+c.2 - 1)
   match r with
   |some rs=>if rs=true then pure (some c.2) else do reverseSlice' lo (lo+c.2);dpt lo c.2 nrem
   |_=>pure none
  else dpt lo c.2 nrem):=by
 rw[countRun'_eq];show(forIn _ _ _ >>= _:StateT SortSt Sem (Option Nat))=asc lo 1 nrem >>= _;refine congr (congrArg Bind.bind ?_) (funext λc=>?_)
 ·delta asc
  refine congrArg (forIn _ _) (funext λ_=>funext λc=>?_);refine congrArg (λz=>_ >>= z) (funext λr=>?_)
  cases r with
  |none=>exact rfl
  |some sm=>exact rfl
 ·let(c1,c2):=c
  cases c1 with
  |some r=>rfl
  |none=>
   show(ite _ _ (ite _ _ _):StateT SortSt Sem (Option Nat))=ite _ _ (ite _ _ _);refine congrArg (ite _ _) ?_;refine congr (congrArg (ite _) ?_) ?_
   ·refine congrArg (λz=>_ >>= z) (funext λr=>?_)
    cases r with
    |none=>exact rfl
    |some rs=>
     show(ite _ _ _:StateT SortSt Sem (Option Nat))=ite _ _ _;refine congrArg (ite _ _) ?_;refine congrArg (λz=>_ >>= z) (funext λ_=>?_)
     delta dpt
     refine congrArg (λz=>_ >>= z) (funext λ_=>?_);show(forIn _ _ _ >>= _:StateT SortSt Sem (Option Nat))=dsc lo (c2+1) nrem >>= _;refine congr (congrArg Bind.bind ?_) (funext λd=>?_)
     ·delta dsc
      refine congrArg (forIn _ _) (funext λ_=>funext λc=>?_);refine congrArg (λz=>_ >>= z) (funext λr=>?_)
      cases r with
      |none=>exact rfl
      |some sm=>
       show(ite _ _ _:StateT SortSt Sem (ForInStep BSt))=ite _ _ _;refine congr (congrArg (ite _) ?_) ?_
       ·exact rfl
       ·refine congrArg (λz=>_ >>= z) (funext λr=>?_)
        cases r with
        |none=>exact rfl
        |some lg=>exact rfl
     ·let(d1,d2,d3):=d
      cases d1 with
      |some r=>exact rfl
      |none=>
       show(ite _ _ _:StateT SortSt Sem (Option Nat))=ite _ _ _;refine congr (congrArg (ite _) ?_) ?_
       ·refine congrArg (λz=>_ >>= z) (funext λ_=>?_)
        delta tl3
        refine congrArg (λz=>_ >>= z) (funext λ_=>?_);show(forIn _ _ _ >>= _:StateT SortSt Sem (Option Nat))=asc lo d2 nrem >>= _;refine congr (congrArg Bind.bind ?_) (funext λe=>?_)
        ·delta asc
         refine congrArg (forIn _ _) (funext λ_=>funext λc=>?_);refine congrArg (λz=>_ >>= z) (funext λr=>?_)
         cases r with
         |none=>exact rfl
         |some sm=>exact rfl
        ·let(e1,e2):=e
         cases e1 with
         |some r=>exact rfl
         |none=>exact rfl
       ·delta tl3
        refine congrArg (λz=>_ >>= z) (funext λ_=>?_);show(forIn _ _ _ >>= _:StateT SortSt Sem (Option Nat))=asc lo d2 nrem >>= _;refine congr (congrArg Bind.bind ?_) (funext λe=>?_)
        ·delta asc
         refine congrArg (forIn _ _) (funext λ_=>funext λc=>?_);refine congrArg (λz=>_ >>= z) (funext λr=>?_)
         cases r with
         |none=>exact rfl
         |some sm=>exact rfl
        ·let(e1,e2):=e
         cases e1 with
         |some r=>exact rfl
         |none=>exact rfl
   ·show _=dpt lo c2 nrem
    delta dpt
    refine congrArg (λz=>_ >>= z) (funext λ_=>?_);show(forIn _ _ _ >>= _:StateT SortSt Sem (Option Nat))=dsc lo (c2+1) nrem >>= _;refine congr (congrArg Bind.bind ?_) (funext λd=>?_)
    ·delta dsc
     refine congrArg (forIn _ _) (funext λ_=>funext λc=>?_);refine congrArg (λz=>_ >>= z) (funext λr=>?_)
     cases r with
     |none=>exact rfl
     |some sm=>
      show(ite _ _ _:StateT SortSt Sem (ForInStep BSt))=ite _ _ _;refine congr (congrArg (ite _) ?_) ?_
      ·exact rfl
      ·refine congrArg (λz=>_ >>= z) (funext λr=>?_)
       cases r with
       |none=>exact rfl
       |some lg=>exact rfl
    ·let(d1,d2,d3):=d
     cases d1 with
     |some r=>exact rfl
     |none=>
      show(ite _ _ _:StateT SortSt Sem (Option Nat))=ite _ _ _;refine congr (congrArg (ite _) ?_) ?_
      ·refine congrArg (λz=>_ >>= z) (funext λ_=>?_)
       delta tl3
       refine congrArg (λz=>_ >>= z) (funext λ_=>?_);show(forIn _ _ _ >>= _:StateT SortSt Sem (Option Nat))=asc lo d2 nrem >>= _;refine congr (congrArg Bind.bind ?_) (funext λe=>?_)
       ·delta asc
        refine congrArg (forIn _ _) (funext λ_=>funext λc=>?_);refine congrArg (λz=>_ >>= z) (funext λr=>?_)
        cases r with
        |none=>exact rfl
        |some sm=>exact rfl
       ·let(e1,e2):=e
        cases e1 with
        |some r=>exact rfl
        |none=>exact rfl
      ·delta tl3
       refine congrArg (λz=>_ >>= z) (funext λ_=>?_);show(forIn _ _ _ >>= _:StateT SortSt Sem (Option Nat))=asc lo d2 nrem >>= _;refine congr (congrArg Bind.bind ?_) (funext λe=>?_)
       ·delta asc
        refine congrArg (forIn _ _) (funext λ_=>funext λc=>?_);refine congrArg (λz=>_ >>= z) (funext λr=>?_)
        cases r with
        |none=>exact rfl
        |some sm=>exact rfl
       ·let(e1,e2):=e
        cases e1 with
        |some r=>exact rfl
        |none=>exact rfl
section
variable{M:Model}{A:Around}{E:PQ}{s:Shared}{O:KeyOrd}{kf:Keyed->O.α}{U:SortKind}{G:Keyed->Prop}
def Jf(L:yC M A E s O kf U G){st:SortSt}{i j:Nat}{Q:Option Bool->SortSt->Prop}(hk:kindOf st=U)(hG:∀x∈(arrOf st).toList,G x)(hi:i < (arrOf st).size)(hj:j < (arrOf st).size)
  (h:Q (some (O.blt (KA O kf (arrOf st) i) (KA O kf (arrOf st) j))) st):wpS M A E s (ltAt' i j) Q st:=by
 rw[ltAt'_eq];refine wpS_bind (wpS_get ?_);let(x,ex,mx):=qO hi;let(y,ey,my):=qO hj;rw[qdd ex,qdd ey]at h;exact wpS_bind (qw ex (wpS_bind (qw ey (L x y (hG x mx) (hG y my) st Q hk h))))
def ZL{i j:Nat}{st:SortSt}{Q:Unit->SortSt->Prop}(h:Q () (setArr st (mirror (arrOf st) i j ((j - i) / 2)))):wpS M A E s (reverseSlice' i j) Q st:=by rw[reverseSlice'_eq];exact wpS_modify h
def qes(L:yC M A E s O kf U G){st:SortSt}{lo a nrem:Nat}{Q:ASt->SortSt->Prop}(hk:kindOf st=U)(hG:∀x∈(arrOf st).toList,G x)(hn:lo+nrem<=(arrOf st).size)(ha:1<=a)(han:a<=nrem)
  (hs:Inc O kf (arrOf st) lo (lo+a))
  (h:∀n,a<=n->n<=nrem->Inc O kf (arrOf st) lo (lo+n)->(n=nrem\/O.klt (KA O kf (arrOf st) (lo+n)) (KA O kf (arrOf st) (lo+n - 1)))->Q (none,n) st):wpS M A E s (asc lo a nrem) Q st:=by
 unfold asc;refine wpS_forRange (I:=λx c st'=>st'=st/\c=(none,x)/\Inc O kf (arrOf st) lo (lo+x)) ?step ?fin ⟨rfl,rfl,hs⟩
 case fin=>rintro c st' ⟨rfl,rfl,hs'⟩;rw[show max a nrem=nrem by lia]at hs' ⊢;exact h nrem han (Nat.le_refl _) hs' (.inl rfl)
 case step=>
  rintro x c st' hax hxn ⟨rfl,rfl,hs'⟩;dsimp only;refine wpS_bind (Jf L hk hG (1:) (1:) ?_)
  cases hb:O.blt (KA O kf (arrOf st') (lo+x)) (KA O kf (arrOf st') (lo+x - 1)) with
  |true=>simp![if_true];exact wpS_pure (h x hax (1:) hs' (.inr hb))
  |false=>
   simp![Bool.false_eq_true,if_false];refine wpS_pure ⟨rfl,rfl,λi j h1 h2 h3=>?_⟩
   by_cases hjx:j < lo+x
   ·exact hs' i j h1 h2 hjx
   ·have:j=lo+x:=by lia
    subst this
    by_cases e:i=lo+x
    ·subst e;exact KeyOrd.kle_refl _
    ·exact KeyOrd.kle_trans (hs' i (lo+x - 1) h1 (1:) (1:)) hb
def qaB(O:KeyOrd)(kf:Keyed->O.α)(lo nrem:Nat)(st:SortSt)(Q:Option Nat->SortSt->Prop):Prop:=
 ∀m xs,Re lo (arrOf st) xs->1<=m->m<=nrem->Inc O kf xs lo (lo+m)->Q (some m) (setArr st xs)
def qaB.step{lo nrem:Nat}{st:SortSt}{Q:Option Nat->SortSt->Prop}{xs:Array Keyed}(h:qaB O kf lo nrem st Q)(r:Re lo (arrOf st) xs):qaB O kf lo nrem (setArr st xs) Q:=
 λm ys r' h1 h2 h3=>h m ys (r.trans r') h1 h2 h3
def qet(L:yC M A E s O kf U G){st:SortSt}{lo n nrem:Nat}{Q:Option Nat->SortSt->Prop}(hk:kindOf st=U)(hG:∀x∈(arrOf st).toList,G x)(hn:lo+nrem<=(arrOf st).size)(h1:1<=n)(hnn:n<=nrem)
  (hs:Dec O kf (arrOf st) lo (lo+n)) (h:qaB O kf lo nrem st Q):wpS M A E s (tl3 lo n nrem) Q st:=by
 unfold tl3;refine wpS_bind (ZL ?_);have r:Re lo (arrOf st) (mirror (arrOf st) lo (lo+n) ((lo+n - lo) / 2)):=Re.mirror (Nat.le_refl _) (1:);refine wpS_bind (qes L (st:=setArr st (mirror (arrOf st) lo (lo+n) ((lo+n - lo) / 2))) hk (r.mem hG) (by have:=r.size;show lo+nrem<=(mirror (arrOf st) lo (lo+n) ((lo+n - lo) / 2)).size;lia) h1 hnn ?_ λm hm1 hm2 hs2 _=>wpS_pure (h m _ r (1:) hm2 hs2));intro i j h2 h3 h4;show O.kle (KA O kf (mirror (arrOf st) lo (lo+n) ((lo+n - lo) / 2)) i) (KA O kf (mirror (arrOf st) lo (lo+n) ((lo+n - lo) / 2)) j);rw[Je (1:),Je (1:),if_pos (1:),if_pos (1:)];exact hs _ _ (1:) (1:) (1:)
def qh5(L:yC M A E s O kf U G){st:SortSt}{lo n nrem:Nat}{Q:BSt->SortSt->Prop}(hk:kindOf st=U)(hG:∀x∈(arrOf st).toList,G x)(hn:lo+nrem<=(arrOf st).size)(h1:1<=n)(hnn:n<=nrem)
  (hs:Dec O kf (arrOf st) lo (lo+n))
  (h:∀m ne xs,Re lo (arrOf st) xs->n<=m->m<=nrem->Dec O kf xs lo (lo+m)->ne+1<=m->(∀i,lo+m - (ne+1)<=i->i < lo+m->KA O kf xs i=KA O kf xs (lo+m - 1))->Q (none,m,ne) (setArr st xs)):wpS M A E s (dsc lo n nrem) Q st:=by
 unfold dsc
 refine wpS_forRange (I:=λx c st'=>∃ne xs,c=(none,x,ne)/\st'=setArr st xs/\Re lo (arrOf st) xs/\Dec O kf xs lo (lo+x)/\ne+1<=x/\(∀i,lo+x - (ne+1)<=i->i < lo+x->KA O kf xs i=KA O kf xs (lo+x - 1))) ?step ?fin
  ⟨0,arrOf st,rfl,rfl,Re.refl _ _,hs,by lia,λi a b=>by congr 1;lia⟩
 case fin=>rintro c st' ⟨ne,xs,rfl,rfl,r,hs',hq,he⟩;rw[show max n nrem=nrem by lia]at hs' hq he ⊢;exact h nrem ne xs r hnn (Nat.le_refl _) hs' hq he
 case step=>
  rintro x c st' hax hxn ⟨ne,xs,rfl,rfl,r,hs',hq,he⟩;dsimp only;have hsz:xs.size=(arrOf st).size:=r.size;refine wpS_bind (Jf L (st:=setArr st xs) hk (r.mem hG) (by show lo+x < xs.size;lia) (by show lo+x - 1 < xs.size;lia) ?_);show wpS M A E s _ _ _
  cases hb:O.blt (KA O kf (arrOf (setArr st xs)) (lo+x)) (KA O kf (arrOf (setArr st xs)) (lo+x - 1)) with
  |true=>
   have hb:O.blt (KA O kf xs (lo+x)) (KA O kf xs (lo+x - 1))=true:=hb;simp![if_true]
   have step1:∀ys:Array Keyed,(∀k,KA O kf ys k=KA O kf xs k)->Dec O kf ys lo (lo+(x+1)):=by
    intro ys hy i j a b d;rw[hy,hy]
    by_cases hjx:j < lo+x
    ·exact hs' i j a b hjx
    ·have:j=lo+x:=by lia
     subst this
     by_cases e:i=lo+x
     ·subst e;exact KeyOrd.kle_refl _
     ·exact KeyOrd.kle_trans (KeyOrd.kle_of_klt hb) (hs' i (lo+x - 1) a (1:) (1:))
   by_cases hneq:ne > 0
   ·rw[if_pos hneq];refine wpS_bind (ZL (wpS_pure ⟨0,_,rfl,rfl,r.trans (Re.mirror (xs:=xs) (1:) (1:)),step1 _ (zb (xs:=xs) (1:) he),by lia,λi a b=>by congr 1;lia⟩))
   ·rw[if_neg hneq];exact wpS_pure ⟨0,xs,rfl,rfl,r,step1 _ (λ_=>rfl),by lia,λi a b=>by congr 1;lia⟩
  |false=>
   have hb:O.blt (KA O kf xs (lo+x)) (KA O kf xs (lo+x - 1))=false:=hb;simp![Bool.false_eq_true,if_false];refine wpS_bind (Jf L (st:=setArr st xs) hk (r.mem hG) (by show lo+x - 1 < xs.size;lia) (by show lo+x < xs.size;lia) ?_)
   cases hc:O.blt (KA O kf (arrOf (setArr st xs)) (lo+x - 1)) (KA O kf (arrOf (setArr st xs)) (lo+x)) with
   |true=>simp![if_true];exact wpS_pure (h x ne xs r hax (1:) hs' hq he)
   |false=>
    have hc:O.blt (KA O kf xs (lo+x - 1)) (KA O kf xs (lo+x))=false:=hc;simp![Bool.false_eq_true,if_false];have heqx:KA O kf xs (lo+x)=KA O kf xs (lo+x - 1):=KeyOrd.kle_antisymm hc hb;refine wpS_pure ⟨ne+1,xs,rfl,rfl,r,λi j a b d=>?_,by lia,λi a b=>?_⟩
    ·by_cases hjx:j < lo+x
     ·exact hs' i j a b hjx
     ·have:j=lo+x:=by lia
      subst this
      by_cases e:i=lo+x
      ·subst e;exact KeyOrd.kle_refl _
      ·rw[heqx];exact hs' i (lo+x - 1) a (1:) (1:)
    ·rw[show lo+(x+1) - 1=lo+x by lia]
     by_cases e:i=lo+x
     ·rw[e]
     ·rw[heqx];exact he i (1:) (1:)
def qeu(L:yC M A E s O kf U G){st:SortSt}{lo n nrem:Nat}{Q:Option Nat->SortSt->Prop}(hk:kindOf st=U)(hG:∀x∈(arrOf st).toList,G x)(hn:lo+nrem<=(arrOf st).size)(hnn:n+1<=nrem)
  (hs:Dec O kf (arrOf st) lo (lo+(n+1))) (h:qaB O kf lo nrem st Q):wpS M A E s (dpt lo n nrem) Q st:=by
 unfold dpt;refine wpS_bind (wpS_lift (wpAny_rule ⟨rfl,?_⟩));refine wpS_bind (qh5 L hk hG hn (1:) hnn hs λm ne xs r h1 h2 h3 h4 h5=>?_);dsimp only;have hsz:xs.size=(arrOf st).size:=r.size
 by_cases hneq:ne > 0
 ·rw[if_pos hneq];have r2:Re lo xs (mirror xs (lo+m - (ne+1)) (lo+m) ((lo+m - (lo+m - (ne+1))) / 2)):=Re.mirror (1:) (1:);refine wpS_bind (ZL (qet L hk (r2.mem (r.mem hG)) (by have:=r2.size;show lo+nrem<=(mirror xs (lo+m - (ne+1)) (lo+m) ((lo+m - (lo+m - (ne+1))) / 2)).size;lia) (1:) h2 ?_ ((h.step r).step r2)));intro i j a b d;show O.kle (KA O kf (mirror xs _ _ _) j) (KA O kf (mirror xs _ _ _) i);rw[zb (1:) h5,zb (1:) h5];exact h3 i j a b d
 ·rw[if_neg hneq];exact qet L (st:=setArr st xs) hk (r.mem hG) (by show lo+nrem<=xs.size;lia) (1:) h2 h3 (h.step r)
def qkU(L:yC M A E s O kf U G){st:SortSt}{lo nrem:Nat}{Q:Option Nat->SortSt->Prop}(hk:kindOf st=U)(hG:∀x∈(arrOf st).toList,G x)(hn:lo+nrem<=(arrOf st).size)(h1:1<=nrem)
  (h:qaB O kf lo nrem st Q):wpS M A E s (countRun' lo nrem) Q st:=by
 rw[qkT];refine wpS_bind (qes L hk hG hn (Nat.le_refl 1) h1 (λi j a b d=>by have:i=j:=(1:);subst this;exact KeyOrd.kle_refl _) λn hn1 hn2 hsn hor=>?_);dsimp only
 by_cases hnn:n=nrem
 ·rw[if_pos (-hnn:)];exact wpS_pure (h n _ (Re.refl _ _) hn1 hn2 hsn)
 ·rw[if_neg (-hnn:)];have hlt:=hor.resolve_left hnn
  by_cases hgt:n > 1
  ·rw[if_pos hgt];refine wpS_bind (Jf L hk hG (1:) (1:) ?_)
   cases hr:O.blt (KA O kf (arrOf st) lo) (KA O kf (arrOf st) (lo+n - 1)) with
   |true=>simp![if_true];exact wpS_pure (h n _ (Re.refl _ _) hn1 hn2 hsn)
   |false=>
    simp![Bool.false_eq_true,if_false]
    have hall:∀k,lo<=k->k < lo+n->KA O kf (arrOf st) k=KA O kf (arrOf st) (lo+n - 1):=by intro k a b;exact KeyOrd.kle_antisymm (hsn k (lo+n - 1) a (1:) (1:)) (KeyOrd.kle_trans hr (hsn lo k (Nat.le_refl _) a b))
    have r:Re lo (arrOf st) (mirror (arrOf st) lo (lo+n) ((lo+n - lo) / 2)):=Re.mirror (Nat.le_refl _) (1:);refine wpS_bind (ZL (qeu L hk (r.mem hG) (by have:=r.size;show lo+nrem<=(mirror (arrOf st) lo (lo+n) ((lo+n - lo) / 2)).size;lia) (1:) ?_ (h.step r)));intro i j a b d;show O.kle (KA O kf (mirror (arrOf st) _ _ _) j) (KA O kf (mirror (arrOf st) _ _ _) i);rw[zb (1:) hall,zb (1:) hall]
    by_cases hjn:j < lo+n
    ·rw[hall i (1:) (1:),hall j (1:) hjn];exact KeyOrd.kle_refl _
    ·have:j=lo+n:=by lia
     subst this
     by_cases e:i=lo+n
     ·subst e;exact KeyOrd.kle_refl _
     ·rw[hall i (1:) (1:)];exact KeyOrd.kle_of_klt hlt
  ·rw[if_neg hgt]
   have:n=1:=by lia
   subst this;refine qeu L hk hG hn (1:) ?_ h;intro i j a b d
   by_cases e:i=j
   ·subst e;exact KeyOrd.kle_refl _
   ·have e1:i=lo:=by lia
    have e2:j=lo+1:=by lia
    subst e1 e2;exact KeyOrd.kle_of_klt (-hlt:)
def qh6{l u k x:Nat}(h:¬ l≥u)(b:u<=k)(d:u - l<=k - x):l<=(l+u) / 2/\(l+u) / 2 < u/\(l+u) / 2 < k/\(l+u) / 2 - l<=k - (x+1)/\u - ((l+u) / 2+1)<=k - (x+1):=by
 have h1:l<=(l+u) / 2:=by omega
 have h2:(l+u) / 2 < u:=by omega
 exact{h1,h2,Nat.lt_of_lt_of_le h2 b,Nat.le_sub_one_of_lt (Nat.lt_of_lt_of_le (Nat.sub_lt_sub_right h1 h2) d),Nat.sub_le_sub_right (Nat.le_trans (Nat.sub_le_sub_left h1 u) d) 1}
def qby{lo k n s:Nat}(h:k < n)(hn:lo+n<=s):lo+k < s:=Nat.lt_of_lt_of_le (Nat.add_lt_add_left h lo) hn
def qaC{lo t l:Nat}(h1:lo<=t)(h2:t < lo+l):t - lo < l:=by lia
def qfH{lo t l:Nat}(h1:lo+l<=t):l<=t - lo:=by lia
def qh7(L:yC M A E s O kf U G){st:SortSt}{lo n ok:Nat}{Q:Bool->SortSt->Prop}(hk:kindOf st=U)(hG:∀x∈(arrOf st).toList,G x)(hn:lo+n<=(arrOf st).size)(hok:ok<=n)(hs:Inc O kf (arrOf st) lo (lo+ok))
  (h:∀xs,Re lo (arrOf st) xs->Inc O kf xs lo (lo+n)->Q true (setArr st xs)):wpS M A E s (binarySort' lo n ok) Q st:=by
 rw[binarySort'_eq]
 refine wpS_bind (wpS_mono (wpS_forRange (I:=λk c st'=>c=(none,())/\∃xs,st'=setArr st xs/\Re lo (arrOf st) xs/\Inc O kf xs lo (lo+min k n))
  (Q:=λc st'=>c=(none,())/\∃xs,st'=setArr st xs/\Re lo (arrOf st) xs/\Inc O kf xs lo (lo+n)) ?step ?fin ?init) ?post)
 case post=>rintro c st' ⟨rfl,xs,rfl,r,hs'⟩;exact wpS_pure (h xs r hs')
 case init=>
  refine{rfl,arrOf st,rfl,Re.refl _ _,λi j a b d=>?_}
  by_cases h1:ok=0
  ·have:i=j:=by lia
   subst this;exact KeyOrd.kle_refl _
  ·exact hs i j a b (1:)
 case fin=>
  rintro c st' ⟨hc,xs,rfl,r,hs'⟩;refine{hc,xs,rfl,r,?_}
  rwa[show min (max (max ok 1) n) n=n by lia]at hs'
 case step=>
  rintro k c st' hak hkn ⟨rfl,xs,rfl,r,hs'⟩;rw[Nat.min_eq_left (Nat.le_of_lt hkn)]at hs';have hsz:xs.size=(arrOf st).size:=r.size
  refine wpS_bind (wpS_mono (wpS_forRange (I:=λx c st''=>st''=setArr st xs/\∃l u,c=(none,l,u)/\l<=u/\u<=k/\u - l<=k - x/\
    (∀i,i < l->O.kle (KA O kf xs (lo+i)) (KA O kf xs (lo+k)))/\(∀i,u<=i->i < k->O.klt (KA O kf xs (lo+k)) (KA O kf xs (lo+i))))
   (Q:=λc st''=>st''=setArr st xs/\∃l u,c=(none,l,u)/\l<=k/\
    (∀i,i < l->O.kle (KA O kf xs (lo+i)) (KA O kf xs (lo+k)))/\(∀i,l<=i->i < k->O.klt (KA O kf xs (lo+k)) (KA O kf xs (lo+i)))) ?istep ?ifin ?iinit) ?ipost)
  case iinit=>exact{rfl,0,k,rfl,Nat.zero_le _,Nat.le_refl _,Nat.le_refl _,λi hi=>absurd hi (Nat.not_lt_zero i),λi h1 h2=>absurd h2 (Nat.not_lt.mpr h1)}
  case ifin=>
   rintro c st'' ⟨rfl,l,u,rfl,a,b,d,e,f⟩
   have:l=u:=by lia
   subst this;exact⟨rfl,l,l,rfl,b,e,f⟩
  case istep=>
   rintro x c st'' _ hxk ⟨rfl,l,u,rfl,a,b,d,e,f⟩;dsimp only
   by_cases hge:l≥u
   ·rw[if_pos hge];obtain rfl:l=u:=Nat.le_antisymm a hge;exact wpS_pure ⟨rfl,l,l,rfl,b,e,f⟩
   ·rw[if_neg hge];let(m1,m2,m3,m4,m5):=qh6 hge b d;have hns:lo+n<=xs.size:=by rw[hsz];exact hn
    refine wpS_bind (Jf L (st:=setArr st xs) hk (r.mem hG) (qby hkn hns) (qby (Nat.lt_trans m3 hkn) hns) ?_)
    cases hb:O.blt (KA O kf (arrOf (setArr st xs)) (lo+k)) (KA O kf (arrOf (setArr st xs)) (lo+(l+u) / 2)) with
    |true=>have hb:O.blt (KA O kf xs (lo+k)) (KA O kf xs (lo+(l+u) / 2))=true:=hb;simp![if_true];refine wpS_pure ⟨rfl,l,(l+u) / 2,rfl,m1,Nat.le_of_lt m3,m4,e,λi h1 h2=>?_⟩;exact KeyOrd.klt_of_klt_of_kle hb (hs' _ _ (Nat.le_add_right _ _) (Nat.add_le_add_left h1 lo) (Nat.add_lt_add_left h2 lo))
    |false=>have hb:O.blt (KA O kf xs (lo+k)) (KA O kf xs (lo+(l+u) / 2))=false:=hb;simp![Bool.false_eq_true,if_false];refine wpS_pure ⟨rfl,(l+u) / 2+1,u,rfl,m2,b,m5,λi h1=>?_,f⟩;exact KeyOrd.kle_trans (hs' (lo+i) (lo+(l+u) / 2) (Nat.le_add_right _ _) (Nat.add_le_add_left (Nat.le_of_lt_succ h1) lo) (Nat.add_lt_add_left m3 lo)) (show O.kle _ _ from hb)
  case ipost=>
   rintro c st'' ⟨rfl,l,u,rfl,hlk,hlo,hhi⟩;show wpS _ _ _ _ (do moveDown' (lo+k) (lo+l);pure (ForInStep.yield (none,()))) _ _;rw[moveDown'_eq];have hks:lo+k < xs.size:=qby hkn (by rw[hsz];exact hn);refine wpS_bind (wpS_modify (wpS_pure ⟨rfl,_,rfl,r.trans (Re.bubble hks (d:=lo+k - (lo+l)) (by rw[Nat.add_sub_add_left];exact Nat.add_le_add_left (Nat.sub_le _ _) _)),?_⟩));rw[Nat.min_eq_left hkn];intro i j a b d;show O.kle (KA O kf (bubble xs (lo+k) (lo+k - (lo+l))) i) (KA O kf (bubble xs (lo+k) (lo+k - (lo+l))) j);have dl:lo+k - (lo+l)<=lo+k:=Nat.sub_le _ _;rw[Qa hks dl,Qa hks dl,Nat.sub_sub_self (Nat.add_le_add_left hlk lo)];clear dl
   have lo':∀t,lo<=t->t < lo+l->O.kle (KA O kf xs t) (KA O kf xs (lo+k)):=λt h1 h2=>by
    have:=hlo (t - lo) (qaC h1 h2)
    rwa[Nat.add_sub_cancel' h1]at this
   have hi':∀t,lo+l<=t->t < lo+k->O.klt (KA O kf xs (lo+k)) (KA O kf xs t):=λt h1 h2=>by
    have:=hhi (t - lo) (qfH h1) (qaC (Nat.le_trans (Nat.le_add_right lo l) h1) h2)
    rwa[Nat.add_sub_cancel' (Nat.le_trans (Nat.le_add_right lo l) h1)]at this
   clear hlo hhi hks hsz hn hkn hak hok hs hG hk r
   repeat' split
   all_goals first
    | (exfalso;lia)
    | exact KeyOrd.kle_refl _
    | exact lo' _ (1:) (1:)
    | exact KeyOrd.kle_of_klt (hi' _ (1:) (1:))
    | exact hs' _ _ (1:) (1:) (1:)
end
abbrev Pd:=Nat×Nat×Nat
def wrt(a:Array Keyed)(sa:Nat)(l:List (Keyed×Nat)):Array Keyed:=l.foldl (λa (p,j)=>a.setIfInBounds (sa+j) p) a
theorem ZM(sa:Nat):∀(l:List (Keyed×Nat)) (a:Array Keyed),(wrt a sa l).size=a.size
 |[],a=>rfl
 | (p,j)::r,a=>by show(wrt (a.setIfInBounds (sa+j) p) sa r).size=a.size;rw[ZM sa r,Array.size_setIfInBounds]
theorem Q3(sa:Nat):∀(l:List Keyed) (n:Nat) (a:Array Keyed) (k:Nat),sa+n+l.length<=a.size->(wrt a sa (l.zipIdx n))[k]?=if sa+n<=k/\k < sa+n+l.length then l[k - (sa+n)]? else a[k]?
 |[],n,a,k,_=>by rw[if_neg (5:)];rfl
 | p::r,n,a,k,h=>by
  show(wrt (a.setIfInBounds (sa+n) p) sa (r.zipIdx (n+1)))[k]?=_;have h':sa+(n+1)+r.length<=a.size:=by simp at h;lia
  rw[Q3 sa r (n+1) _ k (by rw[Array.size_setIfInBounds];exact h')]
  by_cases h1:sa+(n+1)<=k/\k < sa+(n+1)+r.length
  ·rw[if_pos h1,if_pos (by simp;lia)];rw[show k - (sa+n)=(k - (sa+(n+1)))+1 by lia];simp
  ·rw[if_neg h1]
   by_cases h2:k=sa+n
   ·subst h2;rw[if_pos (5:)];simp at h;simp[show sa+n < a.size by lia]
   ·rw[if_neg (by simp;lia)];rw[Array.getElem?_setIfInBounds_ne (1:)]
def mga:Nat->StateT SortSt Sem Bool:=mergeAt'
def mst(st:SortSt)(xs:Array Keyed)(p:Array Pd)(g:Nat):SortSt:=SortSt.mk' (kindOf st) xs p g (failedOf st)
theorem qh8(i:Nat):mga i=(do
 let s<-get
 match (pendingOf s)[i]?,(pendingOf s)[i+1]? with
 |some (sa,na,pw),some (sb,nb,_)=>do
  set (mst s (arrOf s) (((pendingOf s).setIfInBounds i (sa,na+nb,pw)).eraseIdxIfInBounds (i+1)) (gallopOf s))
  let y<-elem' (arrOf s) sb
  let r<-gal false y (arrOf s) sa na 0
  match r with
  |some k=>
   if (na - k == 0)=true then pure true
   else do
    let z<-elem' (arrOf s) (sa+k+(na - k) - 1)
    let r<-gal true z (arrOf s) sb nb (nb - 1)
    match r with
    |some nb=>
     if (nb == 0)=true then pure true
     else do
      let m<-if na - k<=nb then mlo ((arrOf s).extract (sa+k) sb) ((arrOf s).extract sb (sb+nb)) else mhi ((arrOf s).extract (sa+k) sb) ((arrOf s).extract sb (sb+nb))
      modify λs=>setArr s (wrt (arrOf s) (sa+k) m.toList.zipIdx)
      let s<-get
      pure (failedOf s).isNone
    |_=>pure false
  |_=>pure false
 |_,_=>unsupported "internal:list.sort.pending"):=by
 show(get >>= _:StateT SortSt Sem Bool)=_;refine congrArg (λz=>get >>= z) (funext λs=>?_)
 cases e1:(pendingOf s)[i]? with
 |none=>rfl
 |some v=>
  let(sa,na,pw):=v
  cases e2:(pendingOf s)[i+1]? with
  |none=>rfl
  |some u=>
   let(sb,nb,pw2):=u;refine congrArg (λz=>_ >>= z) (funext λ_=>?_);refine congrArg (λz=>_ >>= z) (funext λy=>?_);refine congrArg (λz=>_ >>= z) (funext λr=>?_)
   cases r with
   |none=>rfl
   |some k=>
    show(ite _ _ _:StateT SortSt Sem Bool)=ite _ _ _;refine congrArg (ite _ _) ?_;refine congrArg (λz=>_ >>= z) (funext λz=>?_);refine congrArg (λz=>_ >>= z) (funext λr=>?_)
    cases r with
    |none=>rfl
    |some k=>rfl
section
variable{O:KeyOrd}{kf:Keyed->O.α}{G:Keyed->Prop}
structure Ord(O:KeyOrd)(kf:Keyed->O.α)(lo hi:Nat)(xs ys:Array Keyed):Prop where
 perm:ys.Perm xs
 keep:∀k,(k < lo\/hi<=k)->ys[k]?=xs[k]?
 srt:Srt O kf ys lo hi
def Q4{a:Array Keyed}{u p i:Nat}(hp:p<=a.size)(hi:i < p - u):(a.extract u p)[i]?=a[u+i]?:=by rw[Array.getElem?_extract];rw[if_pos (1:)]
def qbz{a:Array Keyed}{u p:Nat}(hp:p<=a.size)(h:Srt O kf a u p):Srt O kf (a.extract u p) 0 (a.extract u p).size:=λi j x y _ hij hj e1 e2=>by
 have hs:(a.extract u p).size=p - u:=by rw[Array.size_extract];lia
 rw[Q4 hp (1:)]at e1 e2;exact h _ _ x y (1:) (1:) (1:) e1 e2
def Ord.merged{xs m:Array Keyed}{sa sb e:Nat}(h1:sa<=sb)(h2:sb<=e)(h3:e<=xs.size)(M:Mrg O kf (xs.extract sa sb) (xs.extract sb e) m):Ord O kf sa e xs (wrt xs sa m.toList.zipIdx):=by
 have hms:m.size=e - sa:=by
  have:=M.1.length_eq
  simp at this
  lia
 have get:∀k,(wrt xs sa m.toList.zipIdx)[k]?=if sa<=k/\k < e then m[k - sa]? else xs[k]?:=λk=>by
  have:=Q3 sa m.toList 0 xs k (by rw[Array.length_toList];lia)
  rw[this,Array.length_toList,hms]
  by_cases hc:sa<=k/\k < e
  ·rw[if_pos hc,if_pos (1:)];simp
  ·rw[if_neg hc,if_neg (1:)]
 have hsz:(wrt xs sa m.toList.zipIdx).size=xs.size:=ZM _ _ _;refine{?_,λk hk=>by rw[get,if_neg (1:)],λi j x y a b c e1 e2=>?_}
 ·have e1:(wrt xs sa m.toList.zipIdx).toList=xs.toList.take sa++(m.toList++xs.toList.drop e):=by
   apply List.ext_getElem?;intro k;have hl1:(xs.toList.take sa).length=sa:=by simp;lia
   have:(wrt xs sa m.toList.zipIdx).toList[k]?=(wrt xs sa m.toList.zipIdx)[k]?:=by simp
   rw[this,get]
   by_cases c1:k < sa
   ·rw[if_neg (1:),List.getElem?_append_left (1:),List.getElem?_take_of_lt c1];simp
   ·rw[List.getElem?_append_right (1:),hl1]
    by_cases c2:k < e
    ·rw[if_pos (1:),List.getElem?_append_left (by rw[Array.length_toList];lia)];simp
    ·rw[if_neg (1:),List.getElem?_append_right (by rw[Array.length_toList];lia),Array.length_toList,hms,List.getElem?_drop];rw[show e+(k - sa - (e - sa))=k by lia];simp
  have e2:xs.toList=xs.toList.take sa++((xs.extract sa sb).toList++(xs.extract sb e).toList++xs.toList.drop e):=by have a1:=J8 xs sa (sb - sa);have a2:=J8 xs sb (e - sb);rw[show sa+(sb - sa)=sb by lia]at a1;rw[show sb+(e - sb)=e by lia]at a2;rw[List.append_assoc,a2,a1,List.take_append_drop]
  rw[Array.perm_iff_toList_perm,e1]
  conv=>rhs;rw[e2]
  exact List.Perm.append_left _ (List.Perm.append_right _ M.1)
 ·rw[get,if_pos (1:)]at e1 e2;exact(Srt.of M.2) _ _ x y (Nat.zero_le _) (1:) (1:) e1 e2
end
section
variable{M:Model}{A:Around}{E:PQ}{s:Shared}{O:KeyOrd}{kf:Keyed->O.α}{U:SortKind}{G:Keyed->Prop}
def qh9(L:yC M A E s O kf U G){st:SortSt}{i sa na pw sb nb pw2:Nat}{Q:Bool->SortSt->Prop}(hk:kindOf st=U)(hf:failedOf st=none)(hG:∀x∈(arrOf st).toList,G x)
  (e1:(pendingOf st)[i]?=some (sa,na,pw)) (e2:(pendingOf st)[i+1]?=some (sb,nb,pw2)) (hsb:sb=sa+na) (pa:0 < na) (pb:0 < nb) (hsz:sb+nb<=(arrOf st).size)
  (s1:Srt O kf (arrOf st) sa sb) (s2:Srt O kf (arrOf st) sb (sb+nb))
  (h:∀xs g,Ord O kf sa (sb+nb) (arrOf st) xs->Q true (mst st xs (((pendingOf st).setIfInBounds i (sa,na+nb,pw)).eraseIdxIfInBounds (i+1)) g)):wpS M A E s (mga i) Q st:=by
 rw[qh8];refine wpS_bind (wpS_get ?_);rw[e1,e2];dsimp only;generalize hst1:mst st (arrOf st) (((pendingOf st).setIfInBounds i (sa,na+nb,pw)).eraseIdxIfInBounds (i+1)) (gallopOf st)=st1
 have setS:∀{Q':Unit->SortSt->Prop},Q' () st1->wpS M A E s (set st1:StateT SortSt Sem PUnit) Q' st:=λhq=>by unfold wpS;rw[StateT.run_set];exact wpAny_pure ⟨rfl,hq⟩
 refine wpS_bind (setS ?_);have hk1:kindOf st1=U:=by rw[<-hst1];exact hk
 subst hsb;let(y,ey,my):=qO (show sa+na < (arrOf st).size by lia);refine wpS_bind (qw ey (wpS_bind (yh L hk1 (hG y my) hG (λi' j' x y a b c=>s1 i' j' x y a b c) (1:) (1:) λk k1 ka kb=>?_)));dsimp only
 have ka':∀t x,sa<=t->t < sa+k->(arrOf st)[t]?=some x->le O kf x y:=λt x a b ex=>by
  have:=ka (t - sa) x (qaC a b) (by rw[Nat.add_sub_cancel' a];exact ex)
  unfold pby at this;simp![Bool.false_eq_true,if_false,Bool.not_eq_true']at this;exact qZ this
 have kb':∀t x,sa+k<=t->t < sa+na->(arrOf st)[t]?=some x->le O kf y x:=λt x a b ex=>by
  have a':=Nat.le_trans (Nat.le_add_right sa k) a
  have:=kb (t - sa) x (qfH a) (qaC a' b) (by rw[Nat.add_sub_cancel' a'];exact ex)
  unfold pby at this;simp![Bool.false_eq_true,if_false,Bool.not_eq_false']at this;exact le_of_lt this
 have yb:∀t x,sa+na<=t->t < sa+na+nb->(arrOf st)[t]?=some x->le O kf y x:=λt x a b ex=>s2 (sa+na) t y x (Nat.le_refl _) a b ey ex
 by_cases hna:na - k=0
 ·rw[if_pos (-hna:)];refine wpS_pure ?_;rw[<-hst1];refine h _ _ ⟨Array.Perm.refl _,λ_ _=>rfl,λi' j' x z a b c f1 f2=>?_⟩
  by_cases hi:i' < sa+na
  ·by_cases hj:j' < sa+na
   ·exact s1 i' j' x z a b hj f1 f2
   ·exact qA (ka' i' x a (1:) f1) (yb j' z (1:) (1:) f2)
  ·exact s2 i' j' x z (1:) b (1:) f1 f2
 ·rw[if_neg (-hna:)];let(z,ez,mz):=qO (show sa+k+(na - k) - 1 < (arrOf st).size by lia);have ez':(arrOf st)[sa+na - 1]?=some z:=by rw[show sa+na - 1=sa+k+(na - k) - 1 by lia];exact ez
  refine wpS_bind (qw ez (wpS_bind (yh L hk1 (hG z mz) hG (λi' j' x y a b c=>s2 i' j' x y a b c) (1:) (1:) λu u1 ua ub=>?_)));dsimp only
  have ua':∀t x,sa+na<=t->t < sa+na+u->(arrOf st)[t]?=some x->le O kf x z:=λt x a b ex=>by
   have:=ua (t - (sa+na)) x (qaC a b) (by rw[Nat.add_sub_cancel' a];exact ex)
   unfold pby at this;simp![if_true]at this;exact le_of_lt this
  have ub':∀t x,sa+na+u<=t->t < sa+na+nb->(arrOf st)[t]?=some x->le O kf z x:=λt x a b ex=>by
   have a':=Nat.le_trans (Nat.le_add_right (sa+na) u) a
   have:=ub (t - (sa+na)) x (qfH a) (qaC a' b) (by rw[Nat.add_sub_cancel' a'];exact ex)
   unfold pby at this;simp![if_true]at this;exact qZ this
  have za:∀t x,sa<=t->t < sa+na->(arrOf st)[t]?=some x->le O kf x z:=λt x a b ex=>s1 t (sa+na - 1) x z a (1:) (1:) ex ez'
  by_cases hu:u=0
  ·rw[if_pos (-hu:)];refine wpS_pure ?_;rw[<-hst1];refine h _ _ ⟨Array.Perm.refl _,λ_ _=>rfl,λi' j' x w a b c f1 f2=>?_⟩
   by_cases hi:i' < sa+na
   ·by_cases hj:j' < sa+na
    ·exact s1 i' j' x w a b hj f1 f2
    ·exact qA (za i' x a hi f1) (ub' j' w (1:) (1:) f2)
   ·exact s2 i' j' x w (1:) b (1:) f1 f2
  ·rw[if_neg (-hu:)];have sxa:((arrOf st).extract (sa+k) (sa+na)).size=na - k:=by rw[Array.size_extract];lia
   have sxb:((arrOf st).extract (sa+na) (sa+na+u)).size=u:=by rw[Array.size_extract];lia
   have T:Two O kf G ((arrOf st).extract (sa+k) (sa+na)) ((arrOf st).extract (sa+na) (sa+na+u)):=by
    refine{λx hx=>?_,λx hx=>?_,qbz (1:) (λi' j' x y a b c=>s1 i' j' x y (1:) b c),qbz (1:) (λi' j' x y a b c=>s2 i' j' x y a b (1:)),by lia,by lia,λx w ew hx=>?_,λx w ex hw=>?_}
    ·let(t,_,_,et):=zu hx;exact hG x (by let(h1,h2):=Array.getElem?_eq_some_iff.mp et;rw[<-h2];simp)
    ·let(t,_,_,et):=zu hx;exact hG x (by let(h1,h2):=Array.getElem?_eq_some_iff.mp et;rw[<-h2];simp)
    ·rw[Q4 (1:) (1:),Nat.add_zero,ey]at ew;cases ew;let(t,t1,t2,et):=zu hx;exact kb' t x t1 t2 et
    ·rw[sxa,Q4 (1:) (1:),show sa+k+(na - k - 1)=sa+na - 1 by lia,ez']at ex;cases ex;let(t,t1,t2,et):=zu hw;exact ua' t w t1 t2 et
   have post:∀m g,Mrg O kf ((arrOf st).extract (sa+k) (sa+na)) ((arrOf st).extract (sa+na) (sa+na+u)) m->
     wpS M A E s (do modify λs=>setArr s (wrt (arrOf s) (sa+k) m.toList.zipIdx);let s<-get;pure (failedOf s).isNone) Q (je st1 g):=λm g hm=>by
    refine wpS_bind (wpS_modify (wpS_bind (wpS_get (wpS_pure ?_))));have o1:=Ord.merged (xs:=arrOf st) (1:) (1:) (1:) hm
    have e3:setArr (je st1 g) (wrt (arrOf (je st1 g)) (sa+k) m.toList.zipIdx)=mst st (wrt (arrOf st) (sa+k) m.toList.zipIdx) (((pendingOf st).setIfInBounds i (sa,na+nb,pw)).eraseIdxIfInBounds (i+1)) g:=by rw[<-hst1];rfl
    have e4:(failedOf (setArr (je st1 g) (wrt (arrOf (je st1 g)) (sa+k) m.toList.zipIdx))).isNone=true:=by rw[e3];show(failedOf st).isNone=true;rw[hf];rfl
    rw[e4,e3];refine h _ g ⟨o1.perm,λt ht=>o1.keep t (1:),λi' j' x w a b c f1 f2=>?_⟩
    have mid:∀t x,sa+k<=t->t < sa+na+u->(wrt (arrOf st) (sa+k) m.toList.zipIdx)[t]?=some x->∃r,sa+k<=r/\r < sa+na+u/\(arrOf st)[r]?=some x:=λt x a b ex=>by
     have hmem:x∈m.toList:=by
      have hms:m.size=na - k+u:=by
       have:=hm.1.length_eq
       simp at this
       lia
      have:=Q3 (sa+k) m.toList 0 (arrOf st) t (by rw[Array.length_toList];lia)
      rw[if_pos (by rw[Array.length_toList];lia)]at this;rw[this]at ex;exact List.mem_of_getElem? ex
     rcases List.mem_append.mp (hm.1.mem_iff.mp hmem) with q|q
     ·let(r,r1,r2,er):=zu q;exact{r,r1,by lia,er}
     ·let(r,r1,r2,er):=zu q;exact{r,by lia,r2,er}
    by_cases hi1:i' < sa+k
    ·rw[o1.keep i' (.inl hi1)]at f1;have hx:=ka' i' x a hi1 f1
     by_cases hj1:j' < sa+k
     ·rw[o1.keep j' (.inl hj1)]at f2;exact s1 i' j' x w a b (1:) f1 f2
     ·by_cases hj2:j' < sa+na+u
      ·let(r,r1,r2,er):=mid j' w (1:) hj2 f2
       by_cases hr:r < sa+na
       ·exact s1 i' r x w a (1:) hr f1 er
       ·exact qA hx (yb r w (1:) (1:) er)
      ·rw[o1.keep j' (.inr (1:))]at f2;exact qA hx (yb j' w (1:) (1:) f2)
    ·by_cases hi2:i' < sa+na+u
     ·by_cases hj2:j' < sa+na+u
      ·exact o1.srt i' j' x w (1:) b hj2 f1 f2
      ·rw[o1.keep j' (.inr (1:))]at f2;let(r,r1,r2,er):=mid i' x (1:) hi2 f1
       by_cases hr:r < sa+na
       ·exact qA (za r x (1:) hr er) (ub' j' w (1:) (1:) f2)
       ·exact s2 r j' x w (1:) (1:) (1:) er f2
     ·rw[o1.keep i' (.inr (1:))]at f1;rw[o1.keep j' (.inr (1:))]at f2;exact s2 i' j' x w (1:) b (1:) f1 f2
   by_cases hle:na - k<=u
   ·rw[if_pos hle];exact wpS_bind (qh0 L T hk1 post)
   ·rw[if_neg hle];exact wpS_bind (qh4 L T hk1 post)
end
section
variable{O:KeyOrd}{kf:Keyed->O.α}{G:Keyed->Prop}
def jV(O:KeyOrd)(kf:Keyed->O.α)(xs:Array Keyed):List Pd->Nat->Nat->Prop
 |[],a,b=>a=b
 | (s,n,_)::r,a,b=>s=a/\0 < n/\Srt O kf xs s (s+n)/\jV O kf xs r (s+n) b
theorem jV.le{xs:Array Keyed}:∀{p:List Pd} {a b:Nat},jV O kf xs p a b->a+p.length<=b
 |[],a,b,h=>Nat.le_of_eq h
 | (s,n,w)::r,a,b,h=>by
  let(rfl,h1,_,h2):=h
  have:=jV.le h2
  simp
  lia
theorem jV.app{xs:Array Keyed}:∀{p q:List Pd} {a c:Nat},jV O kf xs (p++q) a c↔∃b,jV O kf xs p a b/\jV O kf xs q b c
 |[],q,a,c=>{λh=>⟨a,rfl,h⟩,λ⟨b,h1,h2⟩=>by have h1:a=b:=h1;rw[h1];exact h2}
 | (s,n,w)::r,q,a,c=>by
  constructor
  ·rintro⟨h1,h2,h3,h4⟩;let(b,h5,h6):=jV.app.mp h4;exact{b,⟨h1,h2,h3,h5⟩,h6}
  ·rintro⟨b,⟨h1,h2,h3,h5⟩,h6⟩;exact{h1,h2,h3,jV.app.mpr ⟨b,h5,h6⟩}
def Srt.congr{xs ys:Array Keyed}{lo hi:Nat}(h:Srt O kf xs lo hi)(k:∀t,lo<=t->t < hi->ys[t]?=xs[t]?):Srt O kf ys lo hi:=λi j x y a b c e1 e2=>by rw[k i a (1:)]at e1;rw[k j (1:) c]at e2;exact h i j x y a b c e1 e2
theorem jV.congr{xs ys:Array Keyed}:∀{p:List Pd} {a b:Nat},jV O kf xs p a b->(∀t,a<=t->t < b->ys[t]?=xs[t]?)->jV O kf ys p a b
 |[],a,b,h,_=>h
 | (s,n,w)::r,a,b,h,k=>by
  let(rfl,h1,h2,h3):=h
  have:=jV.le h3
  exact{rfl,h1,h2.congr λt c d=>k t c (1:),jV.congr h3 λt c d=>k t (1:) d}
def qbA{p:Array Pd}{i:Nat}(h:i+1 < p.size):∃pre x y post,p.toList=pre++x::y::post/\pre.length=i/\p[i]?=some x/\p[i+1]?=some y:=by
 have h1:i < p.toList.length:=by rw[Array.length_toList];lia
 have h2:i+1 < p.toList.length:=by rw[Array.length_toList];lia
 refine{p.toList.take i,p.toList[i],p.toList[i+1],p.toList.drop (i+2),?_,by simp;lia,by simp[show i < p.size by lia],by simp[h]}
 conv=>lhs;rw[<-List.take_append_drop i p.toList]
 rw[List.drop_eq_getElem_cons h1,List.drop_eq_getElem_cons h2]
def JK{p:Array Pd}{pre post:List Pd}{x y v:Pd}(e:p.toList=pre++x::y::post):((p.setIfInBounds pre.length v).eraseIdxIfInBounds (pre.length+1)).toList=pre++v::post:=by rw[Array.toList_eraseIdxIfInBounds,Array.toList_setIfInBounds,e];rw[List.set_append_right _ _ (Nat.le_refl _),Nat.sub_self,List.set_cons_zero,List.eraseIdx_append_of_length_le (1:)];simp
structure Good(O:KeyOrd)(kf:Keyed->O.α)(U:SortKind)(a0:Array Keyed)(lo:Nat)(st:SortSt):Prop where
 kind:kindOf st=U
 ok:failedOf st=none
 perm:(arrOf st).Perm a0
 runs:jV O kf (arrOf st) (pendingOf st).toList 0 lo
theorem jV.same{xs:Array Keyed}:∀{p q:List Pd} {a b:Nat},p.map (λv=>(v.1,v.2.1))=q.map (λv=>(v.1,v.2.1))->jV O kf xs p a b->jV O kf xs q a b
 |[],[],_,_,_,h=>h
 | [],_::_,_,_,e,_=>by simp at e
 | _::_,[],_,_,e,_=>by simp at e
 | (s,n,w)::r,(s',n',w')::r',a,b,e,h=>by simp at e;let((rfl,rfl),e):=e;let(h1,h2,h3,h4):=h;exact{h1,h2,h3,jV.same (-e:) h4}
def Good.push{U:SortKind}{a0:Array Keyed}{lo n:Nat}{st:SortSt}(g:Good O kf U a0 lo st)(hs:Srt O kf (arrOf st) lo (lo+n))(hn:1<=n):Good O kf U a0 (lo+n) (setPending st ((pendingOf st).push (lo,n,0))):=
 ⟨g.kind,g.ok,g.perm,by show jV O kf (arrOf st) ((pendingOf st).push (lo,n,0)).toList 0 (lo+n);rw[Array.toList_push];exact jV.app.mpr ⟨lo,g.runs,rfl,hn,hs,rfl⟩⟩
def Good.pow{U:SortKind}{a0:Array Keyed}{lo:Nat}{st:SortSt}(g:Good O kf U a0 lo st)(pw:Nat):Good O kf U a0 lo (setPending st ((pendingOf st).modify ((pendingOf st).size - 1) λx=>(x.1,x.2.1,pw))):=
 ⟨g.kind,g.ok,g.perm,by
  show jV O kf (arrOf st) ((pendingOf st).modify ((pendingOf st).size - 1) λx=>(x.1,x.2.1,pw)).toList 0 lo;refine jV.same ?_ g.runs;rw[Array.toList_modify];apply List.ext_getElem?;intro k;rw[List.getElem?_map,List.getElem?_map,List.getElem?_modify]
  cases (pendingOf st).toList[k]? with
  |none=>simp
  |some v=>simp;split<;>exact⟨rfl,rfl⟩⟩
def Good.mem{U:SortKind}{a0:Array Keyed}{lo:Nat}{st:SortSt}(g:Good O kf U a0 lo st)(h:∀x∈a0.toList,G x):∀x∈(arrOf st).toList,G x:=λx hx=>h x ((Array.perm_iff_toList_perm.mp g.perm).mem_iff.mp hx)
def Good.size{U:SortKind}{a0:Array Keyed}{lo:Nat}{st:SortSt}(g:Good O kf U a0 lo st):(arrOf st).size=a0.size:=g.perm.size_eq
end
section
variable{M:Model}{A:Around}{E:PQ}{s:Shared}{O:KeyOrd}{kf:Keyed->O.α}{U:SortKind}{G:Keyed->Prop}{a0:Array Keyed}
def qbB(L:yC M A E s O kf U G)(h0:∀x∈a0.toList,G x){st:SortSt}{lo i:Nat}{Q:Bool->SortSt->Prop}(g:Good O kf U a0 lo st)(hlo:lo<=a0.size)(hi:i+1 < (pendingOf st).size)
  (h:∀st',Good O kf U a0 lo st'->(pendingOf st').size+1=(pendingOf st).size->(∀k,lo<=k->(arrOf st')[k]?=(arrOf st)[k]?)->Q true st'):wpS M A E s (mergeAt' i) Q st:=by
 let(pre,(sa,na,pw),(sb,nb,pw2),post,e,rfl,e1,e2):=qbA hi;have hr:=g.runs;rw[e]at hr;let(b,r1,rfl,pa,s1,r2,pb,s2,r3):=jV.app.mp hr;have l3:=jV.le r3;have hz:=g.size;refine qh9 L g.kind g.ok (g.mem h0) e1 e2 r2 pa pb (1:) (by rw[r2];exact s1) (by rw[r2]at s2 ⊢;exact s2) λxs gl o=>h _ ⟨g.kind,g.ok,o.perm.trans g.perm,?_⟩ ?_ (λk hk=>o.keep k (.inr (1:)))
 ·show jV O kf xs _ 0 lo;show jV O kf xs (((pendingOf st).setIfInBounds pre.length (sa,na+nb,pw)).eraseIdxIfInBounds (pre.length+1)).toList 0 lo;rw[JK e];subst r2;refine jV.app.mpr ⟨sa,r1.congr λt a b=>o.keep t (.inl b),rfl,by lia,?_,?_⟩
  ·have:=o.srt
   rwa[Nat.add_assoc]at this
  ·rw[<-Nat.add_assoc];exact r3.congr λt a b=>o.keep t (.inr a)
 ·show(((pendingOf st).setIfInBounds pre.length (sa,na+nb,pw)).eraseIdxIfInBounds (pre.length+1)).size+1=(pendingOf st).size;rw[<-Array.length_toList,JK e,<-Array.length_toList,e];simp
  lia
def qfI(L:yC M A E s O kf U G)(h0:∀x∈a0.toList,G x){st:SortSt}{Q:Unit->SortSt->Prop}(hk:kindOf st=U)(hf:failedOf st=none)(ha:arrOf st=a0)(hp:pendingOf st=#[])
  (h:∀st',(arrOf st').Perm a0->failedOf st'=none->Srt O kf (arrOf st') 0 a0.size->Q () st'):wpS M A E s sortRuns' Q st:=by
 rw[sortRuns'_eq];refine wpS_bind (wpS_get ?_);dsimp only;rw[ha];have g0:Good O kf U a0 0 st:={hk,hf,by rw[ha],by rw[hp];rfl}
 refine wpS_bind (wpS_mono (wpS_forRange
  (I:=λx c st'=>∃lo,c=(none,lo)/\lo<=a0.size/\x<=lo/\Good O kf U a0 lo st')
  (Q:=λc st'=>c=(none,a0.size)/\Good O kf U a0 a0.size st') ?step ?fin ⟨0,rfl,Nat.zero_le _,Nat.zero_le _,g0⟩) ?post)
 case fin=>
  rintro c st' ⟨lo,rfl,h1,h2,g⟩
  have:lo=a0.size:=by lia
  subst this;exact⟨rfl,g⟩
 case step=>
  rintro x c st' _ hx ⟨lo,rfl,h1,h2,g⟩;dsimp only
  by_cases hge:lo≥a0.size
  ·rw[if_pos hge]
   have:lo=a0.size:=by lia
   subst this;exact wpS_pure ⟨rfl,g⟩
  ·rw[if_neg hge];have hz:=g.size;refine wpS_bind (qkU L g.kind (g.mem h0) (1:) (1:) λm xs r m1 m2 im=>?_);dsimp only;have g1:Good O kf U a0 lo (setArr st' xs):={g.kind,g.ok,r.perm.trans g.perm,g.runs.congr λt _ b=>r.keep t b};have hz1:xs.size=a0.size:=r.size.trans hz
   by_cases hm:m < minRun' a0.size a0.size 0
   ·rw[if_pos hm];refine wpS_bind (wpS_lift (wpAny_rule ⟨rfl,?_⟩));refine wpS_bind (qh7 L (st:=setArr st' xs) g.kind (g1.mem h0) (by show _<=xs.size;lia) (1:) im λys r2 im2=>?_);simp![Bool.not_true,Bool.false_eq_true,if_false];have g2:Good O kf U a0 lo (setArr (setArr st' xs) ys):={g.kind,g.ok,r2.perm.trans g1.perm,g1.runs.congr λt _ b=>r2.keep t b};have s2:Srt O kf ys lo (lo+(min (a0.size - lo) (minRun' a0.size a0.size 0))):=im2.srt;have n1:1<=(min (a0.size - lo) (minRun' a0.size a0.size 0)):=by lia
    have n2:lo+(min (a0.size - lo) (minRun' a0.size a0.size 0))<=a0.size:=by lia
    refine wpS_bind (wpS_get ?_)
    cases hb:(pendingOf (setArr (setArr st' xs) ys)).back? with
    |none=>dsimp only;exact wpS_bind (wpS_modify (wpS_pure ⟨lo+(min (a0.size - lo) (minRun' a0.size a0.size 0)),rfl,n2,by lia,g2.push s2 n1⟩))
    |some v=>
     let(v1,v2,v3):=v;dsimp only
     refine wpS_bind (wpS_mono (wpS_forRange (I:=λ_ c st3=>c=(none,())/\Good O kf U a0 lo st3/\Srt O kf (arrOf st3) lo (lo+(min (a0.size - lo) (minRun' a0.size a0.size 0))))
      (Q:=λc st3=>c=(none,())/\Good O kf U a0 lo st3/\Srt O kf (arrOf st3) lo (lo+(min (a0.size - lo) (minRun' a0.size a0.size 0)))) ?_ (λ_ _ hh=>hh) ⟨rfl,g2,s2⟩) ?_)
     ·rintro y c st3 _ _ ⟨rfl,g3,s3⟩;refine wpS_bind (wpS_get ?_)
      by_cases hp:(pendingOf st3).size > 1
      ·rw[if_pos hp]
       cases hv:(pendingOf st3)[(pendingOf st3).size - 2]? with
       |none=>
        exfalso
        have:=Array.getElem?_eq_none_iff.mp hv
        lia
       |some u=>
        let(u1,u2,u3):=u;dsimp only
        by_cases ho:u3<=power' a0.size (2 * v1+v2) (2 * v1+v2+v2+(min (a0.size - lo) (minRun' a0.size a0.size 0))) a0.size
        ·rw[if_pos ho];exact wpS_pure ⟨rfl,g3,s3⟩
        ·rw[if_neg ho];refine wpS_bind (qbB L h0 g3 h1 (1:) λst4 g4 _ k4=>?_);simp![Bool.not_true,Bool.false_eq_true,if_false];exact wpS_pure ⟨rfl,g4,s3.congr λt a _=>k4 t a⟩
      ·rw[if_neg hp];exact wpS_pure ⟨rfl,g3,s3⟩
     ·rintro c st3 ⟨rfl,g3,s3⟩;dsimp only;exact wpS_bind (wpS_modify (wpS_bind (wpS_modify (wpS_pure ⟨lo+(min (a0.size - lo) (minRun' a0.size a0.size 0)),rfl,n2,by lia,(g3.pow _).push s3 n1⟩))))
   ·rw[if_neg hm];have g2:=g1;have s2:Srt O kf xs lo (lo+m):=im.srt;have n1:1<=m:=m1;have n2:lo+m<=a0.size:=by lia
    refine wpS_bind (wpS_get ?_)
    cases hb:(pendingOf (setArr st' xs)).back? with
    |none=>dsimp only;exact wpS_bind (wpS_modify (wpS_pure ⟨lo+m,rfl,n2,by lia,g2.push s2 n1⟩))
    |some v=>
     let(v1,v2,v3):=v;dsimp only
     refine wpS_bind (wpS_mono (wpS_forRange (I:=λ_ c st3=>c=(none,())/\Good O kf U a0 lo st3/\Srt O kf (arrOf st3) lo (lo+m))
      (Q:=λc st3=>c=(none,())/\Good O kf U a0 lo st3/\Srt O kf (arrOf st3) lo (lo+m)) ?_ (λ_ _ hh=>hh) ⟨rfl,g2,s2⟩) ?_)
     ·rintro y c st3 _ _ ⟨rfl,g3,s3⟩;refine wpS_bind (wpS_get ?_)
      by_cases hp:(pendingOf st3).size > 1
      ·rw[if_pos hp]
       cases hv:(pendingOf st3)[(pendingOf st3).size - 2]? with
       |none=>
        exfalso
        have:=Array.getElem?_eq_none_iff.mp hv
        lia
       |some u=>
        let(u1,u2,u3):=u;dsimp only
        by_cases ho:u3<=power' a0.size (2 * v1+v2) (2 * v1+v2+v2+m) a0.size
        ·rw[if_pos ho];exact wpS_pure ⟨rfl,g3,s3⟩
        ·rw[if_neg ho];refine wpS_bind (qbB L h0 g3 h1 (1:) λst4 g4 _ k4=>?_);simp![Bool.not_true,Bool.false_eq_true,if_false];exact wpS_pure ⟨rfl,g4,s3.congr λt a _=>k4 t a⟩
      ·rw[if_neg hp];exact wpS_pure ⟨rfl,g3,s3⟩
     ·rintro c st3 ⟨rfl,g3,s3⟩;dsimp only;exact wpS_bind (wpS_modify (wpS_bind (wpS_modify (wpS_pure ⟨lo+m,rfl,n2,by lia,(g3.pow _).push s3 n1⟩))))
 case post=>
  rintro c st1 ⟨rfl,g1⟩;dsimp only
  refine wpS_bind (wpS_mono (wpS_forRange (I:=λx c st2=>c=(none,())/\Good O kf U a0 a0.size st2/\((pendingOf st2).size<=1\/(pendingOf st2).size+x<=a0.size))
   (Q:=λc st2=>c=(none,())/\Good O kf U a0 a0.size st2/\(pendingOf st2).size<=1) ?_ ?_ ⟨rfl,g1,.inr ?_⟩) ?_)
  ·rintro x c st2 _ hx ⟨rfl,g2,hz⟩;refine wpS_bind (wpS_get ?_)
   by_cases hp:(pendingOf st2).size<=1
   ·rw[if_pos hp];exact wpS_pure ⟨rfl,g2,hp⟩
   ·rw[if_neg hp]
    have go:∀i,i+1 < (pendingOf st2).size->wpS M A E s (mergeAt' i) (λr st3=>r=true/\Good O kf U a0 a0.size st3/\(pendingOf st3).size+(x+1)<=a0.size) st2:=λi hi=>qbB L h0 g2 (Nat.le_refl _) hi λst3 g3 e3 _=>{rfl,g3,by lia}
    refine wpS_bind (wpS_mono (go _ ?_) λr st3 hr=>?_)
    ·have hite:∀(c:Prop) [Decidable c],(if c then (pendingOf st2).size - 2 - 1 else (pendingOf st2).size - 2)+1 < (pendingOf st2).size:=λc _=>by split<;>lia
     exact hite _
    ·let(rfl,g3,e3):=hr;simp![Bool.not_true,Bool.false_eq_true,if_false];exact wpS_pure ⟨rfl,g3,.inr e3⟩
  ·rintro c st2 ⟨rfl,g2,hz⟩;exact{rfl,g2,by lia}
  ·have:=jV.le g1.runs
   rw[Array.length_toList]at this
   lia
  ·rintro c st2 ⟨rfl,g2,hz⟩;dsimp only;refine wpS_pure (h st2 g2.perm g2.ok ?_);have hr:=g2.runs;have hl:(pendingOf st2).toList.length<=1:=by rw[Array.length_toList];exact hz
   match hq:(pendingOf st2).toList,hl,hr with
   |[],_,hr=>
    have hr:0=a0.size:=hr;intro i j x y _ _ hj
    lia
   |[(u1,u2,u3)],_,hr=>let(rfl,_,sr,e):=hr;have e:0+u2=a0.size:=e;rw[<-e];exact sr
end
section
variable{prog:Program}{w:World}{A:Around}{E:PQ}{s:Shared}{O:KeyOrd}{kf:Keyed->O.α}{U:SortKind}
def qbC(s s1:Shared):Prop:=∀b o,s.heap.get? b=some o->s1.heap.get? b=some o
structure Sorts(prog:Program)(w:World)(s:Shared)(vs:List Value)(O:KeyOrd)(kf:Keyed->O.α)(U:SortKind):Prop where
 kind:2<=vs.length->∀(A:Around) (E:PQ) (s1:Shared) (Q:SortKind->Shared->Prop),qbC s s1->Q U s1->wpAny (model prog w) A (keyKind' vs.toArray) Q E s1
 lt:∀(A:Around) (E:PQ) (s1:Shared),qbC s s1->yC (model prog w) A E s1 O kf U (λx=>x∈(pairsOf vs).toList)
def qfJ{s0:Shared}{a:Addr}{vs:List Value}{n:Nat}{P:PySem.Fin->Shared->Prop}(S:Sorts prog w s0 vs O kf U)(ho:s.heap.get? a=some (seqObj "list" vs.toArray n))(hsz:vs.length<=sizeLine)
  (hg:∀b o,s0.heap.get? b=some o->s.heap.get? b=some o/\b≠a)
  (h:∀st':SortSt,(arrOf st').Perm (pairsOf vs)->Srt O kf (arrOf st') 0 (pairsOf vs).size->P (.done (.ret .none)) { s with heap:=sortedHeap s.heap a vs ((arrOf st').map (·.2)) }) :
  wpAny (model prog w) A (Builtin.«list.sort» ⟨[.ref a],[]⟩) P E s:=by
 rw[list_sort_plain];have ha:a < s.heap.objs.size:=Heap.lt_size ho;have hv:vs.toArray.size=vs.length:=by simp
 refine wpAny_bind (listItems_at ho rfl (wpAny_bind (listUpdate_at ho rfl ?_ (by rw[hv];exact hsz) (Nat.zero_le _))));let(n1,ho1):∃n1,(s.heap.update a (Obj.mapSeq λ_=>#[])).get? a=some (seqObj "list" #[] n1):={_,get?_update_seq ho (λ_=>#[])};refine wpAny_bind (seqEpoch_at ho1 rfl (wpAny_bind (wpAny_newTuple ?_ (-hsz:))));refine wpAny_bind (wpAny_newList (wpAny_holding ?_) (Nat.zero_le _));generalize hh:(((s.heap.update a (Obj.mapSeq λ_=>#[])).push (seqObj "tuple" vs.toArray 0)).push (seqObj "list" #[] 0))=h6
 have ho6:h6.get? a=some (seqObj "list" #[] n1):=by rw[<-hh];exact Heap.get?_push_of_some _ (Heap.get?_push_of_some _ ho1)
 have grown:qbC s0 { s with heap:=h6 }:=λb o e=>by let(e1,ne):=hg b o e;show h6.get? b=some o;rw[<-hh];exact Heap.get?_push_of_some _ (Heap.get?_push_of_some _ (by rw[Heap.get?_update_ne _ _ _ _ ne];exact e1))
 have fin:∀st':SortSt,(arrOf st').Perm (pairsOf vs)->Srt O kf (arrOf st') 0 (pairsOf vs).size->P (.done (.ret .none)) { s with heap:=h6.update a (Obj.mapSeq λ_=>(arrOf st').map (·.2)) }:=λst' a1 a2=>by
  have:=h st' a1 a2
  unfold sortedHeap at this;rw[hh]at this;exact this
 have small:∀st':SortSt,(arrOf st').Perm (pairsOf vs)->((arrOf st').map (·.2)).size<=sizeLine+1:=λst' hp=>by
  rw[Array.size_map,hp.size_eq,pairsOf_size]
  lia
 show wpAny (model prog w) A _ P E { s with heap:=h6 };dsimp only
 by_cases h2:vs.toArray.size < 2
 ·rw[if_pos h2,if_pos h2];refine wpAny_bind (wpAny_pure ?_);rw[StateT.run_pure];refine wpAny_bind (wpAny_pure ?_);dsimp only;refine wpAny_bind (seqEpoch_at ho6 rfl ?_);refine wpAny_bind (listUpdate_at ho6 rfl ?_ (Nat.zero_le _) (small (SortSt.mk' general' (vs.toArray.zip vs.toArray) #[] 7 none) (Array.Perm.refl _)));simp![bne_self_eq_false,Bool.false_eq_true,if_false];refine wpAny_pure (fin (SortSt.mk' general' (vs.toArray.zip vs.toArray) #[] 7 none) (Array.Perm.refl _) ?_);intro i j x y _ b c d e
  have:i=j:=by rw[pairsOf_size]at c;lia
  subst this;rw[d]at e;cases e;exact KeyOrd.kle_refl _
 ·rw[if_neg h2,if_neg h2];refine wpAny_bind (S.kind (1:) A E _ _ grown ?_)
  refine wpAny_bind (wpAny_mono (qfI (S.lt A E _ grown) (a0:=pairsOf vs) (st:=SortSt.mk' U (vs.toArray.zip vs.toArray) #[] 7 none) (λx hx=>hx) rfl rfl rfl rfl
   (Q:=λ_ st'=>(arrOf st').Perm (pairsOf vs)/\failedOf st'=none/\Srt O kf (arrOf st') 0 (pairsOf vs).size) λst' a1 a2 a3=>⟨a1,a2,a3⟩) ?_ λ_ _ e=>e)
  rintro⟨⟨⟩,st'⟩ s' ⟨rfl,hp,hf,hs⟩;dsimp only;refine wpAny_bind (seqEpoch_at ho6 rfl (wpAny_bind (listUpdate_at ho6 rfl ?_ (Nat.zero_le _) (small st' hp))));rw[hf];simp![bne_self_eq_false,Bool.false_eq_true,if_false];exact wpAny_pure (fin st' hp hs)
def qaD{l:Addr}{vs:List Value}{Q:PQ}(S:Sorts prog w s vs O kf U)(hl:s.heap.IsList l vs.toArray)(hsz:vs.length<=sizeLine)
  (h:∀st':SortSt,(arrOf st').Perm (pairsOf vs)->Srt O kf (arrOf st') 0 (pairsOf vs).size->Q (.ref (s.heap.objs.size+1)) { s with heap:=sortedAll s.heap vs ((arrOf st').map (·.2)) }) :
  wpAny (model prog w) A (call (.builtin "sorted") [.ref l]) Q E s:=by
 refine Calls.call_function_entry kind_sorted plain_sorted entry_sorted (args_sorted1 _) ?_;unfold Builtin.«sorted»;refine wpAny_bind (m:=checkCount "sorted" 1 1 _) (wpAny_pure (wpAny_bind (collect_list hl ?_ hsz)));refine wpAny_bind (wpAny_newList ?_ hsz);have hz:((s.heap.push (seqObj "list" #[] 0)).update s.heap.objs.size (Obj.mapSeq (· ++ vs.toArray))).objs.size=s.heap.objs.size+1:=by rw[Heap.size_update,size_push']
 show wpAny _ _ _ _ _ { s with heap:=((s.heap.push (seqObj "list" #[] 0)).update s.heap.objs.size (Obj.mapSeq (· ++ vs.toArray))).push (seqObj "list" vs.toArray 0) };rw[hz];generalize hh:((s.heap.push (seqObj "list" #[] 0)).update s.heap.objs.size (Obj.mapSeq (· ++ vs.toArray))).push (seqObj "list" vs.toArray 0)=h6
 have hoL:h6.get? (s.heap.objs.size+1)=some (seqObj "list" vs.toArray 0):=by rw[<-hh,<-hz];exact Heap.get?_push_size _ rfl
 have old:∀b o,s.heap.get? b=some o->h6.get? b=some o/\b≠s.heap.objs.size+1:=λb o e=>by have hlt:b < s.heap.objs.size:=Heap.lt_size e;refine{?_,Nat.ne_of_lt (Nat.lt_succ_of_lt hlt)};rw[<-hh];refine Heap.get?_push_of_some _ ?_;rw[Heap.get?_update_ne _ _ _ _ (Nat.ne_of_lt hlt)];exact Heap.get?_push_of_some _ e
 have hr:∀st':SortSt,(arrOf st').Perm (pairsOf vs)->Srt O kf (arrOf st') 0 (pairsOf vs).size->Q (.ref (s.heap.objs.size+1)) { s with heap:=sortedHeap h6 (s.heap.objs.size+1) vs ((arrOf st').map (·.2)) }:=λst' a1 a2=>by
  have:=h st' a1 a2
  unfold sortedAll at this;rw[hh]at this;exact this
 refine wpAny_bind (wpAny_holding (wpAny_call_entry slot_list_sort ⟨_,hoL,rfl⟩ entry_list_sort (qfJ S hoL hsz old λst' a1 a2=>{_,rfl,?_}) (args_list_sort _)));exact wpAny_pure ⟨_,rfl,hr st' a1 a2⟩
end
def pO:KeyOrd where
 α:=Int×Int
 blt p q:=decide (p.1 < q.1)||(decide (p.1=q.1)&&decide (p.2 < q.2))
 irrefl a:=by simp
 trans a b c h1 h2:=by
  simp at h1 h2 ⊢
  lia
 negTrans a b c h:=by
  simp at h ⊢
  lia
 total a b h1 h2:=by
  let(a1,a2):=a;let(b1,b2):=b;simp at h1 h2;have e1:a1=b1:=by lia
  subst e1;have e2:a2=b2:=by lia
  rw[e2]
def nOf:Value->Int
 |.int n _=>n
 |_=>0
def jB(h:Heap)(v:Value):Int×Int:=match v with
 |.ref a=>match h.get? a with
  |some o=>match o.data with
   |.seq xs _=>(nOf (xs.getD 0 .none),nOf (xs.getD 1 .none))
   |_=>(0,0)
  |none=>(0,0)
 |_=>(0,0)
def ZN(h:Heap)(v:Value)(p:Int×Int):Prop:=∃a t u,v=.ref a/\IsTup h a #[.int p.1 t,.int p.2 u]
def ZN.pair{h:Heap}{v:Value}{p:Int×Int}(e:ZN h v p):jB h v=p:=by let(a,t,u,rfl,o,ho,hc,n,hd):=e;unfold jB;simp![ho,hd];rfl
def ZN.grow{s s1:Shared}{v:Value}{p:Int×Int}(e:ZN s.heap v p)(g:qbC s s1):ZN s1.heap v p:=by let(a,t,u,rfl,o,ho,hc,n,hd):=e;exact{a,t,u,rfl,o,g a o ho,hc,n,hd}
section
variable{prog:Program}{w:World}{A:Around}{E:PQ}{s:Shared}
def qia{x y:Value}{p q:Int×Int}{Q:Bool->Shared->Prop}(hx:ZN s.heap x p)(hy:ZN s.heap y q)(h:Q (pO.blt p q) s):wpAny (model prog w) A (keyLt' (tuples' true) x y) Q E s:=by
 let(a,t,u,rfl,o,ho,hc,n,hd):=hx;let(b,t',u',rfl,o',ho',hc',n',hd'):=hy;refine PySem.W.kat_lt ho hd ho' hd' ?_;show PySem.W.KatLex prog w A true _ Q [(.int p.1 t,.int q.1 t'),(.int p.2 u,.int q.2 u')] 0 s;refine PySem.W.kat_cons (wpAny_eqBool_int ?_)
 by_cases e1:p.1=q.1
 ·rw[show(p.1 == q.1)=true by simpa using e1];refine PySem.W.kat_yes (PySem.W.kat_cons (wpAny_eqBool_int ?_))
  by_cases e2:p.2=q.2
  ·rw[show(p.2 == q.2)=true by simpa using e2];refine PySem.W.kat_yes (PySem.W.kat_nil ?_)
   have:pO.blt p q=false:=by unfold pO;simp[e1,e2]
   rw[this]at h;exact h
  ·rw[show(p.2 == q.2)=false by simpa using e2];refine PySem.W.kat_no (PySem.W.kat_one _ _ (lt_int ?_))
   have:pO.blt p q=decide (p.2 < q.2):=by unfold pO;simp[e1]
   rw[this]at h;exact h
 ·rw[show(p.1 == q.1)=false by simpa using e1];refine PySem.W.kat_no ?_
  have:pO.blt p q=decide (p.1 < q.1):=by unfold pO;simp[e1]
  rw[this]at h;exact oneLt_int h
theorem qfK{vs:List Value}{ps:List (Int×Int)}(h:Paired (ZN s.heap) vs ps):∃fs,PySem.W.KatTups s.heap vs fs/\fs.length=vs.length/\∀v∈fs,∃n t,v=Value.int n t:=by
 induction h with
 |nil=>exact{[],trivial,rfl,λ_ h=>by cases h}
 |cons r rs ih=>
  let(a,t,u,rfl,o,ho,hc,n,hd):=r;let(fs,h1,h2,h3):=ih;refine{_::fs,PySem.W.KatTups.cons ho hc hd rfl h1,by simp[h2],λv hv=>?_};rcases List.mem_cons.mp hv with rfl|hv
  ·exact{_,_,rfl}
  ·exact h3 v hv
def Qb{vs:List Value}{x:Keyed}(h:x∈(pairsOf vs).toList):x.1=x.2/\x.1∈vs:=by rw[pairsOf_toList]at h;exact mem_zip_self h
theorem Paired.at_mem{α M:Type}{R:α->M->Prop}{l:List α}{m:List M}(h:Paired R l m):∀a∈l,∃b∈m,R a b:=by
 induction h with
 |nil=>intro a h;cases h
 |cons r rs ih=>
  intro a h;rcases List.mem_cons.mp h with rfl|h
  ·exact{_,List.mem_cons_self,r}
  ·let(b,hb,q):=ih a h;exact{b,List.mem_cons_of_mem _ hb,q}
theorem Paired.grow2{s s1:Shared}(g:qbC s s1):∀{vs:List Value} {ps:List (Int×Int)},Paired (ZN s.heap) vs ps->Paired (ZN s1.heap) vs ps
 |_,_,.nil=>.nil
 |_,_,.cons r rs=>.cons (r.grow g) (Paired.grow2 g rs)
def qbD{vs:List Value}{ps:List (Int×Int)}(h:Paired (ZN s.heap) vs ps):Sorts prog w s vs pO (λx=>jB s.heap x.1) (tuples' true) where
 kind:=λh2 A E s1 Q g q=>by let(fs,t1,t2,t3):=qfK (Paired.grow2 g h);refine PySem.W.kat_kind t1 (1:) (T:=Value.type "int") (λv hv=>?_) rfl q;let(n,t,rfl):=t3 v hv;exact .now
 lt:=λA E s1 g x y hx hy st Q hk q=>by let(p,_,hp):=Paired.at_mem h _ (Qb hx).2;let(p',_,hp'):=Paired.at_mem h _ (Qb hy).2;have q:Q (some (pO.blt (jB s.heap x.1) (jB s.heap y.1))) st:=q;rw[hp.pair,hp'.pair]at q;rw[lt'_eq];refine wpS_bind (wpS_get ?_);rw[hk];refine wpS_bind (wpS_lift (wpAny_attempt (qia (hp.grow g) (hp'.grow g) ⟨rfl,?_⟩)));exact wpS_pure q
end
theorem Paired.perm{α M:Type}{R:α->M->Prop}{us us':List M}(p:us'.Perm us):∀{xs:List α},Paired R xs us->∃xs',xs'.Perm xs/\Paired R xs' us':=by
 induction p with
 |nil=>exactλ{xs} h=>{xs,List.Perm.refl _,h}
 |cons x _ ih=>
  intro xs h
  cases h with
  |cons r rs=>let(xs',h1,h2):=ih rs;exact{_::xs',h1.cons _,.cons r h2}
 |swap x y l=>
  intro xs h
  cases h with
  |cons r rs=>
   cases rs with
   | cons r' rs=>exact{_::_::_,List.Perm.swap ..,.cons r' (.cons r rs)}
 |trans _ _ ih1 ih2=>intro xs h;let(x1,h1,h2):=ih2 h;let(x2,h3,h4):=ih1 h2;exact{x2,h3.trans h1,h4}
end TS
namespace L2
open PySem PySem.Spec PyProof.Rows
def P2(K:Frag)(H:Hp)(v:V)(p:Int×Int):Prop:=∃a,v=.ref a/\H a=some (.tup [.int p.1,.int p.2])
def qbE(p q:Int×Int):Prop:=p.1 < q.1\/(p.1=q.1/\p.2<=q.2)
section
variable{X:Cx}
def P2.raw{pins:PP}{Z:St}{H:Hp}{s:Shared}{v:V}{u:Value}{p:Int×Int}(I:Inv X pins Z H s)(h:P2 X.K H v p)(r:qH v u):TS.ZN s.heap u p:=by let(a,rfl,hq):=h;obtain rfl:u=Value.ref a:=r;let(its,rv,pl,_):=I.tuple (SqT.of hq);let(u1,u2,rfl,(t1,rfl),(t2,rfl)):=QV rv;exact⟨a,t1,t2,rfl,pl⟩
def Qc:zy X (.builtin "sorted") (λvs H Q=>∃p xs ps,vs=[.ref p]/\SqL X.K H p xs/\Paired (P2 X.K H) xs ps/\
  ∀l ys qs,H l=none->Paired (P2 X.K H) ys qs->ys.Perm xs->qs.Perm ps->qs.Pairwise qbE->Q (.ref l) (upd H l (.lst ys))):=by
 intro pins s Z H xs us Q I r h;let(p,xs,ps,rfl,hq,hp,q):=h;let(u,rfl,rx):=YT r;cases rx;let(its,rv,pl,hz):=I.list hq;have hlen:=rv.length
 have three:∀{xs:List V} {its:List Value} {ps:List (Int×Int)},qD xs its->Paired (P2 X.K H) xs ps->Paired (λ(z:V×(Int×Int)) u=>qH z.1 u/\P2 X.K H z.1 z.2/\TS.ZN s.heap u z.2) (xs.zip ps) its/\Paired (TS.ZN s.heap) its ps/\xs.length=ps.length:=by
  intro xs its ps a b
  induction a generalizing ps with
  |nil=>cases b;exact{.nil,.nil,rfl}
  |cons r rs ih=>
   cases b with
   |cons b bs=>let(i1,i2,i3):=ih bs;have t:=P2.raw I b r;exact{.cons ⟨r,b,t⟩ i1,.cons t i2,by simp[i3]}
 let(t1,t2,t3):=three rv hp;refine TS.qaD (TS.qbD t2) pl.isList (1:) λst' pm sr=>?_
 have hl:(arrOf st').toList.Perm (its.zip its):=by
  have:=Array.perm_iff_toList_perm.mp pm
  rwa[pairsOf_toList]at this
 have hout:((arrOf st').map (·.2)).toList.Perm its:=by
  rw[Array.toList_map]
  have:=hl.map (·.2)
  rwa[List.map_snd_zip (Nat.le_refl _)]at this
 let(zs,z1,z2):=TS.Paired.perm hout t1
 have hys:(zs.map (·.1)).Perm xs:=by
  have:=z1.map (·.1)
  rwa[List.map_fst_zip (1:)]at this
 have hqs:(zs.map (·.2)).Perm ps:=by
  have:=z1.map (·.2)
  rwa[List.map_snd_zip (1:)]at this
 have hv:qD (zs.map (·.1)) ((arrOf st').map (·.2)).toList:=by
  clear z1 hys hqs;generalize ((arrOf st').map (·.2)).toList=ol at z2
  induction z2 with
  |nil=>exact .nil
  |cons r _ ih=>exact .cons r.1 ih
 have hP:Paired (P2 X.K H) (zs.map (·.1)) (zs.map (·.2)):=by
  clear z1 hys hqs hv;generalize ((arrOf st').map (·.2)).toList=ol at z2
  induction z2 with
  |nil=>exact .nil
  |cons r _ ih=>exact .cons r.2.1 ih
 have hkeys:((arrOf st').map (·.2)).toList.map (TS.jB s.heap)=zs.map (·.2):=by
  clear z1 hys hqs hv hP;generalize ((arrOf st').map (·.2)).toList=ol at z2
  induction z2 with
  |nil=>rfl
  |cons r _ ih=>rw[List.map_cons,List.map_cons,ih,r.2.2.pair]
 have hsrt:(zs.map (·.2)).Pairwise qbE:=by
  rw[<-hkeys,Array.toList_map,List.map_map];have h0:(arrOf st').size=(pairsOf its).size:=pm.size_eq;rw[<-h0]at sr
  have:=sr.pw
  refine List.pairwise_map.mpr ?_;refine List.Pairwise.imp_of_mem (λ{a b} ha hb hab=>?_) this;have ea:=(mem_zip_self (hl.mem_iff.mp ha)).1;have eb:=(mem_zip_self (hl.mem_iff.mp hb)).1;have hab:TS.pO.blt (TS.jB s.heap b.1) (TS.jB s.heap a.1)=false:=hab;rw[ea,eb]at hab;unfold TS.pO at hab;simp at hab;show qbE (TS.jB s.heap a.2) (TS.jB s.heap b.2);unfold qbE
  lia
 let(e,he):=sortedAll_at s.heap its ((arrOf st').map (·.2));have hz2:(zs.map (·.1)).length<=sizeLine:=by rw[hys.length_eq];exact hz
 refine{.ref (s.heap.objs.size+1),_,I.laid (t':=s.toks) (λb o eb=>sortedAll_old eb) (Nat.le_succ _) (show qQ X.prog X.w _ _ _ (.lst (zs.map (·.1))) from{hz2,_,e,hv,?_}),rfl,q _ _ _ (I.hok.fresh (Nat.le_succ _)) hP hys hqs hsrt};rw[Array.toArray_toList];exact he
end
def zh(env:Env)(ns:List (Str×NameKind))(acc:List (Str×Addr)):List (Str×Addr):=ns.foldl (λcs x=>if x.2 == .free then (x.1,(env.cells.lookup x.1).getD 0)::cs else cs) acc
theorem qev{env:Env}:∀(ns:List (Str×NameKind)) (acc:List (Str×Addr)),(∀x∈ns,x.2=.free->∃c,env.cells.lookup x.1=some c)->
  (forIn ns acc λ(x:Str×NameKind) (cs:List (Str×Addr))=>(match x with |(name,kind)=>if kind == .free then (do let c<-cellOf env name;pure (ForInStep.yield ((name,c)::cs)):Sem (ForInStep (List (Str×Addr)))) else pure (ForInStep.yield cs)))=(pure (zh env ns acc):Sem (List (Str×Addr)))
 |[],acc,_=>by rw[List.forIn_nil];rfl
 | (n,k)::r,acc,h=>by
  rw[List.forIn_cons];have hr:=qev (env:=env) r
  by_cases hk:k=.free
  ·subst hk;let(c,hc):=h (n,.free) List.mem_cons_self rfl;have e1:cellOf env n=pure c:=by unfold cellOf;rw[hc]
   simp![beq_self_eq_true,if_true,e1,pure_bind];rw[hr _ λx hx=>h x (List.mem_cons_of_mem _ hx)];unfold zh;simp[hc]
  ·have hb:(k == NameKind.free)=false:=(-hk:)
   simp![hb,Bool.false_eq_true,if_false,pure_bind];rw[hr _ λx hx=>h x (List.mem_cons_of_mem _ hx)];unfold zh;rw[List.foldl_cons];simp![hb,Bool.false_eq_true,if_false]
def qew{env:Env}{scope:Scope}(h:∀x∈scope.names,x.2=.free->∃c,env.cells.lookup x.1=some c):closureFor scope env=pure (zh env scope.names []):=by
 unfold closureFor
 have:=qev scope.names [] h
 simp![bind_pure_comp]at this;simp![bind_pure_comp,id_map',this];rfl
theorem qbF{env:Env}:∀(ns:List (Str×NameKind)) (acc:List (Str×Addr)),(∀x∈ns,x.2=.free->∃c,env.cells.lookup x.1=some c)->(∀x c,acc.lookup x=some c->env.cells.lookup x=some c)->
  ∀x c,(zh env ns acc).lookup x=some c->env.cells.lookup x=some c
 |[],_,_,h=>h
 | (n,k)::r,acc,hf,h=>by
  have ih:=qbF (env:=env) r (if k == .free then (n,(env.cells.lookup n).getD 0)::acc else acc) (λx hx=>hf x (List.mem_cons_of_mem _ hx)) (λx c e=>by
   by_cases hk:k=.free
   ·subst hk;simp![beq_self_eq_true,if_true]at e;let(c',hc):=hf (n,.free) List.mem_cons_self rfl;rw[List.lookup_cons]at e
    by_cases hx:x=n
    ·subst hx;simp[hc]at e;rw[hc,e]
    ·rw[show(x == n)=false by simpa using hx]at e;exact h x c e
   ·rw[show(k == NameKind.free)=false by simpa using hk]at e;exact h x c e)
  exact ih
def j3{env:Env}{ns:List (Str×NameKind)}(h:∀x∈ns,x.2=.free->∃c,env.cells.lookup x.1=some c):∀x c,(zh env ns []).lookup x=some c->env.cells.lookup x=some c:=qbF ns [] h λ_ _ e=>by cases e
theorem J9{env:Env}:∀(ns:List (Str×NameKind)) (acc:List (Str×Addr)) (x:Str) (c:Addr),acc.lookup x=some c->∃c,(zh env ns acc).lookup x=some c
 |[],_,_,c,h=>⟨c,h⟩
 | (n,k)::r,acc,x,c,h=>by
  show∃c,(zh env r (if k == .free then (n,(env.cells.lookup n).getD 0)::acc else acc)).lookup x=some c
  by_cases hk:k=.free
  ·subst hk;simp![beq_self_eq_true,if_true]
   by_cases hx:x=n
   ·subst hx;exact J9 r _ x ((env.cells.lookup x).getD 0) (by rw[List.lookup_cons];simp)
   ·exact J9 r _ x c (by rw[List.lookup_cons,show(x == n)=false by simpa using hx];exact h)
  ·rw[show(k == NameKind.free)=false by simpa using hk];exact J9 r _ x c h
theorem Q5{env:Env}:∀(ns:List (Str×NameKind)) (acc:List (Str×Addr)) (x:Str),(x,NameKind.free)∈ns->∃c,(zh env ns acc).lookup x=some c
 | (n,k)::r,acc,x,h=>by
  show∃c,(zh env r (if k == .free then (n,(env.cells.lookup n).getD 0)::acc else acc)).lookup x=some c;rcases List.mem_cons.mp h with e|h
  ·injection e with e1 e2;subst e1 e2;simp![beq_self_eq_true,if_true];exact J9 r _ x ((env.cells.lookup x).getD 0) (by rw[List.lookup_cons];simp)
  ·exact Q5 r _ x h
theorem yM{env:Env}:∀{names:List (Str×NameKind)} {x:Str},names.lookup x=some .free->
  (names.map λ(n,k)=>if (k == NameKind.free&&env.scope.kind == .function&&env.kindOf n == some .cell) then (n,NameKind.cell) else (n,k)).lookup x=some .cell\/
  (names.map λ(n,k)=>if (k == NameKind.free&&env.scope.kind == .function&&env.kindOf n == some .cell) then (n,NameKind.cell) else (n,k)).lookup x=some .free
 |[],_,h=>by simp at h
 | (n,k)::r,x,h=>by
  simp![List.map_cons]
  by_cases hx:x=n
  ·subst hx;simp[List.lookup_cons]at h;subst h
   by_cases hc:(NameKind.free == NameKind.free&&env.scope.kind == .function&&env.kindOf x == some .cell)=true
   ·rw[if_pos hc];left;simp[List.lookup_cons]
   ·rw[if_neg hc];right;simp[List.lookup_cons]
  ·have hb:(x == n)=false:=(-hx:)
   rw[List.lookup_cons,hb]at h;have ih:=yM (env:=env) h
   by_cases hc:(k == NameKind.free&&env.scope.kind == .function&&env.kindOf n == some .cell)=true
   ·rw[if_pos hc];simp![List.lookup_cons,hb];exact ih
   ·rw[if_neg hc];simp![List.lookup_cons,hb];exact ih
theorem qbG{env:Env}:∀{names:List (Str×NameKind)} {x:Str} {k':NameKind},(names.map λ(n,k)=>if (k == NameKind.free&&env.scope.kind == .function&&env.kindOf n == some .cell) then (n,NameKind.cell) else (n,k)).lookup x=some k'->
  k'=.cell\/k'=.free->(x,NameKind.free)∈names\/(x,NameKind.cell)∈names
 |[],_,_,h,_=>by simp at h
 | (n,k)::r,x,k',h,hk=>by
  simp![List.map_cons]at h
  by_cases hx:x=n
  ·subst hx
   by_cases hc:(k == NameKind.free&&env.scope.kind == .function&&env.kindOf x == some .cell)=true
   ·have:k=.free:=by simp at hc;exact hc.1.1
    subst this;exact .inl List.mem_cons_self
   ·rw[if_neg hc]at h;simp[List.lookup_cons]at h;subst h;rcases hk with rfl|rfl
    ·exact .inr List.mem_cons_self
    ·exact .inl List.mem_cons_self
  ·have hb:(x == n)=false:=(-hx:)
   have ih:=qbG (env:=env) (names:=r) (x:=x) (k':=k') (by
    by_cases hc:(k == NameKind.free&&env.scope.kind == .function&&env.kindOf n == some .cell)=true
    ·rw[if_pos hc]at h;simp![List.lookup_cons,hb]at h;exact h
    ·rw[if_neg hc]at h;simp![List.lookup_cons,hb]at h;exact h) hk
   exact ih.imp (List.mem_cons_of_mem _) (List.mem_cons_of_mem _)
def blk(X:Cx)(N:List Str)(scope:Scope)(cl:List (Str×Addr))(C:Addr)(fp:List Addr)(s2:Shared)(H2:Hp):Cx:=
 { X with N:=N,s₀:=s2,Hv:=H2,env:=compEnvC scope cl C X.env,outer:=X.stack,stack:=X.stack,ex:=fp,fn:=λ_=>false,pn:=[],xe:=λ_ _=>False }
structure BlkScope(X:Cx)(own:List Str)(fr:List Nat)(scope:Scope):Prop where
 kind:scope.kind=.function
 nocell:∀x∈scope.names,x.2≠.cell
 names:∀x∈scope.names,x.2=.local->scope.names.lookup x.1=some .local
 free:∀x∈scope.names,x.2=.free->X.env.kindOf x.1=some .cell\/X.env.kindOf x.1=some .free
 look:∀i∈fr,scope.names.lookup (X.N.getD i "")=some .free
def yn(X:Cx)(own:List Str)(fr:List Nat):List Str:=own++fr.map λi=>X.N.getD i ""
def JE(own:List Str)(fr:List Nat)(Z:St):St:=(own.map λ_=>none)++fr.map λi=>(Z[i]?).join
section
variable{X:Cx}{pins:PP}{Z:St}{H:Hp}{s:Shared}{own:List Str}{fr:List Nat}{scope:Scope}
abbrev qa0(its:List Value)(n:Nat):Obj:={ cls:=.type "list",data:=.seq its.toArray n }
def qib{C:Addr}{fp:List Addr}(B:BlkScope X own fr scope)(I:Inv X pins Z H s)(hf:∀b∈fp,qaq X pins H b)(hfo:∀b∈fp,b < s.heap.objs.size)(hC:s.heap.objs.size<=C) :
  (blk X (yn X own fr) scope (zh X.env scope.names []) C fp s H).Ok where
 mod:=I.ok.mod
 kind:=B.kind
 glob:=I.ok.glob
 blt:=I.ok.blt
 above:=hC
 inj:=λx y c h1 h2=>I.ok.inj x y c (j3 (λz hz e=>I.ok.has _ (B.free z hz e)) x c h1) (j3 (λz hz e=>I.ok.has _ (B.free z hz e)) y c h2)
 has:=λx h=>by
  have h':(x,NameKind.free)∈scope.names\/(x,NameKind.cell)∈scope.names:=by
   rcases h with h|h
   ·exact qbG (env:=X.env) h (.inl rfl)
   ·exact qbG (env:=X.env) h (.inr rfl)
  rcases h' with h'|h'
  ·exact Q5 _ _ _ h'
  ·exact absurd rfl (B.nocell _ h')
 cab:=λx c h=>nomatch h
 hd:=I.ok.hd
 frames:=I.ok.frames
 stk:=.inl rfl
 exf:=λb hb=>{Nat.ne_of_lt (Nat.lt_of_lt_of_le (hfo b hb) hC),λx c e=>(hf b hb).2.2.2.2.1 x c (j3 (λz hz e=>I.ok.has _ (B.free z hz e)) x c e)}
 bs:=I.bs
 bsz:=Nat.le_trans I.ok.bsz I.sz
 noex:=λb o e hb=>by
  rcases (hf b hb).2.2.2.1 with z|z
  ·exact I.ok.noex b o e z
  ·exact absurd (Nat.lt_of_lt_of_le (Heap.lt_size (I.ok.bs b o e).1) z) (Nat.lt_irrefl _)
 exfs:=λb hb z=>by
  rcases List.mem_cons.mp (I.stkSub b z) with e|e
  ·exact(hf b hb).2.1 e
  ·exact(hf b hb).2.2.1 e
 funs:=I.stack
 frf:=I.stkFree
def qbH{C D:Addr}{fp:List Addr}{h4:Heap}{tk:Nat}{n:Nat}(B:BlkScope X own fr scope)(I:Inv X pins Z H s)(hf:∀b∈fp,qaq X pins H b)(hfo:∀b∈fp,b < s.heap.objs.size)(hC:s.heap.objs.size<=C)(hD:s.heap.objs.size<=D)(hDC:D≠C)
  (k:∀b o,s.heap.get? b=some o->h4.get? b=some o) (hn:h4.Ns C λ_=>none) (hl:h4.get? D=some (qa0 [] n)) :
  Inv (blk X (yn X own fr) scope (zh X.env scope.names []) C fp s H) [(D,qa0 [] n)] (JE own fr Z) H { s with heap:=h4,toks:=tk }:=by
 have sub:=j3 (env:=X.env) (ns:=scope.names) (λz hz e=>I.ok.has _ (B.free z hz e));refine{qib B I hf hfo hC,rfl,I.bare,Un.kept k,{_,hn,λi x v h1 h2 h3=>?_},λx c e=>?_,I.hok.fresh hC,λx c e=>I.freeC x c (sub x c e),λp hp=>?_,I.hok.kept k,?_}
 ·have h1:(yn X own fr)[i]?=some x:=h1;unfold yn at h1;unfold JE at h2
  by_cases hi:i < own.length
  ·rw[List.getElem?_append_left (-hi:),List.getElem?_map]at h2
   cases q:own[i]? with
   |none=>rw[q]at h2;cases h2
   |some a=>rw[q]at h2;cases h2
  ·rw[List.getElem?_append_right (-hi:),List.getElem?_map]at h2;rw[List.getElem?_append_right (-hi:),List.getElem?_map]at h1;rw[List.length_map]at h2
   cases q:fr[i - own.length]? with
   |none=>rw[q]at h2;cases h2
   |some j=>
    rw[q]at h1 h2;have h1:X.N.getD j "" = x:=Option.some.inj h1;have h2:(Z[j]?).join=some v:=Option.some.inj h2
    have h2':Z[j]?=some (some v):=by
     cases w:Z[j]? with
     |none=>rw[w]at h2;cases h2
     |some y=>rw[w]at h2;cases y with
      |none=>cases h2
      |some y=>cases h2;rfl
    have hjl:j < X.N.length:=by rw[<-I.len];exact(List.getElem?_eq_some_iff.mp h2').1
    have hN:X.N[j]?=some x:=by rw[<-h1,List.getElem?_eq_getElem hjl];simp[hjl]
    have hfree:scope.names.lookup x=some .free:=by rw[<-h1];exact B.look j (List.mem_of_getElem? q)
    have hk:=B.free (x,.free) (PySem.mem_of_lookup hfree) rfl;let(m,_,hloc):=I.loc
    let(u,r,l):=hloc j x v hN h2' (by
     rcases hk with z|z
     ·exact .inr (.inl z)
     ·exact .inr (.inr z))
    refine{u,r,.inr {?_,?_}}
    ·exact yM (env:=X.env) hfree
    ·rcases l with ⟨l,_⟩|⟨_,c,hc,o,ho,hd⟩
     ·have hk:X.env.kindOf x=some .cell\/X.env.kindOf x=some .free:=hk;rw[l]at hk;rcases hk with z|z<;>cases z
     ·let(c',hc'):=Q5 (env:=X.env) scope.names [] x (PySem.mem_of_lookup hfree)
      have:=sub x c' hc'
      rw[hc]at this;cases this;exact{c,hc',o,k _ _ ho,hd}
 ·let(v,o,ho,hd):=I.cell x c (sub x c e);exact{v,o,k _ _ ho,hd}
 ·have hp:p∈[(D,qa0 [] n)]:=by simpa [blk] using hp
  cases List.mem_singleton.mp hp;refine{hl,I.hok.fresh hD,hDC,λz=>?_,λv e=>by cases e};rcases List.mem_cons.mp (I.stkSub D z) with e|e
  ·exact Nat.ne_of_lt (Nat.lt_of_lt_of_le I.lt hD) e.symm
  ·exact I.nofs hD e
 ·show(JE own fr Z).length=(yn X own fr).length;unfold JE yn;simp
end
def PIf(X:Cx)(ifs:List Expr)(t:TT):Prop:=
 ∀(pins:PP) (s:Shared) (Z:St) (H:Hp) (Q:Bool->Hp->Prop),Inv X pins Z H s->t Z H Q->
  wpAny (model X.prog X.w) X.A (forIn ifs true λc r=>if r=true then do let ok<-isTrue c X.env (eval c X.env);pure (ForInStep.yield ok) else pure (ForInStep.yield r)) (TP X pins Z Q) X.xe s
def qmK:TT:=λ_ H Q=>Q true H
section
variable{X:Cx}{pins:PP}{Z:St}{H:Hp}{s:Shared}{own:List Str}{fr:List Nat}{scope:Scope}
def qfL:PIf X [] qmK:=λ_ _ _ H _ I h=>wpAny_tests_nil ⟨H,I,h⟩
def qfM{c:Expr}{t:TT}(h:PT X c t):PIf X [c] t:=λpins s Z H Q I hw=>wpAny_tests_one (h pins s Z H Q I hw)
def Qd(J:It)(g:TG)(tc:TT)(te:TE)(fin:List V->Hp->Prop)(W:Nat->Nat->List V->St->Hp->Prop):Prop:=
 ∀i m ys Z' H',W i m ys Z' H'->(J.stop i H'/\fin ys H')\/
  (J.go i H'/\ys.length < sizeLine/\∃N:List V->St->Hp->Prop,(∀ys' Z2 H2,N ys' Z2 H2->∃m',m' < m/\W (i+1) m' ys' Z2 H2)/\
   ∀x H2,J.yld i H' x H2->g x Z' H2 λZ2 H3=>tc Z2 H3 λb H4=>if b=true then te Z2 H4 λy H5=>N (ys++[y]) Z2 H5 else N ys Z2 H4)
def qfN(own:List Str)(fr:List Nat)(wi:TI)(g:TG)(tc:TT)(te:TE):TE:=λZ H Q=>wi Z H λJ H1=>∃W:Nat->Nat->List V->St->Hp->Prop,(∃m,W 0 m [] (JE own fr Z) H1)/\Qd J g tc te (λys H'=>∀l,H' l=none->Q (.ref l) (upd H' l (.lst ys))) W
def qfO{N:List Str}{cl:List (Str×Addr)}{C l:Addr}{fp:List Addr}{s4:Shared}{H':Hp}{Z':St}{its:List Value}{k:Nat}{ys:List V}(I:Inv X pins Z H s)(hf:∀b∈fp,qaq X pins H b)(hl:s.heap.objs.size<=l)
  (I4:Inv (blk X N scope cl C fp s H) [(l,qa0 its k)] Z' H' s4) (rv:qD ys its) (hz:ys.length<=sizeLine):Inv X pins Z (upd H' l (.lst ys)) s4:=by
 have base:Un (frs X.stack) fp H H' s.heap s4.heap:=I4.base;have pin:=I4.pin (l,qa0 its k) (List.mem_append_right _ List.mem_cons_self);have nl:∀b o,s.heap.get? b=some o->b≠l:=λb o e=>Nat.ne_of_lt (Nat.lt_of_lt_of_le (Heap.lt_size e) hl);have nh:∀b u,H' b=some u->b≠l:=λb u e=>qS e pin.2.1;refine I.call' (ch:=fp) I4.os ⟨base.keep,base.slot,λb o e n hx=>?_,base.there,λb xs e=>?_,λb o u e=>?_,λb ps e=>?_⟩ (λb u e=>?_) I4.bare (λb hb=>{(hf b hb).2.2.2.1,(hf b hb).2.1,(hf b hb).2.2.2.2.1,(hf b hb).2.2.2.2.2})
 ·rw[qc (nl b o e)];exact base.free b o e n hx
 ·have:=base.tups b xs e
  rw[qc (nh b _ this)];exact this
 ·have:=base.frzs b o u e
  rw[qc (nh b _ this)];exact this
 ·let(more,this):=base.tbls b ps e;exact{more,by rw[qc (nh b _ this)];exact this}
 ·by_cases hb:b=l
  ·subst hb;rw[qf]at e;cases e;exact⟨hz,its,k,rv,pin.1⟩
  ·rw[qc hb]at e;exact(I4.hok b u e).stay (λc v _ q=>q) (λc q=>by rw[qc (nh c _ q)];exact q) λc xs q=>by rw[qc (nh c _ q)];exact q
def Qe{elt iter tg:Expr}{ifs:List Expr}{pos:Pos}{g:TG}{tc:TT}{te:TE}{it:Addr}{fp:List Addr}{tn:Nat->Heap->Prop}{J:It}{fin:List V->Hp->Prop}{W:Nat->Nat->List V->St->Hp->Prop}{m0:Nat}
  {RR:Value->Addr->Result->Shared->Prop} {E:PQ} (hc:X.calm=true) (B:BlkScope X own fr scope)
  (hg:∀cl C fp s2 H2,PG (blk X (yn X own fr) scope cl C fp s2 H2) tg g) (ht:∀cl C fp s2 H2,PIf (blk X (yn X own fr) scope cl C fp s2 H2) ifs tc) (he:∀cl C fp s2 H2,PE (blk X (yn X own fr) scope cl C fp s2 H2) elt te)
  (I:Inv X pins Z H s) (T:Turn X.prog X.w X.K tg J fp it tn) (st0:tn 0 s.heap) (hf:∀b∈fp,qaq X pins H b) (w0:W 0 m0 [] (JE own fr Z) H) (hW:Qd J g tc te fin W)
  (post:∀(l C:Addr) (s4:Shared) (ys:List V) (H':Hp) (m:PR),s.heap.objs.size<=C->H' C=none->H' l=none->l≠C->s4.heap.Ns C m->Inv X pins Z (upd H' l (.lst ys)) s4->fin ys H'->RR (.ref l) C (.ok .next) s4) :
  wpAny (model X.prog X.w) X.A (newList []) (λacc s₃=>wpAny (model X.prog X.w) X.A (newFunctionEnv scope X.env.globals (zh X.env scope.names []) [] X.env.qual none .none (some X.env)) (λcenv s₄=>codeAny (model X.prog X.w) X.A (.compStart (.ListComp elt [⟨tg,iter,ifs,0⟩] scope pos) 0 (.ref it) acc { cenv with scope:=relabel scope X.env }) (RR acc cenv.locals) s₄) E s₃) E s:=by
 have hfo:∀b∈fp,b < s.heap.objs.size:=λb hb=>by let(o,e,_):=T.obj _ _ st0 b hb;exact Heap.lt_size e
 refine wpAny_newObj_type (wpAny_newFunctionEnv B.nocell (by intro y hy;simp at hy) (λh1 hns hsb=>?_) B.kind);dsimp only at hns hsb ⊢;generalize hH2:s.heap.push { cls:=.type "list",dict:=none,data:=.seq ([]:List Value).toArray }=h2 at hns hsb ⊢;have hC:h2.objs.size=s.heap.objs.size+1:=by rw[<-hH2,Heap.size_push]
 have hDC:s.heap.objs.size≠h2.objs.size:=by rw[hC];exact Nat.ne_of_lt (Nat.lt_succ_self _)
 have hCle:s.heap.objs.size<=h2.objs.size:=by rw[hC];exact Nat.le_succ _
 have old:∀b o,s.heap.get? b=some o->h1.get? b=some o:=λb o e=>hsb.extBut b o (by rw[hC];exact Nat.ne_of_lt (Nat.lt_succ_of_lt (Heap.lt_size e))) (Heap.get?_push_of_some _ (hH2▸Heap.get?_push_of_some _ e));have hacc:h1.get? s.heap.objs.size=some (qa0 [] 0):=hsb.extBut _ _ hDC (Heap.get?_push_of_some _ (hH2▸Heap.get?_push_size _ rfl));have hns':h1.Ns h2.objs.size λ_=>none:=hns;have I0:=qbH (tk:=s.toks+([]:List (Str×Value)).length) B I hf hfo hCle (Nat.le_refl _) hDC old hns' hacc;have st1:tn 0 h1:=T.keep _ _ _ st0 λb hb o e=>old b o e
 have loop:codeAny (model X.prog X.w) X.A (.compLoop (.ListComp elt [⟨tg,iter,ifs,0⟩] scope pos) 0 (.ref it) (.ref s.heap.objs.size) (compEnvC scope (zh X.env scope.names []) h2.objs.size X.env))
   (RR (.ref s.heap.objs.size) h2.objs.size) { s with heap:=h1,toks:=s.toks+([]:List (Str×Value)).length }:=by
  generalize hl:s.heap.objs.size=l at *;generalize hCC:h2.objs.size=C at *
  have stat:∀{H':Hp} {o:Obj},(∀b∈fp,H' b=none)->∀b∈fp,qaq (blk X (yn X own fr) scope (zh X.env scope.names []) C fp s H) [(l,o)] H' b:=λ{H' o} hn b hb=>by
   refine{hn b hb,λe=>?_,λz=>?_,.inl hb,λx c e z=>?_,λp hp z=>?_}
   ·exact Nat.ne_of_lt (Nat.lt_of_lt_of_le (hfo b hb) hCle) e
   ·rcases List.mem_cons.mp (I.stkSub b z) with e|e
    ·exact(hf b hb).2.1 e
    ·exact(hf b hb).2.2.1 e
   ·exact(hf b hb).2.2.2.2.1 x c (j3 (λz hz e=>I.ok.has _ (B.free z hz e)) x c e) z
   ·have hp:p∈[(l,o)]:=by simpa [blk] using hp
    cases List.mem_singleton.mp hp;exact Nat.ne_of_lt (hfo b hb) z.symm
  refine codeAny_loop rfl (λn s'=>∃i ys Z' H' its k,Inv (blk X (yn X own fr) scope (zh X.env scope.names []) C fp s H) [(l,qa0 its k)] Z' H' s'/\qD ys its/\ys.length<=sizeLine/\tn i s'.heap/\(∀b∈fp,H' b=none)/\W i n ys Z' H')
   (λn s3 hI=>?_) m0 ⟨0,[],JE own fr Z,H,[],0,I0,.nil,Nat.zero_le _,st1,λb hb=>(hf b hb).1,w0⟩
  show wpAny _ X.A ((compTurn (.ListComp elt [⟨tg,iter,ifs,0⟩] scope pos) 0 (.ref it) (.ref l) (compEnvC scope (zh X.env scope.names []) C X.env)).onRaise (λx=>do noteFrame x (compEnvC scope (zh X.env scope.names []) C X.env);theTreesLotGoes x)) _ _ s3;refine wpAny_noted ?_;rw[compTurn_list];let(i,ys,Z3,H3,its,k,I3,rv,hz,st3,fr3,w3):=hI;refine wpAny_bind (wpAny_standAt (wpAny_bind ?_));rcases hW i n ys Z3 H3 w3 with ⟨stop,qn⟩|⟨go,hlt,N,hN,step⟩
  ·refine thn (T.done (blk X (yn X own fr) scope (zh X.env scope.names []) C fp s H) rfl rfl rfl hc i _ s3 Z3 H3 _ I3 (stat fr3) st3 stop) λr s4 hq1=>?_;let(hr,I4):=hq1;subst hr;let(m,hm,_):=I4.loc;exact wpAny_pure (post l C s4 ys H3 m hCle I4.free (I4.pin (l,qa0 its k) (List.mem_append_right _ List.mem_cons_self)).2.1 hDC hm (qfO I hf (Nat.le_of_eq hl) I4 rv hz) qn)
  ·refine thn (T.item (blk X (yn X own fr) scope (zh X.env scope.names []) C fp s H) rfl rfl rfl hc i _ s3 Z3 H3 _ I3 (stat fr3) st3 go) λr s4 hq1=>?_;let(u,hr,h4):=hq1;subst hr;refine wpAny_bind (thn h4 λ_ s5 hq1=>?_);let(x,H5,I5,r5,y5,st5,fr5):=hq1;have I5':=I5.pinned (stat fr5) (T.obj _ _ st5);refine wpAny_bind (wpAny_mono (hg _ _ _ _ _ _ s5 Z3 H5 x u _ I5' r5 (step x H5 y5)) (λ_ s6 hz64=>?_) λ_ _ z=>z.elim);let(Z6,H6,I6,q6):=hz64;refine wpAny_bind (wpAny_mono (ht _ _ _ _ _ _ s6 Z6 H6 _ I6 q6) (λb s7 hz65=>?_) λ_ _ z=>z.elim);let(H7,I7,q7):=hz65
   have back:∀{Z8:St} {H8:Hp} {s8:Shared},Inv (blk X (yn X own fr) scope (zh X.env scope.names []) C fp s H) ([(l,qa0 its k)]++YR fp s5.heap) Z8 H8 s8->(∀b∈fp,∀o,s5.heap.get? b=some o->s8.heap.get? b=some o)/\∀b∈fp,H8 b=none:=λI8=>by refine{λb hb o e=>(I8.pin (b,o) (List.mem_append_right _ (List.mem_append_right _ (jv hb e)))).1,λb hb=>?_};let(o,e,_):=T.obj _ _ st5 b hb;exact(I8.pin (b,o) (List.mem_append_right _ (List.mem_append_right _ (jv hb e)))).2.1
   cases b with
   |false=>let(k1,k2):=back I7;simp![Bool.false_eq_true,if_false]at q7 ⊢;let(m',hm',w7):=hN _ _ _ q7;exact wpAny_pure ⟨rfl,m',hm',i+1,ys,Z6,H7,its,k,I7.unpinned,rv,hz,T.keep _ _ _ st5 k1,k2,w7⟩
   |true=>
    simp![if_true]at q7 ⊢;refine wpAny_bind (wpAny_bind (wpAny_mono (he _ _ _ _ _ _ s7 Z6 H7 _ I7 q7) (λw s8 hz66=>?_) λ_ _ z=>z.elim));let(y,H8,I8,r8,q8):=hz66;let(k1,k2):=back I8;let(m',hm',w8):=hN _ _ _ q8;have pin:=I8.pin (l,qa0 its k) (List.mem_append_right _ (List.mem_append_left _ List.mem_cons_self));have hil:its.length=ys.length:=rv.length.symm;refine wpAny_bind (append_at pin.1 (λh9 hs9 hD9=>?_) (by rw[List.size_toArray,hil];exact hz));have new:h9.get? l=some (qa0 (its++[w]) (k+1)):=by rw[hD9,List.push_toArray]
    have Ia:Inv (blk X (yn X own fr) scope (zh X.env scope.names []) C fp s H) [] Z6 H8 s8:=I8.pins_of (λp hp=>nomatch hp)
    have Ib:Inv (blk X (yn X own fr) scope (zh X.env scope.names []) C fp s H) [] Z6 H8 { s8 with heap:=h9 }:=Ia.turned (t':=s8.toks) (λb o hb e=>hs9.extBut b o hb e) pin.2.1 pin.2.2.1 (.inr (Nat.le_of_eq hl)) (λx c e z=>by
     let(v,o,ho,hd):=I8.cell x c e;rw[z,pin.1]at ho;cases ho
     cases hd) (λp hp=>by
      have hp:p∈([]:PP):=by simpa [blk] using hp
      cases hp)
    have Ic:Inv (blk X (yn X own fr) scope (zh X.env scope.names []) C fp s H) [(l,qa0 (its++[w]) (k+1))] Z6 H8 { s8 with heap:=h9 }:=Ib.pins_of λp hp=>by cases List.mem_singleton.mp hp;exact{new,pin.2.1,pin.2.2.1,pin.2.2.2.1,λv e=>by cases e}
    refine wpAny_pure (wpAny_pure ⟨rfl,m',hm',i+1,ys++[y],Z6,H8,its++[w],k+1,Ic,rv.append %[r8|0],by rw[List.length_append];exact hlt,T.keep _ _ _ st5 λb hb o e=>?_,k2,w8⟩);exact hs9.extBut b o (Nat.ne_of_lt (hfo b hb)) (k1 b hb o e)
 exact codeAny_compStart_list loop (T.self _ 0 _ _ _ st1 loop)
def Inv.letgo{s2 s4:Shared}{H2 H4:Hp}{C:Addr}{h':Heap}(I2:Inv X pins Z H2 s2){Z4:St}(I4:Inv X pins Z4 H4 s4)(hC:s2.heap.objs.size<=C)(hn:H4 C=none)(hs:Heap.SameBut C s4.heap h'):Inv X pins Z4 H4 { s4 with heap:=h' }:=by let(f0,f1,_,f3,f4,f5):=I2.fpOk hC hn;exact I4.turned (t':=s4.toks) (λb o hb e=>hs.extBut b o hb e) f0 f1 f3 f4 f5
def qfP{elt iter tg:Expr}{ifs:List Expr}{pos:Pos}{g:TG}{tc:TT}{te:TE}{wi:TI}(own:List Str)(fr:List Nat)(hc:X.calm=true)(B:BlkScope X own fr scope)(hi:PI X tg iter wi)
  (hg:∀cl C fp s2 H2,PG (blk X (yn X own fr) scope cl C fp s2 H2) tg g) (ht:∀cl C fp s2 H2,PIf (blk X (yn X own fr) scope cl C fp s2 H2) ifs tc) (he:∀cl C fp s2 H2,PE (blk X (yn X own fr) scope cl C fp s2 H2) elt te)
  (hs:∀x,foldedSetIterable iter X.env x=pure x:=by intro _;rfl):PE X (.ListComp elt [⟨tg,iter,ifs,0⟩] scope pos) (qfN own fr wi g tc te):=by
 intro pins s Z H Q I h;rw[eval_ListComp];refine wpAny_comprehension_free (use:=none) rfl hs (qew λz hz e=>I.ok.has _ (B.free z hz e)) B.kind B.names ?_;refine thn (hi pins s Z H _ I h) λv s1 h1=>thn h1 λitv s2 h2=>?_;let(it,fp,tn,J,H2,e,I2,T,st2,f2,W,(m0,w0),hW):=h2;subst e;refine Qe hc B hg ht he I2 T st2 f2 w0 hW λl C s4 ys H' m hC nC nl hlC hm I4 fin=>?_;exact{m,hm,λh' hs'=>{.ref l,_,I2.letgo I4 hC (by rw[qc (Ne.symm hlC)];exact nC) hs',rfl,fin l nl}}
def qfQ{elt iter tg:Expr}{ifs:List Expr}{pos pos' cpos:Pos}{g:TG}{tc:TT}{te:TE}{wi:TI}{i:Nat}{x:Str}(own:List Str)(fr:List Nat)(hN:X.N.Nodup)(hxi:X.N[i]?=some x)(hx:X.env.scope.names.lookup x=some .local)(hc:X.calm=true)(B:BlkScope X own fr scope)(hi:PI X tg iter wi)
  (hg:∀cl C fp s2 H2,PG (blk X (yn X own fr) scope cl C fp s2 H2) tg g) (ht:∀cl C fp s2 H2,PIf (blk X (yn X own fr) scope cl C fp s2 H2) ifs tc) (he:∀cl C fp s2 H2,PE (blk X (yn X own fr) scope cl C fp s2 H2) elt te)
  (hsw:swapsWith (.ListComp elt [⟨tg,iter,ifs,0⟩] scope cpos) (some (.Name x pos')) pos.line X.env=pure true:=by rfl)
  (hs:∀x,foldedSetIterable iter X.env x=pure x:=by intro _;rfl):PS X (.Assign [.Name x pos'] (.ListComp elt [⟨tg,iter,ifs,0⟩] scope cpos) pos) (qkf (qfN own fr wi g tc te) (qa7 i)):=by
 intro pins s Z H D I h;rw[exec_Assign_Name_used _ _ _ _ hsw];refine wpAny_bind (wpAny_standAt (wpAny_bind ?_));show wpAny _ X.A (do let _<-comprehension (.ListComp elt [⟨tg,iter,ifs,0⟩] scope cpos) scope X.env _ (newList []) false (eval iter X.env) (some (assign (.Name x pos') X.env))) _ _ s;refine wpAny_bind (wpAny_mono (wpAny_comprehension_free (use:=some (assign (.Name x pos') X.env)) (Q:=λ_ s'=>SP X pins D .next s') rfl hs (qew λz hz e=>I.ok.has _ (B.free z hz e)) B.kind B.names ?_) (λ_ s' hq=>wpAny_pure (wpAny_pure hq)) λ_ _ e=>e);refine thn (hi pins s Z H _ I h) λv s1 h1=>thn h1 λitv s2 h2=>?_;let(it,fp,tn,J,H2,e,I2,T,st2,f2,W,(m0,w0),hW):=h2;subst e;refine Qe (RR:=λacc C=>compPost (model X.prog X.w) X.A X.xe (some (assign (.Name x pos') X.env)) (λ_ s'=>SP X pins D .next s') acc C) hc B hg ht he I2 T st2 f2 w0 hW λl C s4 ys H' m hC nC nl hlC hm I4 fin=>?_;show wpAny _ X.A (assign (.Name x pos') X.env (.ref l)) _ _ s4;refine wpAny_assign_Name (jX I4 hN hxi (.inl hx) (v:=.ref l) rfl (λs5 I5 hsb=>?_) (.inr hx));let(a,sb,ha):=hsb
 have hCa:C≠a:=by
  rcases ha with rfl|ha
  ·exact Nat.ne_of_gt (Nat.lt_of_lt_of_le I2.lt hC)
  ·let(v,q):=I2.cell x a ha;exact Nat.ne_of_gt (Nat.lt_of_lt_of_le q.lt hC)
 exact{m,hm.sameBut sb hCa,λh' hs'=>{_,_,I2.letgo I5 hC (by rw[qc (Ne.symm hlC)];exact nC) hs',fin l nl}}
end
mutual
def DV(K:Frag)(H:Hp):PyData->V->Prop
 |.none,v=>v=.non
 |.bool b,v=>v=.bl b
 |.int i,v=>v=.int i
 |.str x,v=>v=.str x
 |.list ds,v=>∃a xs,v=.ref a/\SqL K H a xs/\DVs K H ds xs
 |.tuple ds,v=>∃a xs,v=.ref a/\SqT K H a xs/\DVs K H ds xs
 |.dict _,_=>False
def DVs(K:Frag)(H:Hp):List PyData->List V->Prop
 |[],xs=>xs=[]
 | d::ds,xs=>∃x r,xs=x::r/\DV K H d x/\DVs K H ds r
end
section
variable{X:Cx}{pins:PP}{Z:St}{H:Hp}{s:Shared}
mutual
theorem DV.reads(I:Inv X pins Z H s):∀{d:PyData} {v:V} {u:Value},DV X.K H d v->qH v u->∃as,Reads s.heap u d as
 |.none,v,u,h,r=>by
  have h:v=.non:=by simpa [DV] using h
  subst h;cases r;exact{_,Reads.none}
 |.bool b,v,u,h,r=>by
  have h:v=.bl b:=by simpa [DV] using h
  subst h;cases r;exact{_,Reads.bool b}
 |.int i,v,u,h,r=>by
  have h:v=.int i:=by simpa [DV] using h
  subst h;let(t,rfl):=r;exact{_,Reads.int i t}
 |.str x,v,u,h,r=>by
  have h:v=.str x:=by simpa [DV] using h
  subst h;let(t,rfl):=r;exact{_,Reads.str x t}
 |.list ds,v,u,h,r=>by
  have h:∃a xs,v=.ref a/\SqL X.K H a xs/\DVs X.K H ds xs:=by simpa [DV] using h
  let(a,xs,rfl,hq,hd):=h;cases r;let(its,rv,pl,_):=I.list hq;let(as,ra):=DVs.reads I hd rv;let(o,ho,hc,n,hdd):=pl.isList;exact{_,reads_list_at ho hc hdd (-ra:)}
 |.tuple ds,v,u,h,r=>by
  have h:∃a xs,v=.ref a/\SqT X.K H a xs/\DVs X.K H ds xs:=by simpa [DV] using h
  let(a,xs,rfl,hq,hd):=h;cases r;let(its,rv,pl,_):=I.tuple hq;let(as,ra):=DVs.reads I hd rv;let(o,ho,hc,n,hdd):=pl;exact{_,reads_tuple_at ho hc hdd (-ra:)}
 |.dict _,v,u,h,r=>by simp[DV]at h
theorem DVs.reads(I:Inv X pins Z H s):∀{ds:List PyData} {vs:List V} {us:List Value},DVs X.K H ds vs->qD vs us->∃as,ReadsAll s.heap us ds as
 |[],vs,us,h,r=>by
  have h:vs=[]:=by simpa [DVs] using h
  subst h;cases r;exact{_,ReadsAll.nil}
 | d::ds,vs,us,h,r=>by
  have h:∃x r,vs=x::r/\DV X.K H d x/\DVs X.K H ds r:=by simpa [DVs] using h
  let(x,rr,rfl,h1,h2):=h
  cases r with
  |cons r1 r2=>let(as,ra):=DV.reads I h1 r1;let(bs,rb):=DVs.reads I h2 r2;exact{_,ReadsAll.cons ra rb}
end
def qmL(K:Frag):R2:=λx y H Q=>∃d e,DV K H d x/\DV K H e y/\SeqAt.shaped d=true/\SeqAt.shaped e=true/\Q (.bl (PyData.eqv d e)) H
def qmM(K:Frag):R2:=λx y H Q=>∃d e,DV K H d x/\DV K H e y/\SeqAt.shaped d=true/\SeqAt.shaped e=true/\Q (.bl (!PyData.eqv d e)) H
def qic(hu:X.A.units+64 < cLine):OpR X (compareOp .Eq) (qmL X.K):=by intro pins s Z H x y v u Q I rx ry h;let(d,e,hd,he,sd,se,q):=h;let(as,ra):=DV.reads I hd rx;let(bs,rb):=DV.reads I he ry;exact eq_dataH ra rb sd se hu ⟨.bl _,H,I,rfl,q⟩
def qid(hu:X.A.units+64 < cLine):OpR X (compareOp .NotEq) (qmM X.K):=by intro pins s Z H x y v u Q I rx ry h;let(d,e,hd,he,sd,se,q):=h;let(as,ra):=DV.reads I hd rx;let(bs,rb):=DV.reads I he ry;exact ne_dataH ra rb sd se hu ⟨.bl _,H,I,rfl,q⟩
def qde:zy X (.builtin "isinstance") (λvs H Q=>∃x n t b,vs=[x,.ty n]/\TyOf X.K H x t/\PySem.W.kitOne X.K t (.type n)=some b/\Q (.bl b) H):=by intro pins s Z H xs us Q I r h;let(x,n,t,b,rfl,ty,e,q):=h;let(u,w,rfl,rx,rn):=QV r;cases rn;exact YW I rx ty e λtk=>{.bl b,H,I.tok tk,rfl,q}
end
def yN(osc:Scope)(N:List Str)(fr:List Nat)(sc:Scope):Bool:=
 sc.kind == .function&&(sc.names.all λx=>x.2 != .cell&&(x.2 != .local||sc.names.lookup x.1 == some .local)&&(x.2 != .free||(osc.names.lookup x.1 == some .cell||osc.names.lookup x.1 == some .free)))&&fr.all λi=>sc.names.lookup (N.getD i "") == some .free
def qj.upd{H:Hp}{a:Addr}{o:HO}(h:H a=none):qj H (upd H a o):=λb u e=>by rw[qc (qS e h)];exact e
open PySem.W
def Chn(h:Heap):Nat->Addr->Prop
 |0,x=>∃o vs C,h.get? x=some o/\o.cls=.ref C/\o.data=.fields vs/\vs[2]?=some .none
 | n+1,x=>∃o vs C c,h.get? x=some o/\o.cls=.ref C/\o.data=.fields vs/\vs[2]?=some (.ref c)/\Chn h n c
theorem Chn.keep{h h':Heap}(k:∀b o vs C,h.get? b=some o->o.cls=.ref C->o.data=.fields vs->∃o' vs',h'.get? b=some o'/\o'.cls=o.cls/\o'.data=.fields vs'/\vs'[2]?=vs[2]?):∀{n:Nat} {x:Addr},Chn h n x->Chn h' n x:=by
 intro n
 induction n with
 |zero=>intro x c;let(o,vs,C,a,b,d,e):=c;let(o',vs',a',b',d',e'):=k x o vs C a b d;exact{o',vs',C,a',b'.trans b,d',e'.trans e}
 |succ n ih=>intro x c;let(o,vs,C,c,a,b,d,e,f):=c;let(o',vs',a',b',d',e'):=k x o vs C a b d;exact{o',vs',C,c,a',b'.trans b,d',e'.trans e,ih f}
structure NX(fs:List Addr)(e:Addr)(oT:Option Addr)(oe:Obj)(vs:Array Value)(T':Addr)(fl:Value)(h h':Heap):Prop where
 kept:∀b o,b∉fs->b≠e->oT≠some b->h.get? b=some o->h'.get? b=some o
 frame:∀b o,b∈fs->h.get? b=some o->∃sl,h'.get? b=some { o with slots:=sl }
 obj:∃o' vs',h'.get? e=some o'/\o'.cls=oe.cls/\o'.dict=oe.dict/\o'.data=.fields vs'/\vs'[0]?=vs[0]?/\vs'[1]?=some (.ref T')/\vs'[2]?=vs[2]?
 new:h.get? T'=none
 ne:T'≠e
 ent:∃ot ts,h'.get? T'=some ot/\ot.data=.fields ts/\ts[3]?=some fl/\ot.cls=.type "traceback"
section
variable{M:Model}{A:Around}{E:PQ}{s:Shared}{base:Heap}{env:Env}{outer:List Env}{L e:Addr}{oe:Obj}{vs:Array Value}{Q:Unit->Shared->Prop}
def qfR(hl:s.heap.FunFrames base (env::outer))(he:s.heap.get? e=some oe)(hd:oe.data=.fields vs):e∉frs (env::outer):=λhm=>by let(_,o,ho,hnf):=hl.mem hm;rw[he]at ho;cases ho;exact hnf vs hd
def JL{head:Value}{hadNext:Bool}(hfr:A.frames=some (env::outer))(hl:s.heap.FunFrames base (env::outer))(hf:env.frame=some L)(he:s.heap.get? e=some oe)(hd:oe.data=.fields vs)(hsz:1 < vs.size)
  (k:∀h' T',NX (frs (env::outer)) e none oe vs T' (rawInt L) s.heap h'->Q () { s with heap:=h' }) :
  wpAny M A (do let fr<-frameOf env;let pl<-entryPlaceOf L hadNext;let en<-EntryCells.newEntry head fr .none (rawInt L) .none pl;setField (.ref e) 1 en) Q E s:=by
 have hne:=qfR hl he hd;refine wpAny_bind (wpAny_frameOf_fun hfr hl hf λh1 so=>wpAny_bind (wpAny_entryPlaceOf λpl hpl=>wpAny_bind ?_));let(so1,so2,so3):=so;have e1:h1.get? e=some oe:=(so2 e hne).trans he;simp![EntryCells.newEntry,newFields];refine wpAny_newObj_type ?_ (hpl.sizeOk5 _ _ _ _ _);generalize hob:(⟨.type "traceback",none,.fields ([head,.ref L,.none,rawInt L,.none]++(if pl.isEmpty then List.replicate 6 Value.none else pl)).toArray,#[]⟩:Obj)=tb;have hts:∃ts,tb.data=.fields ts/\ts[3]?=some (rawInt L):={_,by rw[<-hob],by simp};have e2:(h1.push tb).get? e=some oe:=Heap.get?_push_of_some _ e1;refine wpAny_setField e2 hd hsz (k _ h1.objs.size ?_);have hTe:h1.objs.size≠e:=Nat.ne_of_gt (Heap.lt_size e1)
 have up:∀b o,b≠e->h1.get? b=some o->((h1.push tb).update e (Obj.mapFields (·.setIfInBounds 1 (Value.ref h1.objs.size)))).get? b=some o:=λb o hb q=>by rw[Heap.get?_update_other _ _ (Ne.symm hb)];exact Heap.get?_push_of_some _ q
 have hdt:=Obj.data_mapFields hd (·.setIfInBounds 1 (Value.ref h1.objs.size));refine{λb o h1' h2' _ q=>up b o h2' ((so2 b h1').trans q),λb o hb q=>?_,?_,?_,hTe,?_}
 ·let(sl,z):=so3 b o q;exact{sl,up b _ (λz=>hne (z▸hb)) z}
 ·refine{_,_,Heap.get?_update_self _ e2 (Obj.isFreed_of_fields hdt),Obj.cls_mapFields _ _,?_,hdt,?_,?_,?_}
  ·let(c1,c2,c3,c4):=oe;cases hd;rfl
  ·rw[Array.getElem?_setIfInBounds_ne (2:)]
  ·simp[hsz]
  ·rw[Array.getElem?_setIfInBounds_ne (2:)]
 ·cases q:s.heap.get? h1.objs.size with
  |none=>rfl
  |some o=>let(sl,z):=so3 _ o q;exact absurd (Heap.lt_size z) (Nat.lt_irrefl _)
 ·let(ts,t1,t2):=hts;refine{tb,ts,?_,t1,t2,by rw[<-hob]};rw[Heap.get?_update_other _ _ (Ne.symm hTe)];exact Heap.get?_push_size _ (by rw[<-hob];rfl)
def qaE(h:Heap)(e:Addr)(vs:Array Value):Option Addr->Prop
 |none=>vs[1]?=some .none/\∃n,Chn h n e
 |some T=>vs[1]?=some (.ref T)/\T≠e/\∃ot ts,h.get? T=some ot/\ot.data=.fields ts/\ts[3]?=some .none/\ot.cls=.type "traceback"/\∃n,Chn h n e
theorem qex{oT:Option Addr}(hfr:A.frames=some (env::outer))(hl:s.heap.FunFrames base (env::outer))(hf:env.frame=some L)(he:s.heap.get? e=some oe)(hd:oe.data=.fields vs)(hb:qaE s.heap e vs oT)
  (k:∀h' T',NX (frs (env::outer)) e oT oe vs T' (rawInt L) s.heap h'->Q () { s with heap:=h' }):wpAny M A (noteFrame (.ref e) env) Q E s:=by
 simp![noteFrame,hf]
 cases oT with
 |none=>have hv:vs[1]?=some .none:=hb.1;have hsz:1 < vs.size:=(Array.getElem?_eq_some_iff.mp hv).1;refine wpAny_bind (wpAny_field he hd hv ?_);rw[if_neg (2:)];exact JL hfr hl hf he hd hsz k
 |some T=>
  let(hv,hTe,ot,ts,hT,hdT,h3,_):=hb;have hsz:1 < vs.size:=(Array.getElem?_eq_some_iff.mp hv).1;refine wpAny_bind (wpAny_field he hd hv ?_);rw[if_pos (show(Value.ref T != Value.none)=true by simp)];refine wpAny_bind (wpAny_field hT hdT h3 ?_);rw[if_neg (show ¬ ((Value.none == rawInt L)=true) by simp[rawInt])];refine wpAny_bind (wpAny_setField hT hdT (Array.getElem?_eq_some_iff.mp h3).1 ?_);have oth:∀{b:Addr},b≠T->(s.heap.update T (Obj.mapFields (·.setIfInBounds 3 Value.none))).get? b=s.heap.get? b:=λhb=>Heap.get?_update_other _ _ (Ne.symm hb)
  have nT:∀{b:Addr} {o:Obj},s.heap.get? b=some o->(∀vs,o.data≠.fields vs)->b≠T:=λ{b o} q hn z=>by rw[z,hT]at q;cases q;exact hn ts hdT
  have hl2:(s.heap.update T (Obj.mapFields (·.setIfInBounds 3 Value.none))).FunFrames base (env::outer):=hl.of_keeps λb o q hn=>{o,(oth (nT q hn)).trans q,rfl};refine JL (s:={ s with heap:=s.heap.update T (Obj.mapFields (·.setIfInBounds 3 Value.none)) }) hfr hl2 hf ((oth (Ne.symm hTe)).trans he) hd hsz λh' T' nx=>k h' T' ?_;let(n1,n2,n3,n4,n5,n6):=nx;refine{λb o h1 h2 h4 q=>n1 b o h1 h2 (5:) ((oth (λz=>h4 (by rw[z]))).trans q),λb o hb q=>n2 b o hb ((oth ?_).trans q),n3,?_,n5,n6}
  ·let(_,o',ho',hn):=hl.mem hb;exact nT ho' hn
  ·cases q:s.heap.get? T' with
   |none=>rfl
   |some o=>
    by_cases z:T'=T
    ·subst z
     have:=Heap.get?_update_self (Obj.mapFields (·.setIfInBounds 3 Value.none)) hT (Obj.isFreed_of_fields (Obj.data_mapFields hdT _))
     rw[this]at n4;cases n4
    ·rw[oth z,q]at n4;cases n4
def Yb{fs:List Addr}{oT:Option Addr}{T':Addr}{fl:Value}{h:Heap}(nx:NX fs e oT oe vs T' fl h s.heap)(k:∀h',NX fs e oT oe vs T' .none h h'->Q () { s with heap:=h' }):wpAny M A (setFlight (.ref e) none) Q E s:=by
 let(n1,n2,(o',vs',o1,o2,o3,o4,o5,o6,o7),n4,n5,ot,ts,t1,t2,t3,t4):=nx;have h3:3 < ts.size:=(Array.getElem?_eq_some_iff.mp t3).1;unfold setFlight;refine wpAny_bind (wpAny_field o1 o4 o6 ?_);rw[if_pos (show(Value.ref T' != Value.none)=true by simp)];refine wpAny_setField t1 t2 h3 (k _ ?_);have oth:∀{b:Addr},b≠T'->(s.heap.update T' (Obj.mapFields (·.setIfInBounds 3 ((none:Option Addr).elim Value.none λf=>rawInt f)))).get? b=s.heap.get? b:=λhb=>Heap.get?_update_other _ _ (Ne.symm hb)
 have nT:∀{b:Addr} {o:Obj},h.get? b=some o->b≠T':=λ{b o} q z=>by rw[z,n4]at q;cases q
 have hdt:=Obj.data_mapFields t2 (·.setIfInBounds 3 ((none:Option Addr).elim Value.none λf=>rawInt f));refine{λb o h1 h2 h4 q=>(oth (nT q)).trans (n1 b o h1 h2 h4 q),λb o hb q=>?_,{o',vs',(oth (Ne.symm n5)).trans o1,o2,o3,o4,o5,o6,o7},n4,n5,_,_,Heap.get?_update_self _ t1 (Obj.isFreed_of_fields hdt),hdt,by simp[h3],(Obj.cls_mapFields _ _).trans t4};let(sl,z):=n2 b o hb q;exact{sl,(oth (nT q)).trans z}
def qfS{oT:Option Addr}(hfr:A.frames=some (env::outer))(hl:s.heap.FunFrames base (env::outer))(hf:env.frame=some L)(he:s.heap.get? e=some oe)(hd:oe.data=.fields vs)(hb:qaE s.heap e vs oT)
  (k:∀h' T',NX (frs (env::outer)) e oT oe vs T' .none s.heap h'->Q () { s with heap:=h' }):wpAny M A (leaving env (.ref e)) Q E s:=by
 unfold leaving;exact wpAny_bind (qex hfr hl hf he hd hb λh1 T' nx=>Yb (s:={ s with heap:=h1 }) nx λh2 nx2=>k h2 T' nx2)
end
def Fly(h:Heap)(x:Addr)(C:Addr)(od oT:Option Addr):Prop:=∃oe vs,h.get? x=some oe/\oe.cls=.ref C/\oe.dict=od/\oe.data=.fields vs/\qaE h x vs oT
def CX1(P:Program)(w:World):CXT:=λouter H s E e s'=>∃x T C od H',e=.ref x/\s'.os=s.os/\AllBare s'.gens/\Un (frs outer) [] H H' s.heap s'.heap/\HOk P w H' s'.heap/\H' x=none/\H' T=none/\
 s.heap.get? x=none/\s.heap.get? T=none/\Fly s'.heap x C od (some T)/\E (.ref C) od H'
theorem ZO{P:Program}{w:World}{H:Hp}{h:Heap}{a:Addr}{o:HO}(x:qQ P w H h a o):∃ob,h.get? a=some ob:=by
 cases o with
 |lst xs=>let(z,its,n,r,e):=x;exact{_,e}
 |tup xs=>let(z,its,r,ob,e,c):=x;exact{_,e}
 |dK kvs=>let(z,y,vs,r,ob,es,ep,e,c):=x;exact{_,e}
 |dT kvs=>let(z,y,xs,r,ob,es,ep,e,c):=x;exact{_,e}
 |set S n=>let(ob,es,ep,t,e,c):=x;exact{_,e}
 |ins C dx fs=>let(d,z,ne,e,_):=x;exact{_,e}
 |own y=>let(ob,e):=x;exact{_,e}
 |xd fs=>let(mA,(od,es,ep,e,c),r):=x;exact{_,e}
 |rng lo hi=>let(t,u,v,e):=x;exact{_,e}
 |frz ob u=>let(e,q):=x;exact{_,e}
 |tbl ps=>exact{_,x}
 |met f y=>exact{_,x}
 |ext φ=>let(p,(o,e),st):=x;exact{_,e}
section
variable{X:Cx}{pins:PP}{Z:St}{H:Hp}{s:Shared}
structure Mine(X:Cx)(pins:PP)(H:Hp)(x:Addr)(oT:Option Addr):Prop where
 hx:H x=none
 x0:X.s₀.heap.get? x=none
 hT:∀T,oT=some T->H T=none/\X.s₀.heap.get? T=none
 pin:∀p∈X.pn++pins,p.1≠x/\oT≠some p.1
variable{x T':Addr}{oT:Option Addr}{oe:Obj}{vs:Array Value}{h':Heap}
def Jg(I:Inv X pins Z H s)(hex:X.ex=[])(M:Mine X pins H x oT)(fx:∃o vs,s.heap.get? x=some o/\o.data=.fields vs)(fT:∀T,oT=some T->∃o vs,s.heap.get? T=some o/\o.data=.fields vs)(nx:NX (frs X.stack) x oT oe vs T' .none s.heap h') :
  Inv X pins Z H { s with heap:=h' }:=by
 let(k1,k2,_):=nx;have nex:∀{b:Addr},b∉X.ex:=λ{b} hb=>by rw[hex]at hb;cases hb
 have s0x:∀{b:Addr} {o:Obj},X.s₀.heap.get? b=some o->b≠X.env.locals/\b≠x/\oT≠some b:=λ{b o} e=>{Nat.ne_of_lt (Nat.lt_of_lt_of_le (Heap.lt_size e) I.ok.above),(λz=>by rw[z,M.x0]at e;cases e),(λz=>by rw[(M.hT b z).2]at e;cases e)}
 have frm:∀{b:Addr},b∈frs X.stack->b=X.env.locals\/b∈X.fs:=λ{b} hb=>List.mem_cons.mp (I.stkSub b hb)
 have any:∀{b:Addr} {o:Obj},s.heap.get? b=some o->(∀vs,o.data≠.fields vs)->∃sl,h'.get? b=some { o with slots:=sl }:=λ{b o} e hn=>by
  by_cases hm:b∈frs X.stack
  ·exact k2 b o hm e
  ·refine{o.slots,k1 b o hm (λz=>?_) (λz=>?_) e}
   ·let(o',v',q,qd):=fx;rw[z,q]at e;cases e;exact hn v' qd
   ·let(o',v',q,qd):=fT b z;rw[q]at e;cases e;exact hn v' qd
 have cellK:∀{c:Addr} {v:Option Value},s.heap.IsCell c v->h'.IsCell c v:=λ{c v} ⟨o,ho,hd⟩=>by
  let(sl,e):=any ho λvs z=>by rw[hd]at z;cases z
  exact{_,e,hd}
 refine{I.ok,I.os,I.bare,{λb o e n hb hx=>?_,λb o e n hb hx=>?_,I.base.free,λb o e hx=>?_,I.base.tups,I.base.frzs,I.base.tbls},?_,λy c e=>?_,I.free,I.freeC,λp hp=>?_,λa o e=>?_,I.len}
 ·let(z1,z2,z3):=s0x e;refine k1 b o (λz=>?_) z2 z3 (I.base.keep b o e n hb hx);rcases frm z with z|z
  ·exact z1 z
  ·exact hb z
 ·let(sl,e1):=I.base.slot b o e n hb hx;let(_,o',ho',hd):=I.ok.funs.mem hb;rw[e]at ho';cases ho';let(sl',e2):=any e1 hd;exact⟨sl',e2⟩
 ·let(o1,e1):=I.base.there b o e hx;let(z1,z2,z3):=s0x e
  by_cases hm:b∈frs X.stack
  ·let(sl,e2):=k2 b _ hm e1;exact{_,e2}
  ·exact{_,k1 b _ hm z2 z3 e1}
 ·let(m,(o,es,ep,ho,hd,r),hl):=I.loc;let(sl,e2):=any ho λvs z=>by rw[hd]at z;cases z
  refine{m,{_,es,ep,e2,hd,r},λi y v e1 e2 e3=>?_};let(u,r,l):=hl i y v e1 e2 e3;refine{u,r,?_};rcases l with l|⟨k,c,e,z⟩
  ·exact .inl l
  ·exact .inr ⟨k,c,e,cellK z⟩
 ·let(v,z):=I.cell y c e;exact{v,cellK z}
 ·let(e,n,ne,nf,d):=I.pin p hp;refine{k1 _ _ (λz=>?_) (M.pin p hp).1 (M.pin p hp).2 e,n,ne,nf,d};rcases frm z with z|z
  ·exact ne z
  ·exact nf z
 ·have trk:∀{b:Addr} {u:HO},H b=some u->b∉frs X.stack/\b≠x/\oT≠some b:=λ{b u} e=>
   ⟨(λz=>by rw[I.stkFree b z]at e;cases e),(λz=>by rw[z,M.hx]at e;cases e),(λz=>by rw[(M.hT b z).1]at e;cases e)⟩
  refine(I.hok a o e).stay (λb u hb q=>?_) (λ_ q=>q) λ_ _ q=>q
  have:b∉frs X.stack/\b≠x/\oT≠some b:=by
   rcases hb with z|z
   ·rw[z];exact trk e
   ·exact trk z
  exact k1 _ _ this.1 this.2.1 this.2.2 q
def NX.chn{h:Heap}{fs:List Addr}{fl:Value}(nx:NX fs x oT oe vs T' fl h h')(he:h.get? x=some oe)(hf:oe.data=.fields vs)(b:qaE h x vs oT):∃n,Chn h' n x:=by
 let(k1,k2,(o',vs',o1,o2,o3,o4,o5,o6,o7),_):=nx
 let(n,c):∃n,Chn h n x:=by
  cases oT with
  |none=>exact b.2
  |some T=>let(_,_,_,_,_,_,_,_,q):=b;exact q
 refine{n,c.keep λy o ws C e1 e2 e3=>?_}
 by_cases hx:y=x
 ·subst hx;rw[he]at e1;cases e1;rw[hf]at e3;cases e3;exact⟨o',vs',o1,o2,o4,o7⟩
 by_cases hm:y∈fs
 ·let(sl,z):=k2 y o hm e1;exact{_,ws,z,rfl,e3,rfl}
 by_cases hT:oT=some y
 ·subst hT;let(_,_,ot,ts,t1,_,_,t4,_):=b;rw[t1]at e1;cases e1;rw[t4]at e2;cases e2
 exact{o,ws,k1 y o hm hx hT e1,rfl,e3,rfl}
def NX.fly{C:Addr}{od:Option Addr}{h:Heap}{fs:List Addr}(nx:NX fs x oT oe vs T' .none h h')(hc:oe.cls=.ref C)(hd:oe.dict=od)(he:h.get? x=some oe)(hf:oe.data=.fields vs)(b:qaE h x vs oT):Fly h' x C od (some T'):=by have q:=nx.chn he hf b;let(_,_,(o',vs',o1,o2,o3,o4,o5,o6,_),_,n5,ot,ts,t1,t2,t3,t4):=nx;exact{o',vs',o1,o2.trans hc,o3.trans hd,o4,o6,n5,ot,ts,t1,t2,t3,t4,q}
def Fly.fields{C:Addr}{od:Option Addr}{h:Heap}(fl:Fly h x C od oT):(∃o vs,h.get? x=some o/\o.data=.fields vs)/\∀T,oT=some T->∃o vs,h.get? T=some o/\o.data=.fields vs:=by let(o,vs,e1,_,_,e4,b):=fl;refine{⟨o,vs,e1,e4⟩,λT z=>?_};subst z;let(_,_,ot,ts,t1,t2,_):=b;exact⟨ot,ts,t1,t2⟩
theorem Inv.newH{x:Addr}(I:Inv X pins Z H s)(h:s.heap.get? x=none):H x=none:=by
 cases e:H x with
 |none=>rfl
 |some u=>let(o,q):=ZO (I.hok x u e);rw[h]at q;cases q
theorem Inv.new0{x:Addr}(I:Inv X pins Z H s)(hx:x∉X.ex)(h:s.heap.get? x=none):X.s₀.heap.get? x=none:=by
 cases e:X.s₀.heap.get? x with
 |none=>rfl
 |some o=>let(o',q):=I.base.there x o e hx;rw[h]at q;cases q
def Yc{E:XK}{C:Addr}{od:Option Addr}(I:Inv X pins Z H s)(hst:X.stack=X.env::X.outer/\X.env.frame=some X.env.locals)(hex:X.ex=[])(M:Mine X pins H x oT)(fl:Fly s.heap x C od oT)(q:E (.ref C) od H){E':PQ} :
  wpAny (model X.prog X.w) X.A (leaving X.env (.ref x)) (λ_ s''=>CX1 X.prog X.w X.outer X.Hv X.s₀ E (.ref x) s'') E' s:=by
 let(fx,fT):=fl.fields;let(oe,vs,e1,e2,e3,e4,b):=fl;have hfr:X.A.frames=some (X.env::X.outer):=by rw[<-hst.1];exact I.ok.frames
 have hl:=I.stack;rw[hst.1]at hl;refine qfS hfr hl hst.2 e1 e4 b λh' T' nx=>?_;have nx2:=nx;rw[<-hst.1]at nx2;have I2:=Jg I hex M fx fT nx2;have no:∀b:Addr,b∉X.ex:=λb z=>by rw[hex]at z;cases z
 exact{x,T',C,od,H,rfl,I2.os,I2.bare,by rw[<-hex];exact I2.base,I2.hok,M.hx,I.newH nx.new,M.x0,I.new0 (no T') nx.new,nx.fly e2 e3 e1 e4 b,q}
end
def qfT{K:Frag}{h:Heap}{C:Addr}{bB:List Value}{nid:String}(Y:K.In h)(ok:excIn K C bB nid=true) :
  ∃bm N nm qn bs hd sn sub ab col dd k0 k1 k2 k3 k5 mN,h.get? C=some (excClassObj nm qn C N bs bm hd sn sub ab col dd k0 k1 k2 k3 k5 nid)/\h.Ns N mN/\mN "__init__" = none/\OwnTail h bB bm:=by
 unfold excIn at ok
 split at ok
 case h_2=>cases ok
 case h_1 d1 cdat slots hlk=>
  split at ok
  case h_2=>cases ok
  case h_1 C2 tl a0 a1 a2 a3 nn a5 hmro hsl=>
   simp![Bool.and_eq_true,beq_iff_eq,Bool.not_eq_true']at ok;let(((((e1,e2),e3),e4),e5),e6):=ok;subst e1;subst e2;let(w1,w2,w3,w4,w5,w6,w7,w8,w9,w10,w11):=cdat
   dsimp only at hmro e3 e5 e6;subst hmro;subst e3;obtain⟨sl⟩:=slots;obtain rfl:sl=[a0,a1,a2,a3,some (.builtin nn),a5]:=hsl;exact{tl,w4,w1,w5,w2,w6,w7,w8,w9,w10,d1,a0,a1,a2,a3,a5,_,Y _ _ hlk,.of_isNs (isNs_of_in Y e5),nsMap_none_of_in Y e5 e6,tail_of_in Y e4}
def Q6(X:Cx)(E:XK):Prop:=∀(pins:PP) (Z:St) (H:Hp) (s:Shared),Inv X pins Z H s->∀(h':Heap) (x C:Addr) (vs:List Value),Heap.MadeExcOf s.heap h' x (.ref C) vs->E (.ref C) none H->X.xe (.ref x) { s with heap:=h' }
section
variable{X:Cx}{pins:PP}{Z:St}{H:Hp}{s:Shared}
def ZP{h h':Heap}{x C:Addr}{vs:List Value}(m:Heap.MadeExcOf h h' x (.ref C) vs):Fly h' x C none none:=by let(t,ht,_):=m.there;exact{_,_,ht,rfl,rfl,rfl,rfl,0,_,_,_,ht,rfl,rfl,rfl}
end
section
variable{P:Program}{w:World}{K:Frag}{mg:PR}{base:Heap}{N:List Str}{qual:Str}{scope:Scope}{f:Addr}{cd:Value}{A:Around}{outer:List Env}{s:Shared}{H:Hp}{E:XK}
def qdf:Q6 (JC (CX1 P w) P w K mg base N qual scope f cd A outer s H E) E:=λpins Z H1 s1 I h' x C vs m q=>by have I2:Inv (JC (CX1 P w) P w K mg base N qual scope f cd A outer s H E) pins Z H1 { s1 with heap:=h' }:=I.kept (t':=s1.toks) m.keeps;refine Yc I2 ⟨rfl,rfl⟩ rfl (oT:=none) ⟨I.newH m.new,I.new0 (by intro z;cases z) m.new,(λT z=>by cases z),λp hp=>{λz=>?_,by simp}⟩ (ZP m) q;let(e,_):=I.pin p hp;rw[z,m.new]at e;cases e
def qbI{X:Cx}{pins:PP}{Z:St}{H1 H2:Hp}{s1:Shared}{x T:Addr}(I:Inv X pins Z H1 s1)(hex:X.ex=[])(hx:H2 x=none)(hT:H2 T=none)(nx:s1.heap.get? x=none)(nT:s1.heap.get? T=none):Mine X pins H2 x (some T):=by
 have no:∀b:Addr,b∉X.ex:=λb z=>by rw[hex]at z;cases z
 refine{hx,I.new0 (no x) nx,λT' z=>by cases z;exact{hT,I.new0 (no T) nT},λp hp=>?_};let(e,_):=I.pin p hp;refine{λz=>?_,λz=>?_}
 ·rw[z,nx]at e;cases e
 ·cases z;rw[nT]at e;cases e
def qbJ{E2:XK}(hE:∀c d h,E2 c d h->E c d h):zr (CX1 P w) (JC (CX1 P w) P w K mg base N qual scope f cd A outer s H E) E2:=λpins Z H1 s1 e s2 I h=>by let(x,T,C,od,H2,rfl,hos,hb,un,hok,hx,hT,nx,nT,fl,q):=h;have I2:Inv (JC (CX1 P w) P w K mg base N qual scope f cd A outer s H E) pins Z H2 s2:=I.call' (ch:=[]) hos un hok hb λb z=>absurd z (5:);exact Yc I2 ⟨rfl,rfl⟩ rfl (qbI I rfl hx hT nx nT) fl (hE _ _ _ q)
def Fun.okx{x:Str}{st:Stmt}{fd:FuncData}{ps:List Str}{k:Nat}{sp:Sp}(F:Fun K x qual st f fd)(S:FnScope N ps (qe st))(len:∀vs H Q E,sp vs H Q E->vs.length=ps.length)
  (body:∀(cdv:Value) (A:Around) (outer:List Env) (s:Shared) (H:Hp) (vs:List V) (Q:VK) (E:XK),Room k (A.deeper (envOfC qual (qe st) s.heap.objs.size f cdv))->sp vs H Q E->
   ∃t,PSs (JC (CX1 P w) P w K mg base N qual (qe st) f cdv A outer s H E) (qt st) t/\t { nx:=λ_ H'=>Q .non H',rt:=Q } (jM N vs) H):FnOk P w K mg base (CX1 P w) (k+1) f fd ps sp:=by
 let(oc,od,kV,doc,pm,an,cdv,ct,osl,rfl,lk,hcd):=F.ex;exact qhN lk hcd S len λA outer s H vs Q E hr hsp=>body cdv A outer s H vs Q E hr hsp
def FnOk.lift{fd:FuncData}{ps:List Str}{k:Nat}{sp:Sp}{CX:CXT}(F:FnOk P w K mg base CX0 k f fd ps sp):FnOk P w K mg base CX k f fd ps sp:=
 ⟨F.len,λA outer s H args us vs Q E hr he hb hv hs=>codeAny_mono (F.run A outer s H args us vs Q E hr he hb hv hs) λr s' h=>by
  cases r with
  |error e=>exact False.elim h
  |ok f=>cases f<;>exact h⟩
end
section
variable{X:Cx}{E:XK}{n:Str}{C:Addr}{bB:List Value}{B nid iid:String}{e0:Expr}{es:List Expr}{t:TA}{np cpos pos:Pos}
def qie(C:Addr)(E:XK)(t:TA):TS:=λ_ Z H=>t Z H λvs H1=>vs.length<=sizeLine/\E (.ref C) none H1
def ZQ(hx:Q6 X E)(hc:X.calm=true)(hg:Gl X n)(hm:X.mg n=some (.ref C))(ok:excIn X.K C bB nid=true)(FB:ExcBaseFacts B nid iid bB)(ha:PA X (e0::es) t)
  (he:starEach (e0::es) X.env=(false,eval e0 X.env)::starEach es X.env:=by rfl) (hpl:(backTo cpos (starEach es X.env)).any (·.1)=false:=by rfl) (hdb:(n == ("__debug__" : Str))=false:=by decide) :
  PS X (.Raise (some (.Call (.Name n np) (e0::es) [] cpos)) none pos) (qie C E t):=by
 intro pins s Z H D I h;let(bm,N,nm,qn,bs,hd,sn,sub,ab,col,dd,k0,k1,k2,k3,k5,mN,hC,hN,hni,T):=qfT I.mod.kin ok
 refine wpAny_Raise_call_subT (C:=C) (nm:=nm) (q:=qn) (N:=N) (bs:=bs) (bm:=bm) (hdct:=hd) (sn:=sn) (sub:=sub) (ab:=ab) (col:=col) (dd:=dd) (k0:=k0) (k1:=k1) (k2:=k2) (k3:=k3) (k5:=k5)
  FB (mN:=mN) (T.hasType FB.hasBase) (I.ok.hd hc) ?_ hni (zi I hg hm ⟨rfl,?_⟩ hdb)
 ·rw[he];show(false||(backTo cpos (starEach es X.env)).any (·.1))=false;rw[hpl];rfl
 have ha':=ha cpos pins s Z H _ I h;rw[he]at ha' ⊢;refine Calls.evalArgs_plain (thn ha' λus s1 z=>?_);let(vs,H1,I1,r,hl,q):=z;exact{rfl,by rw[<-r.length];exact hl,I1.bk _ _ hC,hN.keeps I1.bk,T.keeps I1.bk,λh' x m=>hx pins Z H1 s1 I1 h' x C _ m q}
end
def qcT(x C:Addr)(od:Option Addr):HO:=.ext λh=>∃o,h.get? x=some o/\o.cls=.ref C/\o.dict=od/\notCls o=true
section
variable{X:Cx}{pins:PP}{Z:St}{H:Hp}{s:Shared}{x C:Addr}{od oT:Option Addr}
def qkV(I:Inv X pins Z H s)(fl:Fly s.heap x C od oT)(hx:H x=none)(x0:X.s₀.heap.get? x=none)(pin:∀p∈X.pn++pins,p.1≠x):Inv X pins Z (upd H x (qcT x C od)) s:=by
 let(oe,vs,ho,hc,hdi,hd,_):=fl;have nn:∀{b:Addr},b≠x->upd H x (qcT x C od) b=H b:=λh=>qc h;have ntr:∀{b:Addr} {u:HO},H b=some u->b≠x:=λ{b u} e z=>by rw[z,hx]at e;cases e
 refine{I.ok,I.os,I.bare,{I.base.keep,I.base.slot,λb o e n hx=>?_,I.base.there,λb xs e=>?_,λb o u e=>?_,λb ps e=>?_},I.loc,I.cell,?_,λy c e=>?_,λp hp=>?_,λa o e=>?_,I.len}
 ·rw[nn (λz=>by rw[z,x0]at e;cases e)];exact I.base.free b o e n hx
 ·have:=I.base.tups b xs e
  rw[nn (ntr this)];exact this
 ·have:=I.base.frzs b o u e
  rw[nn (ntr this)];exact this
 ·let(more,this):=I.base.tbls b ps e;rw[nn (ntr this)];exact⟨more,this⟩
 ·have:X.env.locals≠x:=λz=>by
   let(m,(o,es,ep,e1,e2,_),_):=I.loc;rw[z,ho]at e1;cases e1;rw[hd]at e2;cases e2
  rw[nn this];exact I.free
 ·have:c≠x:=λz=>by
   let(v,o,e1,e2):=I.cell y c e;rw[z,ho]at e1;cases e1;rw[hd]at e2;cases e2
  rw[nn this];exact I.freeC y c e
 ·let(e,n,r):=I.pin p hp;refine{e,?_,r};rw[nn (pin p hp)];exact n
 ·have st:∀{c:Addr} {v:HO},qQ X.prog X.w H s.heap c v->qQ X.prog X.w (upd H x (qcT x C od)) s.heap c v:=λz=>
   z.stay (λ_ _ _ q=>q) (λb q=>by rw[nn (ntr q)];exact q) (λb xs q=>by rw[nn (ntr q)];exact q)
  by_cases hb:a=x
  ·subst hb;rw[qf]at e;cases e;refine{{oe,ho,hc,hdi,?_},⟨oe,ho⟩,λh1 h2 ⟨o,e1,e2⟩ k=>{o,k o e1,e2}};unfold notCls;rw[hd]
  ·rw[nn hb]at e;exact st (I.hok a o e)
end
abbrev Cx.mark(X:Cx)(e:Value):Cx:={ X with A:=X.A.mark (some e),calm:=false,xe:=λ_ _=>False }
section
variable{X:Cx}{pins:PP}{Z:St}{H:Hp}{s:Shared}{e:Value}
def Inv.mark(I:Inv X pins Z H s):Inv (X.mark e) pins Z H s:=
 ⟨⟨I.ok.mod,I.ok.kind,I.ok.glob,I.ok.blt,I.ok.above,I.ok.inj,I.ok.has,I.ok.cab,(λz=>by cases z),I.ok.frames,I.ok.stk,I.ok.exf,I.ok.bs,I.ok.bsz,I.ok.noex,I.ok.exfs,I.ok.funs,I.ok.frf⟩,I.os,I.bare,I.base,I.loc,I.cell,I.free,I.freeC,I.pin,I.hok,I.len⟩
def Inv.unmark(ok:X.Ok)(I:Inv (X.mark e) pins Z H s):Inv X pins Z H s:=⟨ok,I.os,I.bare,I.base,I.loc,I.cell,I.free,I.freeC,I.pin,I.hok,I.len⟩
def j4{M:Model}{A:Around}{E:PQ}{i:Nat}{n:Str}{pos:Pos}{Q:Unit->Shared->Prop}(I:Inv X pins Z H s)(hN:X.N.Nodup)(hi:X.N[i]?=some n)(hl:X.env.scope.names.lookup n=some .local)
  (h:∀s',Inv X pins (Z.set i none) H s'->Q () s'):wpAny M A (do bindName X.env n .none;unbindBehindTheSuite X.env n pos) Q E s:=by
 refine wpAny_bind (wpAny_bindName (jX (v:=.non) I hN hi (.inl hl) rfl (λs1 I1 _=>?_) (.inr hl)));unfold unbindBehindTheSuite;refine wpAny_onRaise ?_;let(m,hn,hlk):=id I1.loc;have hiσ:i < Z.length:=by rw[I.len];exact(List.getElem?_eq_some_iff.mp hi).1
 let(u,ru,hlook):=hlk i n .non hi (by rw[List.getElem?_set_self hiσ]) (.inl hl);have hkl:X.env.kindOf n=some .local:=hl
 have hv:m n=some u:=by
  rcases hlook with ⟨_,z⟩|⟨z,_⟩
  ·exact z
  ·rcases z with z|z<;>(rw[hkl]at z;cases z)
 have hcls:(X.env.scope.kind == .class||(X.env.scope.kind == .module&&X.env.locals != X.env.globals))=false:=by rw[I.ok.kind];rfl
 refine wpAny_unbindName_local hkl hn hv hcls λh' u' hn' hs'=>?_;refine h _ ?_;have kp:∀{b:Addr} {o:Obj},b≠X.env.locals->s1.heap.get? b=some o->h'.get? b=some o:=λ{b o} hb e=>(hs'.2 b hb).trans e;have s0l:∀{b:Addr} {o:Obj},X.s₀.heap.get? b=some o->b≠X.env.locals:=λ{b o} e=>Nat.ne_of_lt (Nat.lt_of_lt_of_le (Heap.lt_size e) I.ok.above);have cK:∀{c:Addr} {v:Option Value} {y:Str},X.env.cells.lookup y=some c->s1.heap.IsCell c v->h'.IsCell c v:=λ{c v y} ey ⟨o,ho,hd⟩=>{o,kp (I1.cne y c ey) ho,hd};refine{I1.ok,I1.os,I1.bare,{λb o e n hb hx=>kp (s0l e) (I1.base.keep b o e n hb hx),λb o e n hb hx=>?_,I1.base.free,λb o e hx=>?_,I1.base.tups,I1.base.frzs,I1.base.tbls},{_,hn',λj y v e1 e2 e3=>?_},λy c e=>?_,I1.free,I1.freeC,λp hp=>?_,λa o e=>?_,?_}
 ·let(sl,e1):=I1.base.slot b o e n hb hx;exact{sl,kp (s0l e) e1}
 ·let(o1,e1):=I1.base.there b o e hx;exact{o1,kp (s0l e) e1}
 ·have hij:i≠j:=λz=>by
   subst z;rw[List.getElem?_set_self hiσ]at e2;cases e2
  have hyn:y≠n:=λz=>hij (J3 hN hi (z▸e1));let(u2,r2,l2):=hlk j y v e1 (by rw[List.getElem?_set_ne hij]at e2 ⊢;exact e2) e3;refine{u2,r2,?_};rcases l2 with ⟨k,z⟩|⟨k,c,e,z⟩
  ·exact .inl ⟨k,by show(if y=n then u' else m y)=_;rw[if_neg hyn];exact z⟩
  ·exact .inr ⟨k,c,e,cK e z⟩
 ·let(v,z):=I1.cell y c e;exact{v,cK e z}
 ·let(e,n,ne,r):=I1.pin p hp;exact{kp ne e,n,ne,r}
 ·have tl:∀{b:Addr} {u:HO},H b=some u->b≠X.env.locals:=λ{b u} e z=>by rw[z,I1.free]at e;cases e
  refine(I1.hok a o e).stay (λb u hb q=>kp ?_ q) (λ_ q=>q) λ_ _ q=>q;rcases hb with z|z
  ·rw[z];exact tl e
  ·exact tl z
 ·rw[List.length_set];exact I.len
end
section
variable{X:Cx}{pins:PP}{Z:St}{H:Hp}{s:Shared}
structure Held(X:Cx)(pins:PP)(Z:St)(H:Hp)(s:Shared)(x T C:Addr)(od:Option Addr)(h:Heap):Prop where
 inv:Inv X pins Z H s
 mine:Mine X pins H x (some T)
 fld:(∃o vs,s.heap.get? x=some o/\o.data=.fields vs)/\∀T',some T=some T'->∃o vs,s.heap.get? T'=some o/\o.data=.fields vs
 nx:∃oe vs T',NX (frs X.stack) x (some T) oe vs T' .none s.heap h/\oe.cls=.ref C/\oe.dict=od/\s.heap.get? x=some oe/\oe.data=.fields vs/\qaE s.heap x vs (some T)
variable{x T C:Addr}{od:Option Addr}{h:Heap}
def Held.now(Hd:Held X pins Z H s x T C od h)(hex:X.ex=[]):Inv X pins Z H { s with heap:=h }:=by let(oe,vs,T',nx,_):=Hd.nx;exact Jg Hd.inv hex Hd.mine Hd.fld.1 Hd.fld.2 nx
def Held.fly(Hd:Held X pins Z H s x T C od h):∃T',Fly h x C od (some T'):=by let(oe,vs,T',nx,e1,e2,e3,e4,b):=Hd.nx;exact{T',nx.fly e1 e2 e3 e4 b}
def Held.ty{M:Model}(Hd:Held X pins Z H s x T C od h):Looks M h (typeOf (.ref x)) (.ref C):=by let(T',o,_,ho,hc,_):=Hd.fly;rw[<-hc];exact(Looks.ld ho).andThen .now
def qif(i:Nat)(D:Ends):Ends:={ nx:=λZ' H'=>D.nx (Z'.set i none) H',rt:=D.rt,bk:=λZ' H'=>D.bk (Z'.set i none) H',ct:=λZ' H'=>D.ct (Z'.set i none) H' }
variable{c n:Str}{Dc:Addr}{cp hpos:Pos}{b0:Stmt}{suite:List Stmt}{rest:List ExceptHandler}{i:Nat}{D:Ends}{E:PQ}
theorem qaF{th:TS}(Hd:Held X pins Z H s x T C od h)(hex:X.ex=[])(hg:Gl X c)(hm:X.mg c=some (.ref Dc))(hq:exmOne X.K (.ref C) (.ref Dc)=some true)
  (hN:X.N.Nodup) (hi:X.N[i]?=some n) (hl:X.env.scope.names.lookup n=some .local) (hsu:PSs (X.mark (.ref x)) (b0::suite) th) (q:th (qif i D) (Z.set i (some (.ref x))) (upd H x (qcT x C od)))
  (hdb:(c == ("__debug__" : Str))=false) :
  wpAny (model X.prog X.w) X.A (handleBy (.ref x) X.env (.ExceptHandler (some (.Name c cp)) (some n) (b0::suite) hpos::rest)) (SP X pins D) E { s with heap:=h }:=by
 have I:=Hd.now hex;refine wpAny_handleBy_cons (codeAny_handlers_test ?_) (by intro z;cases z);refine zi (X:=X.mark (.ref x)) I.mark hg hm ?_ hdb;refine Looks.here (exm_one I.kIn Hd.ty hq) ?_;refine codeAny_handlers_suite_as ?_;let(oe,vs,T',nx,e1,e2,e3,e4,b):=Hd.nx;refine Yb (s:={ s with heap:=h }) nx λh3 nx3=>?_;have Hd3:Held X pins Z H s x T C od h3:=⟨Hd.inv,Hd.mine,Hd.fld,oe,vs,T',nx3,e1,e2,e3,e4,b⟩;have I3:=Hd3.now hex;have I4:Inv X pins Z (upd H x (qcT x C od)) { s with heap:=h3 }:=qkV I3 (nx3.fly e1 e2 e3 e4 b) Hd.mine.hx Hd.mine.x0 λp hp=>(Hd.mine.pin p hp).1;refine jX (X:=X.mark (.ref x)) (v:=.ref x) I4.mark hN hi (.inl hl) rfl (λs5 I5 _=>?_) (.inr hl);refine wpAny_mono (hsu pins s5 _ _ (qif i D) I5 q) (λf s6 z=>?_) (λ_ _ z=>False.elim z);have ok:=I.ok
 cases f with
 |next=>let(Z6,H6,I6,z):=z;exact j4 (I6.unmark ok) hN hi hl λs7 I7=>{_,H6,I7,z}
 |brk=>let(Z6,H6,I6,z):=z;exact j4 (I6.unmark ok) hN hi hl λs7 I7=>{_,H6,I7,z}
 |cont=>let(Z6,H6,I6,z):=z;exact j4 (I6.unmark ok) hN hi hl λs7 I7=>{_,H6,I7,z}
 |ret u=>let(v,Z6,H6,I6,r,z):=z;exact j4 (I6.unmark ok) hN hi hl λs7 I7=>{v,_,H6,I7,r,z}
def Q7{nm:Option Str}{body:List Stmt}(Hd:Held X pins Z H s x T C od h)(hex:X.ex=[])(hg:Gl X c)(hm:X.mg c=some (.ref Dc))(hq:exmOne X.K (.ref C) (.ref Dc)=some false)
  (k:wpAny (model X.prog X.w) X.A (handleBy (.ref x) X.env rest) (SP X pins D) E { s with heap:=h }) (hdb:(c == ("__debug__" : Str))=false) :
  wpAny (model X.prog X.w) X.A (handleBy (.ref x) X.env (.ExceptHandler (some (.Name c cp)) nm body hpos::rest)) (SP X pins D) E { s with heap:=h }:=by
 have I:=Hd.now hex;refine wpAny_handleBy_cons (codeAny_handlers_test ?_) (by intro z;cases z);refine zi (X:=X.mark (.ref x)) I.mark hg hm ?_ hdb;exact Looks.here (exm_one I.kIn Hd.ty hq) k
def qmN{H1:Hp}{s1 s':Shared}{EX:XK}{e:Value}{hs:List ExceptHandler}(hst:X.stack=X.env::X.outer/\X.env.frame=some X.env.locals)(hex:X.ex=[])(I:Inv X pins Z H1 s1)(cx:CX1 X.prog X.w X.stack H1 s1 EX e s')
  (k:∀(x T C:Addr) (od:Option Addr) (H2:Hp) (h:Heap),EX (.ref C) od H2->Held X pins Z H2 s' x T C od h->wpAny (model X.prog X.w) X.A (handleBy (.ref x) X.env hs) (SP X pins D) E { s' with heap:=h }) :
  wpAny (model X.prog X.w) X.A (noteFrame e X.env) (λ_ s2=>wpAny (model X.prog X.w) X.A (setFlight e none) (λ_ s3=>wpAny (model X.prog X.w) X.A (handleBy e X.env hs) (SP X pins D) E s3) E s2) E s':=by
 let(x,T,C,od,H2,rfl,hos,hb,un,hok,hx,hT,nx,nT,fl,q):=cx;have I2:Inv X pins Z H2 s':=I.call' (ch:=[]) hos un hok hb λb z=>absurd z (5:);have M:Mine X pins H2 x (some T):=qbI I hex hx hT nx nT;have hfr:X.A.frames=some (X.env::X.outer):=by rw[<-hst.1];exact I.ok.frames
 have hl:=I2.stack;rw[hst.1]at hl;have ff:=fl.fields;let(oe,vs,e1,e2,e3,e4,b):=fl;refine qex hfr hl hst.2 e1 e4 b λh1 T' n1=>Yb (s:={ s' with heap:=h1 }) n1 λh2 n2=>?_;exact k x T C od H2 h2 q ⟨I2,M,ff,oe,vs,T',by rw[hst.1];exact n2,e2,e3,e1,e4,b⟩
end
section
variable{prog:Program}{w:World}{A:Around}{E:PQ}{s:Shared}{K:Frag}{x C:Addr}{ox:Obj}
def qbK{name:Str}{a g:Value}{od:Option Obj}(hc:(clsIn K C).isSome=true)(ha:findIn K (.ref C) name=some (some a))(hg:specialIn K a "__get__" = some (some g))(ht:takesIn K a=some true):findObj K C od name=some (.bind g a):=by let(cd,e):=Option.isSome_iff_exists.mp hc;simp[findObj,e,ha,hg,ht]
structure ExcIs(K:Frag)(C:Addr):Prop where
 cls:(clsIn K C).isSome=true
 ga:findIn K (.ref C) "__getattribute__" = some (some (.builtin "BaseException.__getattribute__"))
 gh:findIn K (.ref C) "__getattr__" = some none
 at_:findIn K (.ref C) "__class__" = some (some (.builtin "object.__class__"))
 get:specialIn K (.builtin "object.__class__") "__get__" = some (some (.builtin "getset_descriptor.__get__"))
 tk:takesIn K (.builtin "object.__class__")=some true
 obj:mroIn K C (.type "object")=some true
 base:mroIn K C (.type "BaseException")=some true
def qbL{Q:Option Value->Shared->Prop}(Y:K.In s.heap){od:Option Obj}(I:W.InstAt s.heap x ox C od)(hC:ExcIs K C)
  (h:Q (some (.ref C)) { s with toks:=s.toks+1 }):wpAny (model prog w) A (getAttr? (.ref x) "__class__") Q E s:=by
 let(hh,g,d,t,os):=s;have L0:=I.type (M:=model prog w);have L1:=looks_findIn (M:=model prog w) Y hC.ga;have L2:=looks_findIn (M:=model prog w) Y hC.gh;have L3:=looks_find (M:=model prog w) Y I (qbK hC.cls hC.at_ hC.get hC.tk);have L4:=looks_mroIn (M:=model prog w) Y hC.base;have hbind:∀self,bindSpecial (.builtin "BaseException.__getattribute__") self=pure (.builtin "BaseException.__getattribute__",[self]):=λself=>by rfl
 unfold getAttr? getAttrBy? getAttrBy;refine wpAny_bind (wpAny_mkText (wpAny_bind (wpAny_attempt (wpAny_holding (wpAny_bind (L0.at (wpAny_bind (L1.at ?_))))))));show wpAny _ _ (getAttrByItsOwn _ _ _ _ _ _) _ _ _;unfold getAttrByItsOwn;refine wpAny_bind ?_;show wpAny _ _ (typeLookup (.ref C) "__getattr__") _ _ _;refine L2.at (wpAny_bind (wpAny_attempt (wpAny_holding ?_)));show wpAny _ _ (boundAndCalled _ _ _) _ _ _;unfold boundAndCalled;refine wpAny_bind ?_;rw[hbind];refine wpAny_pure ?_;refine wpAny_call (codeAny_call_builtin (3:) F.entry_bexc_ga ?_);have hk:builtinKind "BaseException.__getattribute__" = some .slot:=(3:)
 have hsp:splitId "BaseException.__getattribute__" = some ("BaseException","__getattribute__"):=(3:)
 have LI:Looks (model prog w) hh (isInstance (.ref x) (.type "BaseException")) true:=L0.andThen L4;have hargs:=F.args_bexc_ga (.ref x) (.str "__class__" t);simp![checkBuiltinCall,hk,hsp];refine wpAny_bind ?_;refine LI.at ?_;rw[if_neg (2:)];refine wpAny_of_eq hargs ?_;unfold Builtin.«object.__getattribute__»;refine wpAny_bind (wpAny_pure ?_);refine wpAny_bind (wpAny_pure ?_);refine wpAny_bind (L0.at (wpAny_bind (L3.at ?_)));show wpAny _ _ (holding [Value.builtin "object.__class__"] (call (.builtin "getset_descriptor.__get__") [.builtin "object.__class__",.ref x,.ref C]) >>= ret) _ _ _;refine wpAny_bind (wpAny_holding (wpAny_call (class_get (s:={hh,g,d,t+1,os}) (ox:=ox) (od:=od) Y I hC.obj ?_)));exact wpAny_pure (handed_on rfl (wpAny_pure h))
def qfU(hC:ExcIs K C):KitX K (.ref x) (.ref C) (λh=>∃ox od,W.InstAt h x ox C od) where
 ty:=λ_ _ _ ⟨_,_,I⟩=>I.type
 it:=λM h Y _=>by
  let(cd,e):=Option.isSome_iff_exists.mp hC.cls;unfold clsIn at e
  split at e
  ·rename_i ho;intro A' Q' E' s' k q;unfold isType loadHead;refine wpAny_bind (wpAny_loadPart (k _ _ (Y _ _ ho)) ?_);exact wpAny_pure q
  ·cases e
 ne:=λh tp dd its n sl Y htp=>by
  let(cd,e):=Option.isSome_iff_exists.mp hC.cls;refine Bool.eq_false_iff.mpr λq=>?_;have z:C=tp:=Value.ref.inj (beq_iff_eq.mp q);subst z;unfold clsIn at e
  split at e
  ·rename_i ho;have z:=(Y _ _ ho).symm.trans htp;cases z
  ·cases e
 ca:=λY ⟨_,_,I⟩ k=>qbL Y I hC k
end
section
variable{X:Cx}
def qfV(H:Hp)(x C:Addr)(od:Option Addr):Prop:=H x=some (qcT x C od)/\∀dd,od=some dd->∃u,H dd=some u
theorem qfV.inst{pins:PP}{Z:St}{H:Hp}{s:Shared}{x C:Addr}{od:Option Addr}(I:Inv X pins Z H s)(h:qfV H x C od):∃ox oo,W.InstAt s.heap x ox C oo:=by
 let(o,e1,e2,e3,e4):=(I.hok x _ h.1).1
 cases od with
 |none=>exact{o,none,e1,e2,e4,by rw[e3];trivial}
 |some dd=>let(u,hu):=h.2 dd rfl;let(ob,hob):=ZO (I.hok dd u hu);exact{o,some ob,e1,e2,e4,by rw[e3];exact hob}
def qbM:zy X (.builtin "isinstance") (λvs H Q=>∃x C od c cv b,vs=[.ref x,c]/\qfV H x C od/\ExcIs X.K C/\qH c cv/\(∀u,qH c u->u=cv)/\kitOne X.K (.ref C) cv=some b/\Q (.bl b) H):=by intro pins s Z H xs us Q I r h;let(x,C,od,c,cv,b,rfl,hx,hC,rc,uq,e,q):=h;let(u,v,rfl,ru,rv):=QV r;cases ru;obtain rfl:v=cv:=uq v rv;exact kia_one (qfU hC) I.kIn (hx.inst I) e (λz=>nomatch z) λtk=>{.bl b,H,I.tok tk,rfl,q}
end
def Its(x:Str):It:={λi _=>i < x.cps.size,λi H v H'=>H'=H/\∃c,x.cps[i]?=some c/\v=.str {#[c]},λi _=>i=x.cps.size}
def qdg{P:Program}{w:World}{K:Frag}{tg:Expr}{x:Str}{t:Tok}{it:Addr}{T:String}(hT:T = "str_ascii_iterator"\/T = "str_iterator")(W:∀A':Around,A'.handled=none->Walks P w A' it [it] [it] x.cps.size (SignAt x) (λi h=>h.IsStrIter it T x t i)) :
  Turn P w K tg (Its x) [it] it (λi h=>h.IsStrIter it T x t i) where
 mem:=by simp
 obj:=λi h st b hb=>by
  have e:b=it:=(-hb:)
  subst e;let(o,e,c,d):=st;exact{o,e,λv z=>by rw[d]at z;cases z}
 keep:=λi h h' st k=>let ⟨o,e,r⟩:=st;⟨o,k it (5:) o e,r⟩
 item:=by intro X hP hw hK hc i pins s Z H E I hf st hg;subst hP hw hK;let(f0,f1,f2,f3,f4,f5):=hf it (5:);refine(W X.A (I.ok.hd hc)).item i s _ _ hg st λv h' tk hv st' kk=>?_;let(c,u,hcx,rfl):=hv;have I1:Inv X pins Z H { s with heap:=h',toks:=tk }:=I.turned (λb o hb e=>kk b o (-hb:) e) f0 f1 f3 f4 f5;let(o,e1,e2,e3):=id st';refine{_,rfl,qcY (s:={ s with heap:=h',toks:=tk }) e1 e2 e3 (by rcases hT with z|z<;>(rw[z];decide)) ⟨.str ⟨#[c]⟩,H,I1,⟨u,rfl⟩,⟨rfl,c,hcx,rfl⟩,st',λb hb=>(hf b hb).1⟩}
 done:=by intro X hP hw hK hc i pins s Z H E I hf st hg;subst hP hw hK;obtain rfl:i=x.cps.size:=hg;let(f0,f1,f2,f3,f4,f5):=hf it (5:);exact(W X.A (I.ok.hd hc)).done s _ _ st λh' tk kk=>{rfl,I.turned (λb o hb e=>kk b o (-hb:) e) f0 f1 f3 f4 f5}
 self:=λA i s Q E st h=>by
  rcases hT with z|z
  ·subst z;exact wpAny_pyIter_striter_ascii st h
  ·subst z;exact wpAny_pyIter_striter_wide st h
structure ClsFn(K:Frag)(C:Addr)(m:Str)(f:Addr):Prop where
 reads:readsIn K C (.type "type")=true
 sp:specialIn K (.ref C) "__getattribute__" = some (some (.builtin "type.__getattribute__"))
 at_:findCls K (.ref C) (.type "type") m=some (.val (.ref f))
 kp:keepIn K (.ref f)=true
section
variable{X:Cx}{CX:CXT}{k:Nat}{f C:Addr}{fd:FuncData}{ps:List Str}{sp:Sp}{dvs:List V}{ds:List Value}{E:XK}{x m:Str}{p pos apos:Pos}{e:Expr}{es:List Expr}{t:TA}
def ZR{pl:Sem Bool}(hC:ClsFn X.K C m f)(F:FnOk X.prog X.w X.K X.mg X.base CX k f fd ps sp)(hr:Room k X.A)(hg:Gl X x)(hm:X.mg x=some (.ref C))(hb:qM X.K fd ps ds)(hd:qD dvs ds)(hx:zr CX X E)(ha:PA X (e::es) t)
  (hdb:(x == ("__debug__" : Str))=false:=by decide) (hst:starEach (e::es) X.env=(false,eval e X.env)::starEach es X.env:=by rfl) (hpl:(backTo pos (starEach es X.env)).any (·.1)=false:=by rfl)
  (ht:eval (.Call (.Attribute (.Name x p) m apos) (e::es) [] pos) X.env=(do
   let ov<-eval (.Name x p) X.env
   standAt apos.atName
   let (f,first)<-holding [ov] (getMethod ov m pl)
   callWith pos f first (backTo pos (starEach (e::es) X.env)) (backToKw pos (keywordEach [] X.env))):=by rfl) :
  PE X (.Call (.Attribute (.Name x p) m apos) (e::es) [] pos) (qbg sp dvs E t):=by
 intro pins s Z H Q I h;refine PySem.W.methodCall_KW (pl:=pl) (zi I hg hm ?_ hdb) ht;refine method_cls I.kIn hC.sp (cls_value I.kIn hC.reads hC.at_ rfl ?_);have I1:=I.tok (s.toks+1);refine PySem.W.callWith_K (first:=[]) (h₀:=X.base) I.ok.mod.kin hC.kp (thn (ha pos pins _ Z H _ I1 h) λus s2 z=>?_) hst hpl;let(vs,H2,I2,r,q):=z;exact{I2.kIn,YX F hr hb hd hx I2 r q}
end
def Inv.turnedAll{X:Cx}{pins:PP}{Z:St}{H:Hp}{s:Shared}{h':Heap}{t':Nat}{ch:List Addr}(I:Inv X pins Z H s)(k:∀b o,b∉ch->s.heap.get? b=some o->h'.get? b=some o)(hf:∀b∈ch,qaq X pins H b):Inv X pins Z H { s with heap:=h',toks:=t' }:=by
 have nch:∀{b:Addr} {u:HO},H b=some u->b∉ch:=λ{b u} e z=>by rw[(hf b z).1]at e;cases e
 refine I.step (g':=s.gens) (d':=s.drawn) (ch:=ch) (λb hb=>?_) (λb o _ _ hc e _=>k b o hc e) (λb o _ _ hc e _=>{o.slots,k b o hc e}) (λ_ _ _ _ n=>n) (λb o hc e=>{o,k b o hc e}) (λ_ _ e=>e) (λ_ _ _ e=>e) (λb ps e=>{#[],by rw[e];simp}) (λm hm=>?_) (λb u e=>?_) I.bare
 ·let(f0,f1,f2,f3,f4,f5):=hf b hb;exact⟨f3,f1,f4,f5⟩
 ·let(o,es,ep,ho,r):=hm;exact{o,es,ep,k _ o (λz=>(hf _ z).2.1 rfl) ho,r}
 ·refine(I.hok b u e).stay (λc v hc q=>k c v ?_ q) (λ_ q=>q) λ_ _ q=>q;rcases hc with z|z
  ·rw[z];exact nch e
  ·exact nch z
def Inv.turnedNew{X:Cx}{pins:PP}{Z:St}{H:Hp}{s:Shared}{h':Heap}{t':Nat}{ch:List Addr}{T:Addr}{ob:HO}(I:Inv X pins Z H s)(k:∀b o,b∉ch->s.heap.get? b=some o->h'.get? b=some o)(hf:∀b∈ch,qaq X pins H b)
  (hT:s.heap.get? T=none) (new:qQ X.prog X.w (upd H T ob) h' T ob):Inv X pins Z (upd H T ob) { s with heap:=h',toks:=t' }:=by
 have hH:H T=none:=I.newH hT;have nch:∀{b:Addr} {u:HO},H b=some u->b∉ch:=λ{b u} e z=>by rw[(hf b z).1]at e;cases e
 have nT:∀{b:Addr} {u:HO},H b=some u->b≠T:=λ{b u} e z=>by rw[z,hH]at e;cases e
 have up:∀{b:Addr} {u:HO},H b=some u->upd H T ob b=some u:=λ{b u} e=>by rw[qc (nT e)];exact e
 refine I.step (g':=s.gens) (d':=s.drawn) (ch:=ch) (λb hb=>?_) (λb o _ _ hc e _=>k b o hc e) (λb o _ _ hc e _=>{o.slots,k b o hc e}) (λb o _ e n=>?_) (λb o hc e=>{o,k b o hc e}) (λ_ _ e=>up e) (λ_ _ _ e=>up e) (λb ps e=>{#[],by rw[up e];simp}) (λm hm=>?_) (λb u e=>?_) I.bare
 ·let(f0,f1,f2,f3,f4,f5):=hf b hb;exact⟨f3,f1,f4,f5⟩
 ·rw[qc (λz=>by rw[z,hT]at e;cases e)];exact n
 ·let(o,es,ep,ho,r):=hm;exact{o,es,ep,k _ o (λz=>(hf _ z).2.1 rfl) ho,r}
 ·by_cases hb:b=T
  ·subst hb;rw[qf]at e;cases e;exact new
  ·rw[qc hb]at e;refine(I.hok b u e).stay (λc v hc q=>k c v ?_ q) (λ_ q=>up q) λ_ _ q=>up q;rcases hc with z|z
   ·rw[z];exact nch e
   ·exact nch z
open PyProof
section
variable{X:Cx}
theorem qig:SlR X (λx lo hi H Q=>∃z,x=.str z/\z.length<=sizeLine/\Q (.str (Txt.slice z lo hi)) H):=by
 intro pins s Z H x v vl vu lo hi sl Q I rx hs pl pu h;let(z,rfl,hz,q):=h;let(t,rfl):=rx;refine{"str",_,F.slot_str_getitem.lookup,typeIs_str _ _ _,?_};let(o,e1,e2,e3):=hs
 cases pl with
 |none=>
  cases pu with
  |none=>exact wpAny_getItem_str_slice (l:=none) (u:=none) (st:=none) ⟨o,e1,e2,e3⟩ rfl (post_val_or_str ⟨Nat.le_trans (Txt.slice_le z _ _) hz,λt' k=>{.str _,H,I.tok k,⟨t',rfl⟩,q}⟩)
  |int j uj=>exact wpAny_getItem_str_slice (l:=none) (u:=some (j,uj)) (st:=none) ⟨o,e1,e2,e3⟩ rfl (post_val_or_str ⟨Nat.le_trans (Txt.slice_le z _ _) hz,λt' k=>{.str _,H,I.tok k,⟨t',rfl⟩,q}⟩)
 |int i ui=>
  cases pu with
  |none=>exact wpAny_getItem_str_slice (l:=some (i,ui)) (u:=none) (st:=none) ⟨o,e1,e2,e3⟩ rfl (post_val_or_str ⟨Nat.le_trans (Txt.slice_le z _ _) hz,λt' k=>{.str _,H,I.tok k,⟨t',rfl⟩,q}⟩)
  |int j uj=>exact wpAny_getItem_str_slice (l:=some (i,ui)) (u:=some (j,uj)) (st:=none) ⟨o,e1,e2,e3⟩ rfl (post_val_or_str ⟨Nat.le_trans (Txt.slice_le z _ _) hz,λt' k=>{.str _,H,I.tok k,⟨t',rfl⟩,q}⟩)
end
def Ite(K:Frag)(a:Addr):It:=
 ⟨λi H=>∃xs x,SqL K H a xs/\xs[i]?=some x,
  λi H v H'=>∃T x,v=.ref T/\H T=none/\H'=upd H T (.tup [.int i,x])/\∀xs,SqL K H a xs->xs[i]?=some x,
  λi H=>∃xs,SqL K H a xs/\xs.length<=i⟩
def ESt(e it a:Addr)(i:Nat)(h:Heap):Prop:=(∃old,IsEnum h e it ((i:Nat):Int) old)/\h.IsListIter it a i
def qbN{P:Program}{w:World}{K:Frag}{elts:List Expr}{kk:Nat}{pos:Pos}{e it a:Addr}(hne:e≠it) :
  Turn P w K (.Tuple elts kk pos) (Ite K a) [e,it] e (ESt e it a) where
 mem:=by simp
 obj:=λi h st c hc=>by
  let((old,s1),(o4,s4,_,d4)):=st;simp at hc;rcases hc with rfl|rfl
  ·exact{_,s1,λv q=>by cases q}
  ·exact{_,s4,λv q=>by rw[d4]at q;cases q}
 keep:=λi h h' st k=>by let((old,s1),s4):=st;exact{{old,k e (5:) _ s1},s4.at λo e=>k it (5:) o e}
 item:=by
  intro X hP hw hK hc i pins s Z H E I hf st hg;subst hP hw hK;let(xs,x,qa,hx):=hg;let((old,s1),s4):=st;let(ia,ra,pa,za):=I.list qa;let(ux,ex,rx):=ra.get hx;refine wpAny_pyNext_enum_item s1 s4 pa.isList (x:=ux) (-ex:) hne λh' a1 a2 a3 a4 kp=>?_;refine{_,rfl,wpAny_letOwnedTupleGo_enum (s:={ s with heap:=h',toks:=s.toks+1 }) a1 λh2 b1 b2=>?_};have two:(2:Nat)<=sizeLine:=Nat.le_of_lt (qbq (2:))
  have kp2:∀c o,c∉[e,it]->s.heap.get? c=some o->h2.get? c=some o:=λc o hc q=>by simp at hc;exact b2.extBut c o hc.1 (kp c o hc.1 hc.2 q)
  have hnew:s.heap.get? s.heap.objs.size=none:=by
   cases q:s.heap.get? s.heap.objs.size with
   |none=>rfl
   |some o=>exact absurd (Heap.lt_size q) (Nat.lt_irrefl _)
  have hH:H s.heap.objs.size=none:=I.hok.fresh (Nat.le_refl _);have hTe:s.heap.objs.size≠e:=Nat.ne_of_gt (Heap.lt_size s1);have hT2:IsPair h2 s.heap.objs.size (.int i s.toks) ux:=b2.extBut _ _ hTe a3;have I2:Inv X pins Z (upd H s.heap.objs.size (.tup [.int i,x])) { s with heap:=h2,toks:=s.toks+1 }:=I.turnedNew (t':=s.toks+1) kp2 hf hnew ⟨two,[.int i s.toks,ux],.cons ⟨_,rfl⟩ %[rx|0],_,hT2,rfl,0,rfl⟩;refine{.ref s.heap.objs.size,_,I2,rfl,{_,x,rfl,hH,rfl,λxs' h1=>?_},?_,λc hc=>?_}
  ·rw[I.list_inj h1 qa];exact hx
  ·have e1:((i+1:Nat):Int)=(i:Int)+1:=by lia
   refine{{ux,?_},a2.extBut b2.extBut (Ne.symm hne)};rw[e1];exact b1
  ·have hc0:=(hf c hc).1;rw[qc]
   ·exact hc0
   ·intro q
    have e:∃o,s.heap.get? c=some o:=by
     simp at hc;rcases hc with rfl|rfl
     ·exact{_,s1}
     ·let(o,e,_):=s4;exact⟨o,e⟩
    let(o,e):=e;rw[q,hnew]at e;cases e
 done:=by intro X hP hw hK hc i pins s Z H E I hf st hg;subst hP hw hK;let(xs,qa,hend):=hg;let((old,s1),s4):=st;let(ia,ra,pa,za):=I.list qa;have la:=ra.length;refine wpAny_pyNext_enum_end (I.ok.hd hc) s1 s4 pa.isList (by simp;lia) λh' kp=>{rfl,I.turnedAll (t':=s.toks) (λc o hc e=>?_) hf};simp at hc;exact kp c o hc.2 e
 self:=λA i s Q E st h=>by let((old,s1),_):=st;exact wpAny_pyIter_enum s1 h
def qkW(K:Frag)(ta:TA):TI:=λZ H R=>ta Z H λvs H1=>∃a,vs=[.ref a]/\(∃xs,SqL K H1 a xs)/\R (Ite K a) H1
section
variable{X:Cx}
def qfW{ea:Expr}{elts:List Expr}{kk:Nat}{tpos p pos:Pos}{ta:TA}(hg:Gl X "enumerate")(hm:X.mg "enumerate" = none)(ha:PA X [ea] ta)(hs:starEach [ea] X.env=[(false,eval ea X.env)]:=by rfl) :
  PI X (.Tuple elts kk tpos) (.Call (.Name "enumerate" p) [ea] [] pos) (qkW X.K ta):=by
 intro pins s Z H R I h;refine Call_ (YM I hg hm boot_enumerate (PyProof.Rows.callWith_type1 (thn (ha pos pins s Z H _ I h) λus s1 z=>?_) hs rfl));let(vs,H1,I1,r1,a,rfl,(xs,qa),q):=z;let(u,rfl,ru):=YT r1;cases ru;let(ia,ra,pa,za):=I1.list qa;refine call_enumerate_list pa.isList λh' z1 z2 z3 kp=>wpAny_pyIter_enum z1 ?_;refine{s1.heap.objs.size+1,[s1.heap.objs.size+1,s1.heap.objs.size],_,_,H1,rfl,I1.kept (t':=s1.toks) kp,qbN (Nat.succ_ne_self _),{{_,z1},z2},λc hc=>?_,q}
 have:s1.heap.objs.size<=c:=by
  simp at hc;rcases hc with rfl|rfl
  ·exact Nat.le_add_right _ _
  ·exact Nat.le_refl _
 exact I1.fpOk this (I1.hok.fresh this)
end
theorem qbO:∀{zs:List Str} {us:List Value},qD (zs.map V.str) us->StrsAre us zs
 |[],_,.nil=>.nil
 | z::zs,_,.cons r t=>by let(k,rfl):=r;exact .cons z k (qbO t)
def rsz(lo hi c:Int):Nat:=if lo < hi then ((hi - lo - 1) / c+1).toNat else 0
def JM(K:Frag)(C fI:Addr)(bmB:List Value)(newId:String):Bool:=match K.lookup C with
 | some ⟨.type "type",_,.cls cd,sl⟩=>(match cd.mro,sl.toList with
  | .ref C'::bm,[_,_,_,_,some (.builtin n),_]=>C' == C&&n == newId&&!cd.hasDel&&tailIn K bmB bm&&nsOkIn K cd.ns&&nsIn K cd.ns "__init__" == some (some (.ref fI))
  |_,_=>false)
 |_=>false
def qaG{K:Frag}{h:Heap}{N:Addr}{mg:PR}{n:Str}{v:Value}(X:K.In h)(G:h.Ns N mg)(e:nsIn K N n=some (some v)):mg n=some v:=by
 let(o,es,ep,ho,hd,_,hf):=G;unfold nsIn at e
 split at e
 ·rename_i c d es' n' sl q
  have:=X _ _ q
  rw[ho]at this;cases this;cases hd
  split at e
  ·rename_i en he;cases e;rw[<-hf];unfold nsFind findBy;rw[<-Array.find?_toList,he];rfl
  ·split at e<;>cases e
 ·cases e
def ZS{K:Frag}{h:Heap}{C fI:Addr}{bB:List Value}{nid:String}(Y:K.In h)(ok:JM K C fI bB nid=true) :
  ∃bm N nm qn bs hd sn sub ab col dd k0 k1 k2 k3 k5 mN,h.get? C=some (excClassObj nm qn C N bs bm hd sn sub ab col dd k0 k1 k2 k3 k5 nid)/\h.Ns N mN/\mN "__init__" = some (.ref fI)/\OwnTail h bB bm:=by
 unfold JM at ok
 split at ok
 case h_2=>cases ok
 case h_1 d1 cdat slots hlk=>
  split at ok
  case h_2=>cases ok
  case h_1 C2 tl a0 a1 a2 a3 nn a5 hmro hsl=>
   simp![Bool.and_eq_true,beq_iff_eq,Bool.not_eq_true']at ok;let(((((e1,e2),e3),e4),e5),e6):=ok;subst e1;subst e2;let(w1,w2,w3,w4,w5,w6,w7,w8,w9,w10,w11):=cdat
   dsimp only at hmro e3 e5 e6;subst hmro;subst e3;obtain⟨sl⟩:=slots;obtain rfl:sl=[a0,a1,a2,a3,some (.builtin nn),a5]:=hsl;exact{tl,w4,w1,w5,w2,w6,w7,w8,w9,w10,d1,a0,a1,a2,a3,a5,_,Y _ _ hlk,.of_isNs (isNs_of_in Y e5),qaG Y (.of_isNs (isNs_of_in Y e5)) e6,tail_of_in Y e4}
section
variable{prog:Program}{w:World}{A:Around}{E:PQ}{h:Heap}{g:Array GenState}{d:Drawn}{t:Nat}{os:OsState}
variable{nm q:Str}{C N:Addr}{bs bm bmB:List Value}{hdct:Bool}{sn:List Str}{sub:List Value}{ab:Bool}{col:Option Bool}{dd:Option Addr}{k0 k1 k2 k3 k5:Option Value}{B newId initId:String}
def Jh(F:ExcBaseFacts B newId initId bmB)(T:OwnTail h bmB bm){mN:PR}{rest:List Value}{fI:Addr}{oI:Obj}{Q:Fin->Shared->Prop}
  (hC:h.get? C=some (excClassObj nm q C N bs bm hdct sn sub ab col dd k0 k1 k2 k3 k5 newId)) (hn:h.Ns N mN) (hi:mN "__init__" = some (.ref fI))
  (hfI:h.get? fI=some oI) (hfc:oI.cls=.type "function")
  (hq:∀h' e,Heap.MadeExcOf h h' e (.ref C) rest->
   wpAny (model prog w) A (call (.ref fI) (.ref e::rest)) (λr s'=>r=.none/\Q (.done (.ret (.ref e))) s') E ⟨h',g,d,t,os⟩) (hrest:rest.length<=sizeLine) :
  wpAny (model prog w) A (Builtin.«type.__call__» ⟨.ref C::rest,[]⟩) Q E ⟨h,g,d,t,os⟩:=by
 repeat (first|with_reducible refine wpAny_loadPart_at hC ?_|with_reducible refine wpAny_madeBy_exc hC ?_|wp_step)
 refine codeAny_call_builtin_code (Code.quiet_builtin _ F.quiet) (wpAny_check_new_subT F T hC ?_);refine codeAny_exc_new_subT F T hC ?_ hrest;show wpAny _ _ _ _ _ _
 have hC₁:=Heap.get?_push_of_some { cls:=.ref C,data:=.fields #[.ref h.objs.size,.none,.none,.none,.bool false,.none] }
  (Heap.get?_push_of_some { cls:=.type "tuple",data:=.seq rest.toArray } hC)
 have hfI₁:=Heap.get?_push_of_some { cls:=.ref C,data:=.fields #[.ref h.objs.size,.none,.none,.none,.bool false,.none] }
  (Heap.get?_push_of_some { cls:=.type "tuple",data:=.seq rest.toArray } hfI)
 have hn₁:((h.push { cls:=.type "tuple",data:=.seq rest.toArray }).push { cls:=.ref C,data:=.fields #[.ref h.objs.size,.none,.none,.none,.bool false,.none] }).Ns N mN:=
  let ⟨o,es,ep,e,r⟩:=hn;⟨o,es,ep,Heap.get?_push_of_some _ (Heap.get?_push_of_some _ e),r⟩
 have hget:((h.push { cls:=.type "tuple",data:=.seq rest.toArray }).push
   { cls:=.ref C,data:=.fields #[.ref h.objs.size,.none,.none,.none,.bool false,.none] }).get? (h.objs.size+1)=some
   { cls:=.ref C,data:=.fields #[.ref h.objs.size,.none,.none,.none,.bool false,.none] }:=by heap_get
 have hcC:(Value.ref C::bm).contains (.ref C)=true:=by simp
 have T₁:=T.keeps (h':=(h.push { cls:=.type "tuple",data:=.seq rest.toArray }).push { cls:=.ref C,data:=.fields #[.ref h.objs.size,.none,.none,.none,.bool false,.none] })
  λb o e=>Heap.get?_push_of_some _ (Heap.get?_push_of_some _ e)
 unfold isInstance
 repeat (first|with_reducible refine wpAny_loadPart_at hget ?_|(with_reducible refine wpAny_isSubtype_exc hC₁ ?_;rw[hcC])|wp_step)
 show wpAny _ _ (typeLookup (.ref C) _) _ _ _;refine wpAny_typeLookup_tail hC₁ hn₁ T₁ F.mroIs F.init.lookup ?_;rw[hi];refine wpAny_holding (wpAny_bind ?_);unfold bindSpecial;refine wpAny_bind (wpAny_typeOf (T:="function") ⟨_,hfI₁,hfc⟩ ?_);rw[if_pos (2:)];refine wpAny_pure (wpAny_bind (wpAny_mono (hq _ (h.objs.size+1) ⟨λb o hb=>Heap.get?_push_of_some _ (Heap.get?_push_of_some _ hb),Heap.get?_none_of_le (Nat.le_succ _),h.objs.size,hget,Heap.get?_none_of_le (Nat.le_refl _),?_⟩) (λr s' hr=>?_) λ_ _ x=>x))
 ·exact Heap.get?_push_of_some _ (Heap.get?_push_at rfl rfl)
 ·let(rfl,hQ):=hr
  wp_walk
  exact hQ
def qaH(F:ExcBaseFacts B newId initId bmB)(T:OwnTail h bmB bm){mN:PR}{rest:List Value}{fI:Addr}{oI:Obj}{Q:PQ}
  (hC:h.get? C=some (excClassObj nm q C N bs bm hdct sn sub ab col dd k0 k1 k2 k3 k5 newId)) (hn:h.Ns N mN) (hi:mN "__init__" = some (.ref fI))
  (hfI:h.get? fI=some oI) (hfc:oI.cls=.type "function")
  (hq:∀h' e,Heap.MadeExcOf h h' e (.ref C) rest->
   wpAny (model prog w) (A.under (.builtin "type.__call__" ⟨.ref C::rest,[]⟩)) (call (.ref fI) (.ref e::rest)) (λr s'=>r=.none/\Q (.ref e) s') E ⟨h',g,d,t,os⟩) (hrest:rest.length<=sizeLine) :
  wpAny (model prog w) A (call (.ref C) rest) Q E ⟨h,g,d,t,os⟩:=by
 have f1:=tc_lookup;have f2:=tc_bind (.ref C);have hT:(⟨h,g,d,t,os⟩:Shared).TypeIs (.ref C) "type":={_,hC,rfl};refine wpAny_call (codeAny_of_tree ?_);show wpAny _ _ (callAny (.ref C) _) _ _ _
 repeat (any_goals (first|assumption|with_reducible refine wpAny_loadPart_at hC ?_|wp_step))
 refine{rfl,?_};refine codeAny_call_builtin_at (Code.quiet_builtin _ (3:)) entry_typeCall (wpAny_check_type_call_sub hC (Jh (hrest:=hrest) F T hC hn hi hfI hfc λh' e hm=>?_));exact hq h' e hm
end
section
variable{prog:Program}{w:World}{A:Around}{E:PQ}{s:Shared}{env:Env}
variable{nm q:Str}{C N:Addr}{bs bm bmB:List Value}{hdct:Bool}{sn:List Str}{sub:List Value}{ab:Bool}{col:Option Bool}{dd:Option Addr}{k0 k1 k2 k3 k5:Option Value}{newId:String}
def qaI{M:Model}{x:Str}{np cpos pos:Pos}{args:List Expr}{Q:Flow->Shared->Prop}(hbase:bm.contains (.type "BaseException")=true)(hh:A.handled=none)
  (h:wpAny M A (eval (.Call (.Name x np) args [] cpos) env) (λv s₁=>∃e v0 od sl,v=.ref e/\s₁.heap.get? C=some (excClassObj nm q C N bs bm hdct sn sub ab col dd k0 k1 k2 k3 k5 newId)/\
   s₁.heap.get? e=some ⟨.ref C,od,.fields #[v0,.none,.none,.none,.bool false,.none],sl⟩/\E (.ref e) s₁) E s) :
  wpAny M A (exec (.Raise (some (.Call (.Name x np) args [] cpos)) none pos) env) Q E s:=by
 rw[arm_exec_Raise];have hcB:(Value.ref C::bm).contains (.type "BaseException")=true:=by rw[List.contains_cons,hbase,Bool.or_true]
 simp![evalOpt,Option.map];refine wpAny_bind (wpAny_standAt ?_);unfold raiseStmt;refine wpAny_bind (wpAny_bind (wpAny_mono h (λv s₁ h₁=>wpAny_bind (wpAny_standAt (wpAny_pure ?_))) λ_ _ x=>x));let(e,v0,od,sl,rfl,hC,he,hE):=h₁;let(hp,g,d,tk,os):=s₁
 repeat (first|with_reducible refine wpAny_loadPart_at he ?_|with_reducible refine wpAny_loadPart_at hC ?_|(with_reducible refine wpAny_isSubtype_exc hC ?_;rw[hcB])|wp_step)
 exact wpAny_raiseNew_none hh hE
end
abbrev bV:List Value:=[.type "ValueError",.type "Exception",.type "BaseException",.type "object"]
def yD(x C:Addr)(od:Option Addr):HO:=.ext λh=>∃v0,h.get? x=some ⟨.ref C,od,.fields #[v0,.none,.none,.none,.bool false,.none],#[]⟩
def xD(a:Addr)(fs:List (Str×V)):HO:=.ext λh=>∃mA,h.Ns1 a mA/\(∀f,Zy (fs.lookup f) (mA f))/\PySem.Within mA (fs.map (·.1))
def Q8{P:Program}{w:World}{H:Hp}{h:Heap}{x C:Addr}{od:Option Addr}{v0:Value}(e:h.get? x=some ⟨.ref C,od,.fields #[v0,.none,.none,.none,.bool false,.none],#[]⟩):qQ P w H h x (yD x C od):=
 ⟨⟨v0,e⟩,⟨_,e⟩,λh1 h2 ⟨v,z⟩ k=>{v,k _ z}⟩
def qfX{P:Program}{w:World}{H:Hp}{h:Heap}{a:Addr}{fs:List (Str×V)}{mA:PR}(e:h.Ns1 a mA)(r:∀f,Zy (fs.lookup f) (mA f))(wi:PySem.Within mA (fs.map (·.1))):qQ P w H h a (xD a fs):=by let(od,es,ep,e1,c):=e;refine{{mA,⟨od,es,ep,e1,c⟩,r,wi},{_,e1},λh1 h2 hz k=>?_};let(mB,(o2,es2,ep2,e2,c2),r2):=hz;exact{mB,{o2,es2,ep2,k _ e2,c2},r2}
def ZT{H:Hp}{a:Addr}{o:HO}(h:H a=some o):upd H a o=H:=by
 funext b
 by_cases hb:b=a
 ·subst hb;rw[qf,h]
 ·rw[qc hb]
section
variable{X:Cx}
def qaJ:zy X (.builtin "ValueError.__init__") (λvs H Q=>∃x C fI m,vs=[.ref x,.str m]/\H x=some (yD x C none)/\JM X.K C fI bV "ValueError.__new__" = true/\Q .non H):=by
 intro pins s Z H xs us Q I r h;let(x,C,fI,m,rfl,hx,ok,q):=h;let(u,v,rfl,ru,rv):=QV r;cases ru;let(t,rfl):=rv;let(bm,N,nm,qn,bs,hd,sn,sub,ab,col,dd,k0,k1,k2,k3,k5,mN,hC,hN,hi,T):=ZS I.kIn ok;let((v0,he),_):=I.hok x _ hx;have F:=PySem.F.excBase_ValueError;let(hh,g,d,tk,os):=s;refine wpAny_call (codeAny_call_builtin F.init.plain F.initEntry (wpAny_check_init_subT F T hC he rfl ?_))
 wp_walk
 have hn:(hh.push { cls:=.type "tuple",data:=.seq #[Value.str m t] }).get? x=some ⟨.ref C,none,.fields #[v0,.none,.none,.none,.bool false,.none],#[]⟩:=Heap.get?_push_of_some _ he
 have fin:EP X pins Z Q Value.none { heap:=(hh.push { cls:=.type "tuple",data:=.seq #[Value.str m t] }).update x (Obj.mapFields λx=>x.setIfInBounds 0 (Value.ref hh.objs.size)),gens:=g,drawn:=d,toks:=tk,os:=os }:=by
  refine{.non,H,?_,rfl,q}
  have I2:=I.write (x:=x) (e:=x) (o:=yD x C none) (t':=tk) (h':=(hh.push { cls:=.type "tuple",data:=.seq #[Value.str m t] }).update x (Obj.mapFields λx=>x.setIfInBounds 0 (Value.ref hh.objs.size))) (by rw[hx];exact True.intro) (.inl rfl)
   (λb u hb e=>by rw[Heap.get?_update_other _ _ (Ne.symm hb)];exact Heap.get?_push_of_some _ e) ⟨_,Heap.get?_update_self _ hn rfl⟩ (Q8 (v0:=Value.ref hh.objs.size) (Heap.get?_update_self _ hn rfl))
  rw[ZT hx]at I2;exact I2
 cases v0<;>first|exact wpAny_pure (wpAny_pure fin)|(refine wpAny_letGo ?_;exact wpAny_pure fin)
end
def qfY:V->Prop
 |.int n=>n.natAbs.log2 < 1920
 |.non=>True
 |_=>False
section
variable{X:Cx}
def PJ(X:Cx)(es:List Expr)(t:St->Prop):Prop:=∀(pins:PP) (s:Shared) (Z:St) (H:Hp) (acc:Str),Inv X pins Z H s->t Z->acc.length+3000 * es.length<=90000->
 Joins (model X.prog X.w) X.A X.xe (evalEach es X.env) acc (λout s1=>out.length<=90000/\Inv X pins Z H s1) s
def qbP{n:Nat}(h:n<=90000):n<=sizeLine:=by rw[sizeLine_eq];lia
def qih:PJ X [] (λ_=>True):=λpins s Z H acc I _ h=>{by simpa using h,I}
def qii{z:Str}{j:Nat}{p:Pos}{es:List Expr}{t:St->Prop}(hz:z.length<=3000)(h:PJ X es t):PJ X (.Constant (.str z) j p::es) t:=λpins s Z H acc I ht hl=>by
 rw[List.length_cons]at hl;refine thn (ZA (X:=X) pins s Z H (λv H1=>v=.str z/\H1=H) I ⟨rfl,rfl⟩) λv s1 hq=>?_;let(v',H1,I1,r,rfl,rfl):=hq;let(t',rfl):=r;have e:(acc++z).length+3000 * es.length<=90000:=by rw[strLen_append];lia
 exact{z,t',rfl,qbP (1:),h pins s1 Z _ _ I1 ht e}
theorem qij{i:Nat}{x:Str}{np p:Pos}{es:List Expr}{t:St->Prop}(hv:PE X (.Name x np) (qaZ i))(h:PJ X es t):PJ X (.FormattedValue (.Name x np) (-1) none p::es) (λZ=>(∃v,Z[i]?=some (some v)/\qfY v)/\t Z):=λpins s Z H acc I ht hl=>by
 rw[List.length_cons]at hl;let((v,hσ,fv),ht):=ht
 have go:∀(y:Str) (k:Tok) (s1:Shared),y.length<=3000->Inv X pins Z H s1->∃y' t',Value.str y k=.str y' t'/\(acc++y').length<=sizeLine/\Joins (model X.prog X.w) X.A X.xe (evalEach es X.env) (acc++y') (λout s1=>out.length<=90000/\Inv X pins Z H s1) s1:=λy k s1 hy I1=>by
  have e:(acc++y).length+3000 * es.length<=90000:=by rw[strLen_append];lia
  exact{y,k,rfl,qbP (1:),h pins s1 Z _ _ I1 ht e}
 refine FormattedValue_plain (thn (hv pins s Z H (λv' H1=>v'=v/\H1=H) I ⟨v,hσ,rfl,rfl⟩) λu s1 hq=>?_);let(v',H1,I1,r,rfl,rfl):=hq
 cases v' with
 |int n=>
  let(t',rfl):=r;refine formatField_int_small fv ?_
  have:=int_text_length_le (k:=1920) (2:) fv
  exact go _ _ _ (by rw[PySem.ofString_length];lia) ((I1.tok _).tok _)
 |non=>cases r;exact wpAny_formatField_none (go _ _ _ (2:) ((I1.tok _).tok _))
 |_=>exact fv.elim
def qbQ{v₁ v₂:Expr}{rest:List Expr}{pos:Pos}{t:St->Prop}(h:PJ X (v₁::v₂::rest) t)(hl:rest.length<=20):PE X (.JoinedStr (v₁::v₂::rest) pos) (λZ H Q=>t Z/\∀z,Q (.str z) H):=λpins s Z H Q I hq=>by
 refine wpAny_JoinedStr ?_;have e0:Str.empty.length=0:=rfl
 have:=h pins s Z H Str.empty I hq.1 (by simp![List.length_cons,e0];lia)
 have mono:∀(ts:List (Sem Value)) (acc:Str) (Q1 Q2:Str->Shared->Prop) (s:Shared),(∀o s,Q1 o s->Q2 o s)->Joins (model X.prog X.w) X.A X.xe ts acc Q1 s->Joins (model X.prog X.w) X.A X.xe ts acc Q2 s:=by
  intro ts
  induction ts with
  |nil=>exactλacc Q1 Q2 s i h=>i _ _ h
  |cons a l ih=>exactλacc Q1 Q2 s i h=>thn h λv s1 ⟨y,t',e1,e2,e3⟩=>{y,t',e1,e2,ih _ _ _ _ i e3}
 refine mono _ _ _ _ _ (λo s1 hz71=>?_) this;let(h1,h2):=hz71;exact{qbP h1,.str o,H,h2.tok _,{_,rfl},hq.2 o}
structure ClsIni(K:Frag)(D:Addr):Prop where
 reads:readsIn K D (.type "type")=true
 sp:specialIn K (.ref D) "__getattribute__" = some (some (.builtin "type.__getattribute__"))
 at_:findCls K (.ref D) (.type "type") "__init__" = some (.val (.builtin "ValueError.__init__"))
def qdh{D:Addr}{x:Str}{p pos apos:Pos}{e:Expr}{es:List Expr}{t:TA}{pl:Sem Bool}(hD:ClsIni X.K D)(hg:Gl X x)(hm:X.mg x=some (.ref D))(ha:PA X (e::es) t)
  (hdb:(x == ("__debug__" : Str))=false) (hst:starEach (e::es) X.env=(false,eval e X.env)::starEach es X.env) (hpl:(backTo pos (starEach es X.env)).any (·.1)=false)
  (ht:eval (.Call (.Attribute (.Name x p) "__init__" apos) (e::es) [] pos) X.env=(do
   let ov<-eval (.Name x p) X.env
   standAt apos.atName
   let (f,first)<-holding [ov] (getMethod ov "__init__" pl)
   callWith pos f first (backTo pos (starEach (e::es) X.env)) (backToKw pos (keywordEach [] X.env)))) :
  PE X (.Call (.Attribute (.Name x p) "__init__" apos) (e::es) [] pos) (λZ H Q=>t Z H λvs H1=>∃x C fI m,vs=[.ref x,.str m]/\H1 x=some (yD x C none)/\JM X.K C fI bV "ValueError.__new__" = true/\Q .non H1):=by
 intro pins s Z H Q I h;refine PySem.W.methodCall_KW (pl:=pl) (zi I hg hm ?_ hdb) ht;refine method_cls I.kIn hD.sp (cls_value I.kIn hD.reads hD.at_ (3:) ?_);have I1:=I.tok (s.toks+1);refine PyProof.Rows.callWith_builtin1 (thn (ha pos pins _ Z H _ I1 h) λus s2 z=>?_) hst hpl;let(vs,H2,I2,r,q):=z;exact qaJ pins s2 Z H2 vs us Q I2 r q
end
open Builtin Builtin.ObjectAttr
def qfZ:List Value->Bool
 | .ref _::r=>qfZ r
 |l=>l == bV
theorem ZU:∀{l:List Value},qfZ l=true->l.contains (.type "object")=true/\∀self,refuseLoop self "__setattr__" l=pure ()
 | .ref c::r,e=>by let(h1,h2):=ZU (l:=r) e;exact{by rw[List.contains_cons,h1,Bool.or_true],λself=>by rw[refuseLoop_ref];exact h2 self}
 |[],e=>by cases e
 | .type n::r,e=>by have z:Value.type n::r=bV:=beq_iff_eq.mp e;rw[z];exact{by decide,PySem.F.store_ValueError.passes}
 | .none::r,e=>by have z:=beq_iff_eq.mp e;cases z
 | .bool _::r,e=>by have z:=beq_iff_eq.mp e;cases z
 | .int _ _::r,e=>by have z:=beq_iff_eq.mp e;cases z
 | .float _ _::r,e=>by have z:=beq_iff_eq.mp e;cases z
 | .str _ _::r,e=>by have z:=beq_iff_eq.mp e;cases z
 | .bytes _ _::r,e=>by have z:=beq_iff_eq.mp e;cases z
 | .ellipsis::r,e=>by have z:=beq_iff_eq.mp e;cases z
 | .notImplemented::r,e=>by have z:=beq_iff_eq.mp e;cases z
 | .builtin _::r,e=>by have z:=beq_iff_eq.mp e;cases z
def qik(K:Frag)(C:Addr):Bool:=(clsIn K C).any λcd=>qfZ cd.mro&&cd.hasDict
section
variable{prog:Program}{w:World}{A:Around}{s:Shared}{K:Frag}{x C:Addr}{R:Result->Shared->Prop}
def Qf{ox:Obj}{od:Option Obj}{name:Str}{tk:Tok}{v:Value}(X:K.In s.heap)(I:InstAt s.heap x ox C od)(hp:qik K C=true)(ht:takerIn K C name=some none)
  (h:∀b,wpAny (model prog w) A.in1 (storeInOwnDict (.ref x) (.ref C) (.str name tk) name v b)
   (λfin s'=>match fin with |.done f=>R (.ok f) s' | .again c'=>c'.quiet=true/\codeAny (model prog w) A c' R s') (λe s'=>R (.error e) s') s) :
  codeAny (model prog w) A (.call (.builtin "object.__setattr__") ⟨[.ref x,.str name tk,v],[]⟩) R s:=by
 have SF:=PySem.F.store_object;let(cd,hc,ho):=any_some hp;rw[Bool.and_eq_true]at ho;let(hob,hpass):=ZU ho.1
 have ne:cd.mro.isEmpty=false:=by
  cases q:cd.mro with
  |nil=>rw[q]at hob;cases hob
  |cons _ _=>rfl
 have sub:Looks (model prog w) s.heap (isInstance (.ref x) (.type "object")) true:=I.type.andThen (looks_mroIn X (by unfold mroIn;rw[hc,Option.bind_some,if_neg (by rw[ne];decide),hob]));refine codeAny_call_builtin SF.slot.plain SF.entry (@check_slot (model prog w) _ _ s "object.__setattr__" "object" "__setattr__" (.ref x) [.str name tk,v] [] _ SF.kind SF.split sub (SF.args (.ref x) (.str name tk) v) ?_);let(attr,ha,hr):=Option.bind_eq_some_iff.mp ht;have hm:Looks (model prog w) s.heap (mroOf (.ref C)) cd.mro:=(looks_clsIn X hc).andThen .now
 have L3:Looks (model prog w) s.heap (storeTaker? attr) none:=by
  cases attr with
  |none=>exact .now
  |some a=>
   let(b,hb,hr):=Option.map_eq_some_iff.mp hr;refine(looks_takesIn X hb).andThen ?_
   cases b with
   |true=>cases hr
   |false=>exact .now
 rw[osa_eq,refuse_eq];refine wpAny_bind (wpAny_bind (I.type.here (wpAny_bind (hm.here ?_))));rw[hpass];refine wpAny_pure (wpAny_bind (I.type.here (wpAny_bind ((looks_findIn X ha).here (wpAny_bind (L3.here ?_))))));exact h _
end
section
variable{X:Cx}{pins:PP}{Z:St}{H:Hp}{s:Shared}{x C:Addr}{name:Str}
structure XcS(K:Frag)(C:Addr)(name:Str):Prop where
 sa:findIn K (.ref C) "__setattr__" = some (some (.builtin "object.__setattr__"))
 ov:qik K C=true
 tk:takerIn K C name=some none
def qbR{name:Str}{y:V}{u:Value}{fs:List (Str×V)}{mA:PR}(ry:qH y u)(r:∀f,Zy (fs.lookup f) (mA f)):∀g,Zy ((yZ name y fs).lookup g) (if g=name then some u else mA g):=λg=>by
 rw[jL]
 by_cases q:g=name
 ·rw[if_pos q,if_pos q];exact ry
 ·rw[if_neg q,if_neg q];exact r g
def qey{name:Str}{y:V}{u:Value}{fs:List (Str×V)}{mA:PR}(wi:PySem.Within mA (fs.map (·.1))):PySem.Within (λg=>if g=name then some u else mA g) ((yZ name y fs).map (·.1)):=λg hg=>by
 by_cases q:g=name
 ·rw[q];exact(jd name y fs).1
 ·refine(jd name y fs).2 g (wi g λz=>hg ?_);show(if g=name then some u else mA g)=none;rw[if_neg q];exact z
def qdi{A:Around}{E:PQ}{y:V}{u:Value}{Q:Unit->Shared->Prop}(I:Inv X pins Z H s)(hx:H x=some (yD x C none))(c:XcS X.K C name)(ry:qH y u)
  (h:∀dd s',H dd=none->Inv X pins Z (upd (upd H dd (xD dd [(name,y)])) x (yD x C (some dd))) s'->Q () s'):wpAny (model X.prog X.w) A (setAttr (.ref x) name u) Q E s:=by
 let((v0,he),_):=I.hok x _ hx;have J:InstAt s.heap x _ C none:=⟨he,rfl,rfl,trivial⟩;have hfr:H s.heap.objs.size=none:=I.hok.fresh (Nat.le_refl _);let(cd,hc,ho):=any_some c.ov;rw[Bool.and_eq_true]at ho;refine set_plain I.kIn J c.sa (Qf (s:={ s with toks:=s.toks+1 }) I.kIn J c.ov c.tk λb=>?_);have hne:x≠s.heap.objs.size:=Nat.ne_of_lt (Heap.lt_size he);refine wpAny_bind (wpAny_pure (wpAny_bind (wpAny_bind (wpAny_loadPart he (wpAny_bind (Looks.here (s:={ s with toks:=s.toks+1 }) (looks_clsIn I.kIn hc) ?_))))));rw[ho.2];have I0:=I.tok (s.toks+1);have e1:(s.heap.push { cls:=.type "dict",data:=.dict #[] }).get? s.heap.objs.size=some { cls:=.type "dict",data:=.dict #[] }:=Heap.get?_push_size _ rfl;have n1:(s.heap.push { cls:=.type "dict",data:=.dict #[] }).Ns s.heap.objs.size (λ_=>none):={_,#[],_,e1,rfl,(λe he=>absurd he (5:)),λ_=>rfl};have I1:=I0.laid (a:=s.heap.objs.size) (o:=xD s.heap.objs.size []) (h':=s.heap.push { cls:=.type "dict",data:=.dict #[] }) (t':=s.toks+1) (λb u q=>Heap.get?_push_of_some _ q) (Nat.le_refl _) (qfX (Heap.Ns1.of_empty n1) (λ_=>True.intro) (λy hy=>absurd rfl hy));have hx1:(s.heap.push { cls:=.type "dict",data:=.dict #[] }).get? x=some ⟨.ref C,none,.fields #[v0,.none,.none,.none,.bool false,.none],#[]⟩:=Heap.get?_push_of_some _ he;have hHx:upd H s.heap.objs.size (xD s.heap.objs.size []) x=some (yD x C none):=by rw[qc hne];exact hx
 have hx2:((s.heap.push { cls:=.type "dict",data:=.dict #[] }).update x λo=>{ o with dict:=some s.heap.objs.size }).get? x=some ⟨.ref C,some s.heap.objs.size,.fields #[v0,.none,.none,.none,.bool false,.none],#[]⟩:=Heap.get?_update_self _ hx1 rfl
 have I2:=I1.write (x:=x) (e:=x) (o:=yD x C (some s.heap.objs.size)) (t':=s.toks+1) (h':=(s.heap.push { cls:=.type "dict",data:=.dict #[] }).update x λo=>{ o with dict:=some s.heap.objs.size }) (by rw[hHx];exact True.intro) (.inl rfl)
  (λb u hb e=>by rw[Heap.get?_update_other _ _ (Ne.symm hb)];exact e) ⟨_,hx2⟩ (Q8 hx2)
 refine wpAny_bind (wpAny_alloc' (wpAny_bind (wpAny_update' hx1 (wpAny_pure ?_))));have ns2:((s.heap.push { cls:=.type "dict",data:=.dict #[] }).update x λo=>{ o with dict:=some s.heap.objs.size }).Ns1 s.heap.objs.size (λ_=>none):=(Heap.Ns1.of_empty n1).at λo q=>by rw[Heap.get?_update_other _ _ hne];exact q
 have hHd:upd (upd H s.heap.objs.size (xD s.heap.objs.size [])) x (yD x C (some s.heap.objs.size)) s.heap.objs.size=some (xD s.heap.objs.size []):=by rw[qc (Ne.symm hne),qf]
 refine wpAny_bind (wpAny_pure (wpAny_bind (wpAny_nsSet1 (s:={ s with heap:=(s.heap.push { cls:=.type "dict",data:=.dict #[] }).update x λo=>{ o with dict:=some s.heap.objs.size },toks:=s.toks+1 }) ns2 λh' hn' hs=>?_)));let(oD,esD,epD,hoD,hdD,hcD):=hn'.count (Within.cons name u Within.nil);refine wpAny_bind (wpAny_lookBehind hoD (by rw[hdD];exact pastItsLine_dict (Nat.le_trans hcD (by rw[List.length_cons,List.length_nil,sizeLine_eq];lia))) ?_)
 have I3:=I2.write (x:=s.heap.objs.size) (e:=s.heap.objs.size) (o:=xD s.heap.objs.size [(name,y)]) (t':=s.toks+2) (h':=h') (by rw[hHd];exact True.intro) (.inl rfl) (λb u hb e=>(hs.2 b hb).trans e) ⟨_,hoD⟩
  (qfX hn' (qbR (fs:=[]) (mA:=λ_=>none) ry λ_=>True.intro) (qey (y:=y) (fs:=[]) (mA:=λ_=>none) λy hy=>absurd rfl hy))
 refine wpAny_pure (h s.heap.objs.size _ hfr ?_)
 have e:upd (upd (upd H s.heap.objs.size (xD s.heap.objs.size [])) x (yD x C (some s.heap.objs.size))) s.heap.objs.size (xD s.heap.objs.size [(name,y)])=upd (upd H s.heap.objs.size (xD s.heap.objs.size [(name,y)])) x (yD x C (some s.heap.objs.size)):=by
  funext b;unfold upd
  by_cases h1:b=s.heap.objs.size
  ·subst h1;rw[if_pos rfl,if_neg (Ne.symm hne),if_pos rfl]
  ·rw[if_neg h1]
   by_cases h2:b=x
   ·rw[if_pos h2,if_pos h2]
   ·rw[if_neg h2,if_neg h2,if_neg h1,if_neg h1]
 rw[<-e];exact I3
def qbS{A:Around}{E:PQ}{dd:Addr}{fs:List (Str×V)}{y:V}{u:Value}{Q:Unit->Shared->Prop}(I:Inv X pins Z H s)(hx:H x=some (yD x C (some dd)))(hd:H dd=some (xD dd fs))(hl:fs.length < 1000)(c:XcS X.K C name)(ry:qH y u)
  (h:∀s',Inv X pins Z (upd H dd (xD dd (yZ name y fs))) s'->Q () s'):wpAny (model X.prog X.w) A (setAttr (.ref x) name u) Q E s:=by
 let((v0,he),_):=I.hok x _ hx;let((mA,ns,r,wi),_):=I.hok dd _ hd;let(oo,hoo,_):=yY ns;have J:InstAt s.heap x _ C (some oo):=⟨he,rfl,rfl,hoo⟩;let(cd,hc,ho):=any_some c.ov;rw[Bool.and_eq_true]at ho;refine set_plain I.kIn J c.sa (Qf (s:={ s with toks:=s.toks+1 }) I.kIn J c.ov c.tk λb=>?_);refine wpAny_bind (wpAny_pure (wpAny_bind (wpAny_bind (wpAny_loadPart he (wpAny_bind (Looks.here (s:={ s with toks:=s.toks+1 }) (looks_clsIn I.kIn hc) ?_))))));rw[ho.2];refine wpAny_pure (a:=some dd) (wpAny_bind (wpAny_pure (wpAny_bind (wpAny_nsSet1 (s:={ s with toks:=s.toks+1 }) ns λh' hn' hs=>?_))));let(oD,esD,epD,hoD,hdD,hcD):=hn'.count (Within.cons name u wi);refine wpAny_bind (wpAny_lookBehind hoD (by rw[hdD];exact pastItsLine_dict (Nat.le_trans hcD (by rw[List.length_cons,List.length_map,sizeLine_eq];lia))) ?_);have I3:=(I.tok (s.toks+1)).write (x:=dd) (e:=dd) (o:=xD dd (yZ name y fs)) (t':=s.toks+2) (h':=h') (by rw[hd];exact True.intro) (.inl rfl) (λb u hb e=>(hs.2 b hb).trans e) ⟨_,hoD⟩ (qfX hn' (qbR ry r) (qey wi));exact wpAny_pure (h _ I3)
def qkX(K:Frag)(ta tv:TE)(f:Str):TS:=λD Z H=>tv Z H λy H1=>ta Z H1 λx H2=>∃a C,x=.ref a/\H2 a=some (yD a C none)/\XcS K C f/\∀dd,H2 dd=none->D.nx Z (upd (upd H2 dd (xD dd [(f,y)])) a (yD a C (some dd)))
def qkY(K:Frag)(ta tv:TE)(f:Str):TS:=λD Z H=>tv Z H λy H1=>ta Z H1 λx H2=>∃a C dd fs,x=.ref a/\H2 a=some (yD a C (some dd))/\H2 dd=some (xD dd fs)/\fs.length < 1000/\XcS K C f/\D.nx Z (upd H2 dd (xD dd (yZ f y fs)))
def qf0{o value:Expr}{f:Str}{pos pos':Pos}{ta tv:TE}(ha:PE X o ta)(hv:PE X value tv)(hs:swapsWith value (some (.Attribute o f pos')) pos.line X.env=pure false):PS X (.Assign [.Attribute o f pos'] value pos) (qkX X.K ta tv f):=by intro pins s Z H D I h;refine plainObj_wpAny_Assign_Attribute (thn (hv pins s Z H _ I h) λu s1 hz72=>?_) hs;let(y,H1,I1,ry,q):=hz72;refine thn (ha pins s1 Z H1 _ I1 q) λov s2 hz73=>?_;let(x,H2,I2,rx,a,C,ex,ea,c,q2):=hz73;subst ex;obtain rfl:ov=Value.ref a:=rx;exact qdi I2 ea c ry λdd s3 hd I3=>{Z,_,I3,q2 dd hd}
def qf1{o value:Expr}{f:Str}{pos pos':Pos}{ta tv:TE}(ha:PE X o ta)(hv:PE X value tv)(hs:swapsWith value (some (.Attribute o f pos')) pos.line X.env=pure false):PS X (.Assign [.Attribute o f pos'] value pos) (qkY X.K ta tv f):=by intro pins s Z H D I h;refine plainObj_wpAny_Assign_Attribute (thn (hv pins s Z H _ I h) λu s1 hz74=>?_) hs;let(y,H1,I1,ry,q):=hz74;refine thn (ha pins s1 Z H1 _ I1 q) λov s2 hz75=>?_;let(x,H2,I2,rx,a,C,dd,fs,ex,ea,ed,el,c,q2):=hz75;subst ex;obtain rfl:ov=Value.ref a:=rx;exact qbS I2 ea ed el c ry λs3 I3=>{Z,_,I3,q2}
end
def rem(H:Hp)(x:Addr):Hp:=λb=>if b=x then none else H b
def ZV{H:Hp}{x:Addr}:rem H x x=none:=by unfold rem;rw[if_pos rfl]
def ZW{H:Hp}{x b:Addr}(h:b≠x):rem H x b=H b:=by unfold rem;rw[if_neg h]
section
variable{X:Cx}{pins:PP}{Z:St}{H:Hp}{s:Shared}{x C:Addr}{od oT:Option Addr}
def Inv.trk{φ:Heap->Prop}(I:Inv X pins Z H s)(new:qQ X.prog X.w (upd H x (.ext φ)) s.heap x (.ext φ))(dat:∃oe vs,s.heap.get? x=some oe/\oe.data=.fields vs)(hx:H x=none)(x0:X.s₀.heap.get? x=none)(pin:∀p∈X.pn++pins,p.1≠x):Inv X pins Z (upd H x (.ext φ)) s:=by
 let(oe,vs,ho,hd):=dat
 have nn:∀{b:Addr},b≠x->upd H x (.ext φ) b=H b:=λh=>qc h;have ntr:∀{b:Addr} {u:HO},H b=some u->b≠x:=λ{b u} e z=>by rw[z,hx]at e;cases e
 refine{I.ok,I.os,I.bare,{I.base.keep,I.base.slot,λb o e n hx=>?_,I.base.there,λb xs e=>?_,λb o u e=>?_,λb ps e=>?_},I.loc,I.cell,?_,λy c e=>?_,λp hp=>?_,λa o e=>?_,I.len}
 ·rw[nn (λz=>by rw[z,x0]at e;cases e)];exact I.base.free b o e n hx
 ·have:=I.base.tups b xs e
  rw[nn (ntr this)];exact this
 ·have:=I.base.frzs b o u e
  rw[nn (ntr this)];exact this
 ·let(more,this):=I.base.tbls b ps e;rw[nn (ntr this)];exact⟨more,this⟩
 ·have:X.env.locals≠x:=λz=>by
   let(m,(o,es,ep,e1,e2,_),_):=I.loc;rw[z,ho]at e1;cases e1;rw[hd]at e2;cases e2
  rw[nn this];exact I.free
 ·have:c≠x:=λz=>by
   let(v,o,e1,e2):=I.cell y c e;rw[z,ho]at e1;cases e1;rw[hd]at e2;cases e2
  rw[nn this];exact I.freeC y c e
 ·let(e,n,r):=I.pin p hp;refine{e,?_,r};rw[nn (pin p hp)];exact n
 ·by_cases hb:a=x
  ·subst hb;rw[qf]at e;cases e;exact new
  ·rw[nn hb]at e;exact(I.hok a o e).stay (λ_ _ _ q=>q) (λb q=>by rw[nn (ntr q)];exact q) (λb xs q=>by rw[nn (ntr q)];exact q)
def Inv.untrk{φ:Heap->Prop}(I:Inv X pins Z H s)(h:H x=some (.ext φ)):Inv X pins Z (rem H x) s:=by
 have nn:∀{b:Addr} {u:HO},H b=some u->(∀ψ,u≠.ext ψ)->rem H x b=some u:=λ{b u} e n=>by rw[ZW (λz=>by rw[z,h]at e;exact n φ (Option.some.inj e).symm)];exact e
 have no:∀{b:Addr},H b=none->rem H x b=none:=λ{b} e=>by
  unfold rem
  by_cases hb:b=x
  ·rw[if_pos hb]
  ·rw[if_neg hb];exact e
 refine{I.ok,I.os,I.bare,{I.base.keep,I.base.slot,λb o e n hx=>no (I.base.free b o e n hx),I.base.there,λb xs e=>nn (I.base.tups b xs e) (λ_ z=>by cases z),λb o u e=>nn (I.base.frzs b o u e) (λ_ z=>by cases z),λb ps e=>?_},I.loc,I.cell,no I.free,λy c e=>no (I.freeC y c e),λp hp=>?_,λa o e=>?_,I.len}
 ·let(more,this):=I.base.tbls b ps e;exact{more,nn this (λ_ z=>by cases z)}
 ·let(e,n,r):=I.pin p hp;exact{e,no n,r}
 ·have ha:a≠x:=λz=>by rw[z,ZV]at e;cases e
  rw[ZW ha]at e;exact(I.hok a o e).stay (λ_ _ _ q=>q) (λb q=>nn q (λ_ z=>by cases z)) (λb xs q=>nn q (λ_ z=>by cases z))
def yP(X:Cx)(E:XK):Prop:=∀(pins:PP) (Z:St) (H:Hp) (s:Shared) (x C:Addr) (od:Option Addr),Inv X pins Z H s->Mine X pins H x none->Fly s.heap x C od none->E (.ref C) od H->X.xe (.ref x) s
end
section
variable{P:Program}{w:World}{K:Frag}{mg:PR}{base:Heap}{N:List Str}{qual:Str}{scope:Scope}{f:Addr}{cd:Value}{A:Around}{outer:List Env}{s:Shared}{H:Hp}{E:XK}
def qbT:yP (JC (CX1 P w) P w K mg base N qual scope f cd A outer s H E) E:=λpins Z H1 s1 x C od I M fl q=>Yc I ⟨rfl,rfl⟩ rfl M fl q
end
section
variable{X:Cx}{E:XK}
def qdj(hex:X.ex=[])(h:yP X E):Q6 X E:=λpins Z H s I h' x C vs m q=>by
 have no:∀b:Addr,b∉X.ex:=λb z=>by rw[hex]at z;cases z
 refine h pins Z H _ x C none (I.kept (t':=s.toks) m.keeps) ⟨I.newH m.new,I.new0 (no x) m.new,(λT z=>by cases z),λp hp=>{λz=>?_,by simp}⟩ (ZP m) q;let(e,_):=I.pin p hp;rw[z,m.new]at e;cases e
def qil(K:Frag)(f:Addr):Bool:=match K.lookup f with
 |some ⟨.type n,_,_,_⟩=>n == "function"
 |_=>false
structure XcC(K:Frag)(C fI:Addr):Prop where
 ok:JM K C fI bV "ValueError.__new__" = true
 fn:qil K fI=true
 kp:keepIn K (.ref C)=true
def qf2(C:Addr)(sp:Sp)(E:XK)(t:TA):TS:=λ_ Z H=>t Z H λvs H1=>vs.length<=sizeLine/\∀x,H1 x=none->sp (.ref x::vs) (upd H1 x (yD x C none)) (λv H2=>v=.non/\∃od,H2 x=some (yD x C od)/\E (.ref C) od (rem H2 x)) E0
theorem qbU{k:Nat}{n:Str}{C fI:Addr}{fd:FuncData}{ps:List Str}{sp:Sp}{e0:Expr}{es:List Expr}{t:TA}{np cpos pos:Pos}(hex:X.ex=[])(hx:yP X E)(hc:X.calm=true)(hg:Gl X n)(hm:X.mg n=some (.ref C))(c:XcC X.K C fI)
  (F:FnOk X.prog X.w X.K X.mg X.base CX0 k fI fd ps sp) (hr:Room (k+1) X.A) (hb:qM X.K fd ps []) (ha:PA X (e0::es) t)
  (he:starEach (e0::es) X.env=(false,eval e0 X.env)::starEach es X.env) (hpl:(backTo cpos (starEach es X.env)).any (·.1)=false) (hdb:(n == ("__debug__" : Str))=false) :
  PS X (.Raise (some (.Call (.Name n np) (e0::es) [] cpos)) none pos) (qf2 C sp E t):=by
 intro pins s Z H D I h;let(bm,N,nm,qn,bs,hd,sn,sub,ab,col,dd,k0,k1,k2,k3,k5,mN,hC,hN,hi,T):=ZS I.mod.kin c.ok;have FB:=PySem.F.excBase_ValueError
 let(oI,hoI,hcI):∃oI,X.K.lookup fI=some oI/\oI.cls=.type "function":=by
  have:=c.fn
  unfold qil at this
  split at this
  ·rename_i q;exact{_,q,by rw[beq_iff_eq.mp this]}
  ·cases this
 have no:∀b:Addr,b∉X.ex:=λb z=>by rw[hex]at z;cases z
 refine qaI (C:=C) (nm:=nm) (q:=qn) (N:=N) (bs:=bs) (bm:=bm) (hdct:=hd) (sn:=sn) (sub:=sub) (ab:=ab) (col:=col) (dd:=dd) (k0:=k0) (k1:=k1) (k2:=k2) (k3:=k3) (k5:=k5) (newId:="ValueError.__new__") (T.hasType FB.hasBase) (I.ok.hd hc) ?_;refine wpAny_Call_Name_kw (zi I hg hm ?_ hdb);refine PySem.W.callWith_K (h₀:=X.base) I.ok.mod.kin c.kp (thn (ha cpos pins s Z H _ I h) λus s1 z=>?_) he hpl;let(vs,H1,I1,r,hl,q):=z;refine{I1.kIn,?_};let(hh,g,d,tk,os):=s1;refine qaH FB (T.keeps I1.bk) (I1.bk _ _ hC) (hN.keeps I1.bk) hi (I1.bk _ _ (I.mod.kin _ _ hoI)) hcI (λh' e m=>?_) (by rw[List.nil_append,<-r.length];exact hl);have Ik:=I1.kept (t':=tk) m.keeps;have hn1:=I1.newH m.new;have h0:=I1.new0 (no e) m.new
 have hpin:∀p∈X.pn++pins,p.1≠e:=λp hp z=>by let(e',_):=I1.pin p hp;rw[z,m.new]at e';cases e'
 let(t',ht,_):=m.there;have I2:Inv X pins Z (upd H1 e (yD e C none)) _:=Ik.trk (x:=e) (Q8 ht) ⟨_,_,ht,rfl⟩ hn1 h0 hpin;have hq:=q e hn1;have r2:qD (V.ref e::vs) (Value.ref e::us):=.cons rfl r
 have hln:(Value.ref e::us++[]).length=ps.length:=by
  have:=r2.length
  rw[F.len _ _ _ _ hq]at this;rw[List.append_nil];exact this.symm
 have hbn:=hb ⟨h',g,d,tk,os⟩ (Value.ref e::us) I2.kIn hln;rw[List.append_nil]at hbn;refine wpAny_call (codeAny_mono (F.run _ X.stack _ _ ⟨Value.ref e::us,[]⟩ (Value.ref e::us) _ _ E0 (hr.make C us []) (I2.env0.make C us []) hbn r2 hq) λres s' hq'=>?_)
 cases res with
 |error e=>exact False.elim hq'
 |ok fl=>
  cases fl with
  |ret u=>let(v,H',I3,rv,ev,od,hxe,q3):=I2.after hq';subst ev;let((v0,ho),_):=I3.hok e _ hxe;refine{rv,e,v0,od,#[],rfl,I3.bk _ _ hC,ho,hx pins Z (rem H' e) s' e C od (I3.untrk hxe) {ZV,h0,(λT z=>by cases z),λp hp=>{hpin p hp,by simp}} {_,_,ho,rfl,rfl,rfl,rfl,0,_,_,_,ho,rfl,rfl,rfl} q3}
  |next=>exact False.elim hq'
  |brk=>exact False.elim hq'
  |cont=>exact False.elim hq'
end
section
variable{prog:Program}{w:World}{A:Around}{E:PQ}{s:Shared}{K:Frag}{x C:Addr}{ox:Obj}
def qf3{name:Str}{v:Value}{expr:Bool}{od:Option Obj}{Q:PQ}(Y:K.In s.heap)(I:W.InstAt s.heap x ox C od)(hC:ExcIs K C)(hf:findObj K C od name=some (.value v))(hh:handedIn v=true)
  (h:Q v { s with toks:=s.toks+1 }):wpAny (model prog w) A (getAttr (.ref x) name expr) Q E s:=by
 let(hp,g,d,t,os):=s;have L0:=I.type (M:=model prog w);have L1:=looks_findIn (M:=model prog w) Y hC.ga;have L2:=looks_findIn (M:=model prog w) Y hC.gh;have L3:=looks_find (M:=model prog w) Y I hf;have L4:=looks_mroIn (M:=model prog w) Y hC.base;have hbind:∀self,bindSpecial (.builtin "BaseException.__getattribute__") self=pure (.builtin "BaseException.__getattribute__",[self]):=λself=>by rfl
 unfold getAttr getAttrBy;refine wpAny_bind (wpAny_mkText (wpAny_holding (wpAny_bind (L0.at (wpAny_bind (L1.at ?_))))));show wpAny _ _ (getAttrByItsOwn _ _ _ _ _ _) _ _ _;unfold getAttrByItsOwn;refine wpAny_bind ?_;show wpAny _ _ (typeLookup (.ref C) "__getattr__") _ _ _;refine L2.at (wpAny_bind (wpAny_attempt (wpAny_holding ?_)));unfold callGetattribute;rw[if_neg (by cases expr<;>decide)];show wpAny _ _ (boundAndCalled _ _ _) _ _ _;unfold boundAndCalled;refine wpAny_bind ?_;rw[hbind];refine wpAny_pure ?_;refine wpAny_call (codeAny_call_builtin (3:) F.entry_bexc_ga ?_);have hk:builtinKind "BaseException.__getattribute__" = some .slot:=(3:)
 have hsp:splitId "BaseException.__getattribute__" = some ("BaseException","__getattribute__"):=(3:)
 have LI:Looks (model prog w) hp (isInstance (.ref x) (.type "BaseException")) true:=L0.andThen L4;have hargs:=F.args_bexc_ga (.ref x) (.str name t);simp![checkBuiltinCall,hk,hsp];refine wpAny_bind ?_;refine LI.at ?_;rw[if_neg (2:)];refine wpAny_of_eq hargs ?_;unfold Builtin.«object.__getattribute__»;refine wpAny_bind (wpAny_pure ?_);refine wpAny_bind (wpAny_pure ?_);refine wpAny_bind (L0.at (wpAny_bind (L3.at ?_)));exact wpAny_pure (handed_on hh h)
end
structure XcG(K:Frag)(C:Addr)(name:Str):Prop where
 is_:ExcIs K C
 no:findIn K (.ref C) name=some none
 hd:hasDictIn K C=true
section
variable{X:Cx}
def tXf(K:Frag)(ta:TE)(f:Str):TE:=λZ H Q=>ta Z H λx H1=>∃a C dd fs v,x=.ref a/\H1 a=some (qcT a C (some dd))/\H1 dd=some (xD dd fs)/\XcG K C f/\fs.lookup f=some v/\Q v H1
theorem qf4{e:Expr}{f:Str}{pos:Pos}{ta:TE}(he:PE X e ta)(hb:attributeBase e f X.env (eval e X.env)=eval e X.env):PE X (.Attribute e f pos) (tXf X.K ta f):=by
 intro pins s Z H Q I h;refine qbf hb (thn (he pins s Z H _ I h) λu s1 hq1=>?_);let(x,H1,I1,rx,a,C,dd,fs,v,ex,ea,ed,c,l,q):=hq1;subst ex;obtain rfl:u=Value.ref a:=rx;let(o,e1,e2,e3,e4):=(I1.hok a _ ea).1;let(mA,ns,r,_):=(I1.hok dd _ ed).1;let(oo,hoo,hlk):=yY ns;have J:InstAt s1.heap a o C (some oo):={e1,e2,e4,by rw[e3];exact hoo};have hr:=r f;rw[l]at hr
 cases hm:mA f with
 |none=>rw[hm]at hr;exact hr.elim
 |some w=>
  rw[hm]at hr
  have hw:handedIn w=true:=by
   have hr:qH v w:=hr
   cases v<;>first|(let(t,rfl):=hr;rfl)|(cases hr;rfl)
  refine qf3 I1.kIn J c.is_ (findObj_own c.hd c.no rfl (by rw[hlk,hm])) hw ⟨v,H1,I1.tok _,hr,q⟩
end
section
variable{M:Model}{A:Around}{E:PQ}{s:Shared}{env:Env}{L e:Addr}{oe:Obj}{vs:Array Value}{Q:Unit->Shared->Prop}
def ZX{fs:List Addr}{oT:Option Addr}{T':Addr}{fl:Value}{h:Heap}(fr:Option Addr)(nx:NX fs e oT oe vs T' fl h s.heap)(k:∀h',NX fs e oT oe vs T' (fr.elim .none λf=>rawInt f) h h'->Q () { s with heap:=h' }):wpAny M A (setFlight (.ref e) fr) Q E s:=by
 let(n1,n2,(o',vs',o1,o2,o3,o4,o5,o6,o7),n4,n5,ot,ts,t1,t2,t3,t4):=nx;have h3:3 < ts.size:=(Array.getElem?_eq_some_iff.mp t3).1;unfold setFlight;refine wpAny_bind (wpAny_field o1 o4 o6 ?_);rw[if_pos (show(Value.ref T' != Value.none)=true by simp)];refine wpAny_setField t1 t2 h3 (k _ ?_);have oth:∀{b:Addr},b≠T'->(s.heap.update T' (Obj.mapFields (·.setIfInBounds 3 (fr.elim Value.none λf=>rawInt f)))).get? b=s.heap.get? b:=λhb=>Heap.get?_update_other _ _ (Ne.symm hb)
 have nT:∀{b:Addr} {o:Obj},h.get? b=some o->b≠T':=λ{b o} q z=>by rw[z,n4]at q;cases q
 have hdt:=Obj.data_mapFields t2 (·.setIfInBounds 3 (fr.elim Value.none λf=>rawInt f));refine{λb o h1 h2 h4 q=>(oth (nT q)).trans (n1 b o h1 h2 h4 q),λb o hb q=>?_,{o',vs',(oth (Ne.symm n5)).trans o1,o2,o3,o4,o5,o6,o7},n4,n5,_,_,Heap.get?_update_self _ t1 (Obj.isFreed_of_fields hdt),hdt,by simp[h3],(Obj.cls_mapFields _ _).trans t4};let(sl,z):=n2 b o hb q;exact{sl,(oth (nT q)).trans z}
def qf5{fs:List Addr}{oT:Option Addr}{T':Addr}{h:Heap}(hf:env.frame=some L)(nx:NX fs e oT oe vs T' (rawInt L) h s.heap)(k:∀h',NX fs e oT oe vs T' .none h h'->Q () { s with heap:=h' }):wpAny M A (leaving env (.ref e)) Q E s:=by unfold leaving;refine wpAny_bind ?_;have nx2:=nx;let(n1,n2,(o',vs',o1,o2,o3,o4,o5,o6,o7),n4,n5,ot,ts,t1,t2,t3,t4):=nx2;simp![noteFrame,hf];refine wpAny_bind (wpAny_field o1 o4 o6 ?_);rw[if_pos (show(Value.ref T' != Value.none)=true by simp)];refine wpAny_bind (wpAny_field t1 t2 t3 ?_);rw[if_pos (show(rawInt L == rawInt L)=true by simp)];exact wpAny_pure (ZX none nx k)
end
def qez(X:Cx)(E:XK):Prop:=∀(pins:PP) (Z:St) (H:Hp) (s:Shared) (x T C:Addr) (od:Option Addr) (h:Heap) (Q:Flow->Shared->Prop),Held X pins Z H s x T C od h->E (.ref C) od H->
 wpAny (model X.prog X.w) X.A (handleBy (.ref x) X.env []) Q X.xe { s with heap:=h }
section
variable{P:Program}{w:World}{K:Frag}{mg:PR}{base:Heap}{N:List Str}{qual:Str}{scope:Scope}{f:Addr}{cd:Value}{A:Around}{outer:List Env}{s:Shared}{H:Hp}{E:XK}
def qbV:qez (JC (CX1 P w) P w K mg base N qual scope f cd A outer s H E) E:=λpins Z H1 s1 x T C od h Q Hd q=>by let(I,Mi,ff,oe,vs,T',nx,e1,e2,e3,e4,b):=Hd;refine wpAny_handleBy_nil ?_;unfold PySem.passOn;have nx0:=nx;let(_,_,(o',vs',o1,o2,o3,o4,o5,o6,o7),_):=nx0;refine wpAny_bind (wpAny_field o1 o4 o6 ?_);rw[if_neg (5:)];refine wpAny_bind (ZX (s:={ s1 with heap:=h }) (some _) nx λh2 nx2=>wpAny_throw ?_);refine qf5 (s:={ s1 with heap:=h2 }) rfl nx2 λh3 nx3=>?_;have I2:=Jg I rfl Mi ff.1 ff.2 nx3;exact{x,T',C,od,H1,rfl,I2.os,I2.bare,I2.base,I2.hok,Mi.hx,I.newH nx3.new,Mi.x0,I.new0 (by intro z;cases z) nx3.new,nx3.fly e1 e2 e3 e4 b,q}
end
open PySem.Builtin.Str (partsBetween occurrences)
section
variable{X:Cx}
def qkZ:V->List V->Hp->VK->Prop:=λx vs H Q=>∃(a:Str) (l:Addr) (zs:List Str),x=.str a/\vs=[.ref l]/\SqL X.K H l (zs.map V.str)/\(zs.map (·.length)).sum+zs.length * a.length<=16777216/\Q (.str (Txt.join a zs)) H
def qf6:MtR X "str.join" (qkZ (X:=X)):=by intro pins s Z H x vs v us Q I rx rv h;let(a,l,zs,rfl,rfl,hl,hz,q):=h;let(t,rfl):=rx;let(u,rfl,ru):=rv.one;cases ru;let(its,r,pl,_):=I.list hl;exact join_list (items:=its.toArray) pl.isList (by simpa using qbO r) hz λt' k=>{.str _,H,I.tok _,⟨t',rfl⟩,q}
def qlX:V->Option Str
 |.int n=>if n.natAbs.log2 < 1920 then some (Str.ofString (toString n)) else none
 |.str z=>if z.length<=3000 then some z else none
 |_=>none
abbrev TF:=L2.St->Hp->Str->(Str->Hp->Prop)->Prop
def PFs(X:Cx)(es:List Expr)(t:TF):Prop:=∀(pins:PP) (s:Shared) (Z:St) (H:Hp) (acc:Str) (Q:Str->Hp->Prop),Inv X pins Z H s->acc.length<=sizeLine->t Z H acc Q->
 Joins (model X.prog X.w) X.A X.xe (evalEach es X.env) acc (λout s1=>out.length<=sizeLine/\∃H1,Inv X pins Z H1 s1/\Q out H1) s
def qim:PFs X [] (λ_ H acc Q=>Q acc H):=λpins s Z H acc Q I hl h=>⟨hl,H,I,h⟩
def qin{z:Str}{j:Nat}{p:Pos}{es:List Expr}{t:TF}(h:PFs X es t):PFs X (.Constant (.str z) j p::es) (λZ H acc Q=>(acc++z).length<=sizeLine/\t Z H (acc++z) Q):=λpins s Z H acc Q I hl ht=>by refine thn (ZA (X:=X) pins s Z H (λv H1=>v=.str z/\H1=H) I ⟨rfl,rfl⟩) λv s1 hq=>?_;let(v',H1,I1,r,rfl,rfl):=hq;let(t',rfl):=r;exact{z,t',rfl,ht.1,h pins s1 Z _ _ Q I1 ht.1 ht.2}
theorem qio{e:Expr}{p:Pos}{te:TE}{es:List Expr}{t:TF}(he:PE X e te)(h:PFs X es t):PFs X (.FormattedValue e (-1) none p::es) (λZ H acc Q=>te Z H λv H1=>∃y,qlX v=some y/\(acc++y).length<=sizeLine/\t Z H1 (acc++y) Q):=λpins s Z H acc Q I hl ht=>by
 refine FormattedValue_plain (thn (he pins s Z H _ I ht) λu s1 hq=>?_);let(v,H1,I1,r,y,ey,hz,hq):=hq
 cases v with
 |int n=>
  let(t',rfl):=r;have ey:(if n.natAbs.log2 < 1920 then some (Str.ofString (toString n)) else none)=some y:=ey
  split at ey
  ·rename_i fv;cases ey;exact formatField_int_small fv ⟨_,_,rfl,hz,h pins _ Z _ _ Q ((I1.tok _).tok _) hz hq⟩
  ·cases ey
 |str z=>
  let(t',rfl):=r;have ey:(if z.length<=3000 then some z else none)=some y:=ey
  split at ey
  ·rename_i fv;cases ey;exact wpAny_formatField_str ⟨_,_,rfl,hz,h pins _ Z _ _ Q I1 hz hq⟩ ⟨_,_,rfl,hz,h pins _ Z _ _ Q (I1.tok _) hz hq⟩ (by rw[sizeLine_eq];lia)
  ·cases ey
 |_=>cases ey
def qf7{v₁ v₂:Expr}{rest:List Expr}{pos:Pos}{t:TF}(h:PFs X (v₁::v₂::rest) t):PE X (.JoinedStr (v₁::v₂::rest) pos) (λZ H Q=>t Z H Str.empty λz H1=>Q (.str z) H1):=λpins s Z H Q I hq=>by
 refine wpAny_JoinedStr ?_
 have:=h pins s Z H Str.empty _ I (Nat.zero_le _) hq
 have mono:∀(ts:List (Sem Value)) (acc:Str) (Q1 Q2:Str->Shared->Prop) (s:Shared),(∀o s,Q1 o s->Q2 o s)->Joins (model X.prog X.w) X.A X.xe ts acc Q1 s->Joins (model X.prog X.w) X.A X.xe ts acc Q2 s:=by
  intro ts
  induction ts with
  |nil=>exactλacc Q1 Q2 s i h=>i _ _ h
  |cons a l ih=>exactλacc Q1 Q2 s i h=>thn h λv s1 ⟨y,t',e1,e2,e3⟩=>{y,t',e1,e2,ih _ _ _ _ i e3}
 refine mono _ _ _ _ _ (λo s1 hz68=>?_) this;let(h1,H1,I1,h2):=hz68;exact{h1,.str o,H1,I1.tok _,{_,rfl},h2}
end
end L2
namespace DE
open PySem L2
inductive D where
 | non|bl (b:Bool)|int (n:Int)|str (s:Str)|lst (l:List D)|tup (l:List D)|ins (c:Str) (ns:List Str) (l:List D)|exc (C:Addr) (ns:List Str) (l:List D)|dct (ks:List Str) (l:List D)
 deriving Inhabited
abbrev KC:=Str->Option Addr
def kvX(ks:List Str)(xs:List V):List (Key×V):=(ks.zip xs).map λp=>(Sum.inr p.1,p.2)
mutual
def Rep(U:KC)(G:Hp):D->V->Prop
 |.non,v=>v=.non
 |.bl b,v=>v=.bl b
 |.int n,v=>v=.int n
 |.str s,v=>v=.str s
 |.lst ds,v=>∃a xs,v=.ref a/\G a=some (.lst xs)/\ql U G ds xs
 |.tup ds,v=>∃a xs,v=.ref a/\G a=some (.tup xs)/\ql U G ds xs
 |.ins c ns ds,v=>∃p dx C xs,U c=some C/\v=.ref p/\G p=some (.ins C dx (ns.zip xs))/\xs.length=ns.length/\ql U G ds xs
 |.exc C ns ds,v=>∃p od xs,v=.ref p/\G p=some (qcT p C od)/\((od=none/\ns=[])\/∃dd,od=some dd/\G dd=some (xD dd (ns.zip xs)))/\ql U G ds xs
 |.dct ks ds,v=>∃p xs,v=.ref p/\G p=some (.dK (kvX ks xs))/\xs.length=ks.length/\ql U G ds xs
def ql(U:KC)(G:Hp):List D->List V->Prop
 |[],xs=>xs=[]
 | d::ds,xs=>∃x r,xs=x::r/\Rep U G d x/\ql U G ds r
end
mutual
theorem Rep.same{U:KC}{G G':Hp}(e:qj G G'):∀{d:D} {v:V},Rep U G d v->Rep U G' d v
 |.non,v,h=>by simp![Rep]at h ⊢;exact h
 |.bl b,v,h=>by simp![Rep]at h ⊢;exact h
 |.int i,v,h=>by simp![Rep]at h ⊢;exact h
 |.str x,v,h=>by simp![Rep]at h ⊢;exact h
 |.lst ds,v,h=>by simp![Rep]at h ⊢;let(a,xs,rfl,h1,h2):=h;exact{a,xs,rfl,e _ _ h1,ql.same e h2}
 |.tup ds,v,h=>by simp![Rep]at h ⊢;let(a,xs,rfl,h1,h2):=h;exact{a,xs,rfl,e _ _ h1,ql.same e h2}
 |.ins c ns ds,v,h=>by simp![Rep]at h ⊢;let(p,dx,C,xs,hc,rfl,h1,hl,h2):=h;exact{p,dx,C,xs,hc,rfl,e _ _ h1,hl,ql.same e h2}
 |.exc C ns ds,v,h=>by
  simp![Rep]at h ⊢;let(p,od,xs,rfl,h1,h3,h2):=h;refine{p,od,xs,rfl,e _ _ h1,?_,ql.same e h2};rcases h3 with z|⟨dd,z1,z2⟩
  ·exact .inl z
  ·exact .inr ⟨dd,z1,e _ _ z2⟩
 |.dct ks ds,v,h=>by simp![Rep]at h ⊢;let(p,xs,rfl,h1,hl,h2):=h;exact{p,xs,rfl,e _ _ h1,hl,ql.same e h2}
theorem ql.same{U:KC}{G G':Hp}(e:qj G G'):∀{ds:List D} {vs:List V},ql U G ds vs->ql U G' ds vs
 |[],vs,h=>by simp![ql]at h ⊢;exact h
 | d::ds,vs,h=>by simp![ql]at h ⊢;let(x,r,rfl,h1,h2):=h;exact{x,r,rfl,Rep.same e h1,ql.same e h2}
end
section
variable{U:KC}{G G':Hp}
def ql.nil:ql U G [] []:=by simp![ql]
def ql.cons{d:D}{ds:List D}{v:V}{vs:List V}(h:Rep U G d v)(t:ql U G ds vs):ql U G (d::ds) (v::vs):=by simp![ql];exact⟨v,vs,rfl,h,t⟩
theorem ql.len:∀{ds:List D} {vs:List V},ql U G ds vs->ds.length=vs.length
 |[],vs,h=>by simp![ql]at h;subst h;rfl
 | d::ds,vs,h=>by simp![ql]at h;let(x,r,rfl,h1,h2):=h;simp[ql.len h2]
theorem ql.app:∀{ds es:List D} {vs us:List V},ql U G ds vs->ql U G es us->ql U G (ds++es) (vs++us)
 | [],es,vs,us,h,h'=>by simp![ql]at h;subst h;exact h'
 | d::ds,es,vs,us,h,h'=>by simp![ql]at h;let(x,r,rfl,h1,h2):=h;exact ql.cons h1 (ql.app h2 h')
def ql.snoc{ds:List D}{vs:List V}{d:D}{v:V}(h:ql U G ds vs)(h':Rep U G d v):ql U G (ds++[d]) (vs++[v]):=h.app %[h'|0]
theorem ql.drop:∀(n:Nat) {ds:List D} {vs:List V},ql U G ds vs->ql U G (ds.drop n) (vs.drop n)
 |0,_,_,h=>h
 | n+1,[],vs,h=>by simp![ql]at h;subst h;exact .nil
 | n+1,d::ds,vs,h=>by simp![ql]at h;let(x,r,rfl,h1,h2):=h;exact ql.drop n h2
theorem ql.take:∀(n:Nat) {ds:List D} {vs:List V},ql U G ds vs->ql U G (ds.take n) (vs.take n)
 |0,_,_,h=>(-ql.nil:)
 | n+1,[],vs,h=>by simp![ql]at h;subst h;exact .nil
 | n+1,d::ds,vs,h=>by simp![ql]at h;let(x,r,rfl,h1,h2):=h;exact ql.cons h1 (ql.take n h2)
theorem ql.atD:∀{ds:List D} {vs:List V} {i:Nat} {d:D},ql U G ds vs->ds[i]?=some d->∃v,vs[i]?=some v/\Rep U G d v
 |[],vs,i,d,h,e=>by simp at e
 | d::ds,vs,0,d',h,e=>by simp![ql]at h;let(x,r,rfl,h1,h2):=h;simp at e;subst e;exact⟨x,rfl,h1⟩
 | d::ds,vs,i+1,d',h,e=>by simp![ql]at h;let(x,r,rfl,h1,h2):=h;let(v',e1,e2):=ql.atD (i:=i) h2 (-e:);exact{v',(-e1:),e2}
theorem ql.set:∀{ds:List D} {vs:List V} (i:Nat) {d:D} {v:V},ql U G ds vs->Rep U G d v->ql U G (ds.set i d) (vs.set i v)
 | [],vs,i,d,v,h,h'=>by simp![ql]at h;subst h;exact .nil
 | d::ds,vs,0,d',v,h,h'=>by simp![ql]at h;let(x,r,rfl,h1,h2):=h;exact ql.cons h' h2
 | d::ds,vs,i+1,d',v,h,h'=>by simp![ql]at h;let(x,r,rfl,h1,h2):=h;exact ql.cons h1 (ql.set i h2 h')
end
inductive Sl where
 | no|val (d:D)|own (l:List D)|bor (l:List D)|scr (l:List D)
abbrev Env:=List Sl
def SlR(U:KC)(K:Frag)(G H Hv:Hp):Sl->Option (Option V)->Prop
 |.no,_=>True
 |.val d,o=>∃v,o=some (some v)/\Rep U G d v
 |.own ds,o=>∃a xs,o=some (some (.ref a))/\H a=some (.lst xs)/\Hv a=none/\G a=none/\ql U G ds xs
 |.bor ds,o=>∃a xs,o=some (some (.ref a))/\Hv a=some (.lst xs)/\ql U G ds xs
 |.scr ds,o=>∃a xs,o=some (some (.ref a))/\SqL K Hv a xs/\ql U G ds xs
def Qg(N:Env)(Z:St)(a:Addr):Prop:=∃(i:Nat) (l:List D),N[i]?=some (.own l)/\Z[i]?=some (some (.ref a))
structure ER(U:KC)(K:Frag)(Gv Hv G H:Hp)(N:Env)(Z:St):Prop where
 len:N.length=Z.length
 sub:qj G H
 base:qj Hv H
 g0:qj Gv G
 fresh:∀a o,G a=some o->(∃o',Gv a=some o')\/Hv a=none
 sl:∀(i:Nat) (s:Sl),N[i]?=some s->SlR U K G H Hv s Z[i]?
 ap:∀(i j:Nat) (a:Addr) (l m:List D),N[i]?=some (.own l)->N[j]?=some (.own m)->Z[i]?=some (some (.ref a))->Z[j]?=some (some (.ref a))->i=j
structure Po(U:KC)(K:Frag)(Gv Hv:Hp)(Z:St)(G H:Hp)(N:Env)(G' H':Hp)(N':Env):Prop where
 er:ER U K Gv Hv G' H' N' Z
 hs:qj H H'
 gs:qj G G'
 new:∀a o,G' a=some o->(∃o',G a=some o')\/H a=none\/Qg N Z a
 fz:∀(i:Nat) (l:List D),N'[i]?=some (.own l)->N[i]?=some (.own l)
theorem qj.none{H H':Hp}(e:qj H H'){a:Addr}(h:H' a=none):H a=none:=by
 cases q:H a with
 |none=>rfl
 |some o=>rw[e a o q]at h;cases h
section
variable{U:KC}{K:Frag}{Gv Hv G H G' H' G'' H'':Hp}{N N' N'':Env}{Z:St}
def Po.refl(h:ER U K Gv Hv G H N Z):Po U K Gv Hv Z G H N G H N:={h,λ_ _ e=>e,λ_ _ e=>e,λ_ o e=>.inl ⟨o,e⟩,λ_ _ e=>e}
def Po.trans(a:Po U K Gv Hv Z G H N G' H' N')(b:Po U K Gv Hv Z G' H' N' G'' H'' N''):Po U K Gv Hv Z G H N G'' H'' N'':=
 ⟨b.er,λc o e=>b.hs c o (a.hs c o e),λc o e=>b.gs c o (a.gs c o e),λc o e=>by
  rcases b.new c o e with ⟨o',z⟩|z|⟨i,l,z1,z2⟩
  ·exact a.new c o' z
  ·exact .inr (.inl (qj.none a.hs z))
  ·exact .inr (.inr ⟨i,l,a.fz i l z1,z2⟩),λi l e=>a.fz i l (b.fz i l e)⟩
theorem SlR.grow(hs:qj H H')(gs:qj G G')(nw:∀a xs,H a=some (.lst xs)->Hv a=none->G a=none->G' a=none){s:Sl}{o:Option (Option V)}(h:SlR U K G H Hv s o):SlR U K G' H' Hv s o:=by
 cases s with
 |no=>trivial
 |val d=>let(v,e,r):=h;exact{v,e,r.same gs}
 |own ds=>let(a,xs,e,h1,h2,h3,h4):=h;exact{a,xs,e,hs _ _ h1,h2,nw a xs h1 h2 h3,h4.same gs}
 |bor ds=>let(a,xs,e,h1,h4):=h;exact{a,xs,e,h1,h4.same gs}
 |scr ds=>let(a,xs,e,h1,h4):=h;exact{a,xs,e,h1,h4.same gs}
def Po.more(h:ER U K Gv Hv G H N Z)(hs:qj H H')(gs:qj G G')(sub:qj G' H')(new:∀a o,G' a=some o->(∃o',G a=some o')\/H a=none):Po U K Gv Hv Z G H N G' H' N:=by
 refine{{h.len,sub,λb o e=>hs b o (h.base b o e),λb o e=>gs b o (h.g0 b o e),λa o e=>?_,λi s e=>(h.sl i s e).grow hs gs λa xs h1 h2 h3=>?_,h.ap},hs,gs,λa o e=>?_,λ_ _ e=>e}
 ·rcases new a o e with ⟨o',z⟩|z
  ·exact h.fresh a o' z
  ·exact .inr (qj.none h.base z)
 ·cases q:G' a with
  |none=>rfl
  |some o=>
   rcases new a o q with ⟨o',z⟩|z
   ·rw[h3]at z;cases z
   ·rw[h1]at z;cases z
 ·rcases new a o e with z|z
  ·exact .inl z
  ·exact .inr (.inl z)
def Po.room(h:ER U K Gv Hv G H N Z)(hs:qj H H'):Po U K Gv Hv Z G H N G H' N:=
 Po.more h hs (λ_ _ e=>e) (λb o e=>hs b o (h.sub b o e)) λ_ o e=>.inl ⟨o,e⟩
def Po.lay(h:ER U K Gv Hv G H N Z){a:Addr}{o:HO}(ha:H a=none):Po U K Gv Hv Z G H N (upd G a o) (upd H a o) N:=by
 have ga:G a=none:=qj.none h.sub ha;refine Po.more h (qj.upd ha) (qj.upd ga) (λb u e=>?_) λb u e=>?_
 ·by_cases hb:b=a
  ·subst hb;rw[qf]at e ⊢;exact e
  ·rw[qc hb]at e ⊢;exact h.sub b u e
 ·by_cases hb:b=a
  ·subst hb;exact .inr ha
  ·rw[qc hb]at e;exact .inl ⟨u,e⟩
end
inductive Rv where
 | val (d:D)|tmp (l:List D)|cell (l:List D)|scr (l:List D)
def RvR(U:KC)(K:Frag)(Hv Hb G H:Hp)(N:Env)(Z:St):Rv->V->Prop
 |.val d,v=>Rep U G d v
 |.tmp ds,v=>∃a xs,v=.ref a/\H a=some (.lst xs)/\Hb a=none/\Hv a=none/\G a=none/\¬ Qg N Z a/\ql U G ds xs
 |.cell ds,v=>∃a xs,v=.ref a/\H a=some (.lst xs)/\ql U G ds xs
 |.scr ds,v=>∃a xs,v=.ref a/\SqL K H a xs/\ql U G ds xs
section
variable{U:KC}{K:Frag}{Gv Hv Hb G H G' H':Hp}{N N':Env}{Z:St}
theorem RvR.keep{r:Rv}{v:V}(h:RvR U K Hv Hb G H N Z r v)(p:Po U K Gv Hv Z G H N G' H' N'):RvR U K Hv Hb G' H' N' Z r v:=by
 cases r with
 |val d=>exact Rep.same p.gs h
 |tmp ds=>
  let(a,xs,rfl,h1,h2,h3,h4,h5,h6):=h;refine{a,xs,rfl,p.hs _ _ h1,h2,h3,?_,λ⟨i,l,z1,z2⟩=>h5 {i,l,p.fz i l z1,z2},h6.same p.gs}
  cases q:G' a with
  |none=>rfl
  |some o=>
   rcases p.new a o q with ⟨o',z⟩|z|z
   ·rw[h4]at z;cases z
   ·rw[h1]at z;cases z
   ·exact absurd z h5
 |cell ds=>let(a,xs,rfl,h1,h6):=h;exact{a,xs,rfl,p.hs _ _ h1,h6.same p.gs}
 |scr ds=>let(a,xs,rfl,h1,h6):=h;exact{a,xs,rfl,p.hs.seq h1,h6.same p.gs}
theorem RvR.back{Hc:Hp}{r:Rv}{v:V}(h:RvR U K Hv Hc G H N Z r v)(e:qj Hb Hc):RvR U K Hv Hb G H N Z r v:=by
 cases r with
 |val d=>exact h
 |tmp ds=>let(a,xs,rfl,h1,h2,h3,h4,h5,h6):=h;exact{a,xs,rfl,h1,qj.none e h2,h3,h4,h5,h6}
 |cell ds=>exact h
 |scr ds=>exact h
def Rv.list?:Rv->Option (List D)
 |.val (.lst l)=>some l
 |.tmp l=>some l
 |.cell l=>some l
 |.scr l=>some l
 |_=>none
def Rv.plain?:Rv->Option (List D)
 |.val (.lst l)=>some l
 |.tmp l=>some l
 |.cell l=>some l
 |_=>none
theorem RvR.plain(er:ER U K Gv Hv G H N Z){r:Rv}{v:V}{l:List D}(h:RvR U K Hv Hb G H N Z r v)(e:r.plain?=some l):∃a xs,v=.ref a/\H a=some (.lst xs)/\ql U G l xs:=by
 cases r with
 |val d=>
  cases d<;>simp![Rv.plain?]at e<;>try (cases e)
  simp![RvR,Rep]at h;let(a,xs,rfl,h1,h2):=h;exact{a,xs,rfl,er.sub _ _ h1,h2}
 |tmp ds=>simp![Rv.plain?]at e;cases e;let(a,xs,rfl,h1,_,_,_,_,h6):=h;exact⟨a,xs,rfl,h1,h6⟩
 |cell ds=>simp![Rv.plain?]at e;cases e;exact h
 |scr ds=>simp![Rv.plain?]at e;cases e
theorem RvR.list(er:ER U K Gv Hv G H N Z){r:Rv}{v:V}{l:List D}(h:RvR U K Hv Hb G H N Z r v)(e:r.list?=some l):∃a xs,v=.ref a/\SqL K H a xs/\ql U G l xs:=by
 cases r with
 |scr ds=>simp![Rv.list?]at e;cases e;exact h
 |val d=>
  have e':(Rv.val d).plain?=some l:=by cases d<;>simp![Rv.list?]at e<;>first|(cases e;rfl)|cases e
  let(a,xs,h1,h2,h3):=h.plain er e';exact{a,xs,h1,SqL.of h2,h3}
 |tmp ds=>let(a,xs,h1,h2,h3):=h.plain er (l:=l) e;exact{a,xs,h1,SqL.of h2,h3}
 |cell ds=>let(a,xs,h1,h2,h3):=h.plain er (l:=l) e;exact{a,xs,h1,SqL.of h2,h3}
def Po.freeze{a:Addr}{xs:List V}{G1 H1:Hp}{N1:Env}(p:Po U K Gv Hv Z G H N G1 H1 N1)(h1:H1 a=some (.lst xs))(h2:H a=none)(h3:Hv a=none)(h4:G1 a=none)(h5:¬ Qg N1 Z a):Po U K Gv Hv Z G H N (upd G1 a (.lst xs)) H1 N1:=by
 have gs:qj G1 (upd G1 a (.lst xs)):=qj.upd h4;have er:=p.er;refine{{er.len,λb u e=>?_,er.base,λb o e=>gs b o (er.g0 b o e),λb o e=>?_,λi s e=>?_,er.ap},p.hs,λb o e=>gs b o (p.gs b o e),λb o e=>?_,p.fz}
 ·by_cases hb:b=a
  ·subst hb;rw[qf]at e;cases e;exact h1
  ·rw[qc hb]at e;exact er.sub b u e
 ·by_cases hb:b=a
  ·subst hb;exact .inr h3
  ·rw[qc hb]at e;exact er.fresh b o e
 ·have q:=er.sl i s e
  cases s with
  |no=>trivial
  |val d=>let(v,z,r):=q;exact{v,z,r.same gs}
  |own ds=>let(b,ys,z,q1,q2,q3,q4):=q;have hb:b≠a:=λw=>h5 ⟨i,ds,e,by rw[<-w];exact z⟩;exact{b,ys,z,q1,q2,by rw[qc hb];exact q3,q4.same gs}
  |bor ds=>let(b,ys,z,q1,q4):=q;exact{b,ys,z,q1,q4.same gs}
  |scr ds=>let(b,ys,z,q1,q4):=q;exact{b,ys,z,q1,q4.same gs}
 ·by_cases hb:b=a
  ·subst hb;exact .inr (.inl h2)
  ·rw[qc hb]at e;exact p.new b o e
def ER.froze{i:Nat}{l:List D}(h:ER U K Gv Hv G H N Z)(e:N[i]?=some (.own l)):∃a xs,Z[i]?=some (some (.ref a))/\Po U K Gv Hv Z G H N (upd G a (.lst xs)) H (N.set i (.val (.lst l)))/\Rep U (upd G a (.lst xs)) (.lst l) (.ref a):=by
 let(a,xs,z,h1,h2,h3,h4):=h.sl i _ e;have gs:qj G (upd G a (.lst xs)):=qj.upd h3;have hi:i < N.length:=(List.getElem?_eq_some_iff.mp e).1;have rp:Rep U (upd G a (.lst xs)) (.lst l) (.ref a):=by simp![Rep];exact{a,xs,rfl,qf,h4.same gs}
 refine{a,xs,z,{{by rw[List.length_set];exact h.len,λb u q=>?_,h.base,λb o q=>gs b o (h.g0 b o q),λb o q=>?_,λj s q=>?_,λj k b m n q1 q2=>?_},λ_ _ q=>q,gs,λb o q=>?_,λj m q=>?_},rp}
 ·by_cases hb:b=a
  ·subst hb;rw[qf]at q;cases q;exact h1
  ·rw[qc hb]at q;exact h.sub b u q
 ·by_cases hb:b=a
  ·subst hb;exact .inr h2
  ·rw[qc hb]at q;exact h.fresh b o q
 ·by_cases hj:i=j
  ·subst hj;rw[List.getElem?_set_self hi]at q;cases q;exact{_,z,rp}
  ·rw[List.getElem?_set_ne hj]at q;have w:=h.sl j s q
   cases s with
   |no=>trivial
   |val d=>let(v,z,r):=w;exact{v,z,r.same gs}
   |own ds=>let(b,ys,z',q1,q2,q3,q4):=w;have hb:b≠a:=λu=>hj (h.ap i j a l ds e q z (by rw[<-u];exact z'));exact{b,ys,z',q1,q2,by rw[qc hb];exact q3,q4.same gs}
   |bor ds=>let(b,ys,z,q1,q4):=w;exact{b,ys,z,q1,q4.same gs}
   |scr ds=>let(b,ys,z,q1,q4):=w;exact{b,ys,z,q1,q4.same gs}
 ·have f:∀{j:Nat} {m:List D},(N.set i (.val (.lst l)))[j]?=some (.own m)->N[j]?=some (.own m):=λ{j m} q=>by
   by_cases hj:i=j
   ·subst hj;rw[List.getElem?_set_self hi]at q;cases q
   ·rw[List.getElem?_set_ne hj]at q;exact q
  exact h.ap j k b m n (f q1) (f q2)
 ·by_cases hb:b=a
  ·subst hb;exact .inr (.inr ⟨i,l,e,z⟩)
  ·rw[qc hb]at q;exact .inl ⟨o,q⟩
 ·by_cases hj:i=j
  ·subst hj;rw[List.getElem?_set_self hi]at q;cases q
  ·rw[List.getElem?_set_ne hj]at q;exact q
def ER.setVal{i:Nat}{d:D}{v:V}(h:ER U K Gv Hv G H N Z)(r:Rep U G d v):ER U K Gv Hv G H (N.set i (.val d)) (Z.set i (some v)):=by
 refine{by rw[List.length_set,List.length_set];exact h.len,h.sub,h.base,h.g0,h.fresh,λj s q=>?_,λj k b m n q1 q2 q3 q4=>?_}
 ·by_cases hj:i=j
  ·subst hj;have hi:i < N.length:=by simpa using (List.getElem?_eq_some_iff.mp q).1
   rw[List.getElem?_set_self hi]at q;cases q;exact{v,by rw[List.getElem?_set_self (by rw[<-h.len];exact hi)],r}
  ·rw[List.getElem?_set_ne hj]at q ⊢;exact h.sl j s q
 ·have f:∀{j:Nat} {m:List D},(N.set i (.val d))[j]?=some (.own m)->i≠j/\N[j]?=some (.own m):=λ{j m} q=>by
   by_cases hj:i=j
   ·subst hj;have hi:i < N.length:=by simpa using (List.getElem?_eq_some_iff.mp q).1
    rw[List.getElem?_set_self hi]at q;cases q
   ·rw[List.getElem?_set_ne hj]at q;exact⟨hj,q⟩
  let(n1,e1):=f q1;let(n2,e2):=f q2;rw[List.getElem?_set_ne n1]at q3;rw[List.getElem?_set_ne n2]at q4;exact h.ap j k b m n e1 e2 q3 q4
def ER.setOwn{i:Nat}{l:List D}{a:Addr}{xs:List V}(h:ER U K Gv Hv G H N Z)(h1:H a=some (.lst xs))(h2:Hv a=none)(h3:G a=none)(h4:¬ Qg N Z a)(r:ql U G l xs):ER U K Gv Hv G H (N.set i (.own l)) (Z.set i (some (.ref a))):=by
 have f:∀{j:Nat} {m:List D},(N.set i (.own l))[j]?=some (.own m)->i≠j->N[j]?=some (.own m):=λ{j m} q hj=>by rw[List.getElem?_set_ne hj]at q;exact q
 refine{by rw[List.length_set,List.length_set];exact h.len,h.sub,h.base,h.g0,h.fresh,λj s q=>?_,λj k b m n q1 q2 q3 q4=>?_}
 ·by_cases hj:i=j
  ·subst hj;have hi:i < N.length:=by simpa using (List.getElem?_eq_some_iff.mp q).1
   rw[List.getElem?_set_self hi]at q;cases q;exact{a,xs,by rw[List.getElem?_set_self (by rw[<-h.len];exact hi)],h1,h2,h3,r}
  ·rw[List.getElem?_set_ne hj]at q ⊢;exact h.sl j s q
 ·by_cases hj:i=j
  ·by_cases hk:i=k
   ·lia
   ·subst hj;have hi:i < Z.length:=by simpa using (List.getElem?_eq_some_iff.mp q3).1
    rw[List.getElem?_set_self hi]at q3;rw[List.getElem?_set_ne hk]at q4;cases q3;exact absurd ⟨k,n,f q2 hk,q4⟩ h4
  ·by_cases hk:i=k
   ·subst hk;have hi:i < Z.length:=by simpa using (List.getElem?_eq_some_iff.mp q4).1
    rw[List.getElem?_set_self hi]at q4;rw[List.getElem?_set_ne hj]at q3;cases q4;exact absurd ⟨j,m,f q1 hj,q3⟩ h4
   ·rw[List.getElem?_set_ne hj]at q3;rw[List.getElem?_set_ne hk]at q4;exact h.ap j k b m n (f q1 hj) (f q2 hk) q3 q4
def ER.write{i:Nat}{l m:List D}{a:Addr}{ys:List V}(h:ER U K Gv Hv G H N Z)(e:N[i]?=some (.own l))(z:Z[i]?=some (some (.ref a)))(r:ql U G m ys):ER U K Gv Hv G (upd H a (.lst ys)) (N.set i (.own m)) Z:=by
 let(a',xs,z',h1,h2,h3,h4):=h.sl i _ e;have ea:a'=a:=by rw[z']at z;injection z with z;injection z with z;injection z
 subst ea;have hi:i < N.length:=(List.getElem?_eq_some_iff.mp e).1;refine{by rw[List.length_set];exact h.len,λb u q=>?_,λb u q=>?_,h.g0,h.fresh,λj s q=>?_,λj k b m' n q1 q2=>?_}
 ·have hb:b≠a':=λw=>by rw[w,h3]at q;cases q
  rw[qc hb];exact h.sub b u q
 ·have hb:b≠a':=λw=>by rw[w,h2]at q;cases q
  rw[qc hb];exact h.base b u q
 ·by_cases hj:i=j
  ·subst hj;rw[List.getElem?_set_self hi]at q;cases q;exact⟨a',ys,z',qf,h2,h3,r⟩
  ·rw[List.getElem?_set_ne hj]at q;have w:=h.sl j s q
   cases s with
   |no=>trivial
   |val d=>exact w
   |own ds=>let(b,zs,z2,q1,q2,q3,q4):=w;have hb:b≠a':=λu=>hj (h.ap i j a' l ds e q z' (by rw[<-u];exact z2));exact{b,zs,z2,by rw[qc hb];exact q1,q2,q3,q4}
   |bor ds=>exact w
   |scr ds=>exact w
 ·have f:∀{j:Nat} {n:List D},(N.set i (.own m))[j]?=some (.own n)->∃n',N[j]?=some (.own n'):=λ{j n} q=>by
   by_cases hj:i=j
   ·subst hj;exact⟨l,e⟩
   ·rw[List.getElem?_set_ne hj]at q;exact⟨n,q⟩
  let(_,e1):=f q1;let(_,e2):=f q2;exact h.ap j k b _ _ e1 e2
end
inductive Sk where
 | lst|tup|str
def qdk(s:Str):List D:=s.cps.toList.map λc=>D.str ⟨#[c]⟩
inductive R(α:Type) where
 | ok (a:α)|exc (c:Addr) (l:List (Str×D))|no
def R.th{α M:Type}:R α->(α->R M)->R M
 |.ok a,f=>f a
 |.exc c l,_=>.exc c l
 |.no,_=>.no
def noX{α:Type}:R α->R α
 |.ok a=>.ok a
 |_=>.no
def R.of{α:Type}:Option α->R α
 |some a=>.ok a
 |none=>.no
mutual
def toP:D->Option PyData
 |.non=>some .none
 |.bl b=>some (.bool b)
 |.int n=>some (.int n)
 |.str s=>some (.str s)
 |.lst l=>(qa1 l).map .list
 |.tup l=>(qa1 l).map .tuple
 |.ins ..=>none
 |.exc ..=>none
 |.dct ..=>none
def qa1:List D->Option (List PyData)
 |[]=>some []
 | d::l=>(toP d).bind λp=>(qa1 l).map (p :: ·)
end
def Rv.data:Rv->D
 |.val d=>d
 |.tmp l=>.lst l
 |.cell l=>.lst l
 |.scr l=>.lst l
inductive Ar where
 | val (d:D)|bor (l:List D)|scr (l:List D)
structure Xs where
 xa:Str->Addr:=λ_=>0
 xn:Str->Option (List Str):=λ_=>none
 xs:Addr->Str->Option Bool:=λ_ _=>none
 xg:Addr->Str->Bool:=λ_ _=>false
 xt:List Str:=[]
structure Cs extends Xs where
 tab:List Str
 fld:Str->Str->Bool
 mt:Str->Str->Option Str
 sub:Str->Str->Option Bool
 pl:Str->Bool:=λ_=>false
 pt:Str->Bool:=λ_=>false
def Cs.non:Cs:={ tab:=[],fld:=λ_ _=>false,mt:=λ_ _=>none,sub:=λ_ _=>none }
structure Ct where
 N:List Str
 sc:Scope
 tab:List Str
 gl:Str->Option D
 cl:Str->List Ar->R Rv
 cs:Cs
 nw:Str->List Ar->R Rv
 z:Bool:=false
 x:Bool:=true
 y:Bool:=true
def qa2:List Str->Str->Option Nat
 |[],_=>none
 | y::r,x=>if y=x then some 0 else (qa2 r x).map (· + 1)
def qa3(sc:Scope)(x:Str):Bool:=match sc.names.lookup x with
 |some .local=>true
 |some .cell=>true
 |some .free=>true
 |_=>false
def qf8(sc:Scope)(x:Str):Bool:=match sc.names.lookup x with
 |some .local=>true
 |some .cell=>true
 |_=>false
def glB(sc:Scope)(x:Str):Bool:=sc.names.lookup x == some .globalImplicit
def qK(x:Str):Bool:=!(x == ("__debug__" : Str))&&!(x == ("__classdict__" : Str))&&!(x == ("__name__" : Str))
def oif{α:Type}(c:Bool)(a:Option α):Option α:=match c with
 |true=>a
 |false=>none
def qa4(L:Ct)(x:Str):Option Nat:=oif (qK x&&qa3 L.sc x) (qa2 L.N x)
def isF(L:Ct)(it:Expr):Option Nat:=match it with
 |.Name x _=>if x = "_law_found" then qa4 L x else none
 |_=>none
def slC(N:Env)(i:Nat):R (List D):=match N[i]? with
 |some (.own l)=>.ok l
 |some (.val (.lst l))=>.ok l
 |some (.val (.tup l))=>.ok l
 |_=>.no
def Rv.int?:Rv->Option Int
 |.val (.int i)=>some i
 |_=>none
def Rv.str?:Rv->Option Str
 |.val (.str i)=>some i
 |_=>none
def Rv.bl?:Rv->Option Bool
 |.val (.bl i)=>some i
 |_=>none
def Rv.tup?:Rv->Option (List D)
 |.val (.tup i)=>some i
 |_=>none
def Q9(i j:Int):Bool:=(decide (-(2 ^ 64) < i)&&decide (i < 2 ^ 64))||(decide (-(2 ^ 64) < j)&&decide (j < 2 ^ 64))
def int2(x y:Rv)(f:Int->Int->R Rv):R Rv:=match x.int?,y.int? with
 |some i,some j=>f i j
 |_,_=>.no
def qk0(x y:Rv):R Rv:=match x.int?,y.int? with
 |some i,some j=>.ok (.val (.int (i+j)))
 |_,_=>match x.str?,y.str? with
  |some a,some b=>if a.length+b.length<=sizeLine then .ok (.val (.str (a++b))) else .no
  |_,_=>match x.plain?,y.plain? with
   |some l,some m=>if l.length+m.length<=sizeLine then .ok (.tmp (l++m)) else .no
   |_,_=>.no
def qk1(x y:Rv):R Rv:=match x.int?,y.int? with
 |some i,some j=>if Q9 i j=true then .ok (.val (.int (i * j))) else .no
 |none,some j=>(match x.plain? with
  |some l=>if (0<=j/\j < 1000)/\l.length * j.toNat<=sizeLine then .ok (.tmp (List.replicate j.toNat l).flatten) else .no
  |none=>.no)
 |_,_=>.no
def YJ(op:Operator)(x y:Rv):R Rv:=match op with
 |.Add=>qk0 x y
 |.Sub=>int2 x y λi j=>.ok (.val (.int (i - j)))
 |.Mult=>qk1 x y
 |.FloorDiv=>int2 x y λi j=>if 0 < j/\j < 1073741824 then .ok (.val (.int (i / j))) else if j < 0/\-1073741824 < j then .ok (.val (.int (i.fdiv j))) else .no
 |.Mod=>int2 x y λi j=>if 0 < j then .ok (.val (.int (i % j))) else if j < 0 then .ok (.val (.int (i.fmod j))) else .no
 |.Pow=>int2 x y λi j=>if 0<=j/\j<=1000000/\i.natAbs < 2 ^ 64 then .ok (.val (.int (i ^ j.toNat))) else .no
 |_=>.no
def eqD(x y:D):Option Bool:=match toP x,toP y with
 |some p,some q=>if SeqAt.shaped p&&SeqAt.shaped q then some (PyData.eqv p q) else none
 |_,_=>none
def zE:D->Bool
 |.non=>true
 |.bl _=>true
 |.int _=>true
 |.str _=>true
 |_=>false
def seqD(r:Rv):Option (List D):=match r.tup? with
 |some l=>some l
 |none=>r.list?
def flV:D->V
 |.bl b=>.bl b
 |.int n=>.int n
 |.str s=>.str s
 |_=>.non
def inD(x:D)(l:List D):Option Bool:=if (zE x&&l.all zE)=true then some (inV (flV x) (l.map flV)) else none
def qhn(x y:Rv)(f:Int->Int->Bool):Option Bool:=match x.int?,y.int? with
 |some i,some j=>some (f i j)
 |_,_=>none
def Rv.non?:Rv->Bool
 |.val .non=>true
 |_=>false
def qho(a b:Str):Bool:=!(Builtin.Str.occurrences b a 0 b.length 1).isEmpty
def qcU(x y:Rv):Option Bool:=match x.str?,y.str? with
 |some a,some b=>some (qho a b)
 |_,_=>(seqD y).bind (inD x.data)
def ltD(x y:Rv):Option Bool:=qhn x y λi j=>decide (i < j)
def JD(op:CmpOp)(x y:Rv):Option Bool:=match op with
 |.Eq=>eqD x.data y.data
 |.NotEq=>(eqD x.data y.data).map (!·)
 |.Lt=>ltD x y
 |.LtE=>qhn x y λi j=>decide (i<=j)
 |.Gt=>qhn x y λi j=>decide (j < i)
 |.GtE=>qhn x y λi j=>decide (j<=i)
 |.Is=>if y.non? then some x.non? else none
 |.IsNot=>if y.non? then some (!x.non?) else none
 |.In=>qcU x y
 |.NotIn=>(qcU x y).map (!·)
def qmO(x y:Rv):R Rv:=.no
def idxD(x y:Rv):R Rv:=match y.int? with
 |some i=>(match x.str? with
  |some z=>if z.length<=sizeLine then (match atI z.cps.toList i with |some c=>.ok (.val (.str ⟨#[c]⟩)) |none=>.no) else .no
  |none=>match seqD x with
   |some l=>(match atI l i with |some d=>.ok (.val d) |none=>.no)
   |none=>.no)
 |none=>qmO x y
def ZY(l:List D)(lo hi:Option Int):List D:=(l.drop (HT.sIx l.length 0 lo)).take (HT.sIx l.length l.length hi - HT.sIx l.length 0 lo)
def sliceD(r:Rv)(lo hi:Option Int):R Rv:=match r.str? with
 |some z=>if z.length<=sizeLine then .ok (.val (.str (Txt.slice z lo hi))) else .no
 |none=>(R.of r.list?).th λl=>.ok (.tmp (ZY l lo hi))
def truthD(r:Rv):Option Bool:=match r with
 |.val .non=>some false
 |.val (.bl b)=>some b
 |.val (.int i)=>some (i != 0)
 |.val (.str s)=>if s.length<=sizeLine then some ((s.length:Int) != 0) else none
 |r=>(seqD r).map λl=>!l.isEmpty
def plB:D->Bool
 |.ins ..=>false
 |.exc ..=>false
 |.dct ..=>false
 |_=>true
def plN:List String:=["NoneType","bool","int","str","list","tuple"]
def YK(cs:Cs)(r:Rv)(t:Str):Option Bool:=match r with
 |.val (.ins c _ _)=>cs.sub c t
 |.val (.exc C _ _)=>cs.xs C t
 |.val d=>if (cs.pl t&&plB d)=true then some false else none
 |_=>none
def qlY(cs:Cs)(C:Addr):List Str->Option Bool
 |[]=>some false
 | t::l=>(cs.xs C t).bind λb=>(qlY cs C l).map (b || ·)
def qmP(cs:Cs)(r:Rv)(ts:List Str):Option Bool:=match r with
 |.val (.exc C _ _)=>qlY cs C ts
 |_=>none
def qaK(cs:Cs)(r:Rv)(x:Str):Option D:=match r with
 |.val (.ins c ns ds)=>if cs.fld c x then (ns.zip ds).lookup x else none
 |.val (.exc C ns ds)=>if cs.xg C x then (ns.zip ds).lookup x else none
 |_=>none
def mtD(cs:Cs)(r:Rv)(x:Str):Option Str:=match r with
 |.val (.ins c ns _)=>if ns.contains x then none else cs.mt c x
 |_=>none
def Qh:List D->Option (List Str)
 |[]=>some []
 | .str z::l=>(Qh l).map (z :: ·)
 |_=>none
def ixM(r:Rv)(as:List Ar):R Rv:=.no
def qaL(x a:Str)(l:List D):R Rv:=if x = "join" then (match Qh l with |some zs=>if (zs.map (·.length)).sum+zs.length * a.length<=16777216 then .ok (.val (.str (Txt.join a zs))) else .no |none=>.no) else .no
def qf9(x a:Str)(as:List Ar):R Rv:=match as with
 |[.val (.lst l)]=>qaL x a l
 |[.bor l]=>qaL x a l
 |_=>.no
def bmD(x:Str)(r:Rv)(as:List Ar):R Rv:=match r with
 |.val (.str a)=>qf9 x a as
 |r=>if x = "index" then ixM r as else .no
def qk2:D->Option Str
 |.int n=>if n.natAbs.log2 < 1920 then some (Str.ofString (toString n)) else none
 |.str z=>if z.length<=3000 then some z else none
 |_=>none
def JN(acc:Str):List D->Option Str
 |[]=>some acc
 | d::l=>(qk2 d).bind λy=>if (acc++y).length<=sizeLine then JN (acc++y) l else none
def ifX{α:Type}(b:Bool)(r:R α):R α:=if b=true then r else noX r
def yo:Expr->Bool
 |.Constant (.str _) _ _=>true
 |.Name ..=>true
 |.Subscript ..=>true
 | .Call (.Name _ _) (_::_) _ _=>true
 |_=>false
def rprD(r:Rv):R Rv:=.no
def lenD(r:Rv):R Rv:=match r.str? with
 |some s=>if s.length<=sizeLine then .ok (.val (.int s.length)) else .no
 |none=>match seqD r with
  |some l=>.ok (.val (.int l.length))
  |none=>.no
def listD(r:Rv):R Rv:=match seqD r with
 |some l=>.ok (.tmp l)
 |none=>.no
def qmQ(r:Rv):R Rv:=.no
def intD(r:Rv):R Rv:=match r.int? with
 |some i=>.ok (.val (.int i))
 |none=>match r.bl? with
  |some b=>.ok (.val (.int (if b then 1 else 0)))
  |none=>qmQ r
def prD:D->Option (Int×Int)
 |.tup [.int a,.int b]=>some (a,b)
 |_=>none
theorem qmR(d:D):(prD d).elim True λp=>d=.tup [.int p.1,.int p.2]:=by
 cases d with
 |tup l=>cases l with
  |nil=>exact True.intro
  |cons a l=>cases a with
   |int x=>cases l with
    |nil=>exact True.intro
    |cons b l=>cases b with
     |int y=>cases l with
      |nil=>exact rfl
      |cons _ _=>exact True.intro
     |_=>exact True.intro
   |_=>exact True.intro
 |_=>exact True.intro
def qip{d:D}{p:Int×Int}(h:prD d=some p):d=.tup [.int p.1,.int p.2]:=by have b:=qmR d;rw[h]at b;exact b
def qeA:List D->Option (List (Int×Int))
 |[]=>some []
 | d::l=>match prD d,qeA l with
  |some p,some ps=>some (p::ps)
  |_,_=>none
def pD(p:Int×Int):D:=.tup [.int p.1,.int p.2]
def qaM(p q:Int×Int):Bool:=decide (p.1 < q.1)||(decide (p.1=q.1)&&decide (p.2<=q.2))
def jz(ps:List (Int×Int)):List (Int×Int):=ps.mergeSort qaM
def Ji(r:Rv):R Rv:=match r.list? with
 |some l=>(match qeA l with |some ps=>if ps.length < 4000 then .ok (.tmp ((jz ps).map pD)) else .no |none=>.no)
 |none=>.no
def qmS(r:Rv):R Rv:=.no
def qmT(r:Rv):R Rv:=.no
def qk3(xs:List D)(lo hi:Option Int)(n:Int):List D:=(sliceRange (sliceBounds lo hi (some n) xs.length).1 (sliceBounds lo hi (some n) xs.length).2.1 (sliceBounds lo hi (some n) xs.length).2.2).filterMap (xs[·]?)
def zc:Expr->Bool
 |.Starred ..=>true
 |_=>false
def strD(r:Rv):R Rv:=match r.int? with
 |some i=>if i.natAbs.log2 < 1920 then .ok (.val (.str (Str.ofString (toString i)))) else .no
 |none=>.no
def tupD(r:Rv):R Rv:=match r.list? with
 |some l=>.ok (.val (.tup l))
 |none=>.no
def qmU(r:Rv):R Rv:=.no
def qmV(r:Rv):R Rv:=.no
def kvD:D->Option (Str×Int)
 |.tup [.str s,.int n]=>some (s,n)
 |_=>none
def qk4:List D->Option (List (Str×Int))
 |[]=>some []
 | d::l=>match kvD d,qk4 l with
  |some p,some ps=>some (p::ps)
  |_,_=>none
def qmW(kvs:List (Str×Int))(k:Str):Option Int:=(kvs.find? λkv=>decide (kv.1=k)).map (·.2)
def qk5(n:Int)(x y:Rv):R Rv:=match x.list?,y.str? with
 |some l,some k=>(match qk4 l with |some kvs=>if (kvs.map (·.1)).Nodup then .ok (.val (.int ((qmW kvs k).getD n))) else .no |none=>.no)
 |some l,none=>(match qk4 l with |some kvs=>if y.non?=true/\(kvs.map (·.1)).Nodup then .ok (.val (.int n)) else .no |none=>.no)
 |_,_=>.no
def dgE(L:Ct)(o:Expr)(x:Str)(es:List Expr)(b:Bool):Option (Expr×Expr×Int):=none
def maxD(x y:Rv):R Rv:=int2 x y λi j=>.ok (.val (.int (if j > i then j else i)))
def minD(x y:Rv):R Rv:=int2 x y λi j=>.ok (.val (.int (if j < i then j else i)))
def Qi:Expr->Bool
 |.Set ..=>false
 |_=>true
def zk:Expr->Option (List Str)
 |.Name x _=>some [x]
 |.Tuple es _ _=>es.foldr (λe r=>match e,r with |.Name x _,some l=>some (x::l) |_,_=>none) (some [])
 |_=>none
def qga:Expr->Bool
 |.Tuple ..=>true
 |_=>false
def qkm:Sl->Sl
 |.own l=>.bor l
 |s=>s
def JO(N:List Str)(sc:Scope):List Nat:=(List.range N.length).filter λi=>sc.names.lookup (N.getD i "") == some .free
def Jj(l:List D):List D:=(List.range l.length).zipWith (λ(i:Nat) d=>D.tup [.int i,d]) l
def qmX(l m:List D):List D:=List.zipWith (λa b=>D.tup [a,b]) l m
def zF(lo hi:Int):List D:=(List.range (hi - lo).toNat).map λi:Nat=>D.int (lo+i)
def qgb(lo hi c:Int):List D:=(List.range (rsz lo hi c)).map λi:Nat=>D.int (lo+i * c)
def rgB(i j c:Int):Bool:=decide (-(2 ^ 60)<=i)&&decide (i < 2 ^ 60)&&decide (-(2 ^ 60)<=j)&&decide (j < 2 ^ 60)&&decide (0 < c)&&decide (c < 2 ^ 30)
def rg3(x y z:Rv):R (List D):=match x.int?,y.int?,z.int? with
 |some i,some j,some c=>if rgB i j c=true then .ok (qgb i j c) else .no
 |_,_,_=>.no
def qeB(i:Int):Bool:=decide (-(2 ^ 62)<=i)&&decide (i < 2 ^ 62)
def lrE(L:Ct)(f:Str)(a:Expr):Option (Expr×Expr):=none
def ssE(L:Ct)(f:Str)(a:Expr):Option Expr:=none
def lrD(x y:Rv):R Rv:=match x.int?,y.int? with
 |some i,some j=>if qeB i=true/\qeB j=true/\(j - i).toNat<=10000 then .ok (.tmp (zF i j)) else .no
 |_,_=>.no
def irE(L:Ct)(op:CmpOp)(b:Expr):Option Expr:=none
def qmY(x y:Rv):R Rv:=match x.int?,y.int? with
 |some i,some j=>.ok (.val (.bl (!decide (0<=i/\i < j))))
 |_,_=>.no
def qR(i:Int):Bool:=decide (-(2 ^ 62)<=i)&&decide (i < 2 ^ 62)
mutual
def nfD:D->Bool
 |.lst l=>(l.isEmpty||!(l.all zE))&&qeC l
 |.tup l=>qeC l
 |.ins _ _ l=>qeC l
 |.exc _ _ l=>qeC l
 |.dct _ l=>qeC l
 |_=>true
def qeC:List D->Bool
 |[]=>true
 | d::l=>nfD d&&qeC l
end
def nfA:Ar->Bool
 |.val d=>nfD d
 |.bor l=>qeC l
 |.scr l=>qeC l
def qmZ(as:List Ar)(r:Rv):Rv:=match r with
 |.val (.lst l)=>if as.all nfA&&!l.isEmpty&&l.all zE then .tmp l else r
 |_=>r
def qbW(asg:D->Env->R Env)(test:Env->R (Bool×Env))(elt:Env->R (D×Env)):List D->Env->List D->R (List D)
 |[],_,acc=>.ok acc
 | d::ds,N,acc=>(asg d N).th λN1=>(test N1).th λbt=>if bt.1 then (elt bt.2).th λx=>if acc.length < sizeLine then qbW asg test elt ds x.2 (acc++[x.1]) else .no else qbW asg test elt ds bt.2 acc
inductive Fl where
 | next (N:Env)|ret (r:Rv)
def jN:Expr->Bool
 |.ListComp ..=>false
 |.SetComp ..=>false
 |.DictComp ..=>false
 |_=>true
def qbX:Expr->Bool
 |.Tuple ..=>false
 |_=>true
def Yd:Expr->Bool
 |.Slice ..=>false
 |_=>true
def qkn(step:D->Env->R Fl):List D->Env->R Fl
 |[],N=>.ok (.next N)
 | d::ds,N=>(step d N).th λf=>match f with
  |.next N1=>qkn step ds N1
  |.ret r=>.ok (.ret r)
def whL(test:Env->R (Bool×Env))(body:Env->R Fl):Nat->Env->R Fl
 |0,_=>.no
 | n+1,N=>(test N).th λb=>if b.1 then (body b.2).th λf=>(match f with
  |.next N1=>whL test body n N1
  |.ret r=>.ok (.ret r)) else .ok (.next b.2)
inductive B1 where
 | len|list|int|srt|sum|all|str|tup|any|sst|rpr
inductive B2 where
 | max|min|get (n:Int)|rng|inr
inductive Ty where
 | int|bool|str|list|tuple
inductive Tg where
 | one (i:Nat)|many (l:List Nat)
structure Cl where
 f:Str->List Ar->R Rv
 cs:Cs
 nw:Str->List Ar->R Rv
 x:Bool:=true
 y:Bool:=true
instance:CoeFun Cl (λ_=>Str->List Ar->R Rv):=⟨Cl.f⟩
mutual
inductive E where
 | var (i:Nat)|con (d:D)|bin (op:Operator) (a b:E)|neg (a:E)|not (a:E)|one (a:E)|and (a b:E)|or (a b:E)|cmp (op:CmpOp) (a b:E)|ite (c:T) (a b:E)
 | idx (a i:E)|sli (a:E) (lo hi:O)|rvs (a:E)|stp (n:Int) (a:E) (lo hi:O)|lst (l:Es)|tup (l:Es)|call (f:Str) (l:Es)|calF (f:Str) (l:Es)|calN (f:Str) (l:Es)|b1 (f:B1) (a:E)|b2 (f:B2) (a b:E)|isi (t:Ty) (a:E)|isc (t:Str) (a:E)|isn (ts:List Str) (a:E)|fld (a:E) (x:Str)|met (a:E) (x:Str) (l:Es)|new (f:Str) (l:Es)|fst (l:Es)|dct (ks:List Str) (l:Es)|comp (x:E) (src:I) (tg:Tg) (c:F) (n:Nat) (fr:List Nat)
inductive Es where
 | nil|cons (a:E) (l:Es)
inductive T where
 | not (a:T)|one (a:T)|and (a b:T)|or (a b:T)|cmp (op:CmpOp) (a b:E)|chn (op op':CmpOp) (a b c:E)|val (a:E)
inductive O where
 | none|some (a:E)
inductive F where
 | yes|test (c:T)
inductive I where
 | nam (i:Nat)|seq (a:E)|rng (a:E)|rng2 (a b:E)|rng3 (a b c:E)|enum (a:E)|zip (a b:E)|rev (a:E)
end
def slR(N:Env)(i:Nat):R Rv:=match N[i]? with
 |some (.val d)=>.ok (.val d)
 |some (.own l)=>.ok (.cell l)
 |some (.bor l)=>.ok (.cell l)
 |some (.scr l)=>.ok (.scr l)
 |_=>.no
def slE(N:Env)(i:Nat):R (D×Env):=match N[i]? with
 |some (.val d)=>.ok (d,N)
 |some (.own l)=>.ok (.lst l,N.set i (.val (.lst l)))
 |_=>.no
def slL(N:Env)(i:Nat):R ((Sk×List D)×Env):=match N[i]? with
 |some (.val (.lst l))=>.ok ((.lst,l),N)
 |some (.val (.tup l))=>.ok ((.tup,l),N)
 |some (.val (.str z))=>.ok ((.str,qdk z),N)
 |some (.own l)=>.ok ((.lst,l),N.set i (.val (.lst l)))
 |some (.bor l)=>.ok ((.lst,l),N)
 |some (.scr l)=>.ok ((.lst,l),N)
 |_=>.no
def slX(N:Env)(i:Nat):R Rv:=match N[i]? with
 |some (.val d)=>.ok (.val d)
 |some (.own l)=>.ok (.tmp l)
 |_=>.no
def B1.go:B1->Rv->R Rv
 |.len=>lenD
 |.list=>listD
 |.int=>intD
 |.srt=>Ji
 |.sum=>qmT
 |.all=>qmU
 |.str=>strD
 |.tup=>tupD
 |.any=>qmV
 |.sst=>qmS
 |.rpr=>rprD
def B2.go:B2->Rv->Rv->R Rv
 |.max=>maxD
 |.min=>minD
 |.get n=>qk5 n
 |.rng=>lrD
 |.inr=>qmY
def Ty.of:Ty->D->Option Bool
 |_,.ins ..=>none
 |_,.exc ..=>none
 |_,.dct ..=>none
 |.int,.int _=>some true
 |.int,.bl _=>some true
 |.bool,.bl _=>some true
 |.str,.str _=>some true
 |.list,.lst _=>some true
 |.tuple,.tup _=>some true
 |_,_=>some false
def Ty.go(t:Ty):Rv->Option Bool
 |.scr _=>none
 |r=>t.of r.data
def qk6(cs:Cs):Rv->Option Bool
 |.val (.ins c _ _)=>if cs.pt c=true then some false else none
 |_=>none
def tyG(cs:Cs)(t:Ty)(r:Rv):Option Bool:=match t.go r with
 |some b=>some b
 |none=>qk6 cs r
def Ye:List Nat->List D->Env->R Env
 |[],[],N=>.ok N
 | i::l,d::ds,N=>Ye l ds (N.set i (.val d))
 |_,_,_=>.no
def Tg.go:Tg->D->Env->R Env
 |.one i,d,N=>.ok (N.set i (.val d))
 |.many l,.tup ds,N=>Ye l ds N
 |_,_,_=>.no
def toAr:Rv->Ar
 |.val d=>.val d
 |.tmp l=>.val (.lst l)
 |.cell l=>.bor l
 |.scr l=>.scr l
def ZZ(n:Nat)(fr:List Nat)(N:Env):Env:=List.replicate n Sl.no++fr.map λi=>qkm (N.getD i .no)
def qko(x:Rv×Env):R (D×Env):=match x.1 with
 |.val d=>.ok (d,x.2)
 |.tmp l=>.ok (.lst l,x.2)
 |_=>.no
def qkp(x:Rv×Env):R ((Sk×List D)×Env):=match x.1 with
 |.val (.lst l)=>.ok ((.lst,l),x.2)
 |.val (.tup l)=>.ok ((.tup,l),x.2)
 |.val (.str z)=>.ok ((.str,qdk z),x.2)
 |.tmp l=>.ok ((.lst,l),x.2)
 |_=>.no
def zU(e:E)(r:Env->R (Rv×Env))(N:Env):R (D×Env):=match e with
 |.var i=>slE N i
 |.con d=>.ok (d,N)
 |_=>(r N).th qko
def Yg(e:E)(r:Env->R (Rv×Env))(N:Env):R ((Sk×List D)×Env):=match e with
 |.var i=>slL N i
 |_=>(r N).th qkp
mutual
def iR(cl:Cl):E->Env->R (Rv×Env)
 |.var i,N=>(slR N i).th λr=>.ok (r,N)
 |.con d,N=>.ok (.val d,N)
 |.bin op a b,N=>(iR cl a N).th λx=>(iR cl b x.2).th λy=>(YJ op x.1 y.1).th λr=>.ok (r,y.2)
 |.neg a,N=>(iR cl a N).th λx=>match x.1 with
  |.val (.int i)=>.ok (.val (.int (-i)),x.2)
  |_=>.no
 |.not a,N=>(iR cl a N).th λx=>match x.1 with
  |.val (.bl b)=>.ok (.val (.bl (!b)),x.2)
  |_=>.no
 |.one a,N=>iR cl a N
 |.and a b,N=>(iR cl a N).th λx=>match x.1 with
  |.val (.bl true)=>iR cl b x.2
  |.val (.bl false)=>.ok (.val (.bl false),x.2)
  |_=>.no
 |.or a b,N=>(iR cl a N).th λx=>match x.1 with
  |.val (.bl false)=>iR cl b x.2
  |.val (.bl true)=>.ok (.val (.bl true),x.2)
  |_=>.no
 |.cmp op a b,N=>(iR cl a N).th λx=>(iR cl b x.2).th λy=>(R.of (JD op x.1 y.1)).th λr=>.ok (.val (.bl r),y.2)
 |.ite c a b,N=>(iT cl c N).th λt=>if t.1 then iR cl a t.2 else iR cl b t.2
 |.idx a i,N=>(iR cl a N).th λx=>(iR cl i x.2).th λy=>(idxD x.1 y.1).th λr=>.ok (r,y.2)
 |.sli a lo hi,N=>(iR cl a N).th λx=>(iO cl lo x.2).th λl=>(iO cl hi l.2).th λh=>(sliceD x.1 l.1 h.1).th λr=>.ok (r,h.2)
 |.stp n a lo hi,N=>(iR cl a N).th λx=>(iO cl lo x.2).th λl=>(iO cl hi l.2).th λh=>(R.of x.1.list?).th λd=>.ok (.tmp (qk3 d l.1 h.1 n),h.2)
 |.rvs a,N=>(iR cl a N).th λx=>(R.of x.1.list?).th λl=>.ok (.tmp l.reverse,x.2)
 |.lst l,N=>(iEs cl l N).th λx=>if x.1.length<=sizeLine then .ok (.tmp x.1,x.2) else .no
 |.tup l,N=>(iEs cl l N).th λx=>if x.1.length<=sizeLine then .ok (.val (.tup x.1),x.2) else .no
 |.call f l,N=>(iAs cl l N).th λx=>(cl f x.1).th λr=>.ok (r,x.2)
 |.calF f l,N=>(iEs cl l N).th λx=>(cl f (x.1.map .val)).th λr=>.ok (r,x.2)
 |.calN f l,N=>(iAs cl l N).th λx=>(noX (cl f x.1)).th λr=>.ok (qmZ x.1 r,x.2)
 |.b1 f a,N=>(iR cl a N).th λx=>(f.go x.1).th λr=>.ok (r,x.2)
 |.b2 f a b,N=>(iR cl a N).th λx=>(noX (iR cl b x.2)).th λy=>(f.go x.1 y.1).th λr=>.ok (r,y.2)
 |.isi t a,N=>(iR cl a N).th λx=>(R.of (tyG cl.cs t x.1)).th λb=>.ok (.val (.bl b),x.2)
 |.isc t a,N=>(noX (iR cl a N)).th λx=>(R.of (YK cl.cs x.1 t)).th λb=>.ok (.val (.bl b),x.2)
 |.isn ts a,N=>(noX (iR cl a N)).th λx=>(R.of (qmP cl.cs x.1 ts)).th λb=>.ok (.val (.bl b),x.2)
 |.fld a x,N=>(noX (iR cl a N)).th λy=>(R.of (qaK cl.cs y.1 x)).th λd=>.ok (.val d,y.2)
 |.met a x l,N=>(iR cl a N).th λy=>match mtD cl.cs y.1 x with
  |some f=>(iAs cl l y.2).th λz=>(cl f (toAr y.1::z.1)).th λr=>.ok (r,z.2)
  |none=>(noX (iAs cl l y.2)).th λz=>(noX (bmD x y.1 z.1)).th λr=>.ok (r,z.2)
 |.new f l,N=>(ifX cl.y (iAs cl l N)).th λx=>(cl.nw f x.1).th λr=>.ok (r,x.2)
 |.fst l,N=>(noX (iEs cl l N)).th λx=>(R.of (JN Str.empty x.1)).th λz=>.ok (.val (.str z),x.2)
 |.dct ks l,N=>(iEs cl l N).th λx=>.ok (.val (.dct ks x.1),x.2)
 |.comp e src tg c n fr,N=>(iI cl src N).th λx=>if x.1.length<=sizeLine then (noX (qbW tg.go (λN1=>iF cl c N1) (zU e (iR cl e)) x.1 (ZZ n fr x.2) [])).th λl=>.ok (.tmp l,x.2) else .no
def iT(cl:Cl):T->Env->R (Bool×Env)
 |.not a,N=>(iT cl a N).th λt=>.ok (!t.1,t.2)
 |.one a,N=>iT cl a N
 |.and a b,N=>(iT cl a N).th λt=>if t.1 then iT cl b t.2 else .ok (false,t.2)
 |.or a b,N=>(iT cl a N).th λt=>if t.1 then .ok (true,t.2) else iT cl b t.2
 |.cmp op a b,N=>(iR cl a N).th λx=>(iR cl b x.2).th λy=>(R.of (JD op x.1 y.1)).th λr=>.ok (r,y.2)
 | .chn op op' a b c,N=>(iR cl a N).th λx=>(iR cl b x.2).th λy=>(R.of (JD op x.1 y.1)).th λr=>if r=true then (iR cl c y.2).th λz=>(R.of (JD op' y.1 z.1)).th λr'=>.ok (r',z.2) else .ok (false,y.2)
 |.val a,N=>(iR cl a N).th λx=>(R.of (truthD x.1)).th λb=>.ok (b,x.2)
def iEs(cl:Cl):Es->Env->R (List D×Env)
 |.nil,N=>.ok ([],N)
 |.cons e l,N=>(zU e (iR cl e) N).th λx=>(iEs cl l x.2).th λy=>.ok (x.1::y.1,y.2)
def iAs(cl:Cl):Es->Env->R (List Ar×Env)
 |.nil,N=>.ok ([],N)
 |.cons e l,N=>(iR cl e N).th λx=>(iAs cl l x.2).th λy=>.ok (toAr x.1::y.1,y.2)
def iO(cl:Cl):O->Env->R (Option Int×Env)
 |.none,N=>.ok (none,N)
 |.some e,N=>(iR cl e N).th λx=>match x.1 with
  |.val (.int i)=>.ok (some i,x.2)
  |_=>.no
def iF(cl:Cl):F->Env->R (Bool×Env)
 |.yes,N=>.ok (true,N)
 |.test c,N=>iT cl c N
def iI(cl:Cl):I->Env->R (List D×Env)
 |.nam i,N=>(slC N i).th λl=>.ok (l,N)
 |.seq a,N=>(Yg a (iR cl a) N).th λx=>.ok (x.1.2,x.2)
 |.rng a,N=>(iR cl a N).th λx=>(match x.1.int? with
  |some n=>if qR n=true then .ok (zF 0 n,x.2) else .no
  |none=>.no)
 |.rng3 a b c,N=>(iR cl a N).th λx=>(iR cl b x.2).th λy=>(iR cl c y.2).th λz=>(rg3 x.1 y.1 z.1).th λl=>.ok (l,z.2)
 |.rng2 a b,N=>(iR cl a N).th λx=>(iR cl b x.2).th λy=>(match x.1.int?,y.1.int? with
  |some i,some j=>if qR i=true/\qR j=true then .ok (zF i j,y.2) else .no
  |_,_=>.no)
 |.enum a,N=>(Yg a (iR cl a) N).th λx=>match x.1.1 with |.lst=>.ok (Jj x.1.2,x.2) |_=>.no
 |.rev a,N=>(Yg a (iR cl a) N).th λx=>match x.1.1 with |.lst=>.ok (x.1.2.reverse,x.2) |_=>.no
 |.zip a b,N=>(Yg a (iR cl a) N).th λx=>(Yg b (iR cl b) x.2).th λy=>match x.1.1,y.1.1 with |.lst,.lst=>.ok (qmX x.1.2 y.1.2,y.2) |_,_=>.no
end
mutual
inductive S where
 | pass|expr (e:E)|app (i:Nat) (e:E)|ext (i:Nat) (e:E)|clr (i:Nat)|ret (e:E)|retN|set (i:Nat) (e:E)|setT (tg:Tg) (e:E)|setI (i:Nat) (x e:E)|ite (c:T) (a b:Ss)|for_ (tg:Tg) (src:I) (b:Ss)|whl (c:T) (b:Ss)|rai (n:Str) (l:Es)|try_ (b:Ss) (hs:List (Str×Nat×Nat))|stuck
inductive Ss where
 | nil|cons (s:S) (l:Ss)
end
def zA(N:Env)(i:Nat):Option (List D):=match N[i]? with
 |some (.own l)=>some l
 |_=>none
def qdl(e:E)(r:Env->R (Rv×Env))(N:Env):R Rv:=match e with
 |.var i=>slX N i
 |.con d=>.ok (.val d)
 |_=>(r N).th λx=>match x.1 with
  |.val d=>.ok (.val d)
  |.tmp l=>.ok (.tmp l)
  |_=>.no
def qa5(e:E)(r:Env->R (Rv×Env))(N:Env):R (Sl×Env):=match e with
 |.var i=>(slE N i).th λr=>.ok (.val r.1,r.2)
 |.con d=>.ok (.val d,N)
 |_=>(r N).th λx=>match x.1 with
  |.val d=>.ok (.val d,x.2)
  |.tmp l=>.ok (.own l,x.2)
  |_=>.no
def qgc:D->Bool
 |.int i=>decide (i.natAbs.log2 < 1920)
 |.non=>true
 |_=>false
def mkX(b:Bool)(cs:Cs)(n:Str)(ds:List D):R Fl:=match cs.xn n with
 |some []=>if ds.length<=sizeLine then .exc (cs.xa n) [] else .no
 |some ns=>if (b&&decide (ds.length=ns.length)&&decide (ds.length<=sizeLine)&&ds.all qgc)=true then .exc (cs.xa n) (ns.zip ds) else .no
 |none=>.no
def jC(cs:Cs)(n:Nat)(C:Addr)(l:List (Str×D)):List (Str×Nat×Nat)->R Fl
 |[]=>.no
 | h::hs=>match cs.xs C h.1 with
  |some true=>.ok (.next ((List.replicate n Sl.no).set h.2.2 (.val (.exc C (l.map (·.1)) (l.map (·.2))))))
  |some false=>jC cs n C l hs
  |none=>.no
mutual
def iS(cl:Cl)(w:Nat):S->Env->R Fl
 |.pass,N=>.ok (.next N)
 |.expr e,N=>(iR cl e N).th λx=>.ok (.next x.2)
 |.app i e,N=>(match zA N i with
  |none=>.no
  |some _=>(zU e (iR cl e) N).th λy=>(match zA y.2 i with
   |some l=>if l.length < sizeLine then .ok (.next (y.2.set i (.own (l++[y.1])))) else .no
   |none=>.no))
 |.ext i e,N=>(match zA N i with
  |none=>.no
  |some _=>(iR cl e N).th λy=>(match zA y.2 i,y.1.plain? with
   |some l,some n=>if l.length+n.length<=sizeLine then .ok (.next (y.2.set i (.own (l++n)))) else .no
   |_,_=>.no))
 |.clr i,N=>(match zA N i with
  |some _=>.ok (.next (N.set i (.own [])))
  |none=>.no)
 |.ret e,N=>(qdl e (iR cl e) N).th λr=>.ok (.ret r)
 |.retN,N=>.ok (.ret (.val .non))
 |.set i e,N=>(qa5 e (iR cl e) N).th λs=>.ok (.next (s.2.set i s.1))
 |.setT tg e,N=>(zU e (iR cl e) N).th λx=>(tg.go x.1 x.2).th λN1=>.ok (.next N1)
 |.setI i x e,N=>(zU e (iR cl e) N).th λy=>(match zA y.2 i with
  |none=>.no
  |some _=>(iR cl x y.2).th λz=>(match zA z.2 i,z.1.int? with
   |some l,some n=>(match ixN l.length n with
    |some k=>.ok (.next (z.2.set i (.own (l.set k y.1))))
    |none=>.no)
   |_,_=>.no))
 |.ite c a b,N=>(iT cl c N).th λt=>if t.1 then iSs cl w a t.2 else iSs cl w b t.2
 |.for_ tg src b,N=>(iI cl src N).th λx=>qkn (λd N1=>(tg.go d N1).th λN2=>iSs cl w b N2) x.1 x.2
 |.whl c b,N=>whL (λN1=>iT cl c N1) (λN1=>iSs cl w b N1) w N
 |.rai n l,N=>(noX (iEs cl l N)).th λx=>mkX cl.x cl.cs n x.1
 |.try_ b hs,N=>match iSs cl w b N with
  |.exc C l=>jC cl.cs N.length C l hs
  |r=>r
 |.stuck,_=>.no
def iSs(cl:Cl)(w:Nat):Ss->Env->R Fl
 |.nil,N=>.ok (.next N)
 |.cons s l,N=>(iS cl w s N).th λf=>match f with
  |.next N1=>iSs cl w l N1
  |.ret r=>.ok (.ret r)
end
def o2{α M γ:Type}(a:Option α)(b:Option M)(f:α->M->γ):Option γ:=match a,b with
 |some x,some y=>some (f x y)
 |_,_=>none
theorem qk{α M γ:Type}{a:Option α}{b:Option M}{f:α->M->γ}{z:γ}(h:o2 a b f=some z):∃x y,a=some x/\b=some y/\f x y=z:=by
 cases a with
 |none=>cases h
 |some x=>
  cases b with
  |none=>cases h
  |some y=>exact{x,y,rfl,rfl,Option.some.inj h}
def Yh{α:Type}{c:Prop}[Decidable c]{a:Option α}{z:α}(h:(if c then a else none)=some z):c/\a=some z:=by
 by_cases hc:c
 ·rw[if_pos hc]at h;exact⟨hc,h⟩
 ·rw[if_neg hc]at h;cases h
theorem qh{α:Type}{c:Bool}{a:Option α}{z:α}(h:oif c a=some z):c=true/\a=some z:=by
 cases c with
 |true=>exact⟨rfl,h⟩
 |false=>cases h
def Ct.k(L:Ct):Cl:=⟨L.cl,L.cs,L.nw,L.x,L.y⟩
def cC(L:Ct)(it:Expr)(r:Option I):Option I:=match isF L it with
 |some i=>some (.nam i)
 |none=>r
def Za(L:Ct)(x:Str):Option E:=oif (qK x) (match qa2 L.N x with
 |some i=>oif (qa3 L.sc x) (some (.var i))
 |none=>oif (glB L.sc x) ((L.gl x).map .con))
def qeD:Const->Option E
 |.none=>some (.con .non)
 |.bool b=>some (.con (.bl b))
 |.int i=>some (.con (.int i))
 |.str s=>some (.con (.str s))
 |_=>none
def qkq(t:Str):Option Ty:=if t = "int" then some .int else if t = "bool" then some .bool else if t = "str" then some .str else if t = "list" then some .list else if t = "tuple" then some .tuple else none
def qk7(f:Str):Option B1:=if f = "len" then some .len else if f = "list" then some .list else if f = "int" then some .int else if f = "sorted" then some .srt else if f = "tuple" then some .tup else none
def qk8(f:Str):Option B2:=if f = "max" then some .max else if f = "min" then some .min else none
def qdm(L:Ct)(x:Str):Option Nat:=oif (qf8 L.sc x&&qK x) (qa2 L.N x)
def qdn(L:Ct):List Str->Option (List Nat)
 |[]=>some []
 | x::l=>o2 (qdm L x) (qdn L l) (· :: ·)
def cTg(L:Ct)(tg:Expr):Option Tg:=match tg with
 |.Name x _=>(qdm L x).map .one
 |.Tuple es j p=>oif (!es.any zc) (match zk (.Tuple es j p) with
  |some xs=>(qdn L xs).map .many
  |none=>none)
 |_=>none
def Yi:E->Option E
 |.var _=>none
 |e=>some e
def isNm:Expr->Bool
 |.Name ..=>true
 |_=>false
def cFs(g:Expr->Option E):List Expr->Option Es
 |[]=>some .nil
 | .Constant (.str z) _ _::l=>(cFs g l).map (.cons (.con (.str z)))
 | .FormattedValue e i none _::l=>oif (decide (i = -1)) (o2 (g e) (cFs g l) .cons)
 |_=>none
def cVs(g:Expr->Option E):List Expr->Option Es
 |[]=>some .nil
 | e::l=>o2 (g e) (cVs g l) .cons
mutual
def cE:Nat->Ct->Expr->Option E
 |0,_,_=>none
 | m+1,L,e=>match e with
  |.Name x _=>Za L x
  |.Constant c _ _=>qeD c
  |.BinOp a op b _=>o2 (cE m L a) (cE m L b) (E.bin op)
  |.UnaryOp .USub a _=>(cE m L a).map .neg
  |.UnaryOp .Not a _=>(cE m L a).map .not
  |.BoolOp _ [a] _=>(cE m L a).map .one
  | .BoolOp .And (a::b::l) p=>o2 (cE m L a) (cE m L (.BoolOp .And (b::l) p)) .and
  | .BoolOp .Or (a::b::l) p=>none
  |.Compare a [op] [b] _=>oif (!behindInMarks op b) (o2 (cE m L a) (cE m L b) (E.cmp op))
  |.IfExp ..=>none
  |.Subscript a (.Slice lo hi none _) _=>o2 (cE m L a) (o2 (cO m L lo) (cO m L hi) Prod.mk) λa p=>.sli a p.1 p.2
  |.Subscript _ (.Slice _ _ (some _) _) _=>none
  |.Subscript a i _=>o2 (cE m L a) (cE m L i) .idx
  |.List es _=>(cEs m L es).map .lst
  |.Tuple es _ _=>(cEs m L es).map .tup
  |.Call (.Name f p) es [] _=>oif (qK f&&glB L.sc f&&(qa2 L.N f).isNone) (
    if f = "isinstance" then (match es with
     |[a,b]=>(match b with
      |.Name t _=>oif (qK t&&glB L.sc t&&(qa2 L.N t).isNone&&!zc a) (match qkq t with |some y=>(cE m L a).map (.isi y) |none=>(cE m L a).map (.isc t))
      |_=>none)
     |_=>none)
    else if L.tab.contains f=true then (if (f = "_law_let"/\es.length=2)\/f = "_law_day"\/f = "_law_alike" then (cEs m L es).map (.calF f) else (cAs m L es).map (.call f))
    else if L.cs.tab.contains f=true then (cAs m L es).map (.new f)
    else match es with
     |[a]=>(match lrE L f a with
      |some t=>o2 (cE m L t.1) (cE m L t.2) (.b2 .rng)
      |none=>(match ssE L f a with
       |some t=>(cE m L t).map (.b1 .sst)
       |none=>oif (!zc a) (o2 (qk7 f) (cE m L a) .b1)))
     |[a,b]=>oif (!(zc a||zc b)) (o2 (qk8 f) (o2 (cE m L a) (cE m L b) Prod.mk) λf p=>.b2 f p.1 p.2)
     |_=>none)
  |.Attribute o x _=>oif (yo o) ((cE m L o).map λa=>.fld a x)
  |.Call (.Attribute o x ap) es [] q=>if (yo o&&(ap.endLine == q.line)&&decide (es.length < 30))=true then (o2 (cE m L o) (cAs m L es) λa l=>.met a x l)
   else match dgE L o x es (ap.endLine == q.line) with
    |some t=>o2 (cE m L t.1) (cE m L t.2.1) (.b2 (.get t.2.2))
    |none=>none
  | .JoinedStr (a::b::l) _=>(cFs (cX m L) (a::b::l)).map .fst
  |.ListComp elt [g] sc _=>oif (decide (g.is_async=0)) (match zk g.target with
   |some own=>oif (yN L.sc L.N (JO L.N sc) sc&&decide (own++(JO L.N sc).map λi=>L.N.getD i "").Nodup&&Qi g.iter)
     (o2 (o2 (cC L g.iter (cI m L (qga g.target) g.iter)) (cTg { L with N:=own++(JO L.N sc).map λi=>L.N.getD i "",sc:=sc } g.target) Prod.mk)
      (o2 (cF m { L with N:=own++(JO L.N sc).map λi=>L.N.getD i "",sc:=sc } g.ifs) (cX m { L with N:=own++(JO L.N sc).map λi=>L.N.getD i "",sc:=sc } elt) Prod.mk)
      λp q=>.comp q.2 p.1 p.2 q.1 own.length (JO L.N sc))
   |none=>none)
  |_=>none
def cX:Nat->Ct->Expr->Option E
 |0,_,_=>none
 | m+1,L,e=>match e with
  |.Name x _=>Za L x
  |e=>(cE m L e).bind Yi
def cT:Nat->Ct->Expr->Option T
 |0,_,_=>none
 | m+1,L,e=>match e with
  |.UnaryOp .Not a _=>(cT m L a).map .not
  |.BoolOp _ [a] _=>(cT m L a).map .one
  | .BoolOp .And (a::b::l) p=>o2 (cT m L a) (cT m L (.BoolOp .And (b::l) p)) .and
  | .BoolOp .Or (a::b::l) p=>o2 (cT m L a) (cT m L (.BoolOp .Or (b::l) p)) .or
  |.BoolOp _ [] _=>none
  |.IfExp ..=>none
  |.Compare a [op] [b] _=>(match irE L op b with
   |some t=>o2 (cE m L a) (cE m L t) (λx y=>.val (.b2 .inr x y))
   |none=>oif (!behindInMarks op b) (o2 (cE m L a) (cE m L b) (T.cmp op)))
  |.Compare ..=>none
  |e=>(cE m L e).map .val
def cEs:Nat->Ct->List Expr->Option Es
 |0,_,_=>none
 | m+1,L,es=>match es with
  |[]=>some .nil
  | e::l=>oif (!zc e) (o2 (cX m L e) (cEs m L l) .cons)
def cAs:Nat->Ct->List Expr->Option Es
 |0,_,_=>none
 | m+1,L,es=>match es with
  |[]=>some .nil
  | e::l=>oif (!zc e) (o2 (cE m L e) (cAs m L l) .cons)
def cO:Nat->Ct->Option Expr->Option O
 |0,_,_=>none
 | m+1,L,o=>match o with
  |none=>some .none
  |some e=>(cE m L e).map .some
def cF:Nat->Ct->List Expr->Option F
 |0,_,_=>none
 | m+1,L,es=>match es with
  |[]=>some .yes
  |[c]=>(cT m L c).map .test
  |_=>none
def cL:Nat->Ct->Expr->Option E
 |0,_,_=>none
 | m+1,L,e=>match e with
  |.Name x _=>(qa4 L x).map .var
  |e=>(cE m L e).bind Yi
def cI:Nat->Ct->Bool->Expr->Option I
 |0,_,_,_=>none
 | m+1,L,tb,e=>match e with
  |.Call (.Name f p) es [] q=>if f = "range" || f = "enumerate" || f = "zip" || f = "reversed" then oif (qK f&&glB L.sc f&&(qa2 L.N f).isNone) (match es with
    |[a]=>oif (!zc a) (if f = "range" then (cE m L a).map .rng else if f = "enumerate" then oif tb ((cL m L a).map .enum) else none)
    |_=>none)
   else (cL m L (.Call (.Name f p) es [] q)).map .seq
  |e=>(cL m L e).map .seq
end
def cV(m:Nat)(L:Ct)(e:Expr):Option E:=match e with
 |.Name x _=>Za L x
 |e=>(cE m L e).bind Yi
def map_some{α M:Type}{o:Option α}{f:α->M}{z:M}(h:o.map f=some z):∃x,o=some x/\f x=z:=Option.map_eq_some_iff.mp h
noncomputable abbrev VE:=(Str×Pos) ⊕ (Expr×List Expr×List Keyword×Pos) ⊕ (Expr×Str×Pos) ⊕ (List Expr×Pos) ⊕ (Expr×Int×Option Expr×Pos) ⊕ (Const×Nat×Pos)
def vE:Expr->Option VE
 |.Name x p=>some (.inl (x,p))
 |.Call f l k p=>some (.inr (.inl (f,l,k,p)))
 |.Attribute o a p=>some (.inr (.inr (.inl (o,a,p))))
 |.JoinedStr l p=>some (.inr (.inr (.inr (.inl (l,p)))))
 |.FormattedValue e i f p=>some (.inr (.inr (.inr (.inr (.inl (e,i,f,p))))))
 |.Constant c k p=>some (.inr (.inr (.inr (.inr (.inr (c,k,p))))))
 |_=>none
def bE:VE->Expr
 |.inl t=>.Name t.1 t.2
 |.inr (.inl t)=>.Call t.1 t.2.1 t.2.2.1 t.2.2.2
 |.inr (.inr (.inl t))=>.Attribute t.1 t.2.1 t.2.2
 |.inr (.inr (.inr (.inl t)))=>.JoinedStr t.1 t.2
 |.inr (.inr (.inr (.inr (.inl t))))=>.FormattedValue t.1 t.2.1 t.2.2.1 t.2.2.2
 |.inr (.inr (.inr (.inr (.inr t))))=>.Constant t.1 t.2.1 t.2.2
def vb(e:Expr):((vE e).elim True λt=>e=bE t):=by cases e<;>first|trivial|rfl
def qbY{e:Expr}{t:VE}(h:vE e=some t):e=bE t:=by
 have:=vb e
 rw[h]at this;exact this
def vS:Stmt->Option ((List Expr×Expr×Pos) ⊕ (Expr×Pos))
 |.Assign l x p=>some (.inl (l,x,p))
 |.Expr x p=>some (.inr (x,p))
 |_=>none
def vsb(s:Stmt):((vS s).elim True λt=>s=t.elim (λt=>.Assign t.1 t.2.1 t.2.2) λt=>.Expr t.1 t.2):=by cases s<;>first|trivial|rfl
theorem bind_some{α M:Type}{x:Option α}{f:α->Option M}{b:M}(h:x.bind f=some b):∃a,x=some a/\f a=some b:=by
 cases x with
 |none=>cases h
 |some a=>exact⟨a,rfl,h⟩
def nmE(e:Expr):Option Str:=(vE e).bind (·.elim (λt=>some t.1) λ_=>none)
theorem j5{e:Expr}{x:Str}(h:nmE e=some x):∃p,e=.Name x p:=by
 let(t,h1,h2):=bind_some h
 have:=qbY h1
 cases t with
 |inl t=>cases h2;exact{_,this}
 |inr t=>cases h2
def caE(e:Expr):Option (Expr×List Expr×List Keyword×Pos):=(vE e).bind (·.elim (λ_=>none) (·.elim some λ_=>none))
theorem qeE{e:Expr}{t:Expr×List Expr×List Keyword×Pos}(h:caE e=some t):e=.Call t.1 t.2.1 t.2.2.1 t.2.2.2:=by
 let(u,h1,h2):=bind_some h
 have:=qbY h1
 match u,h2 with
 |.inr (.inl t),h2=>cases h2;exact this
 |.inl _,h2=>cases h2
 |.inr (.inr _),h2=>cases h2
def asS(s:Stmt):Option (List Expr×Expr×Pos):=(vS s).bind (·.elim some λ_=>none)
theorem qiq{s:Stmt}{t:List Expr×Expr×Pos}(h:asS s=some t):s=.Assign t.1 t.2.1 t.2.2:=by
 let(u,h1,h2):=bind_some h
 have:=vsb s
 rw[h1]at this
 cases u with
 |inl u=>cases h2;exact this
 |inr u=>cases h2
def cN(x:Expr):Option (Str×Expr×List Expr):=(caE x).bind λt=>(nmE t.1).bind λn=>match t.2.1 with
 | e::es=>oif t.2.2.1.isEmpty (some (n,e,es))
 |[]=>none
theorem qk9{x:Expr}{t:Str×Expr×List Expr}(h:cN x=some t):∃np cp,x=.Call (.Name t.1 np) (t.2.1::t.2.2) [] cp:=by
 let((f,l,k,p),h1,h):=bind_some h;let(n,h2,h):=bind_some h;let(np,rfl):=j5 h2;have h1:=qeE h1
 cases l with
 |nil=>cases h
 |cons e es=>
  let(hk,h):=qh h
  cases k with
  |nil=>cases h;exact⟨np,p,h1⟩
  |cons _ _=>cases hk
def aN(s:Stmt):Option (Expr×Expr):=(asS s).bind λt=>match t.1 with
 |[v]=>some (v,t.2.1)
 |_=>none
theorem qir{s:Stmt}{t:Expr×Expr}(h:aN s=some t):∃p,s=.Assign [t.1] t.2 p:=by
 let((l,x,p),h1,h):=bind_some h;have h1:=qiq h1
 match l,h with
 |[v],h=>cases h;exact⟨p,h1⟩
 |[],h=>cases h
 | _::_::_,h=>cases h
def cH:ExceptHandler->Option (Str×Str×Str×Str)
 |.ExceptHandler ty nm b _=>ty.bind λte=>nm.bind λn=>match b with
  |[s]=>(nmE te).bind λt=>(aN s).bind λq=>(nmE q.1).bind λv=>(nmE q.2).bind λn2=>some (t,n,v,n2)
  |_=>none
theorem qla{hd:ExceptHandler}{q:Str×Str×Str×Str}(h:cH hd=some q):∃tp vp np ap hp,hd=.ExceptHandler (some (.Name q.1 tp)) (some q.2.1) [.Assign [.Name q.2.2.1 vp] (.Name q.2.2.2 np) ap] hp:=by
 let(ty,nm,b,hp):=hd;let(te,rfl,h):=bind_some h;let(n,rfl,h):=bind_some h
 match b,h with
 |[s],h=>let(t,h1,h):=bind_some h;let((v',x'),h2,h):=bind_some h;let(v,h3,h):=bind_some h;let(n2,h4,h):=bind_some h;let(tp,rfl):=j5 h1;let(ap,rfl):=qir h2;let(vp,rfl):=j5 h3;let(np,rfl):=j5 h4;cases h;exact⟨tp,vp,np,ap,hp,rfl⟩
 |[],h=>cases h
 | _::_::_,h=>cases h
def cHs(L:Ct):List ExceptHandler->Option (List (Str×Nat×Nat))
 |[]=>some []
 | hd::hs=>(cH hd).bind λq=>oif (decide (q.2.2.2=q.2.1)&&decide (q.2.2.1≠q.2.1)&&decide (q.1≠"ValueError")&&qK q.1&&glB L.sc q.1&&qK q.2.1&&(L.sc.names.lookup q.2.1 == some .local)) (o2 (o2 (qdm L q.2.1) (qdm L q.2.2.1) Prod.mk) (cHs L hs) λp r=>(q.1,p.1,p.2)::r)
def xnB(L:Ct)(f:Str):Bool:=qK f&&glB L.sc f
mutual
def cS:Nat->Ct->Stmt->Option S
 |0,_,_=>none
 | m+1,L,st=>match st with
  |.Pass _=>some .pass
  |.Expr e _=>(match e with
   |.Call (.Attribute (.Name x _) meth ap) [a] [] cp=>oif (ap.endLine == cp.line&&!zc a) (
     if meth = "append" then o2 (qa4 L x) (cX m L a) .app
     else none)
   |.Call (.Attribute (.Name x _) meth ap) [] [] cp=>oif (ap.endLine == cp.line&&decide (meth = "clear")) ((qa4 L x).map .clr)
   |e=>oif (jN e) ((cE m L e).map .expr))
  |.Return (some e) _=>(cV m L e).map .ret
  |.Return none _=>some .retN
  |.Assign [tg] e _=>(match tg with
   |.Name x _=>o2 (qdm L x) (cV m L e) .set
   |.Tuple es j p=>oif (jN e&&qbX e) (o2 (cTg L (.Tuple es j p)) (cX m L e) .setT)
   |.Subscript (.Name x _) i _=>oif (jN e&&Yd i) (o2 (qa4 L x) (o2 (cE m L i) (cX m L e) Prod.mk) λx p=>.setI x p.1 p.2)
   |_=>none)
  |.If c a b _=>o2 (cT m L c) (o2 (cSs m L a) (cSs m L b) Prod.mk) λc p=>.ite c p.1 p.2
  |.For tg it body [] _=>oif (!L.z&&Qi it) (o2 (o2 (cTg L tg) (cI m L (qga tg) it) Prod.mk) (cSs m L body) λp b=>.for_ p.1 p.2 b)
  |.Raise ex ca _=>some (match ex.bind cN,ca with
   |some t,none=>if (!L.z&&xnB L t.1)=true then (match cEs m L (t.2.1::t.2.2) with |some l=>.rai t.1 l |none=>.stuck) else .stuck
   |_,_=>.stuck)
  | .Try body (h::hs) [] [] _=>oif (!L.z) ((cSs m { L with z:=true } body).map λb=>.try_ b ((cHs L (h::hs)).getD []))
  |_=>none
def cSs:Nat->Ct->List Stmt->Option Ss
 |0,_,_=>none
 | m+1,L,l=>match l with
  |[]=>some .nil
  | st::l=>o2 (cS m L st) (cSs m L l) .cons
end
def qm0:E->Bool
 |.var _=>true
 |_=>false
def qis(e:E):(Yi e).elim True λz=>e=z/\qm0 z=false:=by cases e<;>first|exact True.intro|exact⟨rfl,rfl⟩
def zG{e z:E}(h:Yi e=some z):e=z/\∀i,z≠.var i:=by have b:=qis e;rw[h]at b;exact{b.1,λi q=>by rw[q]at b;cases b.2}
def qgd{z:E}(h:∀i,z≠.var i)(cl:Cl)(N:Env):zU z (iR cl z) N=(iR cl z N).th qko:=by cases z<;>first|rfl|exact absurd rfl (h _)
def qge{z:E}(h:∀i,z≠.var i)(cl:Cl)(N:Env):Yg z (iR cl z) N=(iR cl z N).th qkp:=by cases z<;>first|rfl|exact absurd rfl (h _)
def qgf{z:E}(h:∀i,z≠.var i)(cl:Cl)(N:Env):qdl z (iR cl z) N=(iR cl z N).th λx=>match x.1 with
  |.val d=>.ok (.val d)
  |.tmp l=>.ok (.tmp l)
  |_=>.no:=by
 cases z<;>first|rfl|exact absurd rfl (h _)
def qgg{z:E}(h:∀i,z≠.var i)(cl:Cl)(N:Env):qa5 z (iR cl z) N=(iR cl z N).th λx=>match x.1 with
  |.val d=>.ok (.val d,x.2)
  |.tmp l=>.ok (.own l,x.2)
  |_=>.no:=by
 cases z<;>first|rfl|exact absurd rfl (h _)
abbrev XW:=Addr->List (Str×D)->Prop
def X0:XW:=λ_ _=>False
def Wx{α:Type}(Ξ:XW)(x:R α)(f:α->Prop):Prop:=match x with
 |.ok a=>f a
 |.exc c l=>Ξ c l
 |.no=>False
section
variable{α M:Type}{Ξ Ξ':XW}
def Wx.th{x:R α}{g:α->R M}{f:M->Prop}(h:Wx Ξ (x.th g) f):Wx Ξ x λa=>Wx Ξ (g a) f:=by cases x<;>exact h
def Wx.ht{x:R α}{g:α->R M}{f:M->Prop}(h:Wx Ξ x λa=>Wx Ξ (g a) f):Wx Ξ (x.th g) f:=by cases x<;>exact h
theorem Wx.mono{x:R α}{f g:α->Prop}(h:Wx Ξ x f)(i:∀a,f a->g a):Wx Ξ x g:=by
 cases x with
 |ok a=>exact i a h
 |exc c l=>exact h
 |no=>exact h
theorem Wx.mono2{x:R α}{f g:α->Prop}(h:Wx Ξ x f)(j:∀c l,Ξ c l->Ξ' c l)(i:∀a,f a->g a):Wx Ξ' x g:=by
 cases x with
 |ok a=>exact i a h
 |exc c l=>exact j c l h
 |no=>exact h
theorem Wx.of{x:Option α}{f:α->Prop}(h:Wx Ξ (R.of x) f):∃a,x=some a/\f a:=by
 cases x with
 |none=>exact h.elim
 |some a=>exact⟨a,rfl,h⟩
def Wx.iff{c:Prop}[Decidable c]{x:R α}{f:α->Prop}(h:Wx Ξ (if c then x else .no) f):c/\Wx Ξ x f:=by
 by_cases hc:c
 ·rw[if_pos hc]at h;exact⟨hc,h⟩
 ·rw[if_neg hc]at h;exact h.elim
theorem Wx.ifx{b:Bool}{x:R α}{f:α->Prop}(h:Wx Ξ (ifX b x) f):Wx Ξ x f:=by
 cases b with
 |true=>exact h
 |false=>
  cases x with
  |ok a=>exact h
  |exc c l=>exact h.elim
  |no=>exact h
theorem Wx.nox{x:R α}{f:α->Prop}(h:Wx Ξ (noX x) f):Wx Ξ' x f:=by
 cases x with
 |ok a=>exact h
 |exc c l=>exact h.elim
 |no=>exact h
end
def qlb(U:KC)(G:Hp)(od:Option Addr)(l:List (Str×D)):Prop:=(od=none/\l=[])\/∃dd xs,od=some dd/\G dd=some (xD dd ((l.map (·.1)).zip xs))/\ql U G (l.map (·.2)) xs
def XP(U:KC)(Gv Hv:Hp)(ε:XK):XW:=λC l=>∀od G' H',qj Hv H'->qj Gv G'->qj G' H'->(∀a o,G' a=some o->(∃o',Gv a=some o')\/Hv a=none)->qlb U G' od l->ε (.ref C) od H'
section
variable(U:KC)(K:Frag)(ε:XK)(Gv Hv:Hp)
def tR(f:Env->R (Rv×Env)):TE:=λZ H Q=>∃N G,ER U K Gv Hv G H N Z/\Wx (XP U Gv Hv ε) (f N) λx=>∀v G' H',Po U K Gv Hv Z G H N G' H' x.2->RvR U K Hv H G' H' x.2 Z x.1 v->Q v H'
def tE(f:Env->R (D×Env)):TE:=λZ H Q=>∃N G,ER U K Gv Hv G H N Z/\Wx (XP U Gv Hv ε) (f N) λx=>∀v G' H',Po U K Gv Hv Z G H N G' H' x.2->Rep U G' x.1 v->Q v H'
def tT(f:Env->R (Bool×Env)):TT:=λZ H Q=>∃N G,ER U K Gv Hv G H N Z/\Wx (XP U Gv Hv ε) (f N) λx=>∀G' H',Po U K Gv Hv Z G H N G' H' x.2->Q x.1 H'
def tEs(f:Env->R (List D×Env)):TA:=λZ H Q=>∃N G,ER U K Gv Hv G H N Z/\Wx (XP U Gv Hv ε) (f N) λx=>∀vs G' H',Po U K Gv Hv Z G H N G' H' x.2->ql U G' x.1 vs->Q vs H'
def ArR(G H:Hp):Ar->V->Prop
 |.val d,v=>Rep U G d v
 |.bor ds,v=>∃a xs,v=.ref a/\H a=some (.lst xs)/\ql U G ds xs
 |.scr ds,v=>∃a xs,v=.ref a/\SqL K H a xs/\ql U G ds xs
def jW(G H:Hp):List Ar->List V->Prop
 |[],vs=>vs=[]
 | a::l,vs=>∃v r,vs=v::r/\ArR U K G H a v/\jW G H l r
def tAs(f:Env->R (List Ar×Env)):TA:=λZ H Q=>∃N G,ER U K Gv Hv G H N Z/\Wx (XP U Gv Hv ε) (f N) λx=>∀vs G' H',Po U K Gv Hv Z G H N G' H' x.2->jW U K G' H' x.1 vs->Q vs H'
def tO(f:Env->R (Option Int×Env)):TO:=λZ H Q=>∃N G,ER U K Gv Hv G H N Z/\Wx (XP U Gv Hv ε) (f N) λx=>∀G' H',Po U K Gv Hv Z G H N G' H' x.2->Q x.1 H'
def SrR(G:Hp)(s:Sk×List D)(v:V):Prop:=match s.1 with
 |.str=>∃x,v=.str x/\s.2=qdk x
 |.tup=>∃a xs,v=.ref a/\ql U G s.2 xs/\G a=some (.tup xs)
 |.lst=>∃a xs,v=.ref a/\ql U G s.2 xs/\(G a=some (.lst xs)\/SqL K Hv a xs)
def tL(f:Env->R ((Sk×List D)×Env)):TE:=λZ H Q=>∃N G,ER U K Gv Hv G H N Z/\Wx (XP U Gv Hv ε) (f N) λx=>∀v G' H',Po U K Gv Hv Z G H N G' H' x.2->SrR U K Hv G' x.1 v->Q v H'
def ItR(G₁:Hp)(J:It)(l:List D):Prop:=∀(i:Nat) (G H:Hp),qj G₁ G->qj Hv H->qj G H->
 (∀d,l[i]?=some d->J.go i H/\∀x H',J.yld i H x H'->∃G',qj H H'/\qj G G'/\qj G' H'/\(∀a o,G' a=some o->(∃o',G a=some o')\/H a=none)/\Rep U G' d x)/\(l.length=i->J.stop i H)
def tI(f:Env->R (List D×Env)):TI:=λZ H Q=>∃N G,ER U K Gv Hv G H N Z/\Wx (XP U Gv Hv ε) (f N) λx=>∀J G' H',Po U K Gv Hv Z G H N G' H' x.2->ItR U Hv G' J x.1->Q J H'
def ReR(G' H' H:Hp):Rv->V->Prop
 |.val d,v=>Rep U G' d v
 |.tmp ds,v=>∃a xs,v=.ref a/\H' a=some (.lst xs)/\H a=none/\G' a=none/\ql U G' ds xs
 |_,_=>False
def spF(cl:Str->List Ar->R Rv)(f:Str):Sp:=λvs H Q E=>∃G args,qj G H/\jW U K G H args vs/\
 Wx (XP U G H E) (cl f args) λr=>∀v G' H',qj H H'->qj G G'->qj G' H'->(∀a o,G' a=some o->(∃o',G a=some o')\/H a=none)->ReR U G' H' H r v->Q v H'
end
def qbZ:List Str:=["len","list","tuple","int","bool","str","max","min","isinstance","range","enumerate","zip","sorted","sum","reversed","all","any","dict","set"]
structure Gd(U:KC)(K:Frag)(ε:XK)(k:Nat)(X:Cx)(L:Ct):Prop where
 ps:zr (CX1 X.prog X.w) X ε
 hN:X.N=L.N
 vis:∀x,qa3 L.sc x=true->Vis X.env.scope x
 loc:∀x,qf8 L.sc x=true->L2.Loc X.env.scope x/\(X.fn x=true\/X.env.scope.names.lookup x=some .local)
 glo:∀x,glB L.sc x=true->Gl X x
 cf:∀x,(L.sc.names.lookup x=some .cell\/L.sc.names.lookup x=some .free)->X.env.kindOf x=some .cell\/X.env.kindOf x=some .free
 nd:L.N.Nodup
 calm:X.calm=true
 hK:X.K=K
 room:Room k X.A
 fns:∀f,L.tab.contains f=true->∃fa fd ps,FnOk X.prog X.w X.K X.mg X.base (CX1 X.prog X.w) k fa fd ps (spF U K L.cl f)/\X.mg f=some (.ref fa)/\PySem.W.keepIn X.K (.ref fa)=true/\qM X.K fd ps []
 blt:∀f∈qbZ,X.mg f=none
 gl:∀x d,L.gl x=some d->∃v u,X.mg x=some u/\qH v u/\∀G,Rep U G d v
 cls:∀c C,U c=some C->Cls X.K C
 flds:∀c x C,L.cs.fld c x=true->U c=some C->zj X.K C x
 mts:∀c x f,L.cs.mt c x=some f->∃C fa fd ps,U c=some C/\Meth X.K C x fa/\FnOk X.prog X.w X.K X.mg X.base (CX1 X.prog X.w) k fa fd ps (spF U K L.cl f)/\qM X.K fd ps []
 mks:∀f,L.cs.tab.contains f=true->(L.y=false/\∀args,L.nw f args=.no)\/∃C fa fd ps sp,Mk X.K C fa/\FnOk X.prog X.w X.K X.mg X.base (CX1 X.prog X.w) (k - 1) fa fd ps sp/\X.mg f=some (.ref C)/\qM X.K fd ps []/\0 < k/\
  ∀vs H Q E,spF U K L.nw f vs H Q E->∀x dx,H x=none->H dx=none->dx≠x->sp (.ref x::vs) (upd (upd H dx (.own x)) x (.ins C dx [])) (λv H2=>v=.non/\Q (.ref x) H2) E
 pts:∀c,L.cs.pt c=true->∃C,U c=some C/\(∀H p dx fs,H p=some (HO.ins C dx fs)->TyOf X.K H (.ref p) (.ref C))/\∀n∈plN,PySem.W.kitOne X.K (.ref C) (.type n)=some false
 pls:∀t,L.cs.pl t=true->∃T,X.mg t=some (.ref T)/\∀n∈plN,PySem.W.kitOne X.K (.type n) (.ref T)=some false
 xsubs:∀C t b,L.cs.xs C t=some b->ExcIs X.K C/\((∃T,X.mg t=some (.ref T)/\PySem.W.kitOne X.K (.ref C) (.ref T)=some b)\/(X.mg t=none/\t = "ValueError"/\PySem.W.kitOne X.K (.ref C) (.type "ValueError")=some b))
 xgs:∀C x,L.cs.xg C x=true->XcG X.K C x
 subs:∀c t b,L.cs.sub c t=some b->∃C T,U c=some C/\(∀H p dx fs,H p=some (HO.ins C dx fs)->TyOf X.K H (.ref p) (.ref C))/\X.mg t=some (.ref T)/\PySem.W.kitOne X.K (.ref C) (.ref T)=some b
def PE.imp{X:Cx}{e:Expr}{t t':TE}(h:PE X e t')(i:∀Z H Q,t Z H Q->t' Z H Q):PE X e t:=λpins s Z H Q I hw=>h pins s Z H Q I (i Z H Q hw)
def PT.imp{X:Cx}{e:Expr}{t t':TT}(h:PT X e t')(i:∀Z H Q,t Z H Q->t' Z H Q):PT X e t:=λpins s Z H Q I hw=>h pins s Z H Q I (i Z H Q hw)
def PA.imp{X:Cx}{es:List Expr}{t t':TA}(h:PA X es t')(i:∀Z H Q,t Z H Q->t' Z H Q):PA X es t:=λpos pins s Z H Q I hw=>h pos pins s Z H Q I (i Z H Q hw)
def PO.imp{X:Cx}{o:Option Expr}{t t':TO}(h:PO X o t')(i:∀Z H Q,t Z H Q->t' Z H Q):PO X o t:=λpins s Z H Q I hw=>h pins s Z H Q I (i Z H Q hw)
def PIf.imp{X:Cx}{es:List Expr}{t t':TT}(h:PIf X es t')(i:∀Z H Q,t Z H Q->t' Z H Q):PIf X es t:=λpins s Z H Q I hw=>h pins s Z H Q I (i Z H Q hw)
def PI.imp{X:Cx}{tg e:Expr}{t t':TI}(h:PI X tg e t')(i:∀Z H Q,t Z H Q->t' Z H Q):PI X tg e t:=λpins s Z H Q I hw=>h pins s Z H Q I (i Z H Q hw)
theorem Yj:∀{N:List Str} {x:Str} {i:Nat},qa2 N x=some i->N[i]?=some x
 |[],x,i,h=>by cases h
 | y::r,x,i,h=>by
  unfold qa2 at h
  by_cases e:y=x
  ·rw[if_pos e]at h;cases h;rw[e];rfl
  ·rw[if_neg e]at h
   cases q:qa2 r x with
   |none=>rw[q]at h;cases h
   |some j=>rw[q]at h;cases h;show(y::r)[j+1]?=some x;rw[List.getElem?_cons_succ];exact Yj q
def qx{x:Str}(h:qK x=true):(x == ("__debug__" : Str))=false/\(x == ("__classdict__" : Str))=false/\x≠"__name__":=by unfold qK at h;simp![Bool.and_eq_true,Bool.not_eq_true']at h;refine{h.1.1,h.1.2,λz=>?_};rw[z]at h;exact absurd h.2 (2:)
def qeF{sc:Scope}{x:Str}(h:qa3 sc x=true):Vis sc x:=by
 unfold qa3 at h;unfold Vis
 split at h
 ·rename_i e;exact .inl e
 ·rename_i e;exact .inr (.inl e)
 ·rename_i e;exact .inr (.inr e)
 ·cases h
def qb0{sc:Scope}{x:Str}(h:qf8 sc x=true):L2.Loc sc x:=by
 unfold qf8 at h;unfold L2.Loc
 split at h
 ·rename_i e;exact .inl e
 ·rename_i e;exact .inr e
 ·cases h
def qi{e:Expr}{es:List Expr}{env:PySem.Env}(h:zc e=false):starEach (e::es) env=(false,eval e env)::starEach es env:=by cases e<;>first|rfl|(simp[zc]at h)
section
variable{U:KC}{ε:XK}{K:Frag}{Gv Hv:Hp}{k:Nat}{X:Cx}{L:Ct}
def ER.notOwn{G H:Hp}{N:Env}{Z:St}(er:ER U K Gv Hv G H N Z){a:Addr}(h:H a=none):¬ Qg N Z a:=λ⟨i,l,e,z⟩=>by let(b,xs,z',h1,_):=er.sl i _ e;rw[z]at z';injection z' with z';injection z' with z';injection z' with z';rw[<-z',h]at h1;cases h1
def ER.newList{G H:Hp}{N:Env}{Z:St}(er:ER U K Gv Hv G H N Z){a:Addr}{xs:List V}{l:List D}(h:H a=none)(r:ql U G l xs) :
  Po U K Gv Hv Z G H N G (upd H a (.lst xs)) N/\RvR U K Hv H G (upd H a (.lst xs)) N Z (.tmp l) (.ref a):=
 ⟨Po.room er (qj.upd h),a,xs,rfl,qf,h,qj.none er.base h,qj.none er.sub h,er.notOwn h,r⟩
def Qj(gd:Gd U K ε k X L){x:Str}{i:Nat}(h:qa4 L x=some i)(pos:Pos):PE X (.Name x pos) (qaZ i):=by unfold qa4 at h;let(hc,h):=qh h;rw[Bool.and_eq_true]at hc;let(n1,n2,n3):=qx hc.1;exact jA (i:=i) (by rw[gd.hN];exact Yj h) (gd.vis x hc.2) n1 n2
theorem Yk(gd:Gd U K ε k X L){x:Str}{z:E}(h:Za L x=some z)(pos:Pos):(∃i,z=.var i/\PE X (.Name x pos) (qaZ i))\/∃d v,z=.con d/\(∀G,Rep U G d v)/\PE X (.Name x pos) (tC v):=by
 unfold Za at h;let(hok,h):=qh h;let(n1,n2,n3):=qx hok
 cases hi:qa2 L.N x with
 |some i=>rw[hi]at h;let(hv,h):=qh h;cases h;exact .inl ⟨i,rfl,jA (i:=i) (by rw[gd.hN];exact Yj hi) (gd.vis x hv) n1 n2⟩
 |none=>rw[hi]at h;let(hg,h):=qh h;let(d,hd,rfl):=map_some h;let(v,u,e1,e2,e3):=gd.gl x d hd;exact .inr ⟨d,v,rfl,e3,yf (gd.glo x hg) e1 e2 n1⟩
def qdo(gd:Gd U K ε k X L){x:Str}{z:E}(h:Za L x=some z)(pos:Pos):PE X (.Name x pos) (tR U K ε Gv Hv (iR L.k z)):=by
 rcases Yk gd h pos with ⟨i,rfl,P⟩|⟨d,v,rfl,e3,P⟩
 ·refine PE.imp P λZ H Q hq1=>?_;let(N,G,er,h):=hq1;have h:=Wx.th (x:=slR N i) h;unfold slR at h
  cases q:N[i]? with
  |none=>rw[q]at h;exact h.elim
  |some s=>
   rw[q]at h;have w:=er.sl i s q
   cases s with
   |no=>exact h.elim
   |val d=>let(v,z,r):=w;exact{v,z,h v G H (Po.refl er) r}
   |own l=>let(a,xs,z,r1,r2,r3,r4):=w;exact{_,z,h _ G H (Po.refl er) ⟨a,xs,rfl,r1,r4⟩}
   |bor l=>let(a,xs,z,r1,r4):=w;exact{_,z,h _ G H (Po.refl er) {a,xs,rfl,er.base _ _ r1,r4}}
   |scr l=>let(a,xs,z,r1,r4):=w;exact{_,z,h _ G H (Po.refl er) {a,xs,rfl,er.base.seq r1,r4}}
 ·refine PE.imp P λZ H Q hz3=>?_;let(N,G,er,h):=hz3;exact h v G H (Po.refl er) (e3 G)
def Z0(gd:Gd U K ε k X L){x:Str}{z:E}(h:Za L x=some z)(pos:Pos):PE X (.Name x pos) (tE U K ε Gv Hv (zU z (iR L.k z))):=by
 rcases Yk gd h pos with ⟨i,rfl,P⟩|⟨d,v,rfl,e3,P⟩
 ·refine PE.imp P λZ H Q hq1=>?_;let(N,G,er,h):=hq1;have h:Wx _ (slE N i) _:=h;unfold slE at h
  cases q:N[i]? with
  |none=>rw[q]at h;exact h.elim
  |some s=>
   rw[q]at h;have w:=er.sl i s q
   cases s with
   |val d=>let(v,z,r):=w;exact{v,z,h v G H (Po.refl er) r}
   |own l=>let(a,xs,z,p,r):=er.froze q;exact{_,z,h _ _ H p r}
   |_=>exact h.elim
 ·refine PE.imp P λZ H Q hz4=>?_;let(N,G,er,h):=hz4;exact h v G H (Po.refl er) (e3 G)
end
section
variable{U:KC}{ε:XK}{Ξ:XW}{K:Frag}{Gv Hv Hb Hc G H:Hp}{N:Env}{Z:St}{r s:Rv}{x y:V}
theorem RvR.int{i:Int}(h:RvR U K Hv Hb G H N Z r x)(e:r.int?=some i):x=.int i:=by
 cases r with
 |val d=>cases d<;>simp![Rv.int?]at e<;>first|(cases e;simpa only[RvR,Rep] using h)|cases e
 |_=>cases e
theorem RvR.str{i:Str}(h:RvR U K Hv Hb G H N Z r x)(e:r.str?=some i):x=.str i:=by
 cases r with
 |val d=>cases d<;>simp![Rv.str?]at e<;>first|(cases e;simpa only[RvR,Rep] using h)|cases e
 |_=>cases e
theorem RvR.bl{i:Bool}(h:RvR U K Hv Hb G H N Z r x)(e:r.bl?=some i):x=.bl i:=by
 cases r with
 |val d=>cases d<;>simp![Rv.bl?]at e<;>first|(cases e;simpa only[RvR,Rep] using h)|cases e
 |_=>cases e
theorem RvR.tup{l:List D}(h:RvR U K Hv Hb G H N Z r x)(e:r.tup?=some l):∃a xs,x=.ref a/\G a=some (.tup xs)/\ql U G l xs:=by
 cases r with
 |val d=>cases d<;>simp![Rv.tup?]at e<;>first|(cases e;simpa only[RvR,Rep] using h)|cases e
 |_=>cases e
theorem RvR.seq(er:ER U K Gv Hv G H N Z){l:List D}(h:RvR U K Hv Hb G H N Z r x)(e:seqD r=some l):∃a xs,x=.ref a/\(SqL K H a xs\/SqT K H a xs)/\ql U G l xs:=by
 unfold seqD at e
 cases q:r.tup? with
 | some l'=>rw[q]at e;cases e;let(a,xs,e1,e2,e3):=h.tup q;exact{a,xs,e1,.inr (SqT.of (er.sub _ _ e2)),e3}
 |none=>rw[q]at e;let(a,xs,e1,e2,e3):=h.list er e;exact{a,xs,e1,.inl e2,e3}
theorem RvR.non(h:RvR U K Hv Hb G H N Z r x):decide (x=.non)=r.non?:=by
 cases r with
 |val d=>
  cases d<;>simp![RvR,Rep]at h<;>simp![Rv.non?]
  ·subst h;rfl
  ·subst h;rfl
  ·subst h;rfl
  ·subst h;rfl
  ·let(a,xs,rfl,_):=h;rfl
  ·let(a,xs,rfl,_):=h;rfl
  ·let(p,dx,C,xs,_,rfl,_):=h;rfl
  ·let(p,od,xs,rfl,_):=h;rfl
  ·let(p,xs,rfl,_):=h;rfl
 |tmp l=>let(a,xs,rfl,_):=h;rfl
 |cell l=>let(a,xs,rfl,_):=h;rfl
 |scr l=>let(a,xs,rfl,_):=h;rfl
mutual
theorem Rep.dv(sub:qj G H):∀{d:D} {v:V} {p:PyData},Rep U G d v->toP d=some p->DV K H p v
 |.non,v,p,h,e=>by simp![toP]at e;cases e;simp![Rep]at h;simp![DV];exact h
 |.bl b,v,p,h,e=>by simp![toP]at e;cases e;simp![Rep]at h;simp![DV];exact h
 |.int b,v,p,h,e=>by simp![toP]at e;cases e;simp![Rep]at h;simp![DV];exact h
 |.str b,v,p,h,e=>by simp![toP]at e;cases e;simp![Rep]at h;simp![DV];exact h
 |.lst l,v,p,h,e=>by simp![toP]at e;let(ps,e1,rfl):=Option.map_eq_some_iff.mp e;simp![Rep]at h;let(a,xs,rfl,h1,h2):=h;simp![DV];exact{a,xs,rfl,SqL.of (sub _ _ h1),ql.dvs sub h2 e1}
 |.tup l,v,p,h,e=>by simp![toP]at e;let(ps,e1,rfl):=Option.map_eq_some_iff.mp e;simp![Rep]at h;let(a,xs,rfl,h1,h2):=h;simp![DV];exact{a,xs,rfl,SqT.of (sub _ _ h1),ql.dvs sub h2 e1}
 |.ins c ns l,v,p,h,e=>by simp![toP]at e;cases e
 |.exc c ns l,v,p,h,e=>by simp![toP]at e;cases e
 |.dct ns l,v,p,h,e=>by simp![toP]at e;cases e
theorem ql.dvs(sub:qj G H):∀{ds:List D} {vs:List V} {ps:List PyData},ql U G ds vs->qa1 ds=some ps->DVs K H ps vs
 |[],vs,ps,h,e=>by simp![qa1]at e;cases e;simp![ql]at h;simp![DVs];exact h
 | d::ds,vs,ps,h,e=>by simp![qa1]at e;let(p,e1,e2):=Option.bind_eq_some_iff.mp e;let(qs,e3,rfl):=Option.map_eq_some_iff.mp e2;simp![ql]at h;let(x,r,rfl,h1,h2):=h;simp![DVs];exact{x,r,rfl,Rep.dv sub h1 e1,ql.dvs sub h2 e3}
end
theorem RvR.dv(er:ER U K Gv Hv G H N Z){p:PyData}(h:RvR U K Hv Hb G H N Z r x)(e:toP r.data=some p):DV K H p x:=by
 have lst:∀{l:List D} {a:Addr} {xs:List V},SqL K H a xs->ql U G l xs->toP (.lst l)=some p->DV K H p (.ref a):=λ{l a xs} hq hr e=>by simp![toP]at e;let(ps,e1,rfl):=Option.map_eq_some_iff.mp e;simp![DV];exact{a,xs,rfl,hq,ql.dvs er.sub hr e1}
 cases r with
 |val d=>exact Rep.dv er.sub h e
 |tmp l=>let(a,xs,rfl,h1,_,_,_,_,h6):=h;exact lst (SqL.of h1) h6 e
 |cell l=>let(a,xs,rfl,h1,h6):=h;exact lst (SqL.of h1) h6 e
 |scr l=>let(a,xs,rfl,h1,h6):=h;exact lst h1 h6 e
def Z1{d:D}{v:V}(h:Rep U G d v)(f:zE d=true):v=flV d/\y9 v=true:=by
 cases d<;>simp![zE]at f<;>try (exact absurd f (2:))
 all_goals (simp![Rep]at h;subst h;exact⟨rfl,rfl⟩)
theorem Qk:∀{l:List D} {vs:List V},ql U G l vs->l.all zE=true->vs=l.map flV/\vs.all y9=true
 |[],vs,h,f=>by simp![ql]at h;subst h;exact⟨rfl,rfl⟩
 | d::l,vs,h,f=>by simp![ql]at h;let(x,r,rfl,h1,h2):=h;simp![List.all_cons,Bool.and_eq_true]at f;let(e1,e2):=Z1 h1 f.1;let(e3,e4):=Qk h2 f.2;subst e1 e3;exact{rfl,by simp![List.all_cons,e2,e4,Bool.and_self]}
theorem qgh(h:RvR U K Hv Hb G H N Z r x)(f:zE r.data=true):x=flV r.data/\y9 x=true:=by
 cases r with
 |val d=>exact Z1 h f
 |_=>simp![Rv.data,zE]at f;exact absurd f (2:)
theorem Zb{f:Int->Int->R Rv}{F:Rv->Prop}(h:Wx Ξ (int2 r s f) F):∃i j,r.int?=some i/\s.int?=some j/\Wx Ξ (f i j) F:=by
 unfold int2 at h
 cases e1:r.int? with
 |none=>rw[e1]at h;exact h.elim
 |some i=>
  cases e2:s.int? with
  |none=>rw[e1,e2]at h;exact h.elim
  |some j=>rw[e1,e2]at h;exact⟨i,j,rfl,rfl,h⟩
def qdp{l:List D}{xs:List V}{i:Int}{d:D}(h:ql U G l xs)(e:atI l i=some d):∃v,atI xs i=some v/\Rep U G d v:=by unfold atI at e ⊢;rw[<-h.len];let(j,e1,e2):=Option.bind_eq_some_iff.mp e;let(v,e3,e4):=h.atD e2;exact{v,by rw[e1];exact e3,e4}
def qdq{l:List D}{xs:List V}{lo hi:Option Int}(h:ql U G l xs):ql U G (ZY l lo hi) (qhi xs lo hi):=by unfold ZY qhi;rw[h.len];exact(h.drop _).take _
end
section
variable(U:KC)(K:Frag)(Ξ:XW)(Gv Hv:Hp)
def qkr(op:Operator):R2:=λx y H Q=>∃(N:Env) (Z:St) (G Hb Hc:Hp) (r s:Rv),ER U K Gv Hv G H N Z/\RvR U K Hv Hb G H N Z r x/\RvR U K Hv Hc G H N Z s y/\
 Wx Ξ (YJ op r s) λz=>∀v G' H',Po U K Gv Hv Z G H N G' H' N->RvR U K Hv H G' H' N Z z v->Q v H'
def qlc(op:CmpOp):R2:=λx y H Q=>∃(N:Env) (Z:St) (G Hb Hc:Hp) (r s:Rv) (b:Bool),ER U K Gv Hv G H N Z/\RvR U K Hv Hb G H N Z r x/\RvR U K Hv Hc G H N Z s y/\JD op r s=some b/\Q (.bl b) H
def qm1:R2:=λx y H Q=>∃(N:Env) (Z:St) (G Hb Hc:Hp) (r s:Rv),ER U K Gv Hv G H N Z/\RvR U K Hv Hb G H N Z r x/\RvR U K Hv Hc G H N Z s y/\
 Wx Ξ (idxD r s) λz=>∀v G' H',Po U K Gv Hv Z G H N G' H' N->RvR U K Hv H G' H' N Z z v->Q v H'
def qm2:V->Option Int->Option Int->Hp->VK->Prop:=λx lo hi H Q=>∃(N:Env) (Z:St) (G Hb:Hp) (r:Rv),ER U K Gv Hv G H N Z/\RvR U K Hv Hb G H N Z r x/\
 Wx Ξ (sliceD r lo hi) λz=>∀v G' H',Po U K Gv Hv Z G H N G' H' N->RvR U K Hv H G' H' N Z z v->Q v H'
def rC1(f:Rv->R Rv):List V->Hp->VK->Prop:=λxs H Q=>∃(N:Env) (Z:St) (G Hb:Hp) (r:Rv) (x:V),xs=[x]/\ER U K Gv Hv G H N Z/\RvR U K Hv Hb G H N Z r x/\
 Wx Ξ (f r) λz=>∀v G' H',Po U K Gv Hv Z G H N G' H' N->RvR U K Hv H G' H' N Z z v->Q v H'
def rC2(f:Rv->Rv->R Rv):List V->Hp->VK->Prop:=λxs H Q=>∃(N:Env) (Z:St) (G Hb Hc:Hp) (r s:Rv) (x y:V),xs=[x,y]/\ER U K Gv Hv G H N Z/\RvR U K Hv Hb G H N Z r x/\RvR U K Hv Hc G H N Z s y/\
 Wx Ξ (f r s) λz=>∀v G' H',Po U K Gv Hv Z G H N G' H' N->RvR U K Hv H G' H' N Z z v->Q v H'
end
section
variable{U:KC}{ε:XK}{Ξ:XW}{K:Frag}{Gv Hv:Hp}{k:Nat}{X:Cx}{L:Ct}
def Yl(op:Operator){f:Int->Int->R Rv}{C:Int->Int->Prop}{g:Int->Int->Int}(hop:OpR X (binaryOp op) (rI C λi j=>.int (g i j)))(hf:∀r s,YJ op r s=int2 r s f)(hw:∀i j F,Wx Ξ (f i j) F->C i j/\F (.val (.int (g i j)))) :
  OpR X (binaryOp op) (qkr U K Ξ Gv Hv op):=by
 rintro pins st Z' H x y v u Q I rx ry ⟨N,Z,G,Hb,Hc,r,s,er,h1,h2,h⟩;rw[hf]at h;let(i,j,e1,e2,h):=Zb h;let(hc,h):=hw i j _ h;exact hop pins st Z' H x y v u Q I rx ry ⟨i,j,h1.int e1,h2.int e2,hc,h _ G H (Po.refl er) (by simp![RvR,Rep])⟩
def qld{f:Value->Value->Sem Value}{g:Int->Int->V}(h:OpR X f (rI0 g)):OpR X f (rI (λ_ _=>True) g):=λpins st Z' H x y v u Q I rx ry ⟨i,j,e1,e2,_,q⟩=>h pins st Z' H x y v u Q I rx ry ⟨i,j,e1,e2,q⟩
theorem qit:OpR X (binaryOp .Add) (qkr U K Ξ Gv Hv .Add):=by
 rintro pins st Z' H x y v u Q I rx ry ⟨N,Z,G,Hb,Hc,r,s,er,h1,h2,h⟩;have h:Wx Ξ (qk0 r s) _:=h;unfold qk0 at h
 have cat:Wx Ξ (match r.plain?,s.plain? with
   |some l,some m=>if l.length+m.length<=sizeLine then R.ok (Rv.tmp (l++m)) else .no
   |_,_=>.no) (λz=>∀v G' H',Po U K Gv Hv Z G H N G' H' N->RvR U K Hv H G' H' N Z z v->Q v H')->wpAny (model X.prog X.w) X.A (binaryOp .Add v u) (EP X pins Z' Q) X.xe st:=λh=>by
  cases e1:r.plain? with
  |none=>rw[e1]at h;exact h.elim
  |some l=>
   cases e2:s.plain? with
   |none=>rw[e1,e2]at h;exact h.elim
   |some m=>rw[e1,e2]at h;let(hz,h):=Wx.iff h;let(a,xs,q1,q2,q3):=h1.plain er e1;let(b,ys,p1,p2,p3):=h2.plain er e2;refine qhT pins st Z' H x y v u Q I rx ry ⟨a,b,xs,ys,q1,p1,q2,p2,by rw[<-q3.len,<-p3.len];exact hz,λp hp=>?_⟩;let(z1,z2):=er.newList hp (q3.app p3);exact h _ _ _ z1 z2
 have txt:Wx Ξ (match r.str?,s.str? with
   |some a,some b=>if a.length+b.length<=sizeLine then R.ok (Rv.val (.str (a++b))) else .no
   |_,_=>match r.plain?,s.plain? with
    |some l,some m=>if l.length+m.length<=sizeLine then R.ok (Rv.tmp (l++m)) else .no
    |_,_=>.no) (λz=>∀v G' H',Po U K Gv Hv Z G H N G' H' N->RvR U K Hv H G' H' N Z z v->Q v H')->wpAny (model X.prog X.w) X.A (binaryOp .Add v u) (EP X pins Z' Q) X.xe st:=λh=>by
  cases e1:r.str? with
  |none=>rw[e1]at h;exact cat h
  |some l=>
   cases e2:s.str? with
   |none=>rw[e1,e2]at h;exact cat h
   |some m=>rw[e1,e2]at h;let(hz,h):=Wx.iff h;exact qau pins st Z' H x y v u Q I rx ry ⟨l,m,h1.str e1,h2.str e2,hz,h _ G H (Po.refl er) (by simp![RvR,Rep])⟩
 cases e1:r.int? with
 |none=>rw[e1]at h;exact txt h
 |some i=>
  cases e2:s.int? with
  |none=>rw[e1,e2]at h;exact txt h
  |some j=>rw[e1,e2]at h;exact qhE pins st Z' H x y v u Q I rx ry ⟨i,j,h1.int e1,h2.int e2,h _ G H (Po.refl er) (by simp![RvR,Rep])⟩
def qgi{i j:Int}(h:Q9 i j=true):qkh i j:=by unfold Q9 at h;simp![Bool.or_eq_true,Bool.and_eq_true,decide_eq_true_eq]at h;exact h
theorem ql.rep{G:Hp}{ds:List D}{vs:List V}(h:ql U G ds vs):∀n:Nat,ql U G (List.replicate n ds).flatten (List.replicate n vs).flatten
 |0=>.nil
 | n+1=>h.app (ql.rep h n)
theorem qiu:OpR X (binaryOp .Mult) (qkr U K Ξ Gv Hv .Mult):=by
 rintro pins st Z' H x y v u Q I rx ry ⟨N,Z,G,Hb,Hc,r,s,er,h1,h2,h⟩;have h:Wx Ξ (qk1 r s) _:=h;unfold qk1 at h
 cases e2:s.int? with
 |none=>cases e1:r.int?<;>rw[e1,e2]at h<;>exact h.elim
 |some j=>
  cases e1:r.int? with
  |some i=>rw[e1,e2]at h;let(hm,h):=Wx.iff h;exact qhG pins st Z' H x y v u Q I rx ry ⟨i,j,h1.int e1,h2.int e2,qgi hm,h _ G H (Po.refl er) (by simp![RvR,Rep])⟩
  |none=>
   rw[e1,e2]at h;dsimp only at h
   cases e3:r.plain? with
   |none=>rw[e3]at h;exact h.elim
   |some l=>rw[e3]at h;let(hz,h):=Wx.iff h;let(a,xs,q1,q2,q3):=h1.plain er e3;refine qhU pins st Z' H x y v u Q I rx ry ⟨a,j,xs,q1,h2.int e2,q2,by lia,by lia,by rw[<-q3.len];exact hz.2,λp hp=>?_⟩;let(z1,z2):=er.newList hp (q3.rep _);exact h _ _ _ z1 z2
theorem qiv(op:Operator):OpR X (binaryOp op) (qkr U K Ξ Gv Hv op):=by
 cases op with
 |Add=>exact qit
 |Sub=>exact Yl .Sub (qld qhF) (λ_ _=>rfl) λi j F h=>⟨trivial,h⟩
 |Mult=>exact qiu
 |FloorDiv=>
  refine Yl .FloorDiv qc0 (λ_ _=>rfl) λi j F h=>?_
  by_cases hp:0 < j/\j < 1073741824
  ·rw[if_pos hp]at h;rw[Int.fdiv_eq_ediv_of_nonneg i (1:)];exact{{by lia,by lia},h}
  ·rw[if_neg hp]at h;let(hc,h):=Wx.iff h;exact{{by lia,by lia},h}
 |Mod=>
  refine Yl .Mod qfh (λ_ _=>rfl) λi j F h=>?_
  by_cases hp:0 < j
  ·rw[if_pos hp]at h;rw[Int.fmod_eq_emod_of_nonneg i (1:)];exact{by lia,h}
  ·rw[if_neg hp]at h;let(hc,h):=Wx.iff h;exact{by lia,h}
 |Pow=>exact Yl .Pow qhH (λ_ _=>rfl) λi j F h=>{(Wx.iff h).1,(Wx.iff h).2}
 |_=>exactλ_ _ _ _ _ _ _ _ _ _ _ _ h=>Exists.elim h λ_ h=>Exists.elim h λ_ h=>Exists.elim h λ_ h=>Exists.elim h λ_ h=>Exists.elim h λ_ h=>Exists.elim h λ_ h=>Exists.elim h λ_ h=>h.2.2.2.elim
theorem Ym(op:CmpOp){g:Int->Int->Bool}(hop:OpR X (compareOp op) (rI0 λi j=>.bl (g i j)))(hf:∀r s,JD op r s=qhn r s g):OpR X (compareOp op) (qlc U K Gv Hv op):=by
 rintro pins st Z' H x y v u Q I rx ry ⟨N,Z,G,Hb,Hc,r,s,b,er,h1,h2,h,q⟩;rw[hf]at h;unfold qhn at h
 cases e1:r.int? with
 |none=>rw[e1]at h;cases h
 |some i=>
  cases e2:s.int? with
  |none=>rw[e1,e2]at h;cases h
  |some j=>rw[e1,e2]at h;cases h;exact hop pins st Z' H x y v u Q I rx ry ⟨i,j,h1.int e1,h2.int e2,q⟩
theorem qeG{x y:D}{b:Bool}(h:eqD x y=some b):∃p q,toP x=some p/\toP y=some q/\SeqAt.shaped p=true/\SeqAt.shaped q=true/\b=PyData.eqv p q:=by
 unfold eqD at h
 cases e1:toP x with
 |none=>rw[e1]at h;cases h
 |some p=>
  cases e2:toP y with
  |none=>rw[e1,e2]at h;cases h
  |some q=>
   rw[e1,e2]at h;dsimp only at h
   by_cases hs:(SeqAt.shaped p&&SeqAt.shaped q)=true
   ·rw[if_pos hs]at h;cases h;rw[Bool.and_eq_true]at hs;exact⟨p,q,rfl,rfl,hs.1,hs.2,rfl⟩
   ·rw[if_neg hs]at h;cases h
theorem qeH(gd:Gd U K ε k X L)(neg:Bool)(op:CmpOp)(hs:OpR X (compareOp op) (λx y H Q=>∃i j,x=.str i/\y=.str j/\Q (.bl (if neg then !qho i j else qho i j)) H))(hl:OpR X (compareOp op) (rIn X.K neg))
  (hf:∀r s,JD op r s=(qcU r s).map λb=>if neg then !b else b):OpR X (compareOp op) (qlc U K Gv Hv op):=by
 rintro pins st Z' H x y v u Q I rx ry ⟨N,Z,G,Hb,Hc,r,s,b,er,h1,h2,h,q⟩;rw[hf]at h;let(b',hb',rfl):=Option.map_eq_some_iff.mp h
 replace h:=hb'
 unfold qcU at h
 have sq:(seqD s).bind (inD r.data)=some b'->wpAny (model X.prog X.w) X.A (compareOp op v u) (EP X pins Z' Q) X.xe st:=λh=>by
  let(l,e1,e2):=Option.bind_eq_some_iff.mp h;unfold inD at e2
  by_cases hc:(zE r.data&&l.all zE)=true
  ·rw[if_pos hc]at e2;cases e2;rw[Bool.and_eq_true]at hc;let(a,xs,p1,p2,p3):=h2.seq er e1;let(f1,f2):=qgh h1 hc.1;let(f3,f4):=Qk p3 hc.2;refine hl pins st Z' H x y v u Q I rx ry ⟨a,xs,p1,by rw[gd.hK];exact p2,f2,f4,?_⟩;rw[f1,f3];exact q
  ·rw[if_neg hc]at e2;cases e2
 cases e1:r.str? with
 |none=>rw[e1]at h;exact sq h
 |some i=>
  cases e2:s.str? with
  |none=>rw[e1,e2]at h;exact sq h
  |some j=>rw[e1,e2]at h;cases h;exact hs pins st Z' H x y v u Q I rx ry ⟨i,j,h1.str e1,h2.str e2,q⟩
theorem Z2(gd:Gd U K ε k X L)(op:CmpOp):OpR X (compareOp op) (qlc U K Gv Hv op):=by
 have hu:X.A.units+64 < cLine:=by have:=gd.room.un;lia
 cases op with
 |Eq=>rintro pins st Z' H x y v u Q I rx ry ⟨N,Z,G,Hb,Hc,r,s,b,er,h1,h2,h,q⟩;let(p,p',e1,e2,e3,e4,rfl):=qeG h;exact qic hu pins st Z' H x y v u Q I rx ry ⟨p,p',by rw[gd.hK];exact h1.dv er e1,by rw[gd.hK];exact h2.dv er e2,e3,e4,q⟩
 |NotEq=>rintro pins st Z' H x y v u Q I rx ry ⟨N,Z,G,Hb,Hc,r,s,b,er,h1,h2,h,q⟩;let(b',h',rfl):=Option.map_eq_some_iff.mp h;let(p,p',e1,e2,e3,e4,rfl):=qeG h';exact qid hu pins st Z' H x y v u Q I rx ry ⟨p,p',by rw[gd.hK];exact h1.dv er e1,by rw[gd.hK];exact h2.dv er e2,e3,e4,q⟩
 |Lt=>exact Ym .Lt qkJ λ_ _=>rfl
 |LtE=>exact Ym .LtE qkK λ_ _=>rfl
 |Gt=>exact Ym .Gt qkL λ_ _=>rfl
 |GtE=>exact Ym .GtE qkM λ_ _=>rfl
 |Is=>
  rintro pins st Z' H x y v u Q I rx ry ⟨N,Z,G,Hb,Hc,r,s,b,er,h1,h2,h,q⟩;have h:(if s.non?=true then some r.non? else none)=some b:=h
  by_cases hn:s.non?=true
  ·rw[if_pos hn]at h;cases h;refine qhJ pins st Z' H x y v u Q I rx ry ⟨of_decide_eq_true (h2.non.trans hn),?_⟩;rw[h1.non];exact q
  ·rw[if_neg hn]at h;cases h
 |IsNot=>
  rintro pins st Z' H x y v u Q I rx ry ⟨N,Z,G,Hb,Hc,r,s,b,er,h1,h2,h,q⟩;have h:(if s.non?=true then some (!r.non?) else none)=some b:=h
  by_cases hn:s.non?=true
  ·rw[if_pos hn]at h;cases h;refine qfi pins st Z' H x y v u Q I rx ry ⟨of_decide_eq_true (h2.non.trans hn),?_⟩;rw[h1.non];exact q
  ·rw[if_neg hn]at h;cases h
 |In=>exact qeH gd false .In qbb qbm λr s=>by show qcU r s=_;cases qcU r s<;>rfl
 |NotIn=>exact qeH gd true .NotIn YS Y3 λr s=>rfl
theorem Yn{G:Hp}{x:Str}{d:D}:∀{ns:List Str} {ds:List D} {xs:List V},ql U G ds xs->(ns.zip ds).lookup x=some d->∃v,(ns.zip xs).lookup x=some v/\Rep U G d v
 |[],_,_,_,h=>by simp at h
 | n::ns,[],_,_,h=>by simp at h
 | n::ns,e::ds,xs,r,h=>by
  simp![ql]at r;let(v,us,rfl,r1,r2):=r;rw[List.zip_cons_cons,List.lookup_cons]at h
  cases hx:(x == n) with
  |true=>rw[hx]at h;cases h;exact{v,by rw[List.zip_cons_cons,List.lookup_cons,hx],r1}
  |false=>rw[hx]at h;let(u,z1,z2):=Yn r2 h;exact{u,by rw[List.zip_cons_cons,List.lookup_cons,hx];exact z1,z2}
theorem qiw(gd:Gd U K ε k X L):IxR X (qm1 U K Ξ Gv Hv):=by
 rintro value slice pins st Z' H x y v u Q I rx ry ⟨N,Z,G,Hb,Hc,r,s,er,h1,h2,h⟩ hs;unfold idxD at h
 cases e1:s.int? with
 |none=>rw[e1]at h;exact False.elim h
 |some i=>
  rw[e1]at h;dsimp only at h
  cases e2:r.str? with
  |some z=>
   rw[e2]at h;dsimp only at h;let(hz,h):=Wx.iff h
   cases e3:atI z.cps.toList i with
   |none=>rw[e3]at h;exact h.elim
   |some c=>rw[e3]at h;exact qhQ value slice pins st Z' H x y v u Q I rx ry ⟨z,i,c,h1.str e2,h2.int e1,hz,e3,h _ G H (Po.refl er) (by simp![RvR,Rep])⟩ hs
  |none=>
   rw[e2]at h;dsimp only at h
   cases e3:seqD r with
   |none=>rw[e3]at h;exact h.elim
   |some l=>
    rw[e3]at h;dsimp only at h
    cases e4:atI l i with
    |none=>rw[e4]at h;exact h.elim
    |some d=>
     rw[e4]at h;let(a,xs,p1,p2,p3):=h1.seq er e3;let(w,p4,p5):=qdp p3 e4;rcases p2 with p2|p2
     ·exact qbl value slice pins st Z' H x y v u Q I rx ry ⟨a,xs,i,w,p1,h2.int e1,by rw[gd.hK];exact p2,p4,h w G H (Po.refl er) p5⟩ hs
     ·exact qhP value slice pins st Z' H x y v u Q I rx ry ⟨a,xs,i,w,p1,h2.int e1,by rw[gd.hK];exact p2,p4,h w G H (Po.refl er) p5⟩ hs
theorem qix(gd:Gd U K ε k X L):L2.SlR X (qm2 U K Ξ Gv Hv):=by
 rintro pins st Z' H x v vl vu lo hi sl Q I rx hs pl pu ⟨N,Z,G,Hb,r,er,h1,h⟩;unfold sliceD at h
 cases e2:r.str? with
 |some z=>rw[e2]at h;dsimp only at h;let(hz,h):=Wx.iff h;exact qig pins st Z' H x v vl vu lo hi sl Q I rx hs pl pu ⟨z,h1.str e2,hz,h _ G H (Po.refl er) (by simp![RvR,Rep])⟩
 |none=>rw[e2]at h;dsimp only at h;let(l,e1,h):=Wx.of (Wx.th h);let(a,xs,p1,p2,p3):=h1.list er e1;refine qfs pins st Z' H x v vl vu lo hi sl Q I rx hs pl pu ⟨a,xs,p1,by rw[gd.hK];exact p2,λp hp=>?_⟩;let(z1,z2):=er.newList hp (qdq (lo:=lo) (hi:=hi) p3);exact h _ _ _ z1 z2
theorem qiy(gd:Gd U K ε k X L):zy X (.builtin "len") (rC1 U K Ξ Gv Hv lenD):=by
 rintro pins st Z' H xs us Q I rs ⟨N,Z,G,Hb,r,x,hx,er,h1,h⟩;unfold lenD at h
 cases e2:r.str? with
 |some z=>rw[e2]at h;dsimp only at h;let(hz,h):=Wx.iff h;exact Y4 pins st Z' H xs us Q I rs ⟨z,by rw[hx,h1.str e2],hz,h _ G H (Po.refl er) (by simp![RvR,Rep])⟩
 |none=>
  rw[e2]at h;dsimp only at h
  cases e3:seqD r with
  |none=>rw[e3]at h;exact h.elim
  |some l=>rw[e3]at h;let(a,ys,p1,p2,p3):=h1.seq er e3;refine zt pins st Z' H xs us Q I rs ⟨a,ys,by rw[hx,p1],by rw[gd.hK];exact p2,?_⟩;rw[<-p3.len];exact h _ G H (Po.refl er) (by simp![RvR,Rep])
theorem qgj(gd:Gd U K ε k X L):zy X (.type "list") (rC1 U K Ξ Gv Hv listD):=by
 rintro pins st Z' H xs us Q I rs ⟨N,Z,G,Hb,r,x,hx,er,h1,h⟩;unfold listD at h
 cases e3:seqD r with
 |none=>rw[e3]at h;exact h.elim
 |some l=>rw[e3]at h;let(a,ys,p1,p2,p3):=h1.seq er e3;refine qY pins st Z' H xs us Q I rs ⟨a,ys,by rw[hx,p1],by rw[gd.hK];exact p2,λp hp=>?_⟩;let(z1,z2):=er.newList hp p3;exact h _ _ _ z1 z2
def qaN(a b c:Int×Int)(h1:qaM a b=true)(h2:qaM b c=true):qaM a c=true:=by
 simp![qaM,Bool.or_eq_true,Bool.and_eq_true,decide_eq_true_eq]at *
 lia
def qaO(a b:Int×Int):(qaM a b||qaM b a)=true:=by
 simp![qaM,Bool.or_eq_true,Bool.and_eq_true,decide_eq_true_eq]at *
 lia
def qdr{ps qs:List (Int×Int)}(p:qs.Perm ps)(s:qs.Pairwise qbE):jz ps=qs:=by
 have s1:(jz ps).Pairwise λa b=>qaM a b=true:=List.pairwise_mergeSort qaN qaO ps
 have s2:qs.Pairwise λa b=>qaM a b=true:=s.imp λ{a b} h=>by simp![qaM,Bool.or_eq_true,Bool.and_eq_true,decide_eq_true_eq];exact h
 refine List.Perm.eq_of_pairwise (λa b _ _ h1 h2=>?_) s1 s2 ((List.mergeSort_perm ps qaM).trans p.symm);simp![qaM,Bool.or_eq_true,Bool.and_eq_true,decide_eq_true_eq]at h1 h2;exact Prod.ext (1:) (1:)
theorem Z3{G:Hp}:∀{l:List D} {xs:List V} {ps:List (Int×Int)},ql U G l xs->qeA l=some ps->Paired (λx (p:Int×Int)=>∃a,x=V.ref a/\G a=some (.tup [.int p.1,.int p.2])) xs ps
 |[],xs,ps,r,h=>by simp![ql]at r;subst r;cases h;exact .nil
 | d::l,xs,ps,r,h=>by
  simp![ql]at r;let(x,us,rfl,r1,r2):=r;unfold qeA at h
  cases e1:prD d with
  |none=>rw[e1]at h;cases h
  |some p=>
   cases e2:qeA l with
   |none=>rw[e1,e2]at h;cases h
   |some qs=>
    rw[e1,e2]at h;cases h;refine .cons ?_ (Z3 r2 e2)
    cases qip e1
    simp![Rep,ql]at r1;let(a,ys,rfl,h1,x1,z1,rfl,rfl,x2,z2,rfl,rfl,rfl):=r1;exact⟨a,rfl,h1⟩
theorem Paired.memL{α M:Type}{R:α->M->Prop}:∀{l:List α} {m:List M},Paired R l m->∀a∈l,∃b,R a b
 |_,_,.nil,a,h=>by cases h
 |_,_,.cons r rs,a,h=>by
  cases h with
  |head=>exact{_,r}
  |tail _ h=>exact Paired.memL rs a h
theorem qaP{G H:Hp}(sub:qj G H){xs:List V}(f:∀x∈xs,∃p:Int×Int,∃a,x=V.ref a/\G a=some (.tup [.int p.1,.int p.2])){ys:List V}{qs:List (Int×Int)}(hm:∀y∈ys,y∈xs)(h:Paired (P2 K H) ys qs):ql U G (qs.map pD) ys:=by
 induction h with
 |nil=>exact .nil
 |cons r rs ih=>refine .cons ?_ (ih λz hz=>hm z (List.mem_cons_of_mem _ hz));let(p,a,rfl,ga):=f _ (hm _ (List.mem_cons_self ..));let(b,eb,hb):=r;cases eb;rw[sub _ _ ga]at hb;rw[hb]at ga;simp![pD,Rep,ql];exact{a,_,rfl,ga,_,_,rfl,rfl,_,_,rfl,rfl,rfl}
theorem qb1(gd:Gd U K ε k X L):zy X (.builtin "sorted") (rC1 U K Ξ Gv Hv Ji):=by
 rintro pins st Z' H xs us Q I rs ⟨N,Z,G,Hb,r,x,hx,er,h1,h⟩;unfold Ji at h
 cases e3:r.list? with
 |none=>rw[e3]at h;exact h.elim
 |some l=>
  rw[e3]at h;dsimp only at h
  cases e4:qeA l with
  |none=>rw[e4]at h;exact h.elim
  |some ps=>
   rw[e4]at h;dsimp only at h;let(h64,h):=Wx.iff h;let(a,ys,p1,p2,p3):=h1.list er e3;have pr:=Z3 p3 e4
   have pr2:Paired (P2 X.K H) ys ps:=by
    have:∀{ys:List V} {ps:List (Int×Int)},Paired (λx (p:Int×Int)=>∃a,x=V.ref a/\G a=some (.tup [.int p.1,.int p.2])) ys ps->Paired (P2 X.K H) ys ps:=by
     intro ys ps q
     induction q with
     |nil=>exact .nil
     |cons r rs ih=>let(a,e,ga):=r;exact .cons ⟨a,e,er.sub _ _ ga⟩ ih
    exact this pr
   refine Qc pins st Z' H xs us Q I rs ⟨a,ys,ps,by rw[hx,p1],by rw[gd.hK];exact p2,pr2,λp zs qs hp z1 z2 z3 z4=>?_⟩;have e5:jz ps=qs:=qdr z3 z4
   have rr:ql U G ((jz ps).map pD) zs:=by rw[e5];refine qaP (K:=X.K) er.sub (λx hx=>?_) (λy hy=>z2.mem_iff.mp hy) z1;let(p,hp):=Paired.memL pr x hx;exact⟨p,hp⟩
   let(w1,w2):=er.newList hp rr;exact h _ _ _ w1 w2
theorem qds(gd:Gd U K ε k X L):zy X (.type "tuple") (rC1 U K Ξ Gv Hv tupD):=by
 rintro pins st Z' H xs us Q I rs ⟨N,Z,G,Hb,r,x,hx,er,h1,h⟩;unfold tupD at h
 cases e3:r.list? with
 |none=>rw[e3]at h;exact h.elim
 |some l=>rw[e3]at h;let(a,ys,p1,p2,p3):=h1.list er e3;refine jZ pins st Z' H xs us Q I rs ⟨a,ys,by rw[hx,p1],.inl ⟨by rw[gd.hK];exact p2,λp hp=>?_⟩⟩;have po:=Po.lay (o:=.tup ys) er hp;exact h _ _ _ po (by simp![RvR,Rep];exact{p,ys,rfl,qf,p3.same po.gs})
theorem qiz:zy X (.type "int") (rC1 U K Ξ Gv Hv intD):=by
 rintro pins st Z' H xs us Q I rs ⟨N,Z,G,Hb,r,x,hx,er,h1,h⟩;unfold intD at h
 cases e3:r.int? with
 |some i=>rw[e3]at h;exact YU pins st Z' H xs us Q I rs (.inl ⟨i,by rw[hx,h1.int e3],h _ G H (Po.refl er) (by simp![RvR,Rep])⟩)
 |none=>
  rw[e3]at h;dsimp only at h
  cases e4:r.bl? with
  |none=>rw[e4]at h;exact False.elim h
  |some b=>rw[e4]at h;exact YU pins st Z' H xs us Q I rs (.inr ⟨b,by rw[hx,h1.bl e4],h _ G H (Po.refl er) (by simp![RvR,Rep])⟩)
def qiA(gd:Gd U K ε k X L):zy X (.builtin "max") (rC2 U K Ξ Gv Hv maxD):=by rintro pins st Z' H xs us Q I rs ⟨N,Z,G,Hb,Hc,r,s,x,y,hx,er,h1,h2,h⟩;let(i,j,e1,e2,h):=Zb h;exact qbc gd.calm pins st Z' H xs us Q I rs ⟨i,j,by rw[hx,h1.int e1,h2.int e2],h _ G H (Po.refl er) (by simp![RvR,Rep])⟩
def qiB(gd:Gd U K ε k X L):zy X (.builtin "min") (rC2 U K Ξ Gv Hv minD):=by rintro pins st Z' H xs us Q I rs ⟨N,Z,G,Hb,Hc,r,s,x,y,hx,er,h1,h2,h⟩;let(i,j,e1,e2,h):=Zb h;exact qbd gd.calm pins st Z' H xs us Q I rs ⟨i,j,by rw[hx,h1.int e1,h2.int e2],h _ G H (Po.refl er) (by simp![RvR,Rep])⟩
theorem qdt(gd:Gd U K ε k X L){G H Hb:Hp}{N:Env}{Z:St}{r:Rv}{x:V}{b:Bool}(er:ER U K Gv Hv G H N Z)(h:RvR U K Hv Hb G H N Z r x)(e:truthD r=some b):qki X.K x H b:=by
 have sq:∀{r:Rv},RvR U K Hv Hb G H N Z r x->(seqD r).map (λl=>!l.isEmpty)=some b->qki X.K x H b:=λ{r} h e=>by
  let(l,e1,rfl):=Option.map_eq_some_iff.mp e;let(a,xs,rfl,p2,p3):=h.seq er e1
  have hl:(!l.isEmpty) = !xs.isEmpty:=by
   have:=p3.len
   cases l<;>cases xs<;>simp_all
  rw[hl,gd.hK];rcases p2 with p2|p2
  ·exact .inl ⟨xs,p2,rfl⟩
  ·exact .inr (.inl ⟨xs,p2,rfl⟩)
 cases r with
 |val d=>
  cases d with
  |non=>simp![RvR,Rep]at h;subst h;simp![truthD]at e;cases e;exact rfl
  |bl c=>simp![RvR,Rep]at h;subst h;simp![truthD]at e;cases e;exact rfl
  |int c=>simp![RvR,Rep]at h;subst h;simp![truthD]at e;cases e;exact rfl
  |str c=>
   simp![RvR,Rep]at h;subst h;simp![truthD]at e
   by_cases hz:c.length<=sizeLine
   ·rw[if_pos hz]at e;cases e;exact⟨hz,rfl⟩
   ·rw[if_neg hz]at e;cases e
  |lst l=>exact sq h e
  |tup l=>exact sq h e
  |ins c ns l=>exact sq h e
  |exc c ns l=>exact sq h e
  |dct ns l=>exact sq h e
 |tmp l=>exact sq h e
 |cell l=>exact sq h e
 |scr l=>exact sq h e
end
open PySem.Spec PyProof.Rows
structure All(U:KC)(K:Frag)(ε:XK)(k:Nat)(X:Cx)(L:Ct)(m:Nat):Prop where
 r:∀Gv Hv e x,cE m L e=some x->PE X e (tR U K ε Gv Hv (iR L.k x))
 e:∀Gv Hv e x,cX m L e=some x->PE X e (tE U K ε Gv Hv (zU x (iR L.k x)))
 t:∀Gv Hv e x,cT m L e=some x->PT X e (tT U K ε Gv Hv (iT L.k x))
 es:∀Gv Hv e x,cEs m L e=some x->PA X e (tEs U K ε Gv Hv (iEs L.k x))
 as:∀Gv Hv e x,cAs m L e=some x->PA X e (tAs U K ε Gv Hv (iAs L.k x))
 o:∀Gv Hv e x,cO m L e=some x->PO X e (tO U K ε Gv Hv (iO L.k x))
 f:∀Gv Hv e x,cF m L e=some x->PIf X e (tT U K ε Gv Hv (iF L.k x))
 l:∀Gv Hv e x,cL m L e=some x->PE X e (tL U K ε Gv Hv (Yg x (iR L.k x)))
 i:∀Gv Hv tg e x,cI m L (qga tg) e=some x->PI X tg e (tI U K ε Gv Hv (iI L.k x))
section
variable{U:KC}{ε:XK}{K:Frag}{Gv Hv:Hp}{k m:Nat}{X:Cx}{L:Ct}{x:E}
def qm3:All U K ε k X L 0:={ r:=(λ_ _ _ _ h=>nomatch h),e:=(λ_ _ _ _ h=>nomatch h),t:=(λ_ _ _ _ h=>nomatch h),es:=(λ_ _ _ _ h=>nomatch h),as:=(λ_ _ _ _ h=>nomatch h),o:=(λ_ _ _ _ h=>nomatch h),f:=(λ_ _ _ _ h=>nomatch h),l:=(λ_ _ _ _ h=>nomatch h),i:=(λ_ _ _ _ _ h=>nomatch h) }
theorem qdu(c:Const)(j:Nat)(pos:Pos)(h:qeD c=some x):PE X (.Constant c j pos) (tR U K ε Gv Hv (iR L.k x)):=by
 cases c with
 |none=>cases h;exact PE.imp qej λZ H Q ⟨N,G,er,h⟩=>h _ G H (Po.refl er) (by simp![RvR,Rep])
 |bool b=>cases h;exact PE.imp qhw λZ H Q ⟨N,G,er,h⟩=>h _ G H (Po.refl er) (by simp![RvR,Rep])
 |int b=>cases h;exact PE.imp YL λZ H Q ⟨N,G,er,h⟩=>h _ G H (Po.refl er) (by simp![RvR,Rep])
 |str b=>cases h;exact PE.imp ZA λZ H Q ⟨N,G,er,h⟩=>h _ G H (Po.refl er) (by simp![RvR,Rep])
 |_=>cases h
def qdv(A:All U K ε k X L m)(a b:Expr)(op:Operator)(pos:Pos)(h:cE (m+1) L (.BinOp a op b pos)=some x):PE X (.BinOp a op b pos) (tR U K ε Gv Hv (iR L.k x)):=by let(a',b',h1,h2,rfl):=qk h;refine PE.imp (qkG (qiv (Ξ:=XP U Gv Hv ε) (U:=U) (K:=K) (Gv:=Gv) (Hv:=Hv) op) (A.r Gv Hv _ _ h1) (A.r Gv Hv _ _ h2)) λZ H Q hq1=>?_;let(N,G,er,h):=hq1;refine{N,G,er,Wx.mono (Wx.th (x:=iR L.k a' N) h) λx h v G1 H1 p1 r1=>{x.2,G1,p1.er,Wx.mono (Wx.th (x:=iR L.k b' x.2) h) λy h w G2 H2 p2 r2=>?_}};exact{y.2,Z,G2,H,H1,x.1,y.1,p2.er,r1.keep p2,r2,Wx.mono (Wx.th h) λz h u G3 H3 p3 r3=>h u G3 H3 (p1.trans (p2.trans p3)) (r3.back (p1.trans p2).hs)}
theorem qiC(A:All U K ε k X L m)(a:Expr)(pos:Pos)(h:cE (m+1) L (.UnaryOp .USub a pos)=some x):PE X (.UnaryOp .USub a pos) (tR U K ε Gv Hv (iR L.k x)):=by
 let(a',h1,rfl):=map_some h;refine PE.imp (qkH qhI (A.r Gv Hv _ _ h1)) λZ H Q hq1=>?_;let(N,G,er,h):=hq1;refine{N,G,er,Wx.mono (Wx.th (x:=iR L.k a' N) h) λx h v G1 H1 p1 r1=>?_};let(rv,N1):=x
 cases rv with
 |val d=>
  cases d with
  |int i=>exact{i,by simpa only[RvR,Rep] using r1,h _ G1 H1 p1 (by simp![RvR,Rep])}
  |_=>exact False.elim h
 |_=>exact False.elim h
theorem qgk(A:All U K ε k X L m)(a:Expr)(pos:Pos)(h:cE (m+1) L (.UnaryOp .Not a pos)=some x):PE X (.UnaryOp .Not a pos) (tR U K ε Gv Hv (iR L.k x)):=by
 let(a',h1,rfl):=map_some h;refine PE.imp (qhz (A.r Gv Hv _ _ h1)) λZ H Q hq1=>?_;let(N,G,er,h):=hq1;refine{N,G,er,Wx.mono (Wx.th (x:=iR L.k a' N) h) λx h v G1 H1 p1 r1=>?_};let(rv,N1):=x
 cases rv with
 |val d=>
  cases d with
  |bl i=>exact{i,by simpa only[RvR,Rep] using r1,h _ G1 H1 p1 (by simp![RvR,Rep])}
  |_=>exact False.elim h
 |_=>exact False.elim h
def qgl(gd:Gd U K ε k X L)(A:All U K ε k X L m)(a b:Expr)(op:CmpOp)(pos:Pos)(h:cE (m+1) L (.Compare a [op] [b] pos)=some x):PE X (.Compare a [op] [b] pos) (tR U K ε Gv Hv (iR L.k x)):=by let(hm,h):=qh h;let(a',b',h1,h2,rfl):=qk h;refine PE.imp (qfj (Z2 (Gv:=Gv) (Hv:=Hv) gd op) (A.r Gv Hv _ _ h1) (A.r Gv Hv _ _ h2) (-hm:)) λZ H Q hq1=>?_;let(N,G,er,h):=hq1;refine{N,G,er,Wx.mono (Wx.th (x:=iR L.k a' N) h) λx h v G1 H1 p1 r1=>{x.2,G1,p1.er,Wx.mono (Wx.th (x:=iR L.k b' x.2) h) λy h w G2 H2 p2 r2=>?_}};let(c,e,h):=Wx.of (Wx.th h);exact{y.2,Z,G2,H,H1,x.1,y.1,c,p2.er,r1.keep p2,r2,e,h _ G2 H2 (p1.trans p2) (by simp![RvR,Rep])}
def qgm(gd:Gd U K ε k X L)(A:All U K ε k X L m)(a b:Expr)(op:CmpOp)(pos:Pos){x:T}(h:cT (m+1) L (.Compare a [op] [b] pos)=some x):PT X (.Compare a [op] [b] pos) (tT U K ε Gv Hv (iT L.k x)):=by let(hm,h):=qh h;let(a',b',h1,h2,rfl):=qk h;refine PT.imp (QU (Z2 (Gv:=Gv) (Hv:=Hv) gd op) (A.r Gv Hv _ _ h1) (A.r Gv Hv _ _ h2) (-hm:)) λZ H Q hq1=>?_;let(N,G,er,h):=hq1;refine{N,G,er,Wx.mono (Wx.th (x:=iR L.k a' N) h) λx h v G1 H1 p1 r1=>{x.2,G1,p1.er,Wx.mono (Wx.th (x:=iR L.k b' x.2) h) λy h w G2 H2 p2 r2=>?_}};let(c,e,h):=Wx.of (Wx.th h);exact{y.2,Z,G2,H,H1,x.1,y.1,c,p2.er,r1.keep p2,r2,e,c,rfl,h G2 H2 (p1.trans p2)}
theorem qiD(A:All U K ε k X L m)(a b:Expr)(l:List Expr)(pos:Pos)(h:cE (m+1) L (.BoolOp .And (a::b::l) pos)=some x):PE X (.BoolOp .And (a::b::l) pos) (tR U K ε Gv Hv (iR L.k x)):=by
 let(a',b',h1,h2,rfl):=qk h;refine PE.imp (qhy (A.r Gv Hv _ _ h1) (A.r Gv Hv _ _ h2)) λZ H Q hq1=>?_;let(N,G,er,h):=hq1;refine{N,G,er,Wx.mono (Wx.th (x:=iR L.k a' N) h) λx h v G1 H1 p1 r1=>?_};let(rv,N1):=x
 cases rv with
 |val d=>
  cases d with
  |bl c=>
   refine{c,by simpa only[RvR,Rep] using r1,?_}
   cases c with
   |true=>rw[if_pos rfl];exact{N1,G1,p1.er,Wx.mono h λy h w G2 H2 p2 r2=>h w G2 H2 (p1.trans p2) (r2.back p1.hs)}
   |false=>rw[if_neg (λz=>by cases z)];exact h _ G1 H1 p1 (by simp![RvR,Rep])
  |_=>exact False.elim h
 |_=>exact False.elim h
def qaQ{b:Expr}(h:∀lo hi st p,b≠.Slice lo hi st p):qbk b:=λo i=>by cases b<;>first|rfl|exact absurd rfl (h _ _ _ _)
theorem qiE(gd:Gd U K ε k X L)(A:All U K ε k X L m)(a b:Expr)(pos:Pos)(h:cE (m+1) L (.Subscript a b pos)=some x):PE X (.Subscript a b pos) (tR U K ε Gv Hv (iR L.k x)):=by
 have gen:(∀lo hi st p,b≠.Slice lo hi st p)->o2 (cE m L a) (cE m L b) .idx=some x->PE X (.Subscript a b pos) (tR U K ε Gv Hv (iR L.k x)):=λhb h=>by let(a',b',h1,h2,rfl):=qk h;refine PE.imp (qhO (qiw (Ξ:=XP U Gv Hv ε) (Gv:=Gv) (Hv:=Hv) gd) (A.r Gv Hv _ _ h1) (A.r Gv Hv _ _ h2) (qaQ hb)) λZ H Q hq1=>?_;let(N,G,er,h):=hq1;refine{N,G,er,Wx.mono (Wx.th (x:=iR L.k a' N) h) λx h v G1 H1 p1 r1=>{x.2,G1,p1.er,Wx.mono (Wx.th (x:=iR L.k b' x.2) h) λy h w G2 H2 p2 r2=>?_}};exact{y.2,Z,G2,H,H1,x.1,y.1,p2.er,r1.keep p2,r2,Wx.mono (Wx.th h) λz h u G3 H3 p3 r3=>h u G3 H3 (p1.trans (p2.trans p3)) (r3.back (p1.trans p2).hs)}
 cases b with
 |Slice lo hi st p=>
  cases st with
  |some st=>cases h
  |none=>let(a',q,h1,h2,rfl):=qk h;let(l',u',h3,h4,rfl):=qk h2;refine PE.imp (qc7 (qix (Ξ:=XP U Gv Hv ε) (Gv:=Gv) (Hv:=Hv) gd) (A.r Gv Hv _ _ h1) (A.o Gv Hv _ _ h3) (A.o Gv Hv _ _ h4)) λZ H Q hq1=>?_;let(N,G,er,h):=hq1;refine{N,G,er,Wx.mono (Wx.th (x:=iR L.k a' N) h) λx h v G1 H1 p1 r1=>{x.2,G1,p1.er,Wx.mono (Wx.th (x:=iO L.k l' x.2) h) λy h G2 H2 p2=>{y.2,G2,p2.er,Wx.mono (Wx.th (x:=iO L.k u' y.2) h) λz h G3 H3 p3=>?_}}};exact{z.2,Z,G3,H,x.1,p3.er,(r1.keep p2).keep p3,Wx.mono (Wx.th h) λu h w G4 H4 p4 r4=>h w G4 H4 (p1.trans (p2.trans (p3.trans p4))) (r4.back (p1.trans (p2.trans p3)).hs)}
 |_=>exact gen (λ_ _ _ _ z=>by cases z) h
def qiF(A:All U K ε k X L m)(es:List Expr)(pos:Pos)(h:cE (m+1) L (.List es pos)=some x):PE X (.List es pos) (tR U K ε Gv Hv (iR L.k x)):=by let(l,h1,rfl):=map_some h;refine PE.imp (qen (A.es Gv Hv _ _ h1)) λZ H Q hq1=>?_;let(N,G,er,h):=hq1;refine{N,G,er,Wx.mono (Wx.th (x:=iEs L.k l N) h) λx h vs G1 H1 p1 r1=>?_};let(hz,h):=Wx.iff h;refine{by rw[<-r1.len];exact hz,λp hp=>?_};let(z1,z2):=p1.er.newList hp r1;exact h _ _ _ (p1.trans z1) (z2.back p1.hs)
def qiG(A:All U K ε k X L m)(es:List Expr)(j:Nat)(pos:Pos)(h:cE (m+1) L (.Tuple es j pos)=some x):PE X (.Tuple es j pos) (tR U K ε Gv Hv (iR L.k x)):=by let(l,h1,rfl):=map_some h;refine PE.imp (qhM (A.es Gv Hv _ _ h1)) λZ H Q hq1=>?_;let(N,G,er,h):=hq1;refine{N,G,er,Wx.mono (Wx.th (x:=iEs L.k l N) h) λx h vs G1 H1 p1 r1=>?_};let(hz,h):=Wx.iff h;refine{by rw[<-r1.len];exact hz,λp hp=>?_};have z1:=Po.lay (o:=.tup vs) p1.er hp;refine h _ _ _ (p1.trans z1) ?_;simp![RvR,Rep];exact{p,vs,rfl,qf,r1.same z1.gs}
theorem qm4(gd:Gd U K ε k X L)(A:All U K ε k X L m)(e:Expr)(x:E)(h:cX (m+1) L e=some x):PE X e (tE U K ε Gv Hv (zU x (iR L.k x))):=by
 have gen:(cE m L e).bind Yi=some x->PE X e (tE U K ε Gv Hv (zU x (iR L.k x))):=λh=>by
  let(y,h1,h2):=Option.bind_eq_some_iff.mp h;let(rfl,hv):=zG h2;refine PE.imp (A.r Gv Hv _ _ h1) λZ H Q hq1=>?_;let(N,G,er,h):=hq1;rw[qgd hv]at h;refine{N,G,er,Wx.mono (Wx.th h) λx h v G1 H1 p1 r1=>?_};let(rv,N1):=x
  cases rv with
  |val d=>exact h v G1 H1 p1 r1
  |tmp l=>let(a,xs,rfl,h1,h2,h3,h4,h5,h6):=r1;have p2:=p1.freeze h1 h2 h3 h4 h5;refine h _ _ H1 p2 ?_;simp![Rep];exact{a,xs,rfl,qf,h6.same (qj.upd h4)}
  |_=>exact False.elim h
 cases e with
 |Name x pos=>exact Z0 gd h pos
 |_=>exact gen h
def PFs.imp{es:List Expr}{t t':TF}(h:PFs X es t')(i:∀Z H acc Q,t Z H acc Q->t' Z H acc Q):PFs X es t:=λpins s Z H acc Q I hl hq=>h pins s Z H acc Q I hl (i Z H acc Q hq)
def Ql{acc w:Str}{d:D}{l:List D}(h:JN acc (d::l)=some w):∃y,qk2 d=some y/\(acc++y).length<=sizeLine/\JN (acc++y) l=some w:=by
 unfold JN at h;let(y,e1,e2):=Option.bind_eq_some_iff.mp h
 split at e2
 ·exact{y,e1,‹_›,e2}
 ·cases e2
theorem qdw{G:Hp}{d:D}{v:V}{y:Str}(r:Rep U G d v)(h:qk2 d=some y):qlX v=some y:=by
 cases d with
 |int n=>simp![Rep]at r;subst r;exact h
 |str z=>simp![Rep]at r;subst r;exact h
 |_=>cases h
theorem qgn(A:All U K ε k X L m):∀es l',cFs (cX m L) es=some l'->PFs X es (λZ H acc Q=>∃N G,ER U K Gv Hv G H N Z/\Wx X0 (iEs L.k l' N) λx=>∃z,JN acc x.1=some z/\∀G' H',Po U K Gv Hv Z G H N G' H' x.2->Q z H')
 |[],_,h=>by cases h;refine PFs.imp qim λZ H acc Q hz5=>?_;let(N,G,er,z,e,h):=hz5;cases e;exact h G H (Po.refl er)
 | e::l,_,h=>by
  unfold cFs at h
  split at h
  ·rename_i q;cases q
  ·rename_i z j p l0 q;injection q with q1 q2;subst q1 q2;let(l',h2,rfl):=map_some h;refine PFs.imp (qin (qgn A l l' h2)) λZ H acc Q hq=>?_;let(N,G,er,h):=hq;have h:=Wx.th (x:=iEs L.k l' N) h
   cases e2:iEs L.k l' N with
   |exc c l=>rw[e2]at h;exact False.elim h
   |no=>rw[e2]at h;exact False.elim h
   |ok y=>
    rw[e2]at h;let(w,e3,hQ):=h;let(y0,f1,f2,f3):=Ql e3;have f1:(if z.length<=3000 then some z else none)=some y0:=f1
    split at f1
    case isFalse=>cases f1
    cases f1;exact{f2,N,G,er,by rw[e2];exact⟨w,f3,hQ⟩}
  ·rename_i e0 i0 p l0 q;injection q with q1 q2;subst q1 q2;let(hi,h):=qh h;cases of_decide_eq_true hi;let(a',l',h1,h2,rfl):=qk h;refine PFs.imp (qio (A.e Gv Hv _ _ h1) (qgn A l l' h2)) λZ H acc Q hq=>?_;let(N,G,er,h):=hq;refine{N,G,er,Wx.mono2 (Wx.th (x:=zU a' (iR L.k a') N) h) (λ_ _ z=>False.elim z) λx h v G1 H1 p1 r1=>?_};have h:=Wx.th (x:=iEs L.k l' x.2) h
   cases e2:iEs L.k l' x.2 with
   |exc c l=>rw[e2]at h;exact False.elim h
   |no=>rw[e2]at h;exact False.elim h
   |ok y=>rw[e2]at h;let(w,e3,hQ):=h;let(y0,f1,f2,f3):=Ql e3;exact{y0,qdw r1 f1,f2,x.2,G1,p1.er,by rw[e2];exact{w,f3,λG' H' p2=>hQ G' H' (p1.trans p2)}}
  ·cases h
def qiH(A:All U K ε k X L m)(a b:Expr)(l:List Expr)(pos:Pos)(h:cE (m+1) L (.JoinedStr (a::b::l) pos)=some x):PE X (.JoinedStr (a::b::l) pos) (tR U K ε Gv Hv (iR L.k x)):=by let(l',h1,rfl):=map_some h;refine PE.imp (qf7 (qgn (Gv:=Gv) (Hv:=Hv) A _ _ h1)) λZ H Q hq=>?_;let(N,G,er,h):=hq;refine{N,G,er,Wx.mono (Wx.nox (Wx.th (x:=noX (iEs L.k l' N)) h)) λy h=>?_};let(z,e,h):=Wx.of (Wx.th h);exact{z,e,λG' H' p=>h _ G' H' p (by simp![RvR,Rep])}
theorem qle(A:All U K ε k X L m):∀es x,cEs (m+1) L es=some x->PA X es (tEs U K ε Gv Hv (iEs L.k x))
 |[],_,h=>by cases h;exact PA.imp qq λZ H Q ⟨N,G,er,h⟩=>h [] G H (Po.refl er) .nil
 | e::l,_,h=>by let(hs,h):=qh h;let(a',l',h1,h2,rfl):=qk h;refine PA.imp (qg (A.e Gv Hv _ _ h1) (A.es Gv Hv _ _ h2) (qi (-hs:))) λZ H Q hq1=>?_;let(N,G,er,h):=hq1;refine{N,G,er,Wx.mono (Wx.th (x:=zU a' (iR L.k a') N) h) λx h v G1 H1 p1 r1=>{x.2,G1,p1.er,Wx.mono (Wx.th (x:=iEs L.k l' x.2) h) λy h vs G2 H2 p2 r2=>?_}};exact h _ G2 H2 (p1.trans p2) (.cons (r1.same p2.gs) r2)
theorem qlf(A:All U K ε k X L m):∀es x,cAs (m+1) L es=some x->PA X es (tAs U K ε Gv Hv (iAs L.k x))
 |[],_,h=>by cases h;exact PA.imp qq λZ H Q ⟨N,G,er,h⟩=>h [] G H (Po.refl er) rfl
 | e::l,_,h=>by
  let(hs,h):=qh h;let(a',l',h1,h2,rfl):=qk h;refine PA.imp (qg (A.r Gv Hv _ _ h1) (A.as Gv Hv _ _ h2) (qi (-hs:))) λZ H Q hq1=>?_;let(N,G,er,h):=hq1;refine{N,G,er,Wx.mono (Wx.th (x:=iR L.k a' N) h) λx h v G1 H1 p1 r1=>?_};have h:=Wx.th (x:=iAs L.k l' x.2) h;let(rv,N1):=x
  cases rv with
  |val d=>exact{N1,G1,p1.er,Wx.mono h λy h vs G2 H2 p2 r2=>h _ G2 H2 (p1.trans p2) {v,vs,rfl,Rep.same p2.gs r1,r2}}
  |tmp ds=>let(a,xs,rfl,h1,h2,h3,h4,h5,h6):=r1;have p1':=p1.freeze h1 h2 h3 h4 h5;refine{N1,_,p1'.er,Wx.mono h λy h vs G2 H2 p2 r2=>h _ G2 H2 (p1'.trans p2) {_,vs,rfl,?_,r2}};show Rep U G2 (.lst ds) (.ref a);simp![Rep];exact{a,xs,rfl,p2.gs _ _ qf,(h6.same (qj.upd h4)).same p2.gs}
  |cell ds=>let(a,xs,rfl,h1,h6):=r1;exact{N1,G1,p1.er,Wx.mono h λy h vs G2 H2 p2 r2=>h _ G2 H2 (p1.trans p2) {_,vs,rfl,{a,xs,rfl,p2.hs _ _ h1,h6.same p2.gs},r2}}
  |scr ds=>let(a,xs,rfl,h1,h6):=r1;exact{N1,G1,p1.er,Wx.mono h λy h vs G2 H2 p2 r2=>h _ G2 H2 (p1.trans p2) {_,vs,rfl,{a,xs,rfl,p2.hs.seq h1,h6.same p2.gs},r2}}
theorem qm5(A:All U K ε k X L m):∀o x,cO (m+1) L o=some x->PO X o (tO U K ε Gv Hv (iO L.k x))
 |none,_,h=>by cases h;exact PO.imp qfq λZ H Q ⟨N,G,er,h⟩=>h G H (Po.refl er)
 |some e,_,h=>by
  let(a',h1,rfl):=map_some h;refine PO.imp (qfr (A.r Gv Hv _ _ h1)) λZ H Q hq1=>?_;let(N,G,er,h):=hq1;refine{N,G,er,Wx.mono (Wx.th (x:=iR L.k a' N) h) λx h v G1 H1 p1 r1=>?_};let(rv,N1):=x
  cases rv with
  |val d=>
   cases d with
   |int i=>exact{i,by simpa only[RvR,Rep] using r1,h G1 H1 p1}
   |_=>exact False.elim h
  |_=>exact False.elim h
theorem qm6(A:All U K ε k X L m):∀es x,cF (m+1) L es=some x->PIf X es (tT U K ε Gv Hv (iF L.k x))
 |[],_,h=>by cases h;exact PIf.imp qfL λZ H Q ⟨N,G,er,h⟩=>h G H (Po.refl er)
 |[c],_,h=>by let(a',h1,rfl):=map_some h;exact qfM (A.t Gv Hv _ _ h1)
 | _::_::_,_,h=>by cases h
def qeI:Expr->Bool
 |.UnaryOp .Not _ _=>false
 |.BoolOp ..=>false
 |.IfExp ..=>false
 |.Compare ..=>false
 |_=>true
theorem qb2{e:Expr}(h:qeI e=true)(env:PySem.Env):∀whole,isTrue e env whole=(do let v<-whole;standAt e.pos;holding [v] (truthy v)):=by
 intro whole
 cases e with
 |UnaryOp op a pos=>cases op<;>first|rfl|cases h
 |BoolOp=>cases h
 |IfExp=>cases h
 |Compare=>cases h
 |_=>rfl
theorem qm7(gd:Gd U K ε k X L)(A:All U K ε k X L m)(e:Expr)(x:T)(h:cT (m+1) L e=some x):PT X e (tT U K ε Gv Hv (iT L.k x)):=by
 have gen:qeI e=true->(cE m L e).map .val=some x->PT X e (tT U K ε Gv Hv (iT L.k x)):=λhp h=>by let(a',h1,rfl):=map_some h;refine PT.imp (qc1 (A.r Gv Hv _ _ h1) (qb2 hp X.env)) λZ H Q hq1=>?_;let(N,G,er,h):=hq1;refine{N,G,er,Wx.mono (Wx.th (x:=iR L.k a' N) h) λx h v G1 H1 p1 r1=>?_};let(b,e1,h):=Wx.of (Wx.th h);exact{b,qdt gd p1.er r1 e1,h G1 H1 p1}
 cases e with
 |UnaryOp op a pos=>
  cases op with
  |Not=>let(a',h1,rfl):=map_some h;refine PT.imp (yV (A.t Gv Hv _ _ h1)) λZ H Q hq1=>?_;let(N,G,er,h):=hq1;exact{N,G,er,Wx.mono (Wx.th (x:=iT L.k a' N) h) λx h G1 H1 p1=>h G1 H1 p1}
  |_=>exact gen rfl h
 |BoolOp op vs pos=>
  cases vs with
  |nil=>cases op<;>cases h
  |cons a vs=>
   cases vs with
   |nil=>
    cases op with
    |And=>let(a',h1,rfl):=map_some h;exact PT.imp (PW.pt (qfc (A.t Gv Hv _ _ h1))) λZ H Q h=>h
    |Or=>let(a',h1,rfl):=map_some h;exact PT.imp (PW.pt (qek (A.t Gv Hv _ _ h1))) λZ H Q h=>h
   |cons b l=>
    cases op with
    |And=>
     let(a',b',h1,h2,rfl):=qk h;intro pins s Z H Q I hw;let(N,G,er,h):=hw;refine isTrue_and (thn (A.t Gv Hv _ _ h1 pins s Z H (λc H1=>if c=true then tT U K ε Gv Hv (iT L.k b') Z H1 Q else Q false H1) I ?_) λc s1 ⟨H1,I1,q1⟩=>?_)
     ·refine{N,G,er,Wx.mono (Wx.th (x:=iT L.k a' N) h) λx h G1 H1 p1=>?_};let(d,N1):=x
      cases d with
      |true=>rw[if_pos rfl];exact{N1,G1,p1.er,Wx.mono h λy h G2 H2 p2=>h G2 H2 (p1.trans p2)}
      |false=>rw[if_neg (λz=>by cases z)];exact h G1 H1 p1
     ·cases c with
      |true=>exact A.t Gv Hv _ _ h2 pins s1 Z H1 Q I1 q1
      |false=>exact⟨H1,I1,q1⟩
    |Or=>
     let(a',b',h1,h2,rfl):=qk h;intro pins s Z H Q I hw;let(N,G,er,h):=hw;refine isTrue_or (thn (A.t Gv Hv _ _ h1 pins s Z H (λc H1=>if c=true then Q true H1 else tT U K ε Gv Hv (iT L.k b') Z H1 Q) I ?_) λc s1 ⟨H1,I1,q1⟩=>?_)
     ·refine{N,G,er,Wx.mono (Wx.th (x:=iT L.k a' N) h) λx h G1 H1 p1=>?_};let(d,N1):=x
      cases d with
      |false=>rw[if_neg (λz=>by cases z)];exact{N1,G1,p1.er,Wx.mono h λy h G2 H2 p2=>h G2 H2 (p1.trans p2)}
      |true=>rw[if_pos rfl];exact h G1 H1 p1
     ·cases c with
      |true=>exact⟨H1,I1,q1⟩
      |false=>exact A.t Gv Hv _ _ h2 pins s1 Z H1 Q I1 q1
 |IfExp c a b pos=>cases h
 |Compare a ops bs pos=>
  match ops,bs,h with
  |[op],[b],h=>exact qgm gd A a b op pos h
  |[_,_],[_,_],h=>cases h
  |[],[],h=>cases h
  | [],_::_,h=>cases h
  |[_],[],h=>cases h
  | [_],_::_::_,h=>cases h
  |[_,_],[],h=>cases h
  |[_,_],[_],h=>cases h
  | [_,_],_::_::_::_,h=>cases h
  | _::_::_::_,_,h=>cases h
 |_=>exact gen rfl h
end
section
variable{U:KC}{ε:XK}{K:Frag}{Gv Hv:Hp}{k m:Nat}{X:Cx}{L:Ct}
def qeJ{tg l:Expr}{tl:TE}(hl:PE X l tl):PI X tg l (λZ H R=>tl Z H λx H1=>(∃a,x=.ref a/\(((∃xs,SqL X.K H1 a xs)/\R (Itl X.K a) H1)\/((∃xs,SqT X.K H1 a xs)/\R (Itt X.K a) H1)))\/∃z,x=.str z/\R (Its z) H1):=by
 intro pins s Z H R I h;refine thn (hl pins s Z H _ I h) λv s1 hq1=>?_;let(x,H1,I1,r1,q1):=hq1;rcases q1 with ⟨a,e,q⟩|⟨x,rfl,q⟩
 ·subst e;cases r1;rcases q with ⟨⟨xs,hq⟩,q⟩|⟨⟨xs,hq⟩,q⟩
  ·let(its,rv,p,hz):=I1.list hq;refine wpAny_pyIter_list p.isList ?_;refine{s1.heap.objs.size,[s1.heap.objs.size],_,_,H1,rfl,I1.kept (t':=s1.toks) λb o e=>Heap.get?_push_of_some _ e,qa8 a _,{_,Heap.get?_push_size _ rfl,rfl,rfl},λb hb=>?_,q};have e:b=s1.heap.objs.size:=(-hb:)
   subst e;exact I1.fpOk (Nat.le_refl _) (I1.hok.fresh (Nat.le_refl _))
  ·let(its,rv,p,hz):=I1.tuple hq;refine wpAny_pyIter_tuple (show s1.heap.IsTuple a its.toArray from p) ?_;refine{s1.heap.objs.size,[s1.heap.objs.size],_,_,H1,rfl,I1.kept (t':=s1.toks) λb o e=>Heap.get?_push_of_some _ e,qar a _,{_,Heap.get?_push_size _ rfl,rfl,rfl},λb hb=>?_,q};have e:b=s1.heap.objs.size:=(-hb:)
   subst e;exact I1.fpOk (Nat.le_refl _) (I1.hok.fresh (Nat.le_refl _))
 ·let(t,rfl):=r1
  have fin:∀(T:String) (o:Obj),(T = "str_ascii_iterator"\/T = "str_iterator")->(∀A':Around,A'.handled=none->Walks X.prog X.w A' s1.heap.objs.size [s1.heap.objs.size] [s1.heap.objs.size] x.cps.size (SignAt x) (λi h=>h.IsStrIter s1.heap.objs.size T x t i))->
    (s1.heap.push o).IsStrIter s1.heap.objs.size T x t 0->PIE X pins Z tg R (.ref s1.heap.objs.size) { s1 with heap:=s1.heap.push o }:=λT o hT W st=>by
   refine{s1.heap.objs.size,[s1.heap.objs.size],_,_,H1,rfl,I1.kept (t':=s1.toks) λb o e=>Heap.get?_push_of_some _ e,qdg hT W,st,λb hb=>?_,q};have e:b=s1.heap.objs.size:=(-hb:)
   subst e;exact I1.fpOk (Nat.le_refl _) (I1.hok.fresh (Nat.le_refl _))
  cases ha:x.cps.all (· < 128)
  ·exact wpAny_pyIter_wide ha (fin _ _ (.inr rfl) (λA' hA=>Walks.strWide hA _ x t) ⟨_,Heap.get?_push_size _ rfl,rfl,rfl⟩)
  ·exact wpAny_pyIter_ascii ha (fin _ _ (.inl rfl) (λA' hA=>Walks.strAscii hA _ x t) ⟨_,Heap.get?_push_size _ rfl,rfl,rfl⟩)
theorem qdx(gd:Gd U K ε k X L){x:Str}{i:Nat}(hi:qa4 L x=some i)(pos:Pos):PE X (.Name x pos) (tL U K ε Gv Hv (Yg (.var i) (iR L.k (.var i)))):=by
 refine PE.imp (Qj gd hi pos) λZ H Q hq1=>?_;let(N,G,er,h):=hq1;have h:Wx _ (slL N i) _:=h;unfold slL at h
 cases q:N[i]? with
 |none=>rw[q]at h;exact False.elim h
 |some s=>
  rw[q]at h;have w:=er.sl i s q
  cases s with
  |no=>exact False.elim h
  |val d=>
   let(v,z,r):=w
   cases d with
   |lst l=>simp![Rep]at r;let(a,xs,rfl,r1,r2):=r;exact{_,z,h _ G H (Po.refl er) {a,xs,rfl,r2,.inl r1}}
   |str y=>simp![Rep]at r;subst r;exact{_,z,h _ G H (Po.refl er) ⟨y,rfl,rfl⟩}
   |tup l=>simp![Rep]at r;let(a,xs,rfl,r1,r2):=r;exact{_,z,h _ G H (Po.refl er) ⟨a,xs,rfl,r2,r1⟩}
   |_=>exact False.elim h
  |own l=>let(a,xs,z,p,r):=er.froze q;simp![Rep]at r;let(a',xs',e,r1,r2):=r;cases e;exact{_,z,h _ _ H p {a,xs',rfl,r2,.inl r1}}
  |bor l=>let(a,xs,z,r1,r4):=w;exact{_,z,h _ G H (Po.refl er) {a,xs,rfl,r4,.inr (SqL.of r1)}}
  |scr l=>let(a,xs,z,r1,r4):=w;exact{_,z,h _ G H (Po.refl er) {a,xs,rfl,r4,.inr r1}}
theorem qm8(gd:Gd U K ε k X L)(A:All U K ε k X L m)(e:Expr)(x:E)(h:cL (m+1) L e=some x):PE X e (tL U K ε Gv Hv (Yg x (iR L.k x))):=by
 have gen:(cE m L e).bind Yi=some x->PE X e (tL U K ε Gv Hv (Yg x (iR L.k x))):=λh=>by
  let(y,h1,h2):=Option.bind_eq_some_iff.mp h;let(rfl,hv):=zG h2;refine PE.imp (A.r Gv Hv _ _ h1) λZ H Q hq1=>?_;let(N,G,er,h):=hq1;rw[qge hv]at h;refine{N,G,er,Wx.mono (Wx.th h) λx h v G1 H1 p1 r1=>?_};let(rv,N1):=x
  cases rv with
  |val d=>
   cases d with
   |lst l=>simp![RvR,Rep]at r1;let(a,xs,rfl,q1,q2):=r1;exact h _ G1 H1 p1 ⟨a,xs,rfl,q2,.inl q1⟩
   |str y=>simp![RvR,Rep]at r1;subst r1;exact h _ G1 H1 p1 ⟨y,rfl,rfl⟩
   |tup l=>simp![RvR,Rep]at r1;let(a,xs,rfl,q1,q2):=r1;exact h _ G1 H1 p1 ⟨a,xs,rfl,q2,q1⟩
   |_=>exact False.elim h
  |tmp l=>let(a,xs,rfl,h1,h2,h3,h4,h5,h6):=r1;exact h _ _ H1 (p1.freeze h1 h2 h3 h4 h5) ⟨a,xs,rfl,h6.same (qj.upd h4),.inl qf⟩
  |_=>exact False.elim h
 cases e with
 |Name x pos=>let(i,h1,rfl):=map_some h;exact qdx gd h1 pos
 |_=>exact gen h
def qb3{G:Hp}{a:Addr}{xs:List V}{l:List D}(h:G a=some (.lst xs)\/SqL K Hv a xs)(r:ql U G l xs):ItR U Hv G (Itl K a) l:=by
 intro i G1 H1 s1 s2 s3;have hq:SqL K H1 a xs:=h.elim (λz=>SqL.of (s3 _ _ (s1 _ _ z))) λz=>s2.seq z;refine{λd e=>?_,λe=>{xs,hq,by rw[<-r.len];omega}};let(v,e1,e2):=r.atD e;refine{⟨xs,v,hq,e1⟩,λx H' ⟨z1,z2⟩=>{G1,by rw[z1];exactλ_ _ q=>q,λ_ _ q=>q,by rw[z1];exact s3,λ_ o q=>.inl ⟨o,q⟩,?_}}
 have:=z2 xs hq
 rw[e1]at this;cases this;exact e2.same s1
def qeK{G:Hp}{a:Addr}{xs:List V}{l:List D}(h:G a=some (.tup xs))(r:ql U G l xs):ItR U Hv G (Itt K a) l:=by
 intro i G1 H1 s1 s2 s3;have hq:SqT K H1 a xs:=SqT.of (s3 _ _ (s1 _ _ h));refine{λd e=>?_,λe=>{xs,hq,by rw[<-r.len];omega}};let(v,e1,e2):=r.atD e;refine{⟨xs,v,hq,e1⟩,λx H' ⟨z1,z2⟩=>{G1,by rw[z1];exactλ_ _ q=>q,λ_ _ q=>q,by rw[z1];exact s3,λ_ o q=>.inl ⟨o,q⟩,?_}}
 have:=z2 xs hq
 rw[e1]at this;cases this;exact e2.same s1
def qiI{G:Hp}{x:Str}:ItR U Hv G (Its x) (qdk x):=by
 intro i G1 H1 s1 s2 s3;have hl:(qdk x).length=x.cps.size:=by simp[qdk]
 refine{λd e=>?_,λe=>by rw[<-e,hl];rfl};unfold qdk at e;rw[List.getElem?_map]at e;let(c,e1,rfl):=Option.map_eq_some_iff.mp e;rw[Array.getElem?_toList]at e1;refine{(Array.getElem?_eq_some_iff.mp e1).1,λv H' ⟨z1,c',z2,z3⟩=>{G1,by rw[z1];exactλ_ _ q=>q,λ_ _ q=>q,by rw[z1];exact s3,λ_ o q=>.inl ⟨o,q⟩,?_}};rw[e1]at z2;cases z2;rw[z3];simp![Rep]
def qiJ{G:Hp}{lo hi:Int}:ItR U Hv G (Itr lo (hi - lo).toNat) (zF lo hi):=by
 intro i G1 H1 s1 s2 s3;refine{λd e=>?_,λe=>?_}
 ·unfold zF at e;rw[List.getElem?_map]at e;let(j,e1,rfl):=Option.map_eq_some_iff.mp e;let(h1,h2):=List.getElem?_eq_some_iff.mp e1;have hi':i < (hi - lo).toNat:=(-h1:)
  have hj:j=i:=by rw[<-h2];simp
  subst hj;refine{hi',λx H' ⟨z1,z2⟩=>{G1,by rw[z1];exactλ_ _ q=>q,λ_ _ q=>q,by rw[z1];exact s3,λ_ o q=>.inl ⟨o,q⟩,?_}};rw[z2];simp![Rep]
 ·have hl:(zF lo hi).length=(hi - lo).toNat:=by simp![zF,List.length_map,List.length_range]
  show(hi - lo).toNat<=i;omega
def qgo{G H:Hp}{T:Addr}{x y:V}{d e:D}(sub:qj G H)(hT:H T=none)(hx:Rep U G d x)(hy:Rep U G e y) :
  ∃G',qj H (upd H T (.tup [x,y]))/\qj G G'/\qj G' (upd H T (.tup [x,y]))/\(∀a o,G' a=some o->(∃o',G a=some o')\/H a=none)/\Rep U G' (.tup [d,e]) (.ref T):=by
 have gT:G T=none:=qj.none sub hT;have gs:qj G (upd G T (.tup [x,y])):=qj.upd gT;refine{upd G T (.tup [x,y]),qj.upd hT,gs,λb u q=>?_,λb u q=>?_,?_}
 ·by_cases hb:b=T
  ·subst hb;rw[qf]at q ⊢;exact q
  ·rw[qc hb]at q ⊢;exact sub b u q
 ·by_cases hb:b=T
  ·subst hb;exact .inr hT
  ·rw[qc hb]at q;exact .inl ⟨u,q⟩
 ·simp![Rep];exact{T,_,rfl,qf,.cons (hx.same gs) %[hy.same gs|0]}
def qiK{G:Hp}{a:Addr}{xs:List V}{l:List D}(h:G a=some (.lst xs)\/SqL K Hv a xs)(r:ql U G l xs):ItR U Hv G (Ite K a) (Jj l):=by
 intro i G1 H1 s1 s2 s3;have hq:SqL K H1 a xs:=h.elim (λz=>SqL.of (s3 _ _ (s1 _ _ z))) λz=>s2.seq z;have hlen:(Jj l).length=l.length:=by simp[Jj]
 refine{λd e=>?_,λe=>{xs,hq,by rw[<-r.len];omega}};have hi:i < l.length:=by rw[<-hlen];exact(List.getElem?_eq_some_iff.mp e).1
 have e0:(Jj l)[i]?=some (.tup [.int i,l[i]]):=by unfold Jj;rw[List.getElem?_zipWith];simp[hi]
 rw[e0]at e;cases e;let(v,e1,e2):=r.atD (List.getElem?_eq_getElem hi);refine{⟨xs,v,hq,e1⟩,λx H' z=>?_};let(T,x',rfl,hT,rfl,z2):=z
 have:=z2 xs hq
 rw[e1]at this;cases this;exact qgo s3 hT (by simp![Rep]) (e2.same s1)
def qb4{i:Int}(h:qR i=true):-(2 ^ 62)<=i/\i < 2 ^ 62:=by
 unfold qR at h
 simpa [Bool.and_eq_true] using h
theorem qdy(gd:Gd U K ε k X L)(A:All U K ε k X L m)(tg e:Expr)(x:I)(h:(cL m L e).map .seq=some x):PI X tg e (tI U K ε Gv Hv (iI L.k x)):=by
 let(a',h1,rfl):=map_some h;refine PI.imp (qeJ (A.l Gv Hv _ _ h1)) λZ H Q hq1=>?_;let(N,G,er,h):=hq1;refine{N,G,er,Wx.mono (Wx.th (x:=Yg a' (iR L.k a') N) h) λx h v G1 H1 p1 r1=>?_};let((b,l),N1):=x
 cases b with
 |str=>let(y,rfl,rfl):=r1;exact .inr ⟨y,rfl,h _ G1 H1 p1 qiI⟩
 |tup=>let(a,xs,rfl,r2,r3):=r1;exact .inl ⟨a,rfl,.inr ⟨⟨xs,SqT.of (p1.er.sub _ _ r3)⟩,h _ G1 H1 p1 (by rw[gd.hK];exact qeK r3 r2)⟩⟩
 |lst=>let(a,xs,rfl,r2,r3):=r1;refine .inl ⟨a,rfl,.inl ⟨⟨xs,?_⟩,h _ G1 H1 p1 (by rw[gd.hK];exact qb3 r3 r2)⟩⟩;rw[gd.hK];exact r3.elim (λz=>SqL.of (p1.er.sub _ _ z)) λz=>p1.er.base.seq z
def qiL{G H:Hp}{N:Env}{Z:L2.St}{a:Addr}{xs:List V}(gd:Gd U K ε k X L)(er:ER U K Gv Hv G H N Z)(r:G a=some (.lst xs)\/SqL K Hv a xs):∃xs,SqL X.K H a xs:=by rw[gd.hK];exact{xs,r.elim (λz=>SqL.of (er.sub _ _ z)) λz=>er.base.seq z}
def qgp(gd:Gd U K ε k X L)(A:All U K ε k X L m)(tg a:Expr)(f:Str)(p q:Pos)(x:I)(hg:Gl X f)(h:oif (!zc a) (if f = "range" then (cE m L a).map .rng else if f = "enumerate" then oif (qga tg) ((cL m L a).map .enum) else none)=some x) :
  PI X tg (.Call (.Name f p) [a] [] q) (tI U K ε Gv Hv (iI L.k x)):=by
 let(hs,h):=qh h;have hs:zc a=false:=(-hs:)
 by_cases h1:f = "range"
 ·subst h1;rw[if_pos rfl]at h;let(a',h1,rfl):=map_some h;refine PI.imp (qa9 hg (gd.blt _ (2:)) (qg (A.r Gv Hv _ _ h1) qq (qi hs)) (qi hs)) λZ H Q hq1=>?_;let(N,G,er,h):=hq1;refine{N,G,er,Wx.mono (Wx.th (x:=iR L.k a' N) h) λx h v G1 H1 p1 r1=>?_}
  cases e1:x.1.int? with
  |none=>rw[e1]at h;exact False.elim h
  |some n=>
   rw[e1]at h;let(hz,h):=Wx.iff h;let(z1,z2):=qb4 hz;refine{n,by rw[r1.int e1],z1,z2,h _ G1 H1 p1 ?_}
   have:=qiJ (U:=U) (Hv:=Hv) (G:=G1) (lo:=0) (hi:=n)
   rw[Int.sub_zero]at this;exact this
 rw[if_neg h1]at h
 by_cases h2:f = "enumerate"
 ·subst h2;rw[if_pos rfl]at h;let(ht,h):=qh h;let(a',h1,rfl):=map_some h
  cases tg with
  |Tuple es j tp=>
   refine PI.imp (qfW hg (gd.blt _ (2:)) (qg (A.l Gv Hv _ _ h1) qq (qi hs)) (qi hs)) λZ H Q hq1=>?_;let(N,G,er,h):=hq1;refine{N,G,er,Wx.mono (Wx.th (x:=Yg a' (iR L.k a') N) h) λx h v G1 H1 p1 r1=>?_};let((b,l),N1):=x
   cases b with
   |lst=>let(c,xs,rfl,r2,r3):=r1;exact{c,rfl,qiL gd p1.er r3,h _ G1 H1 p1 (by rw[gd.hK];exact qiK r3 r2)}
   |_=>exact False.elim h
  |_=>cases ht
 rw[if_neg h2]at h;cases h
theorem qm9(gd:Gd U K ε k X L)(A:All U K ε k X L m)(tg e:Expr)(x:I)(h:cI (m+1) L (qga tg) e=some x):PI X tg e (tI U K ε Gv Hv (iI L.k x)):=by
 cases e with
 |Call fn es kws q=>
  cases fn with
  |Name f p=>
   cases kws with
   |nil=>
    have h:(if (decide (f = "range")||decide (f = "enumerate")||decide (f = "zip")||decide (f = "reversed"))=true then _ else _)=some x:=h
    by_cases hf:(decide (f = "range")||decide (f = "enumerate")||decide (f = "zip")||decide (f = "reversed"))=true
    ·rw[if_pos hf]at h;let(hn,h):=qh h;simp![Bool.and_eq_true]at hn;have hg:=gd.glo _ hn.1.2
     match es,h with
     |[a],h=>exact qgp gd A tg a f p q x hg h
     |[_,_],h=>cases h
     |[_,_,_],h=>cases h
     |[],h=>cases h
     | _::_::_::_::_,h=>cases h
    ·rw[if_neg hf]at h;exact qdy gd A tg _ x h
   |cons kw kws=>exact qdy gd A tg _ x h
  |_=>exact qdy gd A tg _ x h
 |_=>exact qdy gd A tg _ x h
end
section
variable{U:KC}{ε:XK}{K:Frag}{Gv Hv:Hp}{k m:Nat}{X:Cx}{L:Ct}{x:E}
theorem JP:∀{m:Nat} {es:List Expr} {l:Es},cAs m L es=some l->es.any zc=false
 |0,_,_,h=>nomatch h
 | m+1,[],_,_=>rfl
 | m+1,e::es,_,h=>by
  let(hs,h):=qh h;let(a,b,_,h2,_):=qk h;rw[List.any_cons,JP h2,Bool.or_false]
  simpa using hs
def Yo{m:Nat}{l:Es}(h:cAs m L []=some l):l=.nil:=by
 cases m<;>cases h
 rfl
theorem qP{env:PySem.Env}{pos:Pos}:∀{es:List Expr},es.any zc=false->(backTo pos (starEach es env)).any (·.1)=false
 |[],_=>rfl
 | e::l,h=>by simp![List.any_cons,Bool.or_eq_false_iff]at h;rw[qi h.1];show(false||(backTo pos (starEach l env)).any (·.1))=false;rw[qP h.2];rfl
def XP.call{G H G1 H1:Hp}{N N1:Env}{Z:L2.St}(p:Po U K Gv Hv Z G H N G1 H1 N1):∀c l,XP U Gv Hv ε c l->XP U G1 H1 ε c l:=λc l h od G' H' h1 g1 s n x=>
 h od G' H' (λb o q=>h1 b o (p.er.base b o q)) (λb o q=>g1 b o (p.er.g0 b o q)) s (λa o q=>by
  rcases n a o q with ⟨o',z⟩|z
  ·exact p.er.fresh a o' z
  ·exact .inr (qj.none p.er.base z)) x
theorem ReR.rv{G H G1 H1 G2 H2:Hp}{N N1:Env}{Z:L2.St}{r:Rv}{v:V}(p:Po U K Gv Hv Z G H N G1 H1 N1)(hs:qj H1 H2)(gs:qj G1 G2)(sub:qj G2 H2)(new:∀a o,G2 a=some o->(∃o',G1 a=some o')\/H1 a=none)(h:ReR U G2 H2 H1 r v) :
  Po U K Gv Hv Z G H N G2 H2 N1/\RvR U K Hv H G2 H2 N1 Z r v:=by
 refine{p.trans (Po.more p.er hs gs sub new),?_}
 cases r with
 |val d=>exact h
 |tmp ds=>let(a,xs,rfl,h1,h2,h3,h4):=h;exact{a,xs,rfl,h1,qj.none p.hs h2,qj.none p.er.base h2,h3,p.er.notOwn h2,h4}
 |cell ds=>exact False.elim h
 |scr ds=>exact False.elim h
theorem qdz(gd:Gd U K ε k X L)(A:All U K ε k X L m)(f:Str)(es:List Expr)(p q:Pos)(hok:qK f=true)(hgl:glB L.sc f=true)(ht:L.tab.contains f=true)(h:(cAs m L es).map (.call f)=some x):PE X (.Call (.Name f p) es [] q) (tR U K ε Gv Hv (iR L.k x)):=by
 let(l',h1,rfl):=map_some h;have hs:=JP h1;let(fa,fd,ps,F,hm,hk,hb):=gd.fns f ht;let(n1,n2,n3):=qx hok
 have key:∀Z H Q,tR U K ε Gv Hv (iR L.k (.call f l')) Z H Q->qbg (spF U K L.cl f) [] ε (tAs U K ε Gv Hv (iAs L.k l')) Z H Q:=λZ H Q ⟨N,G,er,h⟩=>by refine{N,G,er,Wx.mono (Wx.th (x:=iAs L.k l' N) h) λx h vs G1 H1 p1 r1=>?_};show spF U K L.cl f (vs++[]) H1 Q ε;rw[List.append_nil];refine{G1,x.1,p1.er.sub,r1,Wx.mono2 (Wx.th h) (XP.call p1) λr h v G2 H2 hs gs sub new rr=>?_};let(z1,z2):=ReR.rv p1 hs gs sub new rr;exact h v G2 H2 z1 z2
 cases es with
 |nil=>cases Yo h1;refine PE.imp (ZD F gd.room (gd.glo f hgl) hm hk hb .nil gd.ps n1) λZ H Q h=>?_;let(N,G,er,h):=key Z H Q h;exact h [] G H (Po.refl er) rfl
 |cons e l=>simp![List.any_cons,Bool.or_eq_false_iff]at hs;exact PE.imp (zz F gd.room (gd.glo f hgl) hm hk hb .nil gd.ps (A.as Gv Hv _ _ h1) n1 (qi hs.1) (qP hs.2)) key
theorem Zc:∀{m:Nat} {es:List Expr} {l:Es},cEs m L es=some l->es.any zc=false
 |0,_,_,h=>nomatch h
 | m+1,[],_,_=>rfl
 | m+1,e::es,_,h=>by
  let(hs,h):=qh h;let(a,b,_,h2,_):=qk h;rw[List.any_cons,Zc h2,Bool.or_false]
  simpa using hs
theorem qb5{G H:Hp}:∀{ds:List D} {vs:List V},ql U G ds vs->jW U K G H (ds.map .val) vs
 |[],vs,h=>by
  show vs=[]
  simpa only[ql] using h
 | d::ds,vs,h=>by simp![ql]at h;let(v,r,rfl,h1,h2):=h;exact{v,r,rfl,h1,qb5 h2}
theorem qdA(gd:Gd U K ε k X L)(A:All U K ε k X L m)(f:Str)(es:List Expr)(p q:Pos)(hok:qK f=true)(hgl:glB L.sc f=true)(ht:L.tab.contains f=true)(h:(cEs m L es).map (.calF f)=some x):PE X (.Call (.Name f p) es [] q) (tR U K ε Gv Hv (iR L.k x)):=by
 let(l',h1,rfl):=map_some h;have hs:=Zc h1;let(fa,fd,ps,F,hm,hk,hb):=gd.fns f ht;let(n1,n2,n3):=qx hok
 have key:∀Z H Q,tR U K ε Gv Hv (iR L.k (.calF f l')) Z H Q->qbg (spF U K L.cl f) [] ε (tEs U K ε Gv Hv (iEs L.k l')) Z H Q:=λZ H Q ⟨N,G,er,h⟩=>by refine{N,G,er,Wx.mono (Wx.th (x:=iEs L.k l' N) h) λx h vs G1 H1 p1 r1=>?_};show spF U K L.cl f (vs++[]) H1 Q ε;rw[List.append_nil];refine{G1,x.1.map .val,p1.er.sub,qb5 r1,Wx.mono2 (Wx.th h) (XP.call p1) λr h v G2 H2 hs gs sub new rr=>?_};let(z1,z2):=ReR.rv p1 hs gs sub new rr;exact h v G2 H2 z1 z2
 cases es with
 |nil=>
  have e:l'=.nil:=by cases m<;>cases h1;rfl
  subst e;refine PE.imp (ZD F gd.room (gd.glo f hgl) hm hk hb .nil gd.ps n1) λZ H Q h=>?_;let(N,G,er,h):=key Z H Q h;exact h [] G H (Po.refl er) .nil
 |cons e l=>simp![List.any_cons,Bool.or_eq_false_iff]at hs;exact PE.imp (zz F gd.room (gd.glo f hgl) hm hk hb .nil gd.ps (A.es Gv Hv _ _ h1) n1 (qi hs.1) (qP hs.2)) key
def qdB(gd:Gd U K ε k X L)(A:All U K ε k X L m)(f:Str)(a:Expr)(p q:Pos)(hgl:glB L.sc f=true)(h:oif (!zc a) (o2 (qk7 f) (cE m L a) E.b1)=some x):PE X (.Call (.Name f p) [a] [] q) (tR U K ε Gv Hv (iR L.k x)):=by
 let(hs,h):=qh h;have s1:zc a=false:=(-hs:)
 let(y,a',h1,h2,rfl):=qk h
 have key:∀Z H Q,tR U K ε Gv Hv (iR L.k (.b1 y a')) Z H Q->tCB (rC1 U K (XP U Gv Hv ε) Gv Hv y.go) (qaz (tR U K ε Gv Hv (iR L.k a')) qfm) Z H Q:=λZ H Q ⟨N,G,er,h⟩=>{N,G,er,Wx.mono (Wx.th (x:=iR L.k a' N) h) λx h v G1 H1 p1 r1=>{x.2,Z,G1,H,x.1,v,rfl,p1.er,r1,Wx.mono (Wx.th h) λz h u G2 H2 p2 r2=>h u G2 H2 (p1.trans p2) (r2.back p1.hs)}}
 have pa:=qg (A.r Gv Hv _ _ h2) qq (qi s1);unfold qk7 at h1
 split at h1
 ·rename_i e;cases h1;subst e;exact PE.imp (qN (qiy (Ξ:=XP U Gv Hv ε) (Gv:=Gv) (Hv:=Hv) gd) (gd.glo _ hgl) (gd.blt _ (2:)) PySem.boot_len pa (2:) (2:) (qi s1) rfl) key
 split at h1
 ·rename_i e;cases h1;subst e;exact PE.imp (qX (qgj (Ξ:=XP U Gv Hv ε) (Gv:=Gv) (Hv:=Hv) gd) (gd.glo _ hgl) (gd.blt _ (2:)) PyProof.Rows.boot_list pa (2:) (2:) (qi s1) rfl) key
 split at h1
 ·rename_i e;cases h1;subst e;exact PE.imp (qX (qiz (Ξ:=XP U Gv Hv ε) (U:=U) (K:=K) (Gv:=Gv) (Hv:=Hv)) (gd.glo _ hgl) (gd.blt _ (2:)) PyProof.Rows.boot_int pa (2:) (2:) (qi s1) rfl) key
 split at h1
 ·rename_i e;cases h1;subst e;exact PE.imp (qN (qb1 (Ξ:=XP U Gv Hv ε) (Gv:=Gv) (Hv:=Hv) gd) (gd.glo _ hgl) (gd.blt _ (2:)) PyProof.Rows.boot_sorted pa (2:) (2:) (qi s1) rfl) key
 split at h1
 ·rename_i e;cases h1;subst e;exact PE.imp (qX (qds (Ξ:=XP U Gv Hv ε) (Gv:=Gv) (Hv:=Hv) gd) (gd.glo _ hgl) (gd.blt _ (2:)) PyProof.Rows.boot_tuple pa (2:) (2:) (qi s1) rfl) key
 cases h1
def qdC(gd:Gd U K ε k X L)(A:All U K ε k X L m)(f:Str)(a b:Expr)(p q:Pos)(hgl:glB L.sc f=true)(h:oif (!(zc a||zc b)) (o2 (qk8 f) (o2 (cE m L a) (cE m L b) Prod.mk) λf p=>E.b2 f p.1 p.2)=some x):PE X (.Call (.Name f p) [a,b] [] q) (tR U K ε Gv Hv (iR L.k x)):=by
 let(hs,h):=qh h;have hs:(zc a||zc b)=false:=(-hs:)
 rw[Bool.or_eq_false_iff]at hs;let(s1,s2):=hs;let(y,z,h1,h2,rfl):=qk h;let(a',b',h3,h4,rfl):=qk h2
 have key:∀Z H Q,tR U K ε Gv Hv (iR L.k (.b2 y a' b')) Z H Q->tCB (rC2 U K (XP U Gv Hv ε) Gv Hv y.go) (qaz (tR U K ε Gv Hv (iR L.k a')) (qaz (tR U K ε Gv Hv (iR L.k b')) qfm)) Z H Q:=λZ H Q ⟨N,G,er,h⟩=>{N,G,er,Wx.mono (Wx.th (x:=iR L.k a' N) h) λx h v G1 H1 p1 r1=>{x.2,G1,p1.er,Wx.mono (Wx.nox (Wx.th (x:=noX (iR L.k b' x.2)) h)) λy h w G2 H2 p2 r2=>{y.2,Z,G2,H,H1,x.1,y.1,v,w,rfl,p2.er,r1.keep p2,r2,Wx.mono (Wx.th h) λz h u G3 H3 p3 r3=>h u G3 H3 (p1.trans (p2.trans p3)) (r3.back (p1.trans p2).hs)}}}
 have sa:(backTo q (starEach [b] X.env)).any (·.1)=false:=qP (by simp[s2]);have pa:=qg (A.r Gv Hv _ _ h3) (qg (A.r Gv Hv _ _ h4) qq (qi s2)) (qi s1);unfold qk8 at h1
 split at h1
 ·rename_i e;cases h1;subst e;exact PE.imp (qN (qiA (Ξ:=XP U Gv Hv ε) (Gv:=Gv) (Hv:=Hv) gd) (gd.glo _ hgl) (gd.blt _ (2:)) PyProof.Rows.boot_max pa (2:) (2:) (qi s1) sa) key
 split at h1
 ·rename_i e;cases h1;subst e;exact PE.imp (qN (qiB (Ξ:=XP U Gv Hv ε) (Gv:=Gv) (Hv:=Hv) gd) (gd.glo _ hgl) (gd.blt _ (2:)) PyProof.Rows.boot_min pa (2:) (2:) (qi s1) sa) key
 cases h1
def qgq:bootBuiltins "ValueError" = some (.type "ValueError"):=(3:)
def tyN:D->String
 |.non=>"NoneType" |.bl _=>"bool" |.int _=>"int" |.str _=>"str" |.lst _=>"list" |.tup _=>"tuple" |.ins ..=>"object" |.exc ..=>"object" |.dct ..=>"object"
def Ty.nm:Ty->String
 |.int=>"int" |.bool=>"bool" |.str=>"str" |.list=>"list" |.tuple=>"tuple"
theorem qlg{G H Hb:Hp}{N:Env}{Z:L2.St}{r:Rv}{x:V}{t:Ty}{b:Bool}(er:ER U K Gv Hv G H N Z)(h:RvR U K Hv Hb G H N Z r x)(e:t.go r=some b):TyOf K H x (.type (tyN r.data)):=by
 cases r with
 |val d=>
  cases d<;>simp![RvR,Rep]at h
  ·subst h;exact .non
  ·subst h;exact .bl _
  ·subst h;exact .int _
  ·subst h;exact .str _
  ·let(a,xs,rfl,h1,_):=h;exact .lst (er.sub _ _ h1)
  ·let(a,xs,rfl,h1,_):=h;exact .tup (er.sub _ _ h1)
  ·cases t<;>cases e
  ·cases t<;>cases e
  ·cases t<;>cases e
 |tmp l=>let(a,xs,rfl,h1,_):=h;exact .lst h1
 |cell l=>let(a,xs,rfl,h1,_):=h;exact .lst h1
 |scr l=>cases e
def qlh{G H Hb:Hp}{N:Env}{Z:L2.St}{d:D}{x:V}(er:ER U K Gv Hv G H N Z)(h:RvR U K Hv Hb G H N Z (.val d) x){K':Frag}(e:plB d=true):TyOf K' H x (.type (tyN d)):=by
 cases d<;>simp![RvR,Rep]at h
 ·subst h;exact .non
 ·subst h;exact .bl _
 ·subst h;exact .int _
 ·subst h;exact .str _
 ·let(a,xs,rfl,h1,_):=h;exact .lst (er.sub _ _ h1)
 ·let(a,xs,rfl,h1,_):=h;exact .tup (er.sub _ _ h1)
 ·cases e
 ·cases e
 ·cases e
def qiM{d:D}(e:plB d=true):tyN d∈plN:=by cases d<;>first|exact Bool.noConfusion e|simp[tyN,plN]
theorem qiN{r:Rv}{t:Ty}{b:Bool}(e:t.go r=some b):PySem.W.kitOne K (.type (tyN r.data)) (.type t.nm)=some b:=by
 have main:∀d:D,t.of d=some b->PySem.W.kitOne K (.type (tyN d)) (.type t.nm)=some b:=λd e=>by
  have q:(t.of d).elim True λb=>PySem.W.kitOne K (.type (tyN d)) (.type t.nm)=some b:=by cases t<;>cases d<;>first|exact True.intro|rfl
  rw[e]at q;exact q
 cases r with
 |val d=>exact main d e
 |tmp l=>exact main (.lst l) e
 |cell l=>exact main (.lst l) e
 |scr l=>cases e
theorem qgr{cs:Cs}{r:Rv}{b:Bool}(h:qk6 cs r=some b):∃c ns ds,r=.val (.ins c ns ds)/\cs.pt c=true/\b=false:=by
 cases r with
 |val d=>
  cases d with
  |ins c ns ds=>have h:(if cs.pt c=true then some false else none)=some b:=h;let(h1,h2):=Yh h;cases h2;exact⟨c,ns,ds,rfl,h1,rfl⟩
  |_=>cases h
 |_=>cases h
def qgs(t:Ty):t.nm∈plN:=by cases t<;>simp[Ty.nm,plN]
def Qm{X:Cx}:zy X (.builtin "isinstance") (λvs H Q=>∃x c t cv b,vs=[x,c]/\TyOf X.K H x t/\qH c cv/\(∀u,qH c u->u=cv)/\PySem.W.kitOne X.K t cv=some b/\Q (.bl b) H):=by intro pins s Z H xs us Q I r h;let(x,c,t,cv,b,rfl,ty,rc,uq,e,q):=h;let(u,v,rfl,ru,rv):=QV r;obtain rfl:v=cv:=uq v rv;exact YW I ru ty e λtk=>{.bl b,H,I.tok tk,rfl,q}
theorem qiO(gd:Gd U K ε k X L)(A:All U K ε k X L m)(a:Expr)(t:Str)(p tp q:Pos)(hgl:glB L.sc "isinstance" = true)
  (h:oif (qK t&&glB L.sc t&&(qa2 L.N t).isNone&&!zc a) (match qkq t with |some y=>(cE m L a).map (E.isi y) |none=>(cE m L a).map (.isc t))=some x):PE X (.Call (.Name "isinstance" p) [a,.Name t tp] [] q) (tR U K ε Gv Hv (iR L.k x)):=by
 let(hc,h):=qh h;simp![Bool.and_eq_true,Bool.not_eq_true']at hc;let(((c1,c2),c3),s1):=hc
 cases hy:qkq t with
 |some y=>
  rw[hy]at h;let(a',h1,rfl):=map_some h
  have hb:PE X (.Name t tp) (tC (.ty y.nm)):=by
   unfold qkq at hy
   split at hy
   ·rename_i e;cases hy;subst e;exact yg (gd.glo _ c2) (gd.blt _ (2:)) PyProof.Rows.boot_int rfl
   split at hy
   ·rename_i e;cases hy;subst e;exact yg (gd.glo _ c2) (gd.blt _ (2:)) PyProof.Rows.boot_bool rfl
   split at hy
   ·rename_i e;cases hy;subst e;exact yg (gd.glo _ c2) (gd.blt _ (2:)) PyProof.Rows.boot_str rfl
   split at hy
   ·rename_i e;cases hy;subst e;exact yg (gd.glo _ c2) (gd.blt _ (2:)) PyProof.Rows.boot_list rfl
   split at hy
   ·rename_i e;cases hy;subst e;exact yg (gd.glo _ c2) (gd.blt _ (2:)) PyProof.Rows.boot_tuple rfl
   cases hy
  refine PE.imp (qN qde (gd.glo _ hgl) (gd.blt _ (2:)) PyProof.Rows.boot_isinstance (qg (A.r Gv Hv _ _ h1) (qg hb qq rfl) (qi s1)) (2:) (2:) (qi s1) rfl) λZ H Q hq1=>?_;let(N,G,er,h):=hq1;refine{N,G,er,Wx.mono (Wx.th (x:=iR L.k a' N) h) λx h v G1 H1 p1 r1=>?_};let(b,e1,h):=Wx.of (Wx.th h)
  cases e0:y.go x.1 with
  | some b'=>unfold tyG at e1;rw[e0]at e1;cases e1;exact{v,y.nm,_,b,rfl,by rw[gd.hK];exact qlg p1.er r1 e0,by rw[gd.hK];exact qiN e0,h _ G1 H1 p1 (by simp![RvR,Rep])}
  |none=>unfold tyG at e1;rw[e0]at e1;let(c,ns,ds,ex,hc,rfl):=qgr e1;let(C,hC,hty,kt):=gd.pts c hc;rw[ex]at r1;simp![RvR,Rep]at r1;let(p',dx,C',xs,hc',rfl,h4,_,_):=r1;rw[hC]at hc';cases hc';exact{.ref p',y.nm,_,false,rfl,hty _ _ _ _ (p1.er.sub _ _ h4),kt _ (qgs y),h _ G1 H1 p1 (by simp![RvR,Rep])}
 |none=>
  rw[hy]at h;let(a',h1,rfl):=map_some h;rintro pins s Z H Q I ⟨N,G,er,h⟩;have h2:=Wx.th (x:=noX (iR L.k a' N)) h
  cases e1:iR L.k a' N with
  |exc c l=>rw[e1]at h2;exact False.elim h2
  |no=>rw[e1]at h2;exact False.elim h2
  |ok x=>
   rw[e1]at h2;let(b,e2,h3):=Wx.of (Wx.th (x:=R.of (YK L.cs x.1 t)) h2)
   have e2:(∃c ns ds,x.1=.val (.ins c ns ds)/\L.cs.sub c t=some b)\/(∃d,x.1=.val d/\L.cs.pl t=true/\plB d=true/\b=false)\/∃C ns ds,x.1=.val (.exc C ns ds)/\L.cs.xs C t=some b:=by
    let(r,env):=x
    have pl:∀{d:D},(if (L.cs.pl t&&plB d)=true then some false else none)=some b->L.cs.pl t=true/\plB d=true/\b=false:=λ{d} h=>by let(h1,h2):=Yh h;rw[Bool.and_eq_true]at h1;cases h2;exact⟨h1.1,h1.2,rfl⟩
    cases r with
    |val d=>
     cases d with
     |ins c ns ds=>exact .inl ⟨c,ns,ds,rfl,e2⟩
     |exc c ns ds=>exact .inr (.inr ⟨c,ns,ds,rfl,e2⟩)
     |_=>exact .inr (.inl ⟨_,rfl,pl e2⟩)
    |_=>cases e2
   rcases e2 with ⟨c,ns,ds,ex,e2⟩|⟨d,ex,e5,e4,rfl⟩|⟨C,ns,ds,ex,e2⟩
   case inr.inl=>let(T,hT,kt):=gd.pls t e5;refine(qN Qm (gd.glo _ hgl) (gd.blt _ (2:)) PyProof.Rows.boot_isinstance (qg (A.r Gv Hv _ _ h1) (qg (yf (v:=.ref T) (gd.glo _ c2) hT rfl (qx c1).1) qq rfl) (qi s1)) (2:) (2:) (qi s1) rfl) pins s Z H Q I ⟨N,G,er,?_⟩;rw[e1];intro v G1 H1 p1 r1;rw[ex]at r1;exact{v,.ref T,_,.ref T,false,rfl,qlh p1.er r1 e4,rfl,λu hu=>hu,kt _ (qiM e4),h3 _ G1 H1 p1 (by simp![RvR,Rep])}
   case inr.inr=>
    let(hC,hT):=gd.xsubs C t b e2
    have go:∀(c:V) (cv:Value),PE X (.Name t tp) (tC c)->qH c cv->(∀u,qH c u->u=cv)->PySem.W.kitOne X.K (.ref C) cv=some b->wpAny (model X.prog X.w) X.A (eval (.Call (.Name "isinstance" p) [a,.Name t tp] [] q) X.env) (EP X pins Z Q) X.xe s:=λc cv pc rc uq kt=>by
     refine(qN qbM (gd.glo _ hgl) (gd.blt _ (2:)) PyProof.Rows.boot_isinstance (qg (A.r Gv Hv _ _ h1) (qg pc qq rfl) (qi s1)) (2:) (2:) (qi s1) rfl) pins s Z H Q I ⟨N,G,er,?_⟩;rw[e1];intro v G1 H1 p1 r1;rw[ex]at r1;simp![RvR,Rep]at r1;let(p',od,xs,rfl,h4,h5,_):=r1;refine{p',C,od,c,cv,b,rfl,{p1.er.sub _ _ h4,λdd hdd=>?_},hC,rc,uq,kt,h3 _ G1 H1 p1 (by simp![RvR,Rep])};rcases h5 with ⟨z,_⟩|⟨d2,z,z2⟩
     ·rw[z]at hdd;cases hdd
     ·rw[z]at hdd;cases hdd;exact{_,p1.er.sub _ _ z2}
    rcases hT with ⟨T,hT,kt⟩|⟨hT,rfl,kt⟩
    ·exact go (.ref T) (.ref T) (yf (v:=.ref T) (gd.glo _ c2) hT rfl (qx c1).1) rfl (λu hu=>hu) kt
    ·exact go (.ty "ValueError") (.type "ValueError") (yg (gd.glo _ c2) hT qgq rfl) rfl (λu hu=>hu) kt
   let(C,T,hC,hty,hT,kt):=gd.subs c t b e2;refine(qN Qm (gd.glo _ hgl) (gd.blt _ (2:)) PyProof.Rows.boot_isinstance (qg (A.r Gv Hv _ _ h1) (qg (yf (v:=.ref T) (gd.glo _ c2) hT rfl (qx c1).1) qq rfl) (qi s1)) (2:) (2:) (qi s1) rfl) pins s Z H Q I ⟨N,G,er,?_⟩;rw[e1];intro v G1 H1 p1 r1;rw[ex]at r1;simp![RvR,Rep]at r1;let(p',dx,C',xs,hc',rfl,h4,hl,h5):=r1;rw[hC]at hc';cases hc';exact{.ref p',.ref T,.ref C,.ref T,b,rfl,hty _ _ _ _ (p1.er.sub _ _ h4),rfl,λu hu=>hu,kt,h3 _ G1 H1 p1 (by simp![RvR,Rep])}
theorem Yp{o:Expr}(h:yo o=true)(x:Str)(env:PySem.Env):attributeBase o x env (eval o env)=eval o env:=by
 cases o with
 |Call f as ks p=>cases f with
  |Name g q=>cases as with
   |nil=>cases h
   |cons a l=>rfl
  |_=>cases h
 |_=>first|rfl|cases h
theorem qgt{cs:Cs}{r:Rv}{x:Str}{d:D}(h:qaK cs r x=some d):(∃c ns ds,r=.val (.ins c ns ds)/\cs.fld c x=true/\(ns.zip ds).lookup x=some d)\/∃C ns ds,r=.val (.exc C ns ds)/\cs.xg C x=true/\(ns.zip ds).lookup x=some d:=by
 cases r with
 |val e=>
  cases e with
  |ins c ns ds=>
   have h:(if cs.fld c x=true then (ns.zip ds).lookup x else none)=some d:=h
   by_cases hf:cs.fld c x=true
   ·rw[if_pos hf]at h;exact .inl ⟨c,ns,ds,rfl,hf,h⟩
   ·rw[if_neg hf]at h;cases h
  |exc c ns ds=>
   have h:(if cs.xg c x=true then (ns.zip ds).lookup x else none)=some d:=h
   by_cases hf:cs.xg c x=true
   ·rw[if_pos hf]at h;exact .inr ⟨c,ns,ds,rfl,hf,h⟩
   ·rw[if_neg hf]at h;cases h
  |_=>cases h
 |_=>cases h
theorem qiP{cs:Cs}{r:Rv}{x f:Str}(h:mtD cs r x=some f):∃c ns ds,r=.val (.ins c ns ds)/\ns.contains x=false/\cs.mt c x=some f:=by
 cases r with
 |val e=>
  cases e with
  |ins c ns ds=>
   have h:(if ns.contains x=true then none else cs.mt c x)=some f:=h
   by_cases hf:ns.contains x=true
   ·rw[if_pos hf]at h;cases h
   ·rw[if_neg hf]at h;exact{c,ns,ds,rfl,(-hf:),h}
  |_=>cases h
 |_=>cases h
theorem Z4{x:Str}:∀{ns:List Str} {xs:List V},ns.contains x=false->(ns.zip xs).lookup x=none
 |[],_,_=>by simp
 | n::ns,[],_=>by simp
 | n::ns,v::xs,h=>by simp![List.contains_cons,Bool.or_eq_false_iff]at h;rw[List.zip_cons_cons,List.lookup_cons,h.1];exact Z4 h.2
theorem qiQ(gd:Gd U K ε k X L)(A:All U K ε k X L m)(o:Expr)(y:Str)(pos:Pos)(h:cE (m+1) L (.Attribute o y pos)=some x):PE X (.Attribute o y pos) (tR U K ε Gv Hv (iR L.k x)):=by
 let(ho,h):=qh h;let(a',h1,rfl):=map_some h;rintro pins s Z H Q I ⟨N,G,er,h⟩;have h2:=Wx.th (x:=noX (iR L.k a' N)) h
 cases e0:iR L.k a' N with
 |exc c l=>rw[e0]at h2;exact False.elim h2
 |no=>rw[e0]at h2;exact False.elim h2
 |ok z=>
  rw[e0]at h2;let(d,e1,h):=Wx.of (Wx.th (x:=R.of (qaK L.cs z.1 y)) h2);rcases qgt e1 with ⟨c,ns,ds,e2,e3,e4⟩|⟨C,ns,ds,e2,e3,e4⟩
  ·refine qhL (A.r Gv Hv _ _ h1) (Yp ho y X.env) pins s Z H Q I ⟨N,G,er,?_⟩;rw[e0];intro v G1 H1 p1 r1;rw[e2]at r1;simp![RvR,Rep]at r1;let(p,dx,C,xs,hc,rfl,h1,hl,h2):=r1;let(u,e5,ru):=Yn h2 e4;exact{p,C,dx,_,u,rfl,p1.er.sub _ _ h1,gd.cls c C hc,gd.flds c y C e3 hc,e5,h u G1 H1 p1 ru}
  ·refine qf4 (A.r Gv Hv _ _ h1) (Yp ho y X.env) pins s Z H Q I ⟨N,G,er,?_⟩;rw[e0];intro v G1 H1 p1 r1;rw[e2]at r1;simp![RvR,Rep]at r1;let(p,od,xs,rfl,h1,h3,h2):=r1;let(u,e5,ru):=Yn h2 e4;rcases h3 with ⟨_,z⟩|⟨dd,rfl,h3⟩
   ·rw[z]at e4;simp at e4
   ·exact{p,C,dd,_,u,rfl,p1.er.sub _ _ h1,p1.er.sub _ _ h3,gd.xgs C y e3,e5,h u G1 H1 p1 ru}
def j6{o:Expr}{x:Str}{ap q:Pos}{es:List Expr}{env:PySem.Env}(ho:yo o=true)(hs:es.any zc=false)(hl:es.length < 30)(hp:(ap.endLine == q.line)=true) :
  eval (.Call (.Attribute o x ap) es [] q) env=(do
   let ov<-eval o env
   standAt ap.atName
   let (f,first)<-holding [ov] (getMethod ov x (do return (<-importBound o env).getD true))
   callWith q f first (backTo q (starEach es env)) (backToKw q (keywordEach [] env))):=by
 have hm:methodCallForm (es.length+([]:List Keyword).length) (backTo q (starEach es env)) (backToKw q (keywordEach [] env))=true:=by
  have e:=qP (pos:=q) (env:=env) hs;unfold methodCallForm;simp![Bool.and_eq_true,decide_eq_true_eq];refine{{?_,rfl},?_}
  ·rw[List.all_eq_true];intro y hy
   have:=List.any_eq_false.mp e y hy
   simpa using this
  ·show es.length+0+0 < 30;omega
 show(do
  let ov<-attributeBase o x env (eval o env)
  standAt ap.atName
  methodCall o x ap q env ov (es.length+([]:List Keyword).length) (backTo q (starEach es env)) (backToKw q (keywordEach [] env)))=_
 rw[Yp ho];unfold methodCall;simp![hm,calleeOf,methodCallPos,if_true,hp,Bool.not_true,Bool.false_or];rfl
theorem Qn{G:Hp}:∀{l:List D} {xs:List V} {zs:List Str},ql U G l xs->Qh l=some zs->xs=zs.map V.str
 |[],xs,zs,h,e=>by simp![ql]at h;cases e;exact h
 | d::l,xs,zs,h,e=>by
  simp![ql]at h;let(v,r,rfl,h1,h2):=h
  cases d with
  |str z=>
   simp![Rep]at h1;subst h1;have e:(Qh l).map (z :: ·)=some zs:=e
   cases q:Qh l with
   |none=>rw[q]at e;cases e
   |some ys=>rw[q]at e;cases e;rw[Qn h2 q];rfl
  |_=>cases e
theorem qdD{pins:PP}{s:Shared}{Z:L2.St}{H G:Hp}{Q:VK}{N:Env}{y:Rv×Env}{o:Expr}{ap q:Pos}{es:List Expr}{a':E}{l':Es}(A:All U K ε k X L m)(ho:yo o=true)(hp:(ap.endLine == q.line)=true)(hl:es.length < 30)(h1:cE m L o=some a')(h2:cAs m L es=some l')
  (er:ER U K Gv Hv G H N Z) (e1:iR L.k a' N=.ok y) (h:Wx X0 (iAs L.k l' y.2) (λz=>Wx X0 ((ixM y.1 z.1).th λr=>R.ok (r,z.2)) (λx=>∀v G' H',Po U K Gv Hv Z G H N G' H' x.2->RvR U K Hv H G' H' x.2 Z x.1 v->Q v H'))) (I:Inv X pins Z H s) :
  wpAny (model X.prog X.w) X.A (eval (.Call (.Attribute o "index" ap) es [] q) X.env) (EP X pins Z Q) X.xe s:=by
 refine False.elim ?_
 cases e4:iAs L.k l' y.2 with
 |ok z=>rw[e4]at h;exact h
 |exc c l=>rw[e4]at h;exact h
 |no=>rw[e4]at h;exact h
theorem qgu{pins:PP}{s:Shared}{Z:L2.St}{H G:Hp}{Q:VK}{N N1:Env}{a nm:Str}{o:Expr}{ap q:Pos}{es:List Expr}{a':E}{l':Es}(A:All U K ε k X L m)(gd:Gd U K ε k X L)(ho:yo o=true)(hp:(ap.endLine == q.line)=true)(hl:es.length < 30)(h1:cE m L o=some a')(h2:cAs m L es=some l')
  (er:ER U K Gv Hv G H N Z) (e1:iR L.k a' N=.ok (.val (.str a),N1)) (h:Wx X0 (iAs L.k l' N1) (λz=>Wx X0 ((bmD nm (.val (.str a)) z.1).th λr=>R.ok (r,z.2)) (λx=>∀v G' H',Po U K Gv Hv Z G H N G' H' x.2->RvR U K Hv H G' H' x.2 Z x.1 v->Q v H'))) (I:Inv X pins Z H s) :
  wpAny (model X.prog X.w) X.A (eval (.Call (.Attribute o nm ap) es [] q) X.env) (EP X pins Z Q) X.xe s:=by
 have hs:=JP h2
 cases e4:iAs L.k l' N1 with
 |exc c l=>rw[e4]at h;exact False.elim h
 |no=>rw[e4]at h;exact False.elim h
 |ok z=>
 rw[e4]at h;have h:Wx _ ((qf9 nm a z.1).th λr=>R.ok (r,z.2)) _:=h
 cases es with
 |nil=>refine False.elim ?_;cases Yo h2;cases e4;exact h
 |cons e l=>
  have hs':=hs;simp![List.any_cons,Bool.or_eq_false_iff]at hs
  have few:((backTo q (starEach (e::l) X.env)).all (λx=>!x.1)&&(backToKw q (keywordEach [] X.env)).all (λx=>x.1.isSome)&&decide ((e::l).length+([]:List Keyword).length+(if ([]:List Keyword).isEmpty then 0 else 1) < 30))=true:=by
   have e:=qP (pos:=q) (env:=X.env) hs';simp![Bool.and_eq_true,decide_eq_true_eq];refine{{?_,rfl},?_}
   ·rw[List.all_eq_true];intro y hy
    have:=List.any_eq_false.mp e y hy
    simpa using this
   ·show _+0+0 < 30;omega
  have go:∀{id:String} {r:V->List V->Hp->VK->Prop},Slot "str" nm id->typeOf (.builtin id)=pure (.type "method_descriptor")->MtR X id r->(∀vs G2 H2,ER U K Gv Hv G2 H2 z.2 Z->jW U K G2 H2 z.1 vs->(∀v G' H',Po U K Gv Hv Z G2 H2 z.2 G' H' z.2->∀x,qf9 nm a z.1=.ok x->RvR U K Hv H2 G' H' z.2 Z x v->Q v H')->r (.str a) vs H2 Q)->
    wpAny (model X.prog X.w) X.A (eval (.Call (.Attribute o nm ap) (e::l) [] q) X.env) (EP X pins Z Q) X.xe s:=λ{id r} slot hty hm hgo=>by
   refine qft PySem.F.plainAttrs_str slot hty hm (A.r Gv Hv _ _ h1) (A.as Gv Hv _ _ h2) (Yp ho _ _) few hp (qi hs.1) (qP hs.2) pins s Z H Q I ?_;refine{N,G,er,?_};rw[e1];intro v G1 H1 p1 r1;simp![RvR,Rep]at r1;subst r1;refine{rfl,N1,G1,p1.er,?_};rw[e4];intro vs G2 H2 p2 r2;refine hgo vs G2 H2 p2.er r2 λv G' H' p3 x ex rx=>?_;rw[ex]at h;exact h v G' H' (p1.trans (p2.trans p3)) (rx.back (p1.trans p2).hs)
  have jn:∀l0,qaL nm a l0=qf9 nm a z.1->(∀vs G2 H2,ER U K Gv Hv G2 H2 z.2 Z->jW U K G2 H2 z.1 vs->∃b xs,vs=[.ref b]/\SqL X.K H2 b xs/\ql U G2 l0 xs)->wpAny (model X.prog X.w) X.A (eval (.Call (.Attribute o nm ap) (e::l) [] q) X.env) (EP X pins Z Q) X.xe s:=λl0 hj hr=>by
   have hj':=hj;rw[<-hj]at h;unfold qaL at h hj
   by_cases hn:nm = "join"
   case neg=>rw[if_neg hn]at h;exact False.elim h
   subst hn;rw[if_pos rfl]at h hj
   cases e5:Qh l0 with
   |none=>rw[e5]at h;exact False.elim h
   |some zs=>
    rw[e5]at h hj;dsimp only at h hj
    by_cases hz:(zs.map (·.length)).sum+zs.length * a.length<=16777216
    case neg=>rw[if_neg hz]at h;exact False.elim h
    rw[if_pos hz]at hj;refine go PySem.F.slot_str_join PySem.F.type_str_join qf6 λvs G2 H2 er2 r2 hQ=>?_;let(b,xs,rfl,q1,q2):=hr vs G2 H2 er2 r2;rw[Qn q2 e5]at q1;exact{a,b,zs,rfl,rfl,q1,hz,hQ _ G2 H2 (Po.refl er2) _ hj.symm (by simp![RvR,Rep])}
  have h0:=h
  cases ez:z.1 with
  |nil=>rw[ez]at h;exact False.elim h
  |cons ar rest=>
   cases rest with
   |cons _ _=>
    rw[ez]at h
    cases ar with
    |val d=>cases d<;>exact False.elim h
    |_=>exact False.elim h
   |nil=>
    cases ar with
    |scr l0=>rw[ez]at h;exact False.elim h
    |bor l0=>refine jn l0 (by rw[ez];rfl) λvs G2 H2 er2 r2=>?_;rw[ez]at r2;let(u,r,rfl,(b,xs,rfl,q1,q2),rfl):=r2;exact{b,xs,rfl,SqL.of q1,q2}
    |val d=>
     cases d with
     |lst l0=>refine jn l0 (by rw[ez];rfl) λvs G2 H2 er2 r2=>?_;rw[ez]at r2;let(u,r,rfl,ru,rfl):=r2;simp![ArR,Rep]at ru;let(b,xs,rfl,q1,q2):=ru;exact{b,xs,rfl,SqL.of (er2.sub _ _ q1),q2}
     |_=>rw[ez]at h;exact False.elim h
theorem qgv(gd:Gd U K ε k X L)(A:All U K ε k X L m)(o:Expr)(y:Str)(ap:Pos)(es:List Expr)(q:Pos)(h:cE (m+1) L (.Call (.Attribute o y ap) es [] q)=some x):PE X (.Call (.Attribute o y ap) es [] q) (tR U K ε Gv Hv (iR L.k x)):=by
 have h:(if (yo o&&(ap.endLine == q.line)&&decide (es.length < 30))=true then _ else none)=_:=h
 by_cases hc:(yo o&&(ap.endLine == q.line)&&decide (es.length < 30))=true
 case neg=>rw[if_neg hc]at h;cases h
 rw[if_pos hc]at h;let(a',l',h1,h2,rfl):=qk h;rintro pins s Z H Q I ⟨N,G,er,h⟩;have h:=Wx.th (x:=iR L.k a' N) h;simp![Bool.and_eq_true,decide_eq_true_eq]at hc;let((ho,hp),hl):=hc
 cases e1:iR L.k a' N with
 |exc c l=>rw[e1]at h;exact PySem.W.methodCall_KW (wpAny_mono (A.r Gv Hv _ _ h1 pins s Z H (λ_ _=>False) I ⟨N,G,er,by rw[e1];exact h⟩) (λv s1 z=>by let(_,_,_,_,q):=z;exact q.elim) λ_ _ x=>x) (j6 ho (JP h2) hl hp)
 |no=>rw[e1]at h;exact False.elim h
 |ok w=>
  rw[e1]at h
  have h:Wx _ (match mtD L.cs w.1 y with
   |some f=>(iAs L.k l' w.2).th λz=>(L.cl f (toAr w.1::z.1)).th λr=>R.ok (r,z.2)
   |none=>(noX (iAs L.k l' w.2)).th λz=>(noX (bmD y w.1 z.1)).th λr=>R.ok (r,z.2)) _:=h
  cases e2:mtD L.cs w.1 y with
  |none=>
   rw[e2]at h;have h0:=Wx.nox (Ξ':=X0) (Wx.th (x:=noX (iAs L.k l' w.2)) h);have h:Wx X0 (iAs L.k l' w.2) λz=>Wx X0 ((bmD y w.1 z.1).th λr=>R.ok (r,z.2)) λx=>∀v G' H',Po U K Gv Hv Z G H N G' H' x.2->RvR U K Hv H G' H' x.2 Z x.1 v->Q v H':=Wx.mono h0 λz hz=>Wx.ht (Wx.mono (Wx.nox (Wx.th (x:=noX (bmD y w.1 z.1)) hz)) λr hr=>hr);clear h0;let(wr,wρ):=w
   by_cases hs:∃a,wr=.val (.str a)
   ·let(a,rfl):=hs;exact qgu A gd ho hp hl h1 h2 er e1 h I
   ·have hb:∀as,bmD y wr as=if y = "index" then ixM wr as else .no:=by
     cases wr with
     |val d=>
      cases d with
      |str a=>exact absurd ⟨a,rfl⟩ hs
      |_=>intro as;rfl
     |_=>intro as;rfl
    by_cases hx:y = "index"
    ·subst hx;refine qdD A ho hp hl h1 h2 er e1 (Wx.mono h λz hz=>?_) I;rw[hb,if_pos rfl]at hz;exact hz
    ·refine False.elim ?_
     cases e4:iAs L.k l' wρ with
     |ok z=>rw[e4]at h;have h:Wx _ ((bmD y wr z.1).th _) _:=h;rw[hb,if_neg hx]at h;exact h
     |exc c l=>rw[e4]at h;exact h
     |no=>rw[e4]at h;exact h
  |some f=>
  rw[e2]at h;let(c,ns,ds,e3,e4,e5):=qiP e2;let(C,fa,fd,ps,hC,M,F,B):=gd.mts c y f e5;have h:=Wx.th (x:=iAs L.k l' w.2) h;have hs:=JP h2;have hs0:=hs
  have all:qfn C y (spF U K L.cl f) [] ε (tR U K ε Gv Hv (iR L.k a')) (tAs U K ε Gv Hv (iAs L.k l')) Z H Q:=by
   refine{N,G,er,?_};rw[e1];intro v G1 H1 p1 r1;have r1':=r1;rw[e3]at r1';simp![RvR,Rep]at r1';let(p',dx,C',xs,hc',rfl,h4,hl,h5):=r1';rw[hC]at hc';cases hc';refine{p',dx,_,rfl,p1.er.sub _ _ h4,Z4 e4,w.2,G1,p1.er,Wx.mono h λz h vs G2 H2 p2 r2=>?_};show spF U K L.cl f (V.ref p'::(vs++[])) H2 Q ε;rw[List.append_nil];refine{G2,toAr w.1::z.1,p2.er.sub,{_,_,rfl,?_,r2},Wx.mono2 (Wx.th h) (XP.call p2) λr h v G3 H3 hs gs sub new rr=>?_}
   ·rw[e3]at r1 ⊢;exact Rep.same p2.gs r1
   ·let(z1,z2):=ReR.rv (p1.trans p2) hs gs sub new rr;exact h v G3 H3 z1 z2
  cases es with
  |nil=>cases Yo h2;refine qc5 (A.r Gv Hv _ _ h1) (gd.cls c C hC) M F gd.room B .nil gd.ps (ht:=j6 ho hs0 hl hp) pins s Z H Q I ?_;let(N',G',er',z):=all;refine{N',G',er',Wx.mono z λx z v G1 H1 p1 r1=>?_};let(a,dx,fs,z1,z2,z3,N2,G2,er2,z):=z v G1 H1 p1 r1;exact{a,dx,fs,z1,z2,z3,z [] G2 H1 (Po.refl er2) rfl}
  |cons e l=>simp![List.any_cons,Bool.or_eq_false_iff]at hs;exact qfo (A.r Gv Hv _ _ h1) (gd.cls c C hC) M F gd.room B .nil gd.ps (A.as Gv Hv _ _ h2) (qi hs.1) (qP hs.2) (ht:=j6 ho hs0 hl hp) pins s Z H Q I all
theorem qgw(gd:Gd U K ε k X L)(A:All U K ε k X L m)(f:Str)(es:List Expr)(p q:Pos)(hok:qK f=true)(hgl:glB L.sc f=true)(ht:L.cs.tab.contains f=true)(h:(cAs m L es).map (.new f)=some x):PE X (.Call (.Name f p) es [] q) (tR U K ε Gv Hv (iR L.k x)):=by
 let(l',h1,rfl):=map_some h;have hs:=JP h1;rcases gd.mks f ht with ⟨hy,hno⟩|⟨C,fa,fd,ps,sp,M,F,hm,hb,hk,hsp⟩
 ·rintro pins s Z H Q I ⟨N,G,er,h⟩;have h:=Wx.th (x:=ifX L.y (iAs L.k l' N)) h;rw[hy]at h;have h:Wx _ (noX (iAs L.k l' N)) _:=h
  cases e1:iAs L.k l' N with
  |ok x=>rw[e1]at h;have h:Wx _ ((L.nw f x.1).th _) _:=h;rw[hno]at h;exact False.elim h
  |exc c l=>rw[e1]at h;exact False.elim h
  |no=>rw[e1]at h;exact False.elim h
 let(n1,n2,n3):=qx hok
 have rm:Room (k - 1+1) X.A:=by rw[show k - 1+1=k by omega];exact gd.room
 have key:∀Z H Q,tR U K ε Gv Hv (iR L.k (.new f l')) Z H Q->qc4 C sp [] ε (tAs U K ε Gv Hv (iAs L.k l')) Z H Q:=λZ H Q ⟨N,G,er,h⟩=>by refine{N,G,er,Wx.mono (Wx.ifx (Wx.th (x:=ifX L.y (iAs L.k l' N)) h)) λx h vs G1 H1 p1 r1=>?_};show∀x dx,H1 x=none->H1 dx=none->dx≠x->sp (.ref x::(vs++[])) _ _ ε;rw[List.append_nil];refine hsp vs H1 Q ε ⟨G1,x.1,p1.er.sub,r1,Wx.mono2 (Wx.th h) (XP.call p1) λr h v G2 H2 hs gs sub new rr=>?_⟩;let(z1,z2):=ReR.rv p1 hs gs sub new rr;exact h v G2 H2 z1 z2
 cases es with
 |nil=>cases Yo h1;refine PE.imp (qc6 M F rm (gd.glo f hgl) hm hb .nil gd.ps n1) λZ H Q h=>?_;let(N,G,er,h):=key Z H Q h;exact h [] G H (Po.refl er) rfl
 |cons e l=>simp![List.any_cons,Bool.or_eq_false_iff]at hs;exact PE.imp (qbh M F rm (gd.glo f hgl) hm hb .nil gd.ps (A.as Gv Hv _ _ h1) n1 (qi hs.1) (qP hs.2)) key
end
def gT(U:KC)(K:Frag)(Ξ:XW)(t:Tg):TG:=λv Z H Q=>∃(Gv Hv:Hp) (N:Env) (G:Hp) (d:D),ER U K Gv Hv G H N Z/\Rep U G d v/\Wx Ξ (t.go d N) λN'=>∀Z',ER U K Gv Hv G H N' Z'->Q Z' H
def gNs(U:KC)(K:Frag)(Ξ:XW)(l:List Nat):TGs:=λvs Z H Q=>∃(Gv Hv:Hp) (N:Env) (G:Hp) (ds:List D),ER U K Gv Hv G H N Z/\ql U G ds vs/\Wx Ξ (Ye l ds N) λN'=>∀Z',ER U K Gv Hv G H N' Z'->Q Z' H
def PG.imp{X:Cx}{tg:Expr}{t t':TG}(h:PG X tg t')(i:∀v Z H Q,t v Z H Q->t' v Z H Q):PG X tg t:=λpins s Z H v u Q I r hw=>h pins s Z H v u Q I r (i v Z H Q hw)
def PGs.imp{X:Cx}{tg:List Expr}{t t':TGs}(h:PGs X tg t')(i:∀v Z H Q,t v Z H Q->t' v Z H Q):PGs X tg t:=λpins s Z H v u Q I r hw=>h pins s Z H v u Q I r (i v Z H Q hw)
section
variable{U:KC}{ε:XK}{Ξ:XW}{K:Frag}{Gv Hv:Hp}{k m:Nat}{X:Cx}{L:Ct}{x:E}
def Z5(gd:Gd U K ε k X L){y:Str}{i:Nat}(h:qdm L y=some i):L2.Loc X.env.scope y/\(X.fn y=true\/X.env.scope.names.lookup y=some .local)/\X.N.Nodup/\X.N[i]?=some y:=by unfold qdm at h;let(hc,h):=qh h;rw[Bool.and_eq_true]at hc;let(l1,l2):=gd.loc y hc.1;exact{l1,l2,by rw[gd.hN];exact gd.nd,by rw[gd.hN];exact Yj h}
def qiR(gd:Gd U K ε k X L){y:Str}{i:Nat}(h:qdm L y=some i)(pos:Pos):PG X (.Name y pos) (gT U K Ξ (.one i)):=by let(l1,l2,l3,l4):=Z5 gd h;refine PG.imp (qff (i:=i) l3 l4 l1 l2) λv Z H Q hq1=>?_;let(Gv,Hv,N,G,d,er,r,h):=hq1;exact h _ (er.setVal r)
theorem Z6{e:Expr}{es:List Expr}{j:Nat}{p:Pos}{xs:List Str}(h:zk (.Tuple (e::es) j p)=some xs):∃x pos r,e=.Name x pos/\xs=x::r/\zk (.Tuple es j p)=some r:=by
 have q0:zk (.Tuple es j p)=(es.foldr (λe r=>match e,r with |.Name x _,some l=>some (x::l) |_,_=>none) (some []):Option (List Str)):=rfl
 cases e with
 |Name x pos=>
  cases q:(es.foldr (λe r=>match e,r with |.Name x _,some l=>some (x::l) |_,_=>none) (some []):Option (List Str)) with
  |none=>have h':(match (Expr.Name x pos:Expr),(es.foldr (λe r=>match e,r with |.Name x _,some l=>some (x::l) |_,_=>none) (some []):Option (List Str)) with |.Name x _,some l=>some (x::l) |_,_=>none)=some xs:=h;rw[q]at h';cases h'
  |some l=>have h':(match (Expr.Name x pos:Expr),(es.foldr (λe r=>match e,r with |.Name x _,some l=>some (x::l) |_,_=>none) (some []):Option (List Str)) with |.Name x _,some l=>some (x::l) |_,_=>none)=some xs:=h;rw[q]at h';cases h';exact{x,pos,l,rfl,rfl,q0.trans q}
 |_=>cases h
theorem qeL(gd:Gd U K ε k X L){j:Nat}{p:Pos}:∀{es:List Expr} {xs:List Str} {l:List Nat},zk (.Tuple es j p)=some xs->qdn L xs=some l->PGs X es (gNs U K Ξ l)
 | [],xs,l,h,h'=>by
  have e:xs=[]:=by unfold zk at h;cases h;rfl
  subst e;cases h';refine PGs.imp qfg λvs Z H Q hq1=>?_;let(Gv,Hv,N,G,ds,er,r,h):=hq1
  cases ds with
  |nil=>simp![ql]at r;exact{r,h Z er}
  |cons d ds=>exact False.elim h
 | e::es,xs,l,h,h'=>by
  let(x,pos,r,rfl,rfl,h0):=Z6 h;let(i,l,h1,h2,rfl):=qk h';refine PGs.imp (qcX (qiR (Ξ:=Ξ) gd h1 pos) (qeL gd h0 h2)) λvs Z H Q hq1=>?_;let(Gv,Hv,N,G,ds,er,rr,h):=hq1
  cases ds with
  |nil=>exact False.elim h
  |cons d ds=>simp![ql]at rr;let(v,vr,rfl,r1,r2):=rr;exact{v,vr,rfl,Gv,Hv,N,G,d,er,r1,λZ1 er1=>{Gv,Hv,_,G,ds,er1,r2,h}}
theorem Qo{env:PySem.Env}{j:Nat}{p:Pos}:∀{es:List Expr} {xs:List Str} {l:List Nat},zk (.Tuple es j p)=some xs->qdn L xs=some l->(assignEach es env).length=l.length/\(assignEach es env).findIdx? (·.1)=none
 | [],xs,l,h,h'=>by unfold zk at h;cases h;cases h';exact⟨rfl,rfl⟩
 | e::es,xs,l,h,h'=>by let(x,pos,r,rfl,rfl,h0):=Z6 h;let(i,l,h1,h2,rfl):=qk h';let(h1,h2):=Qo (env:=env) h0 h2;have e:assignEach (.Name x pos::es) env=(false,assign (.Name x pos) env)::assignEach es env:=rfl;rw[e];refine{by simp[h1],?_};rw[List.findIdx?_cons];simp[h2]
theorem Qp{Ξ:XW}:∀{l:List Nat} {ds:List D} {N:Env} {F:Env->Prop},Wx Ξ (Ye l ds N) F->ds.length=l.length
 |[],[],_,_,_=>rfl
 | [],_::_,_,_,h=>False.elim h
 | _::_,[],_,_,h=>False.elim h
 | i::l,d::ds,N,F,h=>congrArg (· + 1) (Qp (l:=l) (ds:=ds) (N:=N.set i (.val d)) h)
theorem qdE(gd:Gd U K ε k X L)(tg:Expr){t:Tg}(h:cTg L tg=some t):PG X tg (gT U K Ξ t):=by
 cases tg with
 |Name x pos=>let(i,h1,rfl):=map_some h;exact qiR gd h1 pos
 |Tuple es j p=>
  let(hs,h):=qh h
  cases hx:zk (.Tuple es j p) with
  |none=>rw[hx]at h;cases h
  |some xs=>
   rw[hx]at h;let(l,h2,rfl):=map_some h;let(t1,t2):=Qo (env:=X.env) hx h2;refine PG.imp (qhB (n:=l.length) gd.calm (qeL (Ξ:=Ξ) gd hx h2) t1 t2) λv Z H Q hq1=>?_;let(Gv,Hv,N,G,d,er,r,h):=hq1
   cases d with
   |tup ds=>have h:Wx _ (Ye l ds N) _:=h;simp![Rep]at r;let(a,ys,rfl,r1,r2):=r;exact{a,ys,rfl,SqT.of (er.sub _ _ r1),by rw[<-r2.len];exact Qp h,Gv,Hv,N,G,ds,er,r2,h}
   |_=>exact False.elim h
 |_=>cases h
theorem qeM{env:PySem.Env}:∀{names:List (Str×NameKind)} {x:Str},names.lookup x=some .globalImplicit->
  (names.map λ(n,k)=>if (k == NameKind.free&&env.scope.kind == .function&&env.kindOf n == some .cell) then (n,NameKind.cell) else (n,k)).lookup x=some .globalImplicit
 |[],_,h=>by simp at h
 | (n,k)::r,x,h=>by
  simp![List.map_cons]
  by_cases hx:x=n
  ·subst hx;simp[List.lookup_cons]at h;subst h;rw[if_neg (5:)];simp[List.lookup_cons]
  ·have hb:(x == n)=false:=(-hx:)
   rw[List.lookup_cons,hb]at h;have ih:=qeM (env:=env) h
   by_cases hc:(k == NameKind.free&&env.scope.kind == .function&&env.kindOf n == some .cell)=true
   ·rw[if_pos hc];simp![List.lookup_cons,hb];exact ih
   ·rw[if_neg hc];simp![List.lookup_cons,hb];exact ih
def Qq(gd:Gd U K ε k X L){own:List Str}{fr:List Nat}{sc:Scope}(h:yN L.sc L.N fr sc=true):BlkScope X own fr sc:=by
 unfold yN at h;simp![Bool.and_eq_true,List.all_eq_true]at h;let((hk,hn),hf):=h;refine{by simpa using hk,λx hx=>by simpa using (hn x hx).1.1,λx hx e=>?_,λx hx e=>?_,λi hi=>?_}
 ·have:=(hn x hx).1.2
  simpa [e] using this
 ·have:=(hn x hx).2
  exact gd.cf x.1 (by simpa [e] using this)
 ·rw[gd.hN]
  simpa using hf i hi
def qiS:zr (CX1 X.prog X.w) X E0:=λpins Z H s e s' I c=>by let(x,T,C,od,H',_,_,_,_,_,_,_,_,_,_,z):=c;exact False.elim z
def JQ(gd:Gd U K ε k X L){own:List Str}{fr:List Nat}{sc:Scope}(B:BlkScope X own fr sc)(hnd:(own++fr.map λi=>L.N.getD i "").Nodup)(cl:List (Str×Addr))(C:Addr)(fp:List Addr)(s2:Shared)(H2:Hp) :
  Gd U K E0 k (blk X (yn X own fr) sc cl C fp s2 H2) { L with N:=own++fr.map λi=>L.N.getD i "",sc:=sc } where
 ps:=qiS
 hN:=by show yn X own fr=_;unfold yn;rw[gd.hN]
 vis:=λx h=>by
  have h:=qeF h;rcases h with h|h|h
  ·exact .inl (lookup_relabel_local h)
  ·exact absurd rfl (B.nocell _ (PySem.mem_of_lookup h))
  ·rcases yM (env:=X.env) h with z|z
   ·exact .inr (.inl z)
   ·exact .inr (.inr z)
 loc:=λx h=>by
  have h:=qb0 h;rcases h with h|h
  ·have z:(relabel sc X.env).names.lookup x=some .local:=lookup_relabel_local h;exact{.inl z,.inr z}
  ·exact absurd rfl (B.nocell _ (PySem.mem_of_lookup h))
 glo:=λx h=>by unfold glB at h;exact qeM (env:=X.env) (-h:)
 cf:=λx h=>by
  rcases h with h|h
  ·exact absurd rfl (B.nocell _ (PySem.mem_of_lookup h))
  ·exact yM (env:=X.env) h
 nd:=hnd
 calm:=gd.calm
 hK:=gd.hK
 room:=gd.room
 fns:=gd.fns
 blt:=gd.blt
 gl:=gd.gl
 cls:=gd.cls
 flds:=gd.flds
 pts:=gd.pts
 pls:=gd.pls
 xsubs:=gd.xsubs
 xgs:=gd.xgs
 mts:=gd.mts
 mks:=gd.mks
 subs:=gd.subs
def qiT{G H:Hp}{N:Env}{Z:L2.St}(er:ER U K Gv Hv G H N Z)(own:List Str)(fr:List Nat):ER U K G H G H (ZZ own.length fr N) (JE own fr Z):=by
 refine{by simp[ZZ,JE],er.sub,λ_ _ e=>e,λ_ _ e=>e,λa o e=>.inl ⟨o,e⟩,λi s e=>?_,λi j a l n e1=>?_}
 ·unfold ZZ at e;unfold JE
  by_cases hi:i < own.length
  ·rw[List.getElem?_append_left (-hi:)]at e;obtain rfl:=List.eq_of_mem_replicate (List.mem_of_getElem? e);trivial
  ·rw[List.getElem?_append_right (-hi:)]at e ⊢;simp![List.length_map,List.length_replicate]at e ⊢;rw[List.getElem?_map]at e ⊢;let(j,e1,rfl):=Option.map_eq_some_iff.mp e;rw[e1];show SlR U K G H H (qkm (N.getD j .no)) (some (Z[j]?).join)
   cases q:N[j]? with
   |none=>rw[List.getD_eq_getElem?_getD,q];trivial
   |some s=>
    rw[List.getD_eq_getElem?_getD,q];have w:=er.sl j s q
    cases s with
    |no=>trivial
    |val d=>let(v,z,r):=w;exact{v,by rw[z];rfl,r}
    |own l=>let(a,xs,z,r1,r2,r3,r4):=w;exact{a,xs,by rw[z];rfl,r1,r4}
    |bor l=>let(a,xs,z,r1,r4):=w;exact{a,xs,by rw[z];rfl,er.base _ _ r1,r4}
    |scr l=>let(a,xs,z,r1,r4):=w;exact{a,xs,by rw[z];rfl,er.base.seq r1,r4}
 ·exfalso;unfold ZZ at e1
  by_cases hi:i < own.length
  ·rw[List.getElem?_append_left (-hi:)]at e1
   cases List.eq_of_mem_replicate (List.mem_of_getElem? e1)
  ·rw[List.getElem?_append_right (-hi:),List.getElem?_map]at e1;let(j,_,z):=Option.map_eq_some_iff.mp e1
   cases q:N.getD j .no<;>rw[q]at z<;>cases z
def Zd{it:Expr}(h:Qi it=true)(env:PySem.Env):∀x,foldedSetIterable it env x=pure x:=by
 intro x
 cases it<;>first|rfl|(simp[Qi]at h)
def qiU(A:All U K ε k X L m)(e:Expr){x:E}(hx:cX m L e=some x):PE X e (λZ H Q=>∃Gv Hv,tE U K ε Gv Hv (zU x (iR L.k x)) Z H Q):=λpins s Z H Q I ⟨Gv,Hv,h⟩=>A.e Gv Hv e x hx pins s Z H Q I h
def qeN(A:All U K ε k X L m)(es:List Expr){x:F}(hx:cF m L es=some x):PIf X es (λZ H Q=>∃Gv Hv,tT U K ε Gv Hv (iF L.k x) Z H Q):=λpins s Z H Q I ⟨Gv,Hv,h⟩=>A.f Gv Hv es x hx pins s Z H Q I h
structure CompS(L:Ct)(m:Nat)(elt tg it:Expr)(ifs:List Expr)(sc:Scope)(own:List Str)(el:E)(src:I)(t:Tg)(c:F):Prop where
 chk:yN L.sc L.N (JO L.N sc) sc=true
 nd:(own++(JO L.N sc).map λi=>L.N.getD i "").Nodup
 fold:Qi it=true
 src:cC L it (cI m L (qga tg) it)=some src
 tg:cTg { L with N:=own++(JO L.N sc).map λi=>L.N.getD i "",sc:=sc } tg=some t
 c:cF m { L with N:=own++(JO L.N sc).map λi=>L.N.getD i "",sc:=sc } ifs=some c
 el:cX m { L with N:=own++(JO L.N sc).map λi=>L.N.getD i "",sc:=sc } elt=some el
theorem qiV{elt:Expr}{gs:List Comprehension}{sc:Scope}{pos:Pos}(h:cE (m+1) L (.ListComp elt gs sc pos)=some x):∃tg it ifs own el src t c,gs=[⟨tg,it,ifs,0⟩]/\CompS L m elt tg it ifs sc own el src t c/\x=.comp el src t c own.length (JO L.N sc):=by
 match gs,h with
 |[⟨tg,it,ifs,as⟩],h=>
  let(ha,h):=qh h;obtain rfl:as=0:=of_decide_eq_true ha;dsimp only at h
  cases hx:zk tg with
  |none=>rw[hx]at h;cases h
  |some own=>rw[hx]at h;let(hc,h):=qh h;let(p1,p2,h1,h2,rfl):=qk h;let(src,t,h3,h4,rfl):=qk h1;let(c,el,h5,h6,rfl):=qk h2;simp![Bool.and_eq_true]at hc;exact{tg,it,ifs,own,el,src,t,c,rfl,{hc.1.1,of_decide_eq_true hc.1.2,hc.2,h3,h4,h5,h6},rfl}
 |[],h=>cases h
 | _::_::_,h=>cases h
def qiW{it:Expr}{i:Nat}(h:isF L it=some i):∃x p,it=.Name x p/\qa4 L x=some i:=by
 unfold isF at h
 split at h
 ·split at h
  ·exact{_,_,rfl,h}
  ·cases h
 ·cases h
def tC(U:KC)(K:Frag)(ε:XK)(Gv Hv:Hp)(f:Env->R (List D×Env)):TI:=λZ H Q=>∃N G,ER U K Gv Hv G H N Z/\Wx (XP U Gv Hv ε) (f N) λx=>∀J G' H',Po U K Gv Hv Z G H N G' H' x.2->ItR U H' G' J x.1->Q J H'
theorem qlZ(gd:Gd U K ε k X L)(A:All U K ε k X L m)(tg it:Expr){src:I}(hs:cC L it (cI m L (qga tg) it)=some src):PI X tg it (tC U K ε Gv Hv (iI L.k src)):=by
 rintro pins s Z H Q I ⟨N,G,er,h⟩;unfold cC at hs
 cases hf:isF L it with
 |none=>rw[hf]at hs;exact A.i Gv Hv tg it src hs pins s Z H Q I ⟨N,G,er,Wx.mono h λx h J G' H' p it1=>h J G' H' p λi G2 H2 g hh sub=>it1 i G2 H2 g (λb o e=>hh b o (p.er.base b o e)) sub⟩
 |some i=>
  rw[hf]at hs;cases hs;let(x,p,rfl,hi):=qiW hf;refine qeJ (Qj gd hi p) pins s Z H Q I ?_;have h:=Wx.th (x:=slC N i) h;unfold slC at h
  cases q:N[i]? with
  |none=>rw[q]at h;exact False.elim h
  |some sl=>
   rw[q]at h;have w:=er.sl i sl q
   cases sl with
   |own l=>let(a,xs,z,h1,h2,h3,h4):=w;exact{_,z,.inl {a,rfl,.inl {{xs,SqL.of h1},h _ G H (Po.refl er) (by rw[gd.hK];exact qb3 (.inr (SqL.of h1)) h4)}}}
   |val d=>
    let(v,z,r):=w
    cases d with
    |lst l=>simp![Rep]at r;let(a,xs,rfl,r1,r2):=r;exact{_,z,.inl {a,rfl,.inl {{xs,SqL.of (er.sub _ _ r1)},h _ G H (Po.refl er) (by rw[gd.hK];exact qb3 (.inl r1) r2)}}}
    |tup l=>simp![Rep]at r;let(a,xs,rfl,r1,r2):=r;exact{_,z,.inl {a,rfl,.inr {{xs,SqT.of (er.sub _ _ r1)},h _ G H (Po.refl er) (by rw[gd.hK];exact qeK r1 r2)}}}
    |_=>exact False.elim h
   |_=>exact False.elim h
def Z7{elt tg it:Expr}{ifs:List Expr}{sc:Scope}{own:List Str}{el:E}{src:I}{t:Tg}{c:F}(S:CompS L m elt tg it ifs sc own el src t c):∀Z H Q,tR U K ε Gv Hv (iR L.k (.comp el src t c own.length (JO L.N sc))) Z H Q->
  qfN own (JO L.N sc) (tC U K ε Gv Hv (iI L.k src)) (gT U K X0 t) (λZ H Q=>∃Gv Hv,tT U K E0 Gv Hv (iF L.k c) Z H Q) (λZ H Q=>∃Gv Hv,tE U K E0 Gv Hv (zU el (iR L.k el)) Z H Q) Z H Q:=λZ H Q ⟨N,G,er,h⟩=>by
 refine{N,G,er,Wx.mono (Wx.th (x:=iI L.k src N) h) λx h J G1 H1 p1 it1=>?_};let(hz,h):=Wx.iff h;have h:=Wx.nox (Ξ':=X0) (Wx.th h)
 refine{λi mm ys Z' H'=>mm=x.1.length - i/\i<=x.1.length/\∃Nb Gb ds,ER U K G1 H1 Gb H' Nb Z'/\ql U Gb ds ys/\ds.length<=i/\
   Wx X0 (qbW t.go (λN1=>iF L.k c N1) (zU el (iR L.k el)) (x.1.drop i) Nb ds)
    (λl=>∀v G' H',Po U K Gv Hv Z G H N G' H' x.2->RvR U K Hv H G' H' x.2 Z (.tmp l) v->Q v H'),
  {x.1.length,by simp,Nat.zero_le _,ZZ own.length (JO L.N sc) x.2,G1,[],qiT p1.er own (JO L.N sc),.nil,Nat.le_refl _,?_},?_}
 ·rw[List.drop_zero];exact h
 rintro i mm ys Z' H' ⟨rfl,hi,Nb,Gb,ds,erb,rds,hdl,hw⟩;have it2:=it1 i Gb H' erb.g0 erb.base erb.sub
 by_cases hlt:i < x.1.length
 ·let(go,yl):=it2.1 x.1[i] (List.getElem?_eq_getElem hlt);have hyl:=rds.len;refine .inr ⟨go,by lia,_,λys' Z2 H2 w=>{x.1.length - (i+1),by lia,w},λv H2 hy=>?_⟩;let(G',hs,gs,sub,new,rep):=yl v H2 hy;have p2:=Po.more erb hs gs sub new;rw[List.drop_eq_getElem_cons hlt]at hw;refine{G1,H1,Nb,G',x.1[i],p2.er,rep,Wx.mono (Wx.th hw) λN1 hw Z1 er1=>{G1,H1,N1,G',er1,Wx.mono2 (Wx.th hw) (λ_ _ z=>False.elim z) λbt hw G2 H3 p3=>?_}};let(b,N2):=bt
  cases b with
  |true=>rw[if_pos rfl];refine{G1,H1,N2,G2,p3.er,Wx.mono2 (Wx.th hw) (λ_ _ z=>False.elim z) λy hw w G3 H4 p4 rep4=>{rfl,hlt,y.2,G3,ds++[y.1],p4.er,?_,by simp;lia,(Wx.iff hw).2}};exact(((rds.same gs).same p3.gs).same p4.gs).snoc rep4
  |false=>rw[if_neg (λz=>by cases z)];exact{rfl,hlt,N2,G2,ds,p3.er,(rds.same gs).same p3.gs,by lia,hw}
 ·have e:i=x.1.length:=by lia
  subst e;refine .inl ⟨it2.2 rfl,λp hp=>?_⟩;rw[List.drop_length]at hw;have p2:=p1.trans (Po.more p1.er erb.base erb.g0 erb.sub erb.fresh);let(z1,z2):=p2.er.newList hp rds;exact hw _ _ _ (p2.trans z1) (z2.back p2.hs)
def qgx(gd:Gd U K ε k X L)(A:All U K ε k X L m)(ih:∀ε' X' L',Gd U K ε' k X' L'->All U K ε' k X' L' m)(elt:Expr)(gs:List Comprehension)(sc:Scope)(pos:Pos)(h:cE (m+1) L (.ListComp elt gs sc pos)=some x):PE X (.ListComp elt gs sc pos) (tR U K ε Gv Hv (iR L.k x)):=by
 let(tg,it,ifs,own,el,src,t,c,rfl,S,rfl):=qiV h;have B:BlkScope X own (JO L.N sc) sc:=Qq gd S.chk
 exact PE.imp (qfP own (JO L.N sc) gd.calm B (qlZ (Gv:=Gv) (Hv:=Hv) gd A tg it S.src) (λcl C fp s2 H2=>qdE (JQ gd B S.nd cl C fp s2 H2) tg S.tg) (λcl C fp s2 H2=>qeN (ih _ _ _ (JQ gd B S.nd cl C fp s2 H2)) ifs S.c)
  (λcl C fp s2 H2=>qiU (ih _ _ _ (JQ gd B S.nd cl C fp s2 H2)) elt S.el) (Zd S.fold X.env)) (Z7 S)
theorem qgy(gd:Gd U K ε k X L)(A:All U K ε k X L m)(f:Str)(es:List Expr)(p q:Pos)(h:cE (m+1) L (.Call (.Name f p) es [] q)=some x):PE X (.Call (.Name f p) es [] q) (tR U K ε Gv Hv (iR L.k x)):=by
 let(hn,h):=qh h;simp![Bool.and_eq_true]at hn;let((h1,h2),h3):=hn
 by_cases hi:f = "isinstance"
 ·subst hi;rw[if_pos rfl]at h
  match es,h with
  |[a,b],h=>
   cases b with
   |Name t tp=>exact qiO gd A a t p tp q h2 h
   |_=>cases h
  |[],h=>cases h
  |[_],h=>cases h
  | _::_::_::_,h=>cases h
 rw[if_neg hi]at h
 by_cases ht:L.tab.contains f=true
 ·rw[if_pos ht]at h
  by_cases hf:(f = "_law_let"/\es.length=2)\/f = "_law_day"\/f = "_law_alike"
  ·rw[if_pos hf]at h;exact qdA gd A f es p q h1 h2 ht h
  ·rw[if_neg hf]at h;exact qdz gd A f es p q h1 h2 ht h
 rw[if_neg ht]at h
 by_cases hk:L.cs.tab.contains f=true
 ·rw[if_pos hk]at h;exact qgw gd A f es p q h1 h2 hk h
 rw[if_neg hk]at h
 match es,h with
 |[a],h=>exact qdB gd A f a p q h2 h
 |[a,b],h=>exact qdC gd A f a b p q h2 h
 |[],h=>cases h
 | _::_::_::_,h=>cases h
theorem qna(gd:Gd U K ε k X L)(A:All U K ε k X L m)(ih:∀ε' X' L',Gd U K ε' k X' L'->All U K ε' k X' L' m)(e:Expr)(x:E)(h:cE (m+1) L e=some x):PE X e (tR U K ε Gv Hv (iR L.k x)):=by
 cases e with
 |Name x pos=>exact qdo gd h pos
 |Constant c j pos=>exact qdu c j pos h
 |BinOp a op b pos=>exact qdv A a b op pos h
 |UnaryOp op a pos=>
  cases op with
  |USub=>exact qiC A a pos h
  |Not=>exact qgk A a pos h
  |_=>cases h
 |BoolOp op vs pos=>
  match vs,h with
  |[],h=>cases op<;>cases h
  |[a],h=>cases op<;>(let(a',h1,rfl):=map_some h;exact PE.imp (qhx (A.r Gv Hv _ _ h1)) λZ H Q h=>h)
  | a::b::l,h=>
   cases op with
   |And=>exact qiD A a b l pos h
   |Or=>cases h
 |Compare a ops bs pos=>
  match ops,bs,h with
  |[op],[b],h=>exact qgl gd A a b op pos h
  |[],_,h=>cases h
  |[_],[],h=>cases h
  | [_],_::_::_,h=>cases h
  | _::_::_,_,h=>cases h
 |IfExp c a b pos=>cases h
 |Subscript a b pos=>exact qiE gd A a b pos h
 |List es pos=>exact qiF A es pos h
 |Tuple es j pos=>exact qiG A es j pos h
 |Call fn es kws q=>
  cases fn with
  |Name f p=>
   cases kws with
   |nil=>exact qgy gd A f es p q h
   |cons kw kws=>cases h
  |Attribute o x ap=>
   cases kws with
   |nil=>exact qgv gd A o x ap es q h
   |cons kw kws=>cases h
  |_=>cases h
 |Attribute o x pos=>exact qiQ gd A o x pos h
 |ListComp elt gens sc pos=>exact qgx gd A ih elt gens sc pos h
 |JoinedStr vs pos=>
  match vs,h with
  |[],h=>cases h
  |[_],h=>cases h
  | a::b::l,h=>exact qiH A a b l pos h
 |_=>cases h
theorem all:∀(m:Nat) (ε:XK) (X:Cx) (L:Ct),Gd U K ε k X L->All U K ε k X L m
 |0,_,_,_,_=>qm3
 | m+1,ε,X,L,gd=>
  have A:=all m ε X L gd
  ⟨λGv Hv=>qna gd A (all m),λGv Hv=>qm4 gd A,λGv Hv=>qm7 gd A,λGv Hv=>qle A,λGv Hv=>qlf A,λGv Hv=>qm5 A,λGv Hv=>qm6 A,λGv Hv=>qm8 gd A,λGv Hv=>qm9 gd A⟩
end
section
variable(U:KC)(K:Frag)(Gv Hv:Hp)
def FlP(G:Hp)(D:Ends):Fl->Prop
 | .next N'=>∀Z' G' H',ER U K Gv Hv G' H' N' Z'->qj G G'->D.nx Z' H'
 |.ret r=>∀v G' H',qj Hv H'->qj Gv G'->qj G' H'->(∀a o,G' a=some o->(∃o',Gv a=some o')\/Hv a=none)->ReR U G' H' Hv r v->D.rt v H'
def tS(ε:XK)(f:Env->R Fl):TS:=λD Z H=>∃N G,ER U K Gv Hv G H N Z/\Wx (XP U Gv Hv ε) (f N) (FlP U K Gv Hv G D)
end
def qiX(C:Addr)(ns:List Str):Sp:=λvs H Q _=>∃x us,vs=.ref x::us/\H x=some (yD x C none)/\us.length=ns.length/\(∀u∈us,qfY u)/\∀dd,H dd=none->dd≠x->Q .non (upd (upd H dd (xD dd (ns.zip us))) x (yD x C (some dd)))
structure Gs(U:KC)(K:Frag)(ε:XK)(k:Nat)(X:Cx)(L:Ct):Prop extends Gd U K ε k X L where
 own:L.z=false->PassesOwn (model X.prog X.w) X.A X.env X.xe
 rs:L.z=false->yP X ε
 ow:L.z=false->∀x:Addr,PassesOwnAt (model X.prog X.w) (X.A.mark (some (.ref x))) X.A X.env X.xe
 pt:L.z=false->qez X ε
 ex:X.ex=[]
 stk:X.stack=X.env::X.outer/\X.env.frame=some X.env.locals
 xn0:∀n,L.cs.xn n=some []->X.mg n=some (.ref (L.cs.xa n))/\PySem.W.excIn X.K (L.cs.xa n) bV "ValueError.__new__" = true
 xn1:L.x=true->∀n ns,L.cs.xn n=some ns->ns≠[]->∃fI fd j,k=j+1/\X.mg n=some (.ref (L.cs.xa n))/\XcC X.K (L.cs.xa n) fI/\FnOk X.prog X.w X.K X.mg X.base CX0 j fI fd ("self" :: ns) (qiX (L.cs.xa n) ns)/\qM X.K fd ("self" :: ns) []
 xhs:∀C (t:Str) b,t≠("ValueError" : Str)->L.cs.xs C t=some b->∃D,X.mg t=some (.ref D)/\PySem.W.exmOne X.K (.ref C) (.ref D)=some b
 sceq:X.env.scope=L.sc
 fnk:L.sc.kind=.function
def PS.imp{X:Cx}{st:Stmt}{t t':TS}(h:PS X st t')(i:∀D Z H,t D Z H->t' D Z H):PS X st t:=λpins s Z H D I hw=>h pins s Z H D I (i D Z H hw)
def PSs.imp{X:Cx}{st:List Stmt}{t t':TS}(h:PSs X st t')(i:∀D Z H,t D Z H->t' D Z H):PSs X st t:=λpins s Z H D I hw=>h pins s Z H D I (i D Z H hw)
def yq{e:Expr}(h:jN e=true)(t:Option Expr)(l:Nat)(env:PySem.Env):swapsWith e t l env=pure false:=by cases e<;>first|rfl|(simp[jN]at h)
section
variable{U:KC}{ε:XK}{K:Frag}{Gv Hv:Hp}{k m w:Nat}{X:Cx}{L:Ct}
def jf{N:Env}{i:Nat}{l:List D}(h:zA N i=some l):N[i]?=some (.own l):=by
 unfold zA at h
 split at h
 ·rename_i e;cases h;exact e
 ·cases h
def ER.ownSlot{G H:Hp}{N:Env}{Z:L2.St}{i:Nat}{l:List D}(er:ER U K Gv Hv G H N Z)(e:N[i]?=some (.own l)):∃a xs,Z[i]?=some (some (.ref a))/\H a=some (.lst xs)/\ql U G l xs:=by let(a,xs,z,h1,h2,h3,h4):=er.sl i _ e;exact⟨a,xs,z,h1,h4⟩
theorem qb6(gd:Gd U K ε k X L)(A:All U K ε k X L m)(x:Str)(a:Expr)(xp ap cp p:Pos){i:Nat}{a':E}(hl:(ap.endLine == cp.line)=true)(s1:zc a=false)(hi:qa4 L x=some i)(ha:cX m L a=some a') :
  PS X (.Expr (.Call (.Attribute (.Name x xp) "append" ap) [a] [] cp) p) (tS U K Gv Hv ε (iS L.k w (.app i a'))):=by
 have few:((backTo cp (starEach [a] X.env)).all (λx=>!x.1)&&(backToKw cp (keywordEach [] X.env)).all (λx=>x.1.isSome)&&decide (([a]:List Expr).length+([]:List Keyword).length+(if ([]:List Keyword).isEmpty then 0 else 1) < 30))=true:=by rw[qi s1];rfl
 refine PS.imp (zx (qft PySem.F.plainAttrs_list PySem.F.slot_list_append PySem.F.type_list_append Y6 (Qj gd hi xp) (qg (A.e Gv Hv _ _ ha) qq (qi s1)) rfl few hl (qi s1) rfl) rfl) λD Z H hq1=>?_;let(N,G,er,h):=hq1;have h:Wx _ (α:=Fl) (match zA N i with |none=>R.no |some _=>(zU a' (iR L.k a') N).th λy=>match zA y.2 i with |some l=>if l.length < sizeLine then .ok (.next (y.2.set i (.own (l++[y.1])))) else .no |none=>.no) _:=h
 cases e1:zA N i with
 |none=>rw[e1]at h;exact False.elim h
 |some l0=>
  rw[e1]at h;let(b,xs,z,h1,h2):=er.ownSlot (jf e1);refine{_,z,.inl {rfl,xs,SqL.of h1},N,G,er,Wx.mono (Wx.th h) λy h v G1 H1 p1 r1=>?_}
  cases e2:zA y.2 i with
  |none=>rw[e2]at h;exact False.elim h
  |some l=>rw[e2]at h;let(hz,h):=Wx.iff h;let(b',ys,z',h3,h4):=p1.er.ownSlot (jf e2);rw[z]at z';cases z';refine{b,ys,v,rfl,rfl,h3,by rw[<-h4.len];exact hz,?_};exact h Z G1 _ (p1.er.write (jf e2) z (h4.snoc r1)) p1.gs
theorem qdF(gd:Gd U K ε k X L)(x:Str)(xp ap cp p:Pos){i:Nat}(hl:(ap.endLine == cp.line)=true)(hi:qa4 L x=some i) :
  PS X (.Expr (.Call (.Attribute (.Name x xp) "clear" ap) [] [] cp) p) (tS U K Gv Hv ε (iS L.k w (.clr i))):=by
 refine PS.imp (zx (qeq PySem.F.plainAttrs_list PySem.F.slot_list_clear PySem.F.type_list_clear ZH (Qj gd hi xp) rfl hl) rfl) λD Z H hq1=>?_;let(N,G,er,h):=hq1;have h:Wx _ (α:=Fl) (match zA N i with |some _=>R.ok (Fl.next (N.set i (.own []))) |none=>.no) _:=h
 cases e1:zA N i with
 |none=>rw[e1]at h;exact False.elim h
 |some l0=>rw[e1]at h;let(b,xs,z,h1,h2):=er.ownSlot (jf e1);exact{_,z,.inl {rfl,xs,SqL.of h1},b,xs,rfl,rfl,h1,h Z G _ (er.write (jf e1) z .nil) λ_ _ e=>e}
theorem qiY(gd:Gd U K ε k X L)(A:All U K ε k X L m)(e:Expr)(p:Pos){z:E}(h:cV m L e=some z):PS X (.Return (some e) p) (tS U K Gv Hv ε (iS L.k w (.ret z))):=by
 have gen:(cE m L e).bind Yi=some z->PS X (.Return (some e) p) (tS U K Gv Hv ε (iS L.k w (.ret z))):=λh=>by
  let(y,h1,h2):=Option.bind_eq_some_iff.mp h;let(rfl,hv):=zG h2;refine PS.imp (ZB (A.r Gv Hv _ _ h1)) λD Z H hq1=>?_;let(N,G,er,h):=hq1;have h:=Wx.th (x:=qdl y (iR L.k y) N) h;rw[qgf hv]at h;refine{N,G,er,Wx.mono (Wx.th h) λx h v G1 H1 p1 r1=>?_};let(rv,N1):=x
  cases rv with
  |val d=>exact h v G1 H1 p1.er.base p1.er.g0 p1.er.sub p1.er.fresh r1
  |tmp l=>let(a,xs,rfl,h1,h2,h3,h4,h5,h6):=r1;exact h _ G1 H1 p1.er.base p1.er.g0 p1.er.sub p1.er.fresh ⟨a,xs,rfl,h1,h3,h4,h6⟩
  |_=>exact False.elim h
 cases e with
 |Name x pos=>
  rcases Yk gd h pos with ⟨i,rfl,P⟩|⟨d,v,rfl,e3,P⟩
  ·refine PS.imp (ZB P) λD Z H hq1=>?_;let(N,G,er,h):=hq1;have h:=Wx.th (x:=slX N i) h;unfold slX at h
   cases q:N[i]? with
   |none=>rw[q]at h;exact False.elim h
   |some s=>
    rw[q]at h;have w:=er.sl i s q
    cases s with
    |val d=>let(v,z,r):=w;exact{v,z,h v G H er.base er.g0 er.sub er.fresh r}
    |own l=>let(a,xs,z,r1,r2,r3,r4):=w;exact{_,z,h _ G H er.base er.g0 er.sub er.fresh ⟨a,xs,rfl,r1,r2,r3,r4⟩}
    |_=>exact False.elim h
  ·refine PS.imp (ZB P) λD Z H hz7=>?_;let(N,G,er,h):=hz7;exact h v G H er.base er.g0 er.sub er.fresh (e3 G)
 |_=>exact gen h
def AsR(U:KC)(K:Frag)(Hv G H:Hp)(N:Env)(Z:L2.St):Sl->V->Prop
 |.val d,v=>Rep U G d v
 |.own l,v=>∃a xs,v=.ref a/\H a=some (.lst xs)/\Hv a=none/\G a=none/\¬ Qg N Z a/\ql U G l xs
 |_,_=>False
def tA(U:KC)(K:Frag)(ε:XK)(Gv Hv:Hp)(f:Env->R (Sl×Env)):TE:=λZ H Q=>∃N G,ER U K Gv Hv G H N Z/\Wx (XP U Gv Hv ε) (f N) λs=>∀v G' H',Po U K Gv Hv Z G H N G' H' s.2->AsR U K Hv G' H' s.2 Z s.1 v->Q v H'
theorem qgz{G H:Hp}{N:Env}{Z:L2.St}{s:Sl}{v:V}{i:Nat}(er:ER U K Gv Hv G H N Z)(h:AsR U K Hv G H N Z s v):ER U K Gv Hv G H (N.set i s) (Z.set i (some v)):=by
 cases s with
 |val d=>exact er.setVal h
 |own l=>let(a,xs,rfl,h1,h2,h3,h4,h5):=h;exact er.setOwn h1 h2 h3 h4 h5
 |_=>exact False.elim h
theorem ql0{z:E}(hv:∀i,z≠.var i)(Z:L2.St)(H:Hp)(Q:VK)(h:tA U K ε Gv Hv (qa5 z (iR L.k z)) Z H Q):tR U K ε Gv Hv (iR L.k z) Z H Q:=by
 let(N,G,er,h):=h;rw[qgg hv]at h;refine{N,G,er,Wx.mono (Wx.th h) λx h v G1 H1 p1 r1=>?_};let(rv,N1):=x
 cases rv with
 |val d=>exact h v G1 H1 p1 r1
 |tmp l=>let(a,xs,rfl,h1,h2,h3,h4,h5,h6):=r1;exact h _ G1 H1 p1 ⟨a,xs,rfl,h1,h3,h4,h5,h6⟩
 |_=>exact False.elim h
theorem ql1(gd:Gd U K ε k X L)(A:All U K ε k X L m)(e:Expr){z:E}(h:cV m L e=some z):PE X e (tA U K ε Gv Hv (qa5 z (iR L.k z))):=by
 have gen:(cE m L e).bind Yi=some z->PE X e (tA U K ε Gv Hv (qa5 z (iR L.k z))):=λh=>by let(y,h1,h2):=Option.bind_eq_some_iff.mp h;let(rfl,hv):=zG h2;exact PE.imp (A.r Gv Hv _ _ h1) (ql0 hv)
 cases e with
 |Name x pos=>
  have P:=Z0 (Gv:=Gv) (Hv:=Hv) gd h pos;rcases Yk gd h pos with ⟨i,rfl,_⟩|⟨d,v,rfl,_,_⟩
  ·refine PE.imp P λZ H Q hq1=>?_;let(N,G,er,h):=hq1;exact{N,G,er,Wx.mono (Wx.th (x:=slE N i) h) λy h v G1 H1 p1 r1=>h v G1 H1 p1 r1}
  ·refine PE.imp P λZ H Q hz8=>?_;let(N,G,er,h):=hz8;exact⟨N,G,er,h⟩
 |_=>exact gen h
theorem qiZ(gs:Gs U K ε k X L)(A:All U K ε k X L m)(x:Str)(e:Expr)(xp p:Pos){i:Nat}{z:E}(hi:qdm L x=some i)(hz:cV m L e=some z):PS X (.Assign [.Name x xp] e p) (tS U K Gv Hv ε (iS L.k w (.set i z))):=by
 have gd:=gs.toGd;let(l1,l2,hN,hxi):=Z5 gd hi
 have fin:∀(D:Ends) (Z:L2.St) (H:Hp),tS U K Gv Hv ε (iS L.k w (.set i z)) D Z H->tA U K ε Gv Hv (qa5 z (iR L.k z)) Z H (λy H1=>qa7 i y Z H1 D.nx):=λD Z H ⟨N,G,er,h⟩=>{N,G,er,Wx.mono (Wx.th (x:=qa5 z (iR L.k z) N) h) λs h v G1 H1 p1 r1=>h _ G1 H1 (qgz p1.er r1) p1.gs}
 by_cases hn:jN e=true
 ·exact PS.imp (YQ (i:=i) hN hxi l1 (ql1 gd A e hz) (yq hn _ _ _) l2) fin
 cases e with
 |ListComp elt gens sc cp=>
  have hsw:∀b:Bool,(X.env.blockKind == .function&&X.env.kindOf x == some .local&&xp.line == cp.line&&!(sc.names.any λ(n,k)=>n == x&&(k == .local||k == .cell)))=b->swapsWith (.ListComp elt gens sc cp) (some (.Name x xp)) p.line X.env=pure b:=λb hb=>by rw[<-hb];rfl
  cases hb:(X.env.blockKind == .function&&X.env.kindOf x == some .local&&xp.line == cp.line&&!(sc.names.any λ(n,k)=>n == x&&(k == .local||k == .cell))) with
  |false=>exact PS.imp (YQ (i:=i) hN hxi l1 (ql1 gd A _ hz) (hsw false hb) l2) fin
  |true=>
   have hloc:X.env.scope.names.lookup x=some .local:=by
    simp![Bool.and_eq_true]at hb
    have:=hb.1.1.2
    unfold PySem.Env.kindOf at this
    simpa using this
   let(y,h1,h2):=Option.bind_eq_some_iff.mp hz;let(rfl,hv):=zG h2
   cases m with
   |zero=>cases h1
   |succ m=>
    let(tg,it,ifs,own,el,src,t,c,rfl,S,rfl):=qiV h1;have B:BlkScope X own (JO L.N sc) sc:=Qq gd S.chk
    exact PS.imp (qfQ (i:=i) own (JO L.N sc) hN hxi hloc gd.calm B (qlZ (Gv:=Gv) (Hv:=Hv) gd (all m _ X L gd) tg it S.src) (λcl C fp s2 H2=>qdE (JQ gd B S.nd cl C fp s2 H2) tg S.tg) (λcl C fp s2 H2=>qeN (all m _ _ _ (JQ gd B S.nd cl C fp s2 H2)) ifs S.c)
     (λcl C fp s2 H2=>qiU (all m _ _ _ (JQ gd B S.nd cl C fp s2 H2)) elt S.el) (hsw true hb) (Zd S.fold X.env)) λD Z H h=>Z7 S Z H _ (ql0 hv Z H _ (fin D Z H h))
 |SetComp=>cases m<;>cases hz
 |DictComp=>cases m<;>cases hz
 |_=>exact absurd rfl hn
theorem qfY.of{G:Hp}{d:D}{v:V}(h:qgc d=true)(r:Rep U G d v):qfY v:=by
 cases d with
 |int i=>simp![Rep]at r;subst r;exact of_decide_eq_true (p:=i.natAbs.log2 < 1920) h
 |non=>simp![Rep]at r;subst r;trivial
 |_=>cases h
theorem qb7{G:Hp}:∀{ds:List D} {vs:List V},ds.all qgc=true->ql U G ds vs->∀u∈vs,qfY u
 |[],vs,_,r=>by simp![ql]at r;subst r;simp
 | d::ds,vs,h,r=>by
  simp![ql]at r;let(v,us,rfl,r1,r2):=r;rw[List.all_cons,Bool.and_eq_true]at h;intro u hu;rcases List.mem_cons.mp hu with rfl|hu
  ·exact qfY.of h.1 r1
  ·exact qb7 h.2 r2 u hu
theorem qdG(gs:Gs U K ε k X L)(A:All U K ε k X L m)(hz:L.z=false)(n:Str)(e:Expr)(es:List Expr)(np cp p:Pos){l:Es}(hc:xnB L n=true)(h1:cEs m L (e::es)=some l) :
  PS X (.Raise (some (.Call (.Name n np) (e::es) [] cp)) none p) (tS U K Gv Hv ε (iS L.k w (.rai n l))):=by
 rw[xnB,Bool.and_eq_true]at hc;let(n1,n2,n3):=qx hc.1;have gd:=gs.toGd;have hg:Gl X n:=gd.glo n hc.2;have hs:=Zc h1;simp![List.any_cons,Bool.or_eq_false_iff]at hs;have pa:PA X (e::es) (tEs U K ε Gv Hv (iEs L.k l)):=A.es Gv Hv _ _ h1;intro pins s Z H D I hq;let(N,G,er,hw):=hq;have hw:=Wx.nox (Ξ':=X0) (Wx.th (x:=noX (iEs L.k l N)) hw)
 have no:(∀v,mkX L.x L.cs n v=.no)->False:=λq=>by
  cases e1:iEs L.k l N with
  |ok v=>rw[e1]at hw;have hv:Wx (XP U Gv Hv ε) (mkX L.x L.cs n v.1) _:=hw;rw[q]at hv;exact hv
  |exc c l=>rw[e1]at hw;exact hw
  |no=>rw[e1]at hw;exact hw
 cases e0:L.cs.xn n with
 |none=>exact(no λv=>by unfold mkX;rw[e0]).elim
 |some ns=>
  cases ns with
  |nil=>
   let(hm,hk):=gs.xn0 n e0;refine ZQ (qdj gs.ex (gs.rs hz)) gd.calm hg hm hk PySem.F.excBase_ValueError pa (qi hs.1) (qP hs.2) n1 pins s Z H D I ⟨N,G,er,Wx.mono2 hw (λ_ _ z=>False.elim z) λv hv vs G1 H1 p1 r1=>?_⟩;have hv:Wx (XP U Gv Hv ε) (mkX L.x L.cs n v.1) _:=hv;unfold mkX at hv;rw[e0]at hv;dsimp only at hv
   by_cases hl:v.1.length<=sizeLine
   ·rw[if_pos hl]at hv;exact{by rw[<-r1.len];exact hl,hv none G1 H1 p1.er.base p1.er.g0 p1.er.sub p1.er.fresh (.inl ⟨rfl,rfl⟩)}
   ·rw[if_neg hl]at hv;exact False.elim hv
  |cons a ns=>
   by_cases gx:L.x=true
   case neg=>exact(no λv=>by unfold mkX;rw[e0];exact if_neg λz=>gx (by simp![Bool.and_eq_true]at z;exact z.1.1.1)).elim
   let(fI,fd,j,hj,hm,hk,F,hb):=gs.xn1 gx n _ e0 (5:);subst hj;refine qbU gs.ex (gs.rs hz) gd.calm hg hm hk F gd.room hb pa (qi hs.1) (qP hs.2) n1 pins s Z H D I ⟨N,G,er,Wx.mono2 hw (λ_ _ z=>False.elim z) λv hv vs G1 H1 p1 r1=>?_⟩;have hv:Wx (XP U Gv Hv ε) (mkX L.x L.cs n v.1) _:=hv;unfold mkX at hv;rw[e0]at hv;dsimp only at hv
   by_cases hl:(L.x&&decide (v.1.length=(a::ns).length)&&decide (v.1.length<=sizeLine)&&v.1.all qgc)=true
   case neg=>rw[if_neg hl]at hv;exact False.elim hv
   rw[if_pos hl]at hv;simp![Bool.and_eq_true,decide_eq_true_eq]at hl;let(((_,l1),l2),l3):=hl;refine{by rw[<-r1.len];exact l2,λx hx=>{x,vs,rfl,qf,by rw[<-r1.len];exact l1,qb7 l3 r1,λdd hd ne=>{rfl,some dd,qf,?_}}};rw[qc ne]at hd;have gdd:G1 dd=none:=qj.none p1.er.sub hd;have gx1:G1 x=none:=qj.none p1.er.sub hx
   have old:∀{b:Addr} {o:HO},H1 b=some o->rem (upd (upd (upd H1 x (yD x (L.cs.xa n) none)) dd (xD dd ((a::ns).zip vs))) x (yD x (L.cs.xa n) (some dd))) x b=some o:=λ{b o} q=>by
    have b1:b≠x:=λz=>by rw[z,hx]at q;cases q
    have b2:b≠dd:=λz=>by rw[z,hd]at q;cases q
    rw[ZW b1,qc b1,qc b2,qc b1];exact q
   have fz:((a::ns).zip v.1).map (·.1)=a::ns:=by rw[List.map_fst_zip];lia
   have sz:((a::ns).zip v.1).map (·.2)=v.1:=by rw[List.map_snd_zip];lia
   have gs1:qj G1 (upd G1 dd (xD dd ((a::ns).zip vs))):=qj.upd gdd;refine hv (some dd) (upd G1 dd (xD dd ((a::ns).zip vs))) _ (λb o q=>old (p1.er.base b o q)) (λb o q=>gs1 b o (p1.er.g0 b o q)) (λb o q=>?_) (λb o q=>?_) (.inr ⟨dd,vs,rfl,by rw[fz];exact qf,by rw[sz];exact r1.same gs1⟩)
   ·by_cases hb:b=dd
    ·subst hb;rw[qf]at q;cases q;rw[ZW ne,qc ne,qf]
    ·rw[qc hb]at q;exact old (p1.er.sub b o q)
   ·by_cases hb:b=dd
    ·subst hb;exact .inr (qj.none p1.er.base hd)
    ·rw[qc hb]at q;exact p1.er.fresh b o q
end
structure AllS(U:KC)(K:Frag)(ε:XK)(X:Cx)(L:Ct)(m w:Nat):Prop where
 s:∀Gv Hv st x,cS m L st=some x->PS X st (tS U K Gv Hv ε (iS L.k w x))
 ss:∀Gv Hv l x,cSs m L l=some x->PSs X l (tS U K Gv Hv ε (iSs L.k w x))
noncomputable abbrev atX(X:Cx)(pins:PP)(E1:PQ):Cx:={ X with pn:=X.pn++pins,xe:=E1 }
section
variable{U:KC}{ε:XK}{K:Frag}{Gv Hv:Hp}{k m w:Nat}{X:Cx}{L:Ct}{pins pins':PP}{E1:PQ}{Z:L2.St}{H:Hp}{s:Shared}
def qi0(ok:X.Ok):(atX X pins E1).Ok:=⟨ok.mod,ok.kind,ok.glob,ok.blt,ok.above,ok.inj,ok.has,ok.cab,ok.hd,ok.frames,ok.stk,ok.exf,ok.bs,ok.bsz,ok.noex,ok.exfs,ok.funs,ok.frf⟩
def qi1(ok:(atX X pins E1).Ok):X.Ok:=⟨ok.mod,ok.kind,ok.glob,ok.blt,ok.above,ok.inj,ok.has,ok.cab,ok.hd,ok.frames,ok.stk,ok.exf,ok.bs,ok.bsz,ok.noex,ok.exfs,ok.funs,ok.frf⟩
def qi2(I:L2.Inv X pins Z H s):L2.Inv (atX X pins E1) [] Z H s:={qi0 I.ok,I.os,I.bare,I.base,I.loc,I.cell,I.free,I.freeC,λp hp=>I.pin p (-hp:),I.hok,I.len}
def Qr(I:L2.Inv (atX X pins E1) pins' Z H s):L2.Inv X pins Z H s:={qi1 I.ok,I.os,I.bare,I.base,I.loc,I.cell,I.free,I.freeC,λp hp=>I.pin p (List.mem_append_left _ hp),I.hok,I.len}
theorem qi3{D:Ends}{f:Flow}(h:SP (atX X pins E1) [] D f s):SP X pins D f s:=by
 cases f with
 |next=>let(Z',H',I,q):=h;exact{Z',H',Qr I,q}
 |brk=>let(Z',H',I,q):=h;exact{Z',H',Qr I,q}
 |cont=>let(Z',H',I,q):=h;exact{Z',H',Qr I,q}
 |ret u=>let(v,Z',H',I,r,q):=h;exact{v,Z',H',Qr I,r,q}
def qi4{E1:PQ}{ε':XK}(gs:Gs U K ε k X L)(ps:zr (CX1 X.prog X.w) (atX X pins E1) ε'):Gs U K ε' k (atX X pins E1) { L with z:=true }:=
 { ps:=ps,own:=λz=>(by cases z),rs:=λz=>(by cases z),ow:=λz=>(by cases z),pt:=λz=>(by cases z),ex:=gs.ex,stk:=gs.stk,xn0:=gs.xn0,xn1:=gs.xn1,xhs:=gs.xhs,hN:=gs.hN,vis:=gs.vis,loc:=gs.loc,glo:=gs.glo,cf:=gs.cf,nd:=gs.nd,calm:=gs.calm,hK:=gs.hK,room:=gs.room,fns:=gs.fns,blt:=gs.blt,gl:=gs.gl,cls:=gs.cls,flds:=gs.flds,mts:=gs.mts,mks:=gs.mks,pts:=gs.pts,pls:=gs.pls,xsubs:=gs.xsubs,xgs:=gs.xgs,subs:=gs.subs,sceq:=gs.sceq,fnk:=gs.fnk }
theorem qli(gs:Gs U K ε k X L){x T C:Addr}{od:Option Addr}{G2:Hp}{hh:Heap}{l:List (Str×D)}{D:Ends}{G:Hp}{n:Nat}{Ξ:XW}(hn:Z.length=n)(Hd:Held X pins Z H s x T C od hh)
  (h1:qj Hv H) (h2:qj Gv G2) (h3:qj G2 H) (h4:∀a o,G2 a=some o->(∃o',Gv a=some o')\/Hv a=none) (h5:qlb U G2 od l) (g:qj G G2) :
  ∀(hs:List ExceptHandler) (hs':List (Str×Nat×Nat)),cHs L hs=some hs'->Wx Ξ (jC L.cs n C l hs') (FlP U K Gv Hv G D)->wpAny (model X.prog X.w) X.A (handleBy (.ref x) X.env hs) (SP X pins D) X.xe { s with heap:=hh }:=by
 intro hs
 induction hs with
 |nil=>intro hs' hc hw;cases hc;exact False.elim hw
 |cons hd hs ih=>
  intro hs' hc hw
  ·let((t,n,v,n2),hH,hc):=bind_some hc;let(tp,vp,np,ap,hp,rfl):=qla hH;let(hb,hc):=qh hc;let(q,r',h6,h7,rfl):=qk hc;let(i,j,h8,h9,rfl):=qk h6;simp![Bool.and_eq_true,decide_eq_true_eq,beq_iff_eq]at hb;let((((((b1,b2),b3),b4),b5),b6),b7):=hb;subst b1;have hg:Gl X t:=gs.glo t b5;let(n1,n2',n3):=qx b4;let(m1,m2,m3):=qx b6;have hw:Wx Ξ (match L.cs.xs C t with |some true=>R.ok (Fl.next ((List.replicate n Sl.no).set j (.val (.exc C (l.map (·.1)) (l.map (·.2)))))) |some false=>jC L.cs n C l r' |none=>.no) (FlP U K Gv Hv G D):=hw
   cases ex:L.cs.xs C t with
   |none=>rw[ex]at hw;exact False.elim hw
   |some b=>
    let(Dc,hm,hq):=gs.xhs C t b b3 ex
    cases b with
    |false=>rw[ex]at hw;exact Q7 Hd gs.ex hg hm hq (ih r' h7 hw) n1
    |true=>
     rw[ex]at hw;let(i1,i2,hN,hxi):=Z5 gs.toGd h8;let(j1,j2,_,hxj):=Z5 gs.toGd h9;have hN:X.N.Nodup:=hN;have hxi:X.N[i]?=some n2:=hxi;have hxj:X.N[j]?=some v:=hxj;have hl:X.env.scope.names.lookup n2=some .local:=by rw[show X.env.scope=L.sc from gs.sceq];exact b7
     have hij:i≠j:=λz=>by rw[z,hxj]at hxi;exact b2 (Option.some.inj hxi)
     have hlen:X.N.length=n:=by rw[<-hn];exact Hd.inv.len.symm
     have hi:i < n:=by rw[<-hlen];exact(List.getElem?_eq_some_iff.mp hxi).1
     have hj:j < n:=by rw[<-hlen];exact(List.getElem?_eq_some_iff.mp hxj).1
     refine qaF Hd gs.ex hg hm hq hN hxi hl (zd (YQ (X:=X.mark (.ref x)) (i:=j) hN hxj j1 (jA (X:=X.mark (.ref x)) (i:=i) hxi (.inl hl) m1 m2) (yq rfl _ _ _) j2)) ⟨.ref x,by rw[List.getElem?_set_self (by rw[hn];exact hi)],?_⟩ n1;have hHx:H x=none:=Hd.mine.hx;have gx2:G2 x=none:=qj.none h3 hHx;have gs2:qj G2 (upd G2 x (qcT x C od)):=qj.upd gx2;refine hw _ (upd G2 x (qcT x C od)) _ ⟨by simp[hn],λb o q=>?_,λb o q=>?_,λb o q=>gs2 b o (h2 b o q),λb o q=>?_,λi' sl q=>?_,λi1' j1' a l' m' q1=>?_⟩ λb o q=>gs2 b o (g b o q)
     ·by_cases hb:b=x
      ·subst hb;rw[qf]at q ⊢;exact q
      ·rw[qc hb]at q ⊢;exact h3 b o q
     ·rw[qc (λz=>by rw[z]at q;have:=h1 _ _ q;rw[hHx]at this;cases this)];exact h1 b o q
     ·by_cases hb:b=x
      ·subst hb;exact .inr (qj.none h1 hHx)
      ·rw[qc hb]at q;exact h4 b o q
     ·by_cases he:j=i'
      ·subst he;rw[List.getElem?_set_self (-hj:)]at q;cases q;refine{.ref x,?_,?_}
       ·rw[List.getElem?_set_ne hij,List.getElem?_set_self (by simp[hn];exact hj)]
       ·simp![Rep];rcases h5 with ⟨z1,z2⟩|⟨dd,xs,z1,z2,z3⟩
        ·exact{x,od,[],rfl,qf,.inl {z1,by rw[z2];rfl},by rw[z2];exact .nil}
        ·exact{x,od,xs,rfl,qf,.inr {dd,z1,gs2 _ _ z2},z3.same gs2}
      ·rw[List.getElem?_set_ne he]at q
       have:=List.eq_of_mem_replicate (List.mem_of_getElem? q)
       subst this;trivial
     ·exfalso
      by_cases he:j=i1'
      ·subst he;rw[List.getElem?_set_self (-hj:)]at q1;cases q1
      ·rw[List.getElem?_set_ne he]at q1
       have:=List.eq_of_mem_replicate (List.mem_of_getElem? q1)
       cases this
def ER.now{G:Hp}{N:Env}(er:ER U K Gv Hv G H N Z):ER U K G Hv G H N Z:={er.len,er.sub,er.base,λ_ _ e=>e,λa o e=>.inl ⟨o,e⟩,er.sl,er.ap}
def ER.thn{G G' H':Hp}{N N':Env}{Z':L2.St}(er:ER U K Gv Hv G H N Z)(e:ER U K G Hv G' H' N' Z'):ER U K Gv Hv G' H' N' Z':=
 ⟨e.len,e.sub,e.base,λb o q=>e.g0 b o (er.g0 b o q),λa o q=>by
  rcases e.fresh a o q with ⟨o',z⟩|z
  ·exact er.fresh a o' z
  ·exact .inr z,e.sl,e.ap⟩
def qi5(gs:Gs U K ε k X L)(S:∀ε' X',Gs U K ε' k X' { L with z:=true }->AllS U K ε' X' { L with z:=true } m w)(body:List Stmt)(h0:ExceptHandler)(hs:List ExceptHandler)(p:Pos){b:Ss}(h1:cSs m { L with z:=true } body=some b) :
  PS X (.Try body (h0::hs) [] [] p) (tS U K Gv Hv ε (iS L.k w (.try_ b ((cHs L (h0::hs)).getD [])))):=by
 intro pins s Z H D I hq;let(N,G,er,hw):=hq;generalize hg:(cHs L (h0::hs)).getD []=hs' at hw;have hw:Wx (XP U Gv Hv ε) (match iSs L.k w b N with |.exc C l=>jC L.cs N.length C l hs' |r=>r) (FlP U K Gv Hv G D):=hw
 let E':XK:=λcv od H2=>∃C l G2,cv=.ref C/\qj Hv H2/\qj G G2/\qj G2 H2/\(∀a o,G2 a=some o->(∃o',G a=some o')\/Hv a=none)/\qlb U G2 od l/\Wx (XP U Gv Hv ε) (jC L.cs N.length C l hs') (FlP U K Gv Hv G D)
 let E1:Value->Shared->Prop:=λe s'=>∃pins' Z' H1 s1,L2.Inv (atX X pins (λ_ _=>True)) pins' Z' H1 s1/\CX1 X.prog X.w X.stack H1 s1 E' e s'
 have gs':Gs U K E' k (atX X pins E1) { L with z:=true }:=qi4 gs λpins' Z' H1 s1 e s' I' c=>{pins',Z',H1,s1,{⟨I'.ok.mod,I'.ok.kind,I'.ok.glob,I'.ok.blt,I'.ok.above,I'.ok.inj,I'.ok.has,I'.ok.cab,I'.ok.hd,I'.ok.frames,I'.ok.stk,I'.ok.exf,I'.ok.bs,I'.ok.bsz,I'.ok.noex,I'.ok.exfs,I'.ok.funs,I'.ok.frf⟩,I'.os,I'.bare,I'.base,I'.loc,I'.cell,I'.free,I'.freeC,I'.pin,I'.hok,I'.len},c}
 have B:=(S _ _ gs').ss G Hv body b h1 [] s Z H D (qi2 I) ⟨N,G,er.now,by
  show Wx (XP U G Hv E') (iSs L.k w b N) _
  cases e1:iSs L.k w b N with
  |ok f=>
   rw[e1]at hw
   cases f with
   | next N'=>exactλZ' G' H' q g=>hw Z' G' H' (er.thn q) g
   |ret r=>
    refineλv G' H' q1 q2 q3 q4=>hw v G' H' q1 (λb o q=>q2 b o (er.g0 b o q)) q3 λa o q=>?_;rcases q4 a o q with ⟨o',z⟩|z
    ·exact er.fresh a o' z
    ·exact .inr z
  |no=>rw[e1]at hw;exact hw
  |exc C l=>rw[e1]at hw;exactλod G' H' q1 q2 q3 q4 q5=>⟨C,l,G',rfl,q1,q2,q3,q4,q5,hw⟩⟩
 refine wpAny_Try_except (wpAny_mono B (λf s1 q=>?_) λe s1 hq=>?_)
 ·have q:=qi3 q
  cases f with
  |next=>exact wpAny_execs_nil q
  |_=>exact q
 ·let(pins',Z',H1,s2,I2,c):=hq
  exact qmN (D:=D) gs.stk gs.ex (Qr I2) c λx T C od H2 hh q Hd=>by
   let(C',l,G2,ec,q1,q2,q3,q4,q5,q6):=q;cases ec
   cases h2:cHs L (h0::hs) with
   |none=>rw[h2]at hg;subst hg;exact False.elim q6
   |some hs2=>
    rw[h2]at hg;subst hg
    exact qli gs (by rw[er.len,I.len];exact Hd.inv.len) Hd q1 (λb o q=>q2 b o (er.g0 b o q)) q3 (λa o q=>by
     rcases q4 a o q with ⟨o',z⟩|z
     ·exact er.fresh a o' z
     ·exact .inr z) q5 q2 (h0::hs) hs2 h2 q6
end
section
variable{U:KC}{ε:XK}{K:Frag}{Gv Hv:Hp}{k m w:Nat}{X:Cx}{L:Ct}
theorem FlP.back{G G1:Hp}{D:Ends}{f:Fl}(h:FlP U K Gv Hv G D f)(g:qj G G1):FlP U K Gv Hv G1 D f:=by
 cases f with
 |next N=>exactλZ' G' H' er g'=>h Z' G' H' er λb o e=>g' b o (g b o e)
 |ret r=>exact h
def qdH{e:Expr}(h:qbX e=true)(es:List Expr)(j:Nat)(p:Pos)(env:PySem.Env):swappedStores [.Tuple es j p] e env=pure none:=by cases e<;>first|rfl|(simp[qbX]at h)
def qb8(gd:Gd U K ε k X L)(A:All U K ε k X L m)(es:List Expr)(j:Nat)(tp:Pos)(e:Expr)(p:Pos){x:S}(h:cS (m+1) L (.Assign [.Tuple es j tp] e p)=some x):PS X (.Assign [.Tuple es j tp] e p) (tS U K Gv Hv ε (iS L.k w x)):=by let(hc,h):=qh h;let(t,a',h1,h2,rfl):=qk h;rw[Bool.and_eq_true]at hc;refine PS.imp (qem (A.e Gv Hv _ _ h2) (qdE (Ξ:=XP U Gv Hv ε) gd (.Tuple es j tp) h1) (show swapsWithSole [.Tuple es j tp] e p.line X.env=pure false from yq hc.1 (some (.Tuple es j tp)) p.line X.env) (qdH hc.2 es j tp _) rfl) λD Z H hq1=>?_;let(N,G,er,h):=hq1;refine{N,G,er,Wx.mono (Wx.th (x:=zU a' (iR L.k a') N) h) λx h v G1 H1 p1 r1=>?_};exact{Gv,Hv,x.2,G1,x.1,p1.er,r1,Wx.mono (Wx.th h) λN1 h Z1 er1=>h Z1 G1 H1 er1 p1.gs}
def qlj(r:Env->R (Rv×Env))(i:Nat)(d:D)(N:Env):R Fl:=match zA N i with
 |none=>.no
 |some _=>(r N).th λz=>match zA z.2 i,z.1.int? with
  |some l,some n=>(match ixN l.length n with
   |some k=>.ok (.next (z.2.set i (.own (l.set k d))))
   |none=>.no)
  |_,_=>.no
def gS(U:KC)(K:Frag)(ε:XK)(Gv Hv:Hp)(r:Env->R (Rv×Env))(i:Nat):TG:=λv Z H Q=>∃(N:Env) (G:Hp) (d:D) (D:Ends),ER U K Gv Hv G H N Z/\Rep U G d v/\Wx (XP U Gv Hv ε) (qlj r i d N) (FlP U K Gv Hv G D)/\∀H',D.nx Z H'->Q Z H'
theorem qlk(gd:Gd U K ε k X L)(A:All U K ε k X L m)(x:Str)(i:Expr)(xp p:Pos)(hs:Yd i=true){j:Nat}{i':E}(hj:qa4 L x=some j)(hi:cE m L i=some i'):PG X (.Subscript (.Name x xp) i p) (gS U K ε Gv Hv (iR L.k i') j):=by
 refine PG.imp (qhC (Qj gd hj xp) (A.r Gv Hv _ _ hi) qc9 (λv=>by cases i<;>first|rfl |(simp[Yd]at hs))) λv Z H Q hq1=>?_;let(N,G,d,D,er,r,h,hQ):=hq1;unfold qlj at h
 cases e1:zA N j with
 |none=>rw[e1]at h;exact False.elim h
 |some l0=>
  rw[e1]at h;let(b,xs,z,h1,h2):=er.ownSlot (jf e1);refine{_,z,N,G,er,Wx.mono (Wx.th h) λy h u G1 H1 p1 r1=>?_}
  cases e2:zA y.2 j with
  |none=>rw[e2]at h;exact False.elim h
  |some l=>
   cases e3:y.1.int? with
   |none=>rw[e2,e3]at h;exact False.elim h
   |some n=>
    rw[e2,e3]at h;dsimp only at h
    cases e4:ixN l.length n with
    |none=>rw[e4]at h;exact False.elim h
    |some c=>rw[e4]at h;let(b',ys,z',h3,h4):=p1.er.ownSlot (jf e2);rw[z]at z';cases z';refine{b,ys,n,c,rfl,r1.int e3,h3,by rw[<-h4.len];exact e4,hQ _ ?_};exact h Z G1 _ (p1.er.write (jf e2) z (h4.set c (r.same p1.gs))) p1.gs
def qb9(gd:Gd U K ε k X L)(A:All U K ε k X L m)(x:Str)(i e:Expr)(xp sp p:Pos){y:S}(h:cS (m+1) L (.Assign [.Subscript (.Name x xp) i sp] e p)=some y):PS X (.Assign [.Subscript (.Name x xp) i sp] e p) (tS U K Gv Hv ε (iS L.k w y)):=by let(hc,h):=qh h;let(j,q,h1,h2,rfl):=qk h;let(i',a',h3,h4,rfl):=qk h2;rw[Bool.and_eq_true]at hc;refine PS.imp (qem (A.e Gv Hv _ _ h4) (qlk (Gv:=Gv) (Hv:=Hv) gd A x i xp sp hc.2 h1 h3) (show swapsWithSole [.Subscript (.Name x xp) i sp] e p.line X.env=pure false from yq hc.1 (some (.Subscript (.Name x xp) i sp)) p.line X.env) rfl rfl) λD Z H hq1=>?_;let(N,G,er,h):=hq1;exact{N,G,er,Wx.mono (Wx.th (x:=zU a' (iR L.k a') N) h) λy h v G1 H1 p1 r1=>{y.2,G1,y.1,D,p1.er,r1,Wx.mono (show Wx _ (qlj (iR L.k i') j y.1 y.2) _ from h) λf hf=>hf.back p1.gs,λ_ h=>h}}
theorem qll(A:All U K ε k X L m)(S:AllS U K ε X L m w)(c:Expr)(a b:List Stmt)(p:Pos){x:DE.S}(h:cS (m+1) L (.If c a b p)=some x):PS X (.If c a b p) (tS U K Gv Hv ε (iS L.k w x)):=by
 let(c',q,h1,h2,rfl):=qk h;let(a',b',h3,h4,rfl):=qk h2;refine PS.imp (YN (A.t Gv Hv _ _ h1) (S.ss Gv Hv _ _ h3) (S.ss Gv Hv _ _ h4)) λD Z H hq1=>?_;let(N,G,er,h):=hq1;refine{N,G,er,Wx.mono (Wx.th (x:=iT L.k c' N) h) λt h G1 H1 p1=>?_};let(d,N1):=t
 cases d with
 |true=>rw[if_pos rfl];exact{N1,G1,p1.er,Wx.mono h λf hf=>hf.back p1.gs}
 |false=>rw[if_neg (λz=>by cases z)];exact{N1,G1,p1.er,Wx.mono h λf hf=>hf.back p1.gs}
def qi6(gs:Gs U K ε k X L)(A:All U K ε k X L m)(S:AllS U K ε X L m w)(tg it:Expr)(body:List Stmt)(p:Pos){x:DE.S}(h:cS (m+1) L (.For tg it body [] p)=some x):PS X (.For tg it body [] p) (tS U K Gv Hv ε (iS L.k w x)):=by
 let(hf,h):=qh h;rw[Bool.and_eq_true]at hf;let(hz,hf):=hf;have hz:L.z=false:=(-hz:)
 let(q,b',h1,h2,rfl):=qk h;let(t,src,h3,h4,rfl):=qk h1;refine PS.imp (qhD (gs.own hz) gs.calm (A.i Gv Hv _ _ _ h4) (qdE (Ξ:=XP U Gv Hv ε) gs.toGd tg h3) (S.ss Gv Hv _ _ h2) (Zd hf X.env)) λD Z H hq1=>?_;let(N,G,er,h):=hq1;refine{N,G,er,Wx.mono (Wx.th (x:=iI L.k src N) h) λx h J G1 H1 p1 it1=>?_}
 refine{λi mm Z' H'=>mm=x.1.length - i/\i<=x.1.length/\∃Nb Gb,ER U K Gv Hv Gb H' Nb Z'/\qj G1 Gb/\Wx (XP U Gv Hv ε) (qkn (λd N1=>(t.go d N1).th λN2=>iSs L.k w b' N2) (x.1.drop i) Nb) (FlP U K Gv Hv G D),
  {x.1.length,by simp,Nat.zero_le _,x.2,G1,p1.er,λ_ _ e=>e,by rw[List.drop_zero];exact h},?_}
 rintro i mm Z' H' ⟨rfl,hi,Nb,Gb,erb,g1,hw⟩;have it2:=it1 i Gb H' g1 erb.base erb.sub
 by_cases hlt:i < x.1.length
 ·let(go,yl):=it2.1 x.1[i] (List.getElem?_eq_getElem hlt);refine .inr ⟨go,_,λZ2 H2 w=>{x.1.length - (i+1),by omega,w},λv H2 hy=>?_⟩;let(G',hs,gss,sub,new,rep):=yl v H2 hy;have p2:=Po.more erb hs gss sub new;rw[List.drop_eq_getElem_cons hlt]at hw;refine{Gv,Hv,Nb,G',x.1[i],p2.er,rep,Wx.mono (Wx.th (Wx.th hw)) λN2 hw Z2 er2=>{N2,G',er2,Wx.mono hw λf hf=>?_}}
  cases f with
  |next N3=>exactλZ3 G3 H3 er3 g3=>{rfl,hlt,N3,G3,er3,λb o e=>g3 b o (gss b o (g1 b o e)),hf}
  |ret r=>exact hf
 ·have e:i=x.1.length:=by omega
  subst e;rw[List.drop_length]at hw;exact .inl ⟨it2.2 rfl,hw Z' Gb H' erb λb o e=>g1 b o (p1.gs b o e)⟩
theorem qgA(gd:Gd U K ε k X L)(A:All U K ε k X L m)(e:Expr)(p:Pos){x:S}(h:cS (m+1) L (.Expr e p)=some x):PS X (.Expr e p) (tS U K Gv Hv ε (iS L.k w x)):=by
 have gen:oif (jN e) ((cE m L e).map .expr)=some x->PS X (.Expr e p) (tS U K Gv Hv ε (iS L.k w x)):=λh=>by let(hn,h):=qh h;let(a',h1,rfl):=map_some h;refine PS.imp (zx (A.r Gv Hv _ _ h1) (yq hn _ _ _)) λD Z H hq1=>?_;let(N,G,er,h):=hq1;exact{N,G,er,Wx.mono (Wx.th (x:=iR L.k a' N) h) λx h v G1 H1 p1 r1=>h Z G1 H1 p1.er p1.gs}
 cases e with
 |Call fn es kws cp=>
  cases fn with
  |Attribute o meth ap=>
   cases o with
   |Name y yp=>
    cases kws with
    |cons kw kws=>exact match es,h,gen with |[],h,gen=>gen h |[_],h,gen=>gen h|_::_::_,h,gen=>gen h
    |nil=>
     match es,h,gen with
     |[a],h,gen=>
      let(hc,h):=qh h;rw[Bool.and_eq_true]at hc;have hs:zc a=false:=(-hc.2:)
      by_cases h1:meth = "append"
      ·subst h1;rw[if_pos rfl]at h;let(i,a',h2,h3,rfl):=qk h;exact qb6 gd A y a yp ap cp p hc.1 hs h2 h3
      rw[if_neg h1]at h;cases h
     |[],h,gen=>let(hc,h0):=qh h;rw[Bool.and_eq_true]at hc;obtain rfl:meth = "clear":=of_decide_eq_true hc.2;let(i,h2,rfl):=map_some h0;exact qdF gd y yp ap cp p hc.1 h2
     | _::_::_,h,gen=>exact gen h
   |_=>exact gen h
  |_=>exact gen h
 |_=>exact gen h
theorem qnb(gs:Gs U K ε k X L)(A:All U K ε k X L m)(S:AllS U K ε X L m w)(Sz:∀ε' X',Gs U K ε' k X' { L with z:=true }->AllS U K ε' X' { L with z:=true } m w)(st:Stmt)(x:DE.S)(h:cS (m+1) L st=some x):PS X st (tS U K Gv Hv ε (iS L.k w x)):=by
 cases st with
 |Pass p=>cases h;exact PS.imp qfd λD Z H ⟨N,G,er,h⟩=>h Z G H er λ_ _ e=>e
 |Raise ex ca p=>
  have stuck:∀{y:DE.S},y=.stuck->PS X (.Raise ex ca p) (tS U K Gv Hv ε (iS L.k w y)):=λ{y} e=>by subst e;refineλpins s Z H D I hz1=>?_;let(N,G,er,h):=hz1;exact False.elim h
  replace h:=(Option.some.inj h).symm
  cases e:ex.bind cN with
  |none=>rw[e]at h;exact stuck h
  |some t=>
   rw[e]at h
   cases ca with
   |some _=>exact stuck h
   |none=>
    dsimp only at h
    by_cases hc:(!L.z&&xnB L t.1)=true
    case neg=>rw[if_neg hc]at h;exact stuck h
    rw[if_pos hc]at h;simp![Bool.and_eq_true,Bool.not_eq_true']at hc
    cases e2:cEs m L (t.2.1::t.2.2) with
    |none=>rw[e2]at h;exact stuck h
    |some l=>rw[e2]at h;subst h;let(y,rfl,e):=bind_some e;let(np,cp,rfl):=qk9 e;exact qdG gs A hc.1 t.1 t.2.1 t.2.2 np cp p hc.2 e2
 |Expr e p=>exact qgA gs.toGd A e p h
 |Return o p=>
  cases o with
  |some e=>let(y,h1,rfl):=map_some h;exact qiY gs.toGd A e p h1
  |none=>cases h;exact PS.imp qfe λD Z H ⟨N,G,er,h⟩=>h .non G H er.base er.g0 er.sub er.fresh (by simp![ReR,Rep])
 |Assign tgs e p=>
  match tgs,h with
  |[],h=>cases h
  | _::_::_,h=>cases h
  |[tg],h=>
   cases tg with
   |Name x xp=>let(i,z,h1,h2,rfl):=qk h;exact qiZ gs A x e xp p h1 h2
   |Tuple es j tp=>exact qb8 gs.toGd A es j tp e p h
   |Subscript o i sp=>
    cases o with
    |Name x xp=>exact qb9 gs.toGd A x i e xp sp p h
    |_=>cases h
   |_=>cases h
 |If c a b p=>exact qll A S c a b p h
 |Try body hs orelse fin p=>
  cases hs with
  |nil=>cases h
  |cons h0 hs=>
   cases orelse with
   |cons _ _=>cases h
   |nil=>
    cases fin with
    |cons _ _=>cases h
    |nil=>let(hz,h):=qh h;let(b,h1,rfl):=map_some h;exact qi5 gs Sz body h0 hs p h1
 |For tg it body orelse p=>
  cases orelse with
  |nil=>exact qi6 gs A S tg it body p h
  |cons s l=>cases h
 |While c body orelse p=>cases h
 |_=>cases h
theorem qlm(S:AllS U K ε X L m w):∀l x,cSs (m+1) L l=some x->PSs X l (tS U K Gv Hv ε (iSs L.k w x))
 |[],_,h=>by cases h;exact PSs.imp zQ λD Z H ⟨N,G,er,h⟩=>h Z G H er λ_ _ e=>e
 | st::l,_,h=>by
  let(s',l',h1,h2,rfl):=qk h;refine PSs.imp (qo (S.s Gv Hv _ _ h1) (S.ss Gv Hv _ _ h2)) λD Z H hq1=>?_;let(N,G,er,h):=hq1;refine{N,G,er,Wx.mono (Wx.th (x:=iS L.k w s' N) h) λf hf=>?_}
  cases f with
  |next N1=>exactλZ1 G1 H1 er1 g1=>{N1,G1,er1,Wx.mono hf λf hf=>hf.back g1}
  |ret r=>exact hf
theorem qi7:∀(m:Nat) (ε:XK) (X:Cx) (L:Ct),Gs U K ε k X L->AllS U K ε X L m w
 |0,_,_,_,_=>{(λ_ _ _ _ h=>nomatch h),(λ_ _ _ _ h=>nomatch h)}
 | m+1,ε,X,L,gs=>
  have S:=qi7 m ε X L gs
  ⟨λGv Hv=>qnb gs (all m _ X L gs.toGd) S λε' X' g=>qi7 m ε' X' _ g,λGv Hv=>qlm S⟩
end
def Jk(st:Stmt):List Str:=(ze st).args.map (·.arg)
def fnN(st:Stmt):List Str:=Jk st++(qe st).names.filterMap λx=>if ((x.2 == .local||x.2 == .cell)&&!(Jk st).contains x.1)=true then some x.1 else none
def jg(st:Stmt):Bool:=(qe st).kind == .function&&!(qe st).isCoroutine&&!(qe st).isGenerator&&decide (fnN st).Nodup&&(Jk st).all (qf8 (qe st))&&(qe st).names.all λy=>y.2 != .free
def toSl:Ar->Sl
 |.val d=>.val d
 |.bor l=>.bor l
 |.scr l=>.scr l
def zV(N:List Str)(args:List Ar):Env:=args.map toSl++List.replicate (N.length - args.length) .no
structure Pg where
 defs:List (Str×Stmt)
 gl:Str->Option D
 m:Nat
 w:Nat
 meths:List (Str×Stmt):=[]
 cs:Cs:=Cs.non
 nw:Nat->Str->List Ar->R Rv:=λ_ _ _=>.no
 xx:Xs:={}
def Pg.ct(pg:Pg)(k:Nat)(cl:Str->List Ar->R Rv)(st:Stmt):Ct:={fnN st,qe st,pg.defs.map (·.1),pg.gl,cl,pg.cs,pg.nw k,false,decide (2<=k),decide (12<=k)}
def flR:Fl->R Rv
 |.next _=>.ok (.val .non)
 |.ret r=>.ok r
def evF(pg:Pg)(k:Nat)(cl:Str->List Ar->R Rv)(st:Stmt)(args:List Ar):R Rv:=
 if (jg st&&args.length == (Jk st).length)=true then (match cSs pg.m (pg.ct k cl st) (qt st) with
  |some b=>(iSs (pg.ct k cl st).k pg.w b (zV (fnN st) args)).th flR
  |none=>.no) else .no
def clK(pg:Pg):Nat->Str->List Ar->R Rv
 |0,_,_=>.no
 | k+1,f,args=>match (pg.defs++pg.meths).lookup f with
  |some st=>evF pg k (clK pg k) st args
  |none=>.no
def FnF(K:Frag)(mg:PR)(f:Str)(st:Stmt):Prop:=∃fa fd,Fun K f f st fa fd/\mg f=some (.ref fa)/\qM K fd (Jk st) []
inductive AllF(K:Frag)(mg:PR):List (Str×Stmt)->Prop where
 | nil:AllF K mg []
 | cons {f:Str} {st:Stmt} {l:List (Str×Stmt)} (h:FnF K mg f st) (t:AllF K mg l):AllF K mg ((f,st)::l)
theorem AllF.mem{K:Frag}{mg:PR}:∀{l:List (Str×Stmt)} {f:Str} {st:Stmt},AllF K mg l->(f,st)∈l->FnF K mg f st
 |_,_,_,.nil,h=>by cases h
 |_,_,_,.cons h t,m=>by
  cases m with
  |head=>exact h
  |tail _ m=>exact t.mem m
def JR(P:Program)(wd:World)(U:KC)(K:Frag)(mg:PR)(base:Heap)(pg:Pg)(k:Nat):Prop:=
 (∀(f:Str) (st:Stmt),pg.defs.lookup f=some st->∃fa fd,FnOk P wd K mg base (CX1 P wd) k fa fd (Jk st) (spF U K (clK pg k) f)/\mg f=some (.ref fa)/\PySem.W.keepIn K (.ref fa)=true/\qM K fd (Jk st) [])/\
 (∀(f:Str) (st:Stmt),pg.meths.lookup f=some st->pg.defs.lookup f=none->∀nm fa fd,Fun K nm f st fa fd->FnOk P wd K mg base (CX1 P wd) k fa fd (Jk st) (spF U K (clK pg k) f))
structure PgOk(U:KC)(K:Frag)(mg:PR)(pg:Pg):Prop where
 fn:AllF K mg pg.defs
 blt:∀f∈qbZ,mg f=none
 gl:∀x d,pg.gl x=some d->∃v u,mg x=some u/\qH v u/\∀G,Rep U G d v
 cls:∀c C,U c=some C->Cls K C
 flds:∀c x C,pg.cs.fld c x=true->U c=some C->zj K C x
 mts:∀c x f,pg.cs.mt c x=some f->∃C fa fd st nm,U c=some C/\Meth K C x fa/\pg.meths.lookup f=some st/\pg.defs.lookup f=none/\Fun K nm f st fa fd/\qM K fd (Jk st) []
 mks:∀P wd base k,(∀j,j < k->JR P wd U K mg base pg j)->∀f,pg.cs.tab.contains f=true->(¬ 12<=k/\∀args,pg.nw k f args=.no)\/∃C fa fd ps sp,Mk K C fa/\FnOk P wd K mg base (CX1 P wd) (k - 1) fa fd ps sp/\mg f=some (.ref C)/\qM K fd ps []/\0 < k/\
  ∀vs H Q E,spF U K (pg.nw k) f vs H Q E->∀x dx,H x=none->H dx=none->dx≠x->sp (.ref x::vs) (upd (upd H dx (.own x)) x (.ins C dx [])) (λv H2=>v=.non/\Q (.ref x) H2) E
 pts:∀c,pg.cs.pt c=true->∃C,U c=some C/\(∀H p dx fs,H p=some (HO.ins C dx fs)->TyOf K H (.ref p) (.ref C))/\∀n∈plN,PySem.W.kitOne K (.ref C) (.type n)=some false:=by exactλ_ h=>by cases h
 pls:∀t,pg.cs.pl t=true->∃T,mg t=some (.ref T)/\∀n∈plN,PySem.W.kitOne K (.type n) (.ref T)=some false:=by exactλ_ h=>by cases h
 xsubs:∀C t b,pg.cs.xs C t=some b->ExcIs K C/\((∃T,mg t=some (.ref T)/\PySem.W.kitOne K (.ref C) (.ref T)=some b)\/(mg t=none/\t = "ValueError"/\PySem.W.kitOne K (.ref C) (.type "ValueError")=some b)):=by exactλ_ _ _ h=>by cases h
 xgs:∀C x,pg.cs.xg C x=true->XcG K C x:=by exactλ_ _ h=>by cases h
 xn0:∀n,pg.cs.xn n=some []->mg n=some (.ref (pg.cs.xa n))/\PySem.W.excIn K (pg.cs.xa n) bV "ValueError.__new__" = true:=by exactλ_ h=>by cases h
 xn1:∀n ns,pg.cs.xn n=some ns->ns≠[]->∀P wd base j,∃fI fd,mg n=some (.ref (pg.cs.xa n))/\XcC K (pg.cs.xa n) fI/\FnOk P wd K mg base CX0 (j+1) fI fd ("self" :: ns) (qiX (pg.cs.xa n) ns)/\qM K fd ("self" :: ns) []:=by exactλ_ _ h=>by cases h
 xhs:∀C (t:Str) b,t≠("ValueError" : Str)->pg.cs.xs C t=some b->∃D,mg t=some (.ref D)/\PySem.W.exmOne K (.ref C) (.ref D)=some b:=by exactλ_ _ _ _ h=>by cases h
 subs:∀c t b,pg.cs.sub c t=some b->∃C T,U c=some C/\(∀H p dx fs,H p=some (HO.ins C dx fs)->TyOf K H (.ref p) (.ref C))/\mg t=some (.ref T)/\PySem.W.kitOne K (.ref C) (.ref T)=some b
section
variable{P:Program}{wd:World}{U:KC}{K:Frag}{mg:PR}{base:Heap}{pg:Pg}
theorem jW.len{G H:Hp}:∀{args:List Ar} {vs:List V},jW U K G H args vs->args.length=vs.length
 |[],vs,h=>by simp![jW]at h;subst h;rfl
 | a::l,vs,h=>by simp![jW]at h;let(v,r,rfl,_,h2):=h;simp[jW.len h2]
theorem jW.at{G H:Hp}:∀{args:List Ar} {vs:List V} {i:Nat} {a:Ar},jW U K G H args vs->args[i]?=some a->∃v,vs[i]?=some v/\ArR U K G H a v
 |[],vs,i,a,h,e=>by simp at e
 | b::l,vs,0,a,h,e=>by simp![jW]at h;let(v,r,rfl,h1,h2):=h;simp at e;subst e;exact⟨v,rfl,h1⟩
 | b::l,vs,i+1,a,h,e=>by simp![jW]at h;let(v,r,rfl,h1,h2):=h;let(v',e1,e2):=jW.at (i:=i) h2 (-e:);exact{v',(-e1:),e2}
def Z8{G H:Hp}{args:List Ar}{vs:List V}{N:List Str}(sub:qj G H)(h:jW U K G H args vs):ER U K G H G H (zV N args) (L2.jM N vs):=by
 have hl:=h.len;refine{by simp[zV,L2.jM,hl],sub,λ_ _ e=>e,λ_ _ e=>e,λa o e=>.inl ⟨o,e⟩,λi s e=>?_,λi j a l n e1=>?_}
 ·unfold zV at e;unfold L2.jM
  by_cases hi:i < args.length
  ·rw[List.getElem?_append_left (-hi:),List.getElem?_map]at e;let(b,e1,rfl):=Option.map_eq_some_iff.mp e;let(v,e2,e3):=h.at e1;rw[List.getElem?_append_left (by rw[List.length_map,<-hl];exact hi),List.getElem?_map,e2]
   cases b with
   |val d=>exact⟨v,rfl,e3⟩
   |bor l=>let(a,xs,rfl,h1,h2):=e3;exact⟨a,xs,rfl,h1,h2⟩
   |scr l=>let(a,xs,rfl,h1,h2):=e3;exact⟨a,xs,rfl,h1,h2⟩
  ·rw[List.getElem?_append_right (-hi:)]at e
   have:s=.no:=by
    have:=List.mem_of_getElem? e
    exact List.eq_of_mem_replicate this
   subst this;trivial
 ·exfalso;unfold zV at e1
  by_cases hi:i < args.length
  ·rw[List.getElem?_append_left (-hi:),List.getElem?_map]at e1;let(b,_,z):=Option.map_eq_some_iff.mp e1
   cases b<;>cases z
  ·rw[List.getElem?_append_right (-hi:)]at e1
   have:=List.eq_of_mem_replicate (List.mem_of_getElem? e1)
   cases this
def zH{st:Stmt}(h:jg st=true):FnScope (fnN st) (Jk st) (qe st):=by unfold jg at h;simp![Bool.and_eq_true,Bool.not_eq_true',List.all_eq_true]at h;let(((((h1,h2),h3),h4),h5),h6):=h;refine{by simpa using h1,h2,h3,of_decide_eq_true h4,by simp[fnN],λx hx=>qb0 (h5 x hx),λy hy=>by simpa using h6 y hy}
def yQ{k:Nat}{f:Str}{st:Stmt}{args:List Ar}(h:(pg.defs++pg.meths).lookup f=some st):clK pg (k+1) f args=evF pg k (clK pg k) st args:=by show(match (pg.defs++pg.meths).lookup f with |some st=>_ |none=>R.no)=_;rw[h]
theorem qeO{f:Str}{st:Stmt}:∀{l m:List (Str×Stmt)},l.lookup f=some st->(l++m).lookup f=some st
 |[],m,h=>by cases h
 | (g,s)::l,m,h=>by
  rw[List.lookup_cons]at h;rw[List.cons_append,List.lookup_cons]
  cases e:(f == g) with
  |true=>rw[e]at h;exact h
  |false=>rw[e]at h;exact qeO h
theorem qeP{f:Str}:∀{l m:List (Str×Stmt)},l.lookup f=none->(l++m).lookup f=m.lookup f
 |[],m,h=>rfl
 | (g,s)::l,m,h=>by
  rw[List.lookup_cons]at h;rw[List.cons_append,List.lookup_cons]
  cases e:(f == g) with
  |true=>rw[e]at h;cases h
  |false=>rw[e]at h;exact qeP h
theorem Qs{f:Str}:∀{l:List (Str×Stmt)},(l.map (·.1)).contains f=true->∃st,l.lookup f=some st
 |[],h=>by simp at h
 | (g,st)::l,h=>by
  by_cases e:f=g
  ·subst e;exact{st,by simp[List.lookup_cons]}
  ·have hb:(f == g)=false:=(-e:)
   let(s,hs):=Qs (l:=l) (f:=f) (by simp![List.map_cons,List.contains_cons,hb,Bool.false_or]at h;exact h)
   exact{s,by rw[List.lookup_cons,hb];exact hs}
def qi8(ok:PgOk U K mg pg){k:Nat}(ih:∀j,j<=k->JR P wd U K mg base pg j){f:Str}{st:Stmt}{fa:Addr}{cdv:Value}{A:Around}{outer:List PySem.Env}{s:Shared}{H:Hp}{E:XK}(S:FnScope (fnN st) (Jk st) (qe st))(hr:Room k (A.deeper (envOfC f (qe st) s.heap.objs.size fa cdv))) :
  Gs U K E k (JC (CX1 P wd) P wd K mg base (fnN st) f (qe st) fa cdv A outer s H E) (pg.ct k (clK pg k) st):=
 {ps:=qbJ λ_ _ _ q=>q
  hN:=rfl
  vis:=λx h=>qeF h
  loc:=λx h=>{qb0 h,.inl rfl}
  glo:=λx h=>by have h:((qe st).names.lookup x == some NameKind.globalImplicit)=true:=h;exact(by simpa using h:(qe st).names.lookup x=some .globalImplicit)
  cf:=λx h=>h
  nd:=S.nd
  calm:=rfl
  hK:=rfl
  room:=hr
  fns:=λg hg=>by let(st',hl):=Qs (l:=pg.defs) hg;let(ga,gd,G1,G2,G3,G4):=(ih k (Nat.le_refl k)).1 g st' hl;exact{ga,gd,Jk st',G1,G2,G3,G4}
  blt:=ok.blt
  gl:=ok.gl
  cls:=ok.cls
  flds:=ok.flds
  mts:=λc x f h=>by let(C,fa,fd,st',nm,m1,m2,m3,m4,m5,m6):=ok.mts c x f h;exact{C,fa,fd,_,m1,m2,(ih k (Nat.le_refl k)).2 f st' m3 m4 nm fa fd m5,m6}
  mks:=λf hf=>(ok.mks P wd base k (λj hj=>ih j (Nat.le_of_lt hj)) f hf).imp (λz=>{decide_eq_false z.1,z.2}) id
  pts:=ok.pts
  pls:=ok.pls
  xsubs:=ok.xsubs
  xgs:=ok.xgs
  subs:=ok.subs
  own:=λ_=>PassesOwn.leaving
  rs:=λ_=>qbT
  ow:=λ_ _=>PassesOwnAt.leaving
  pt:=λ_=>qbV
  ex:=rfl
  stk:=⟨rfl,rfl⟩
  xn0:=ok.xn0
  xn1:=λhk n ns e1 e2=>by have hk:2<=k:=of_decide_eq_true hk;let(j,rfl):∃j,k=j+2:={k - 2,by omega};let(fI,fd,q1,q2,q3,q4):=ok.xn1 n ns e1 e2 P wd base j;exact{fI,fd,j+1,rfl,q1,q2,q3,q4}
  xhs:=ok.xhs
  sceq:=rfl
  fnk:=S.kind }
def Z9{k:Nat}{fa:Addr}{fd:FuncData}{ps:List Str}{sp sp':Sp}(F:FnOk P wd K mg base (CX1 P wd) k fa fd ps sp)(h:∀vs H Q E,sp' vs H Q E->sp vs H Q E0):FnOk P wd K mg base CX0 k fa fd ps sp':=
 ⟨λvs H Q E q=>F.len vs H Q E0 (h vs H Q E q),λA outer s H args us vs Q E hr he hb hv hs=>codeAny_mono (F.run A outer s H args us vs Q E0 hr he hb hv (h vs H Q E hs)) λr s' q=>by
  cases r with
  |error e=>let(x,T,C,od,H',_,_,_,_,_,_,_,_,_,_,z):=(show CX1 P wd outer H s E0 e s' from q);exact z.elim
  |ok fl=>cases fl<;>exact q⟩
def qca{k:Nat}{st:Stmt}{args:List Ar}{cl:Str->List Ar->R Rv}{Ξ:XW}{g:Rv->Prop}(z:Wx Ξ (evF pg k cl st args) g):(jg st=true/\args.length=(Jk st).length)/\
  Wx Ξ (match cSs pg.m (pg.ct k cl st) (qt st) with |some b=>(iSs (pg.ct k cl st).k pg.w b (zV (fnN st) args)).th flR |none=>.no) g:=by
 unfold evF at z;let(hc,z):=Wx.iff z;simp![Bool.and_eq_true,beq_iff_eq]at hc;exact⟨hc,z⟩
def qcb(ok:PgOk U K mg pg){k:Nat}(ih:∀j,j<=k->JR P wd U K mg base pg j){nm f:Str}{st:Stmt}{fa:Addr}{fd:FuncData}(F:Fun K nm f st fa fd)(h:(pg.defs++pg.meths).lookup f=some st):FnOk P wd K mg base (CX1 P wd) (k+1) fa fd (Jk st) (spF U K (clK pg (k+1)) f):=by
 by_cases hc:jg st=true
 case neg=>
  have no:∀{vs:List V} {H:Hp} {Q:VK} {E:XK},spF U K (clK pg (k+1)) f vs H Q E->False:=λ{vs H Q E} ⟨G,args,_,_,z⟩=>by rw[yQ h]at z;exact hc (qca z).1.1
  exact{λvs H Q E z=>(no z).elim,λA outer s H args us vs Q E _ _ _ _ z=>(no z).elim}
 refine F.okx (zH hc) (λvs H Q E z=>?_) (λcdv A outer s H vs Q E hr z=>?_)
 ·let(G,args,_,ha,z):=z;rw[yQ h]at z;rw[<-ha.len];exact(qca z).1.2
 ·let(G,args,sub,ha,z):=z;rw[yQ h]at z;have z:=(qca z).2;have gs:Gs U K E k (JC (CX1 P wd) P wd K mg base (fnN st) f (qe st) fa cdv A outer s H E) (pg.ct k (clK pg k) st):=qi8 ok ih (zH hc) hr
  cases hb:cSs pg.m (pg.ct k (clK pg k) st) (qt st) with
  |none=>rw[hb]at z;exact z.elim
  |some b=>
   rw[hb]at z;refine{_,(qi7 (w:=pg.w) pg.m _ _ _ gs).ss G H (qt st) b hb,zV (fnN st) args,G,Z8 sub ha,Wx.mono (Wx.th z) λfl hf=>?_}
   cases fl with
   |next N=>exactλZ' G' H' er g'=>hf .non G' H' er.base er.g0 er.sub er.fresh (by simp![ReR,Rep])
   |ret r=>exact hf
theorem qi9(ok:PgOk U K mg pg):∀k j:Nat,j<=k->JR P wd U K mg base pg j:=by
 have zero:JR P wd U K mg base pg 0:=by
  refine{λf st h=>?_,λf st h _ nm fa fd F=>{λvs H Q E ⟨G,args,_,_,z⟩=>False.elim z,λA outer s H args us vs Q E _ _ _ _ ⟨G,args',_,_,z⟩=>False.elim z}}
  ·let(fa,fd,F,hm,hb):=ok.fn.mem (PySem.mem_of_lookup h);refine{fa,fd,{λvs H Q E hz2=>?_,λA outer s H args us vs Q E _ _ _ _ ⟨G,args',_,_,z⟩=>False.elim z},hm,F.kp,hb};let(G,args,_,_,z):=hz2;exact False.elim z
 intro k
 induction k with
 |zero=>intro j hj;rw[Nat.le_zero.mp hj];exact zero
 |succ k ih=>
  intro j hj;rcases Nat.lt_or_ge j (k+1) with h|h
  ·exact ih j (Nat.le_of_lt_succ h)
  ·obtain rfl:j=k+1:=Nat.le_antisymm hj h;refine{λf st h=>?_,λf st h h0 nm fa fd F=>?_}
   ·let(fa,fd,F,hm,hb):=ok.fn.mem (PySem.mem_of_lookup h);exact{fa,fd,qcb ok ih F (qeO h),hm,F.kp,hb}
   ·exact qcb ok ih F ((qeP h0).trans h)
theorem Qt(G:Hp):∀ns:List Int,ql U G (ns.map D.int) (ns.map V.int)
 |[]=>.nil
 | n::ns=>.cons (by simp![Rep]) (Qt G ns)
end
def qnc(pg:Pg)(k:Nat)(cl:Str->List Ar->R Rv)(st:Stmt):Option (Nat×Nat×Ss):=oif (jg st) ((cSs pg.m (pg.ct k cl st) (qt st)).map λb=>((Jk st).length,(fnN st).length,b))
def slN(n:Nat)(args:List Ar):Env:=args.map toSl++List.replicate (n - args.length) .no
def runD(cl:Cl)(w:Nat)(c:Nat×Nat×Ss)(args:List Ar):R Rv:=if args.length=c.1 then (iSs cl w c.2.2 (slN c.2.1 args)).th flR else .no
def Pg.kk(pg:Pg)(k:Nat):Cl:={clK pg k,pg.cs,pg.nw k,decide (2<=k),decide (12<=k)}
@[simp] def qnd{pg:Pg}{k:Nat}:(pg.kk (k+2)).x=true:=decide_eq_true (Nat.le_add_left 2 k)
def qz{pg:Pg}{f:Str}{st:Stmt}{c:Nat×Nat×Ss}(hl:(pg.defs++pg.meths).lookup f=some st)(hc:∀k cl,qnc pg k cl st=some c)(k:Nat)(args:List Ar):clK pg (k+1) f args=runD (pg.kk k) pg.w c args:=by
 let(h1,h2):=qh (hc k (clK pg k));let(b,h3,rfl):=map_some h2;rw[yQ hl];unfold evF runD
 by_cases hn:args.length=(Jk st).length
 ·rw[if_pos (by rw[h1,hn];simp),if_pos hn];rw[h3];rfl
 ·rw[if_neg (by simp[hn]),if_neg hn]
variable{cl:Cl}{w:Nat}
def th_ok{α M:Type}(a:α)(f:α->R M):(R.ok a).th f=f a:=(rfl)
def of_some{α:Type}(a:α):R.of (some a)=.ok a:=(rfl)
def JS(cl:Cl)(w:Nat)(tg:Tg)(b:Ss)(l:List D)(N:Env):R Fl:=qkn (λd N1=>(tg.go d N1).th λN2=>iSs cl w b N2) l N
def jc(cl:Cl)(e:E)(tg:Tg)(c:F)(l:List D)(N:Env)(acc:List D):R (List D):=qbW tg.go (λN1=>iF cl c N1) (zU e (iR cl e)) l N acc
def qdI(f:Fl)(g:Env->R Fl):R Fl:=match f with
 |.next N1=>g N1
 |.ret r=>.ok (.ret r)
section
variable(cl:Cl)(w:Nat)(N:Env)
def qdJ(tg:Tg)(b:Ss):JS cl w tg b [] N=.ok (.next N):=(rfl)
def qcc(tg:Tg)(b:Ss)(d:D)(l:List D):JS cl w tg b (d::l) N=((tg.go d N).th λN2=>iSs cl w b N2).th λf=>qdI f λN1=>JS cl w tg b l N1:=(rfl)
def j7(e:E)(tg:Tg)(c:F)(acc:List D):jc cl e tg c [] N acc=.ok acc:=(rfl)
def qaR(e:E)(tg:Tg)(c:F)(d:D)(l acc:List D):jc cl e tg c (d::l) N acc=(tg.go d N).th λN1=>(iF cl c N1).th λbt=>if bt.1=true then (zU e (iR cl e) bt.2).th λx=>if acc.length < sizeLine then jc cl e tg c l x.2 (acc++[x.1]) else .no else jc cl e tg c l bt.2 acc:=(rfl)
def qgB(e:E):iS cl w (.expr e) N=(iR cl e N).th λx=>.ok (.next x.2):=(rfl)
def qja(i:Nat)(e:E):iS cl w (.app i e) N=(match zA N i with
  |none=>.no
  |some _=>(zU e (iR cl e) N).th λy=>(match zA y.2 i with
   |some l=>if l.length < sizeLine then .ok (.next (y.2.set i (.own (l++[y.1])))) else .no
   |none=>.no)):=(rfl)
def qjb(i:Nat):iS cl w (.clr i) N=(match zA N i with
  |some _=>.ok (.next (N.set i (.own [])))
  |none=>.no):=(rfl)
def qjc(e:E):iS cl w (.ret e) N=(qdl e (iR cl e) N).th λr=>.ok (.ret r):=(rfl)
def qjd(i:Nat)(e:E):iS cl w (.set i e) N=(qa5 e (iR cl e) N).th λs=>.ok (.next (s.2.set i s.1)):=(rfl)
def qgC(tg:Tg)(e:E):iS cl w (.setT tg e) N=(zU e (iR cl e) N).th λx=>(tg.go x.1 x.2).th λN1=>.ok (.next N1):=(rfl)
def qgD(i:Nat)(x e:E):iS cl w (.setI i x e) N=(zU e (iR cl e) N).th λy=>(match zA y.2 i with
  |none=>.no
  |some _=>(iR cl x y.2).th λz=>(match zA z.2 i,z.1.int? with
   |some l,some n=>(match ixN l.length n with
    |some k=>.ok (.next (z.2.set i (.own (l.set k y.1))))
    |none=>.no)
   |_,_=>.no)):=(rfl)
def qje(c:T)(a b:Ss):iS cl w (.ite c a b) N=(iT cl c N).th λt=>if t.1=true then iSs cl w a t.2 else iSs cl w b t.2:=(rfl)
def qjf(tg:Tg)(src:I)(b:Ss):iS cl w (.for_ tg src b) N=(iI cl src N).th λx=>JS cl w tg b x.1 x.2:=(rfl)
def qln(cl:Cl)(hs:List (Str×Nat×Nat))(n:Nat)(r:R Fl):R Fl:=match r with
 |.exc C l=>jC cl.cs n C l hs
 |r=>r
def qjg(n:Str)(l:Es):iS cl w (.rai n l) N=(noX (iEs cl l N)).th λx=>mkX cl.x cl.cs n x.1:=(rfl)
def qjh(b:Ss)(hs:List (Str×Nat×Nat)):iS cl w (.try_ b hs) N=qln cl hs N.length (iSs cl w b N):=by
 show(match iSs cl w b N with |.exc C l=>_ |r=>r)=_
 cases iSs cl w b N<;>rfl
def qdK(s:S)(l:Ss):iSs cl w (.cons s l) N=(iS cl w s N).th λf=>qdI f λN1=>iSs cl w l N1:=(rfl)
def qji(op:Operator)(a b:E):iR cl (.bin op a b) N=(iR cl a N).th λx=>(iR cl b x.2).th λy=>(YJ op x.1 y.1).th λr=>.ok (r,y.2):=(rfl)
def qjj(a:E):iR cl (.neg a) N=(iR cl a N).th λx=>match x.1 with
  |.val (.int i)=>.ok (.val (.int (-i)),x.2)
  |_=>.no:=(rfl)
def qjk(a:E):iR cl (.not a) N=(iR cl a N).th λx=>match x.1 with
  |.val (.bl b)=>.ok (.val (.bl (!b)),x.2)
  |_=>.no:=(rfl)
def qjl(a b:E):iR cl (.and a b) N=(iR cl a N).th λx=>match x.1 with
  |.val (.bl true)=>iR cl b x.2
  |.val (.bl false)=>.ok (.val (.bl false),x.2)
  |_=>.no:=(rfl)
def qjm(op:CmpOp)(a b:E):iR cl (.cmp op a b) N=(iR cl a N).th λx=>(iR cl b x.2).th λy=>(R.of (JD op x.1 y.1)).th λr=>.ok (.val (.bl r),y.2):=(rfl)
def qjn(a i:E):iR cl (.idx a i) N=(iR cl a N).th λx=>(iR cl i x.2).th λy=>(idxD x.1 y.1).th λr=>.ok (r,y.2):=(rfl)
def qjo(a:E)(lo hi:O):iR cl (.sli a lo hi) N=(iR cl a N).th λx=>(iO cl lo x.2).th λl=>(iO cl hi l.2).th λh=>(sliceD x.1 l.1 h.1).th λr=>.ok (r,h.2):=(rfl)
def qjp(l:Es):iR cl (.lst l) N=(iEs cl l N).th λx=>if x.1.length<=sizeLine then .ok (.tmp x.1,x.2) else .no:=(rfl)
def qjq(l:Es):iR cl (.tup l) N=(iEs cl l N).th λx=>if x.1.length<=sizeLine then .ok (.val (.tup x.1),x.2) else .no:=(rfl)
def qgE(f:Str)(l:Es):iR cl (.calF f l) N=(iEs cl l N).th λx=>(cl f (x.1.map .val)).th λr=>.ok (r,x.2):=(rfl)
def qgF(f:Str)(l:Es):iR cl (.call f l) N=(iAs cl l N).th λx=>(cl f x.1).th λr=>.ok (r,x.2):=(rfl)
def qlo(f:B1)(a:E):iR cl (.b1 f a) N=(iR cl a N).th λx=>(f.go x.1).th λr=>.ok (r,x.2):=(rfl)
def qlp(f:B2)(a b:E):iR cl (.b2 f a b) N=(iR cl a N).th λx=>(noX (iR cl b x.2)).th λy=>(f.go x.1 y.1).th λr=>.ok (r,y.2):=(rfl)
def qjr(t:Ty)(a:E):iR cl (.isi t a) N=(iR cl a N).th λx=>(R.of (tyG cl.cs t x.1)).th λb=>.ok (.val (.bl b),x.2):=(rfl)
def qjs(t:Str)(a:E):iR cl (.isc t a) N=(noX (iR cl a N)).th λx=>(R.of (YK cl.cs x.1 t)).th λb=>.ok (.val (.bl b),x.2):=(rfl)
def qjt(a:E)(x:Str):iR cl (.fld a x) N=(noX (iR cl a N)).th λy=>(R.of (qaK cl.cs y.1 x)).th λd=>.ok (.val d,y.2):=(rfl)
def goM(cl:Cl)(x:Str)(l:Es)(v:Rv)(N:Env):Option Str->R (Rv×Env)
 |some f=>(iAs cl l N).th λz=>(cl f (toAr v::z.1)).th λr=>.ok (r,z.2)
 |none=>(noX (iAs cl l N)).th λz=>(noX (bmD x v z.1)).th λr=>.ok (r,z.2)
def qju(l:Es):iR cl (.fst l) N=(noX (iEs cl l N)).th λx=>(R.of (JN Str.empty x.1)).th λz=>.ok (.val (.str z),x.2):=(rfl)
def qjv(a:E)(x:Str)(l:Es):iR cl (.met a x l) N=(iR cl a N).th λy=>goM cl x l y.1 y.2 (mtD cl.cs y.1 x):=by
 show(iR cl a N).th _=_
 congr 1
def qjw(f:Str)(l:Es):iR cl (.new f l) N=(ifX cl.y (iAs cl l N)).th λx=>(cl.nw f x.1).th λr=>.ok (r,x.2):=(rfl)
def qgG(e:E)(src:I)(tg:Tg)(c:F)(n:Nat)(fr:List Nat):iR cl (.comp e src tg c n fr) N=(iI cl src N).th λx=>if x.1.length<=sizeLine then (noX (jc cl e tg c x.1 (ZZ n fr x.2) [])).th λl=>.ok (.tmp l,x.2) else .no:=(rfl)
def qjx(a:T):iT cl (.not a) N=(iT cl a N).th λt=>.ok (!t.1,t.2):=(rfl)
def qjy(a b:T):iT cl (.and a b) N=(iT cl a N).th λt=>if t.1=true then iT cl b t.2 else .ok (false,t.2):=(rfl)
def qlq(a b:T):iT cl (.or a b) N=(iT cl a N).th λt=>if t.1=true then .ok (true,t.2) else iT cl b t.2:=(rfl)
def qjz(op:CmpOp)(a b:E):iT cl (.cmp op a b) N=(iR cl a N).th λx=>(iR cl b x.2).th λy=>(R.of (JD op x.1 y.1)).th λr=>.ok (r,y.2):=(rfl)
def qjA(a:E):iT cl (.val a) N=(iR cl a N).th λx=>(R.of (truthD x.1)).th λb=>.ok (b,x.2):=(rfl)
def qdL(e:E)(l:Es):iEs cl (.cons e l) N=(zU e (iR cl e) N).th λx=>(iEs cl l x.2).th λy=>.ok (x.1::y.1,y.2):=(rfl)
def qdM(e:E)(l:Es):iAs cl (.cons e l) N=(iR cl e N).th λx=>(iAs cl l x.2).th λy=>.ok (toAr x.1::y.1,y.2):=(rfl)
def qgH(e:E):iO cl (.some e) N=(iR cl e N).th λx=>match x.1 with
  |.val (.int i)=>.ok (some i,x.2)
  |_=>.no:=(rfl)
def qjB(a:E):iI cl (.seq a) N=(Yg a (iR cl a) N).th λx=>.ok (x.1.2,x.2):=(rfl)
def qjC(a:E):iI cl (.rng a) N=(iR cl a N).th λx=>(match x.1.int? with
  |some n=>if qR n=true then .ok (zF 0 n,x.2) else .no
  |none=>.no):=(rfl)
def qgI(a:E):iI cl (.enum a) N=(Yg a (iR cl a) N).th λx=>match x.1.1 with |.lst=>.ok (Jj x.1.2,x.2) |_=>.no:=(rfl)
variable(s:Sl)(i:Nat)(d:D)(l:List D)
def slR_s:slR (s::N) (i+1)=slR N i:=(rfl)
def slR_v:slR (.val d::N) 0=.ok (.val d):=(rfl)
def slR_o:slR (.own l::N) 0=.ok (.cell l):=(rfl)
def slR_b:slR (.bor l::N) 0=.ok (.cell l):=(rfl)
def slR_c:slR (.scr l::N) 0=.ok (.scr l):=(rfl)
def slX_s:slX (s::N) (i+1)=slX N i:=(rfl)
def slX_o:slX (.own l::N) 0=.ok (.tmp l):=(rfl)
theorem qlr:slE (s::N) (i+1)=(slE N i).th λx=>.ok (x.1,s::x.2):=by
 show(match N[i]? with |some (.val d)=>_ |some (.own l)=>_ |_=>_)=R.th (match N[i]? with |some (.val d)=>_ |some (.own l)=>_ |_=>_) _
 cases N[i]? with
 |none=>rfl
 |some z=>cases z<;>rfl
theorem qls:slL (s::N) (i+1)=(slL N i).th λx=>.ok (x.1,s::x.2):=by
 show(match N[i]? with |some (.val (.lst l))=>_ |some (.val (.tup l))=>_ |some (.val (.str z))=>_ |some (.own l)=>_ |some (.bor l)=>_ |some (.scr l)=>_ |_=>_)=R.th (match N[i]? with |some (.val (.lst l))=>_ |some (.val (.tup l))=>_ |some (.val (.str z))=>_ |some (.own l)=>_ |some (.bor l)=>_ |some (.scr l)=>_ |_=>_) _
 cases N[i]? with
 |none=>rfl
 |some z=>
  cases z with
  |val d=>cases d<;>rfl
  |_=>rfl
def ownI_s:zA (s::N) (i+1)=zA N i:=(rfl)
def ownI_o:zA (.own l::N) 0=some l:=(rfl)
end
mutual
def okD:D->Bool
 |.str s=>PyData.strOk s
 |.lst l=>QS l
 |.tup l=>QS l
 |.ins ..=>false
 |.exc ..=>false
 |.dct ..=>false
 |.non=>true
 |.bl _=>true
 |.int _=>true
def QS:List D->Bool
 |[]=>true
 | d::l=>okD d&&QS l
end
mutual
def dpD:D->Nat
 |.lst l=>Qu l+1
 |.tup l=>Qu l+1
 |.str _=>0
 |.ins ..=>0
 |.exc ..=>0
 |.dct ..=>0
 |.non=>0
 |.bl _=>0
 |.int _=>0
def Qu:List D->Nat
 |[]=>0
 | d::l=>max (dpD d) (Qu l)
end
mutual
theorem qeQ:∀d:D,okD d=true->∃p,toP d=some p/\p.canLay0=true/\p.depth=dpD d/\PyData.eqv p p=true
 |.non,_=>{_,by rw[toP],by rw[PyData.canLay0],by rw[PyData.depth,dpD],by rw[PyData.eqv]}
 |.bl b,_=>{_,by rw[toP],by rw[PyData.canLay0],by rw[PyData.depth,dpD],by rw[PyData.eqv];simp}
 |.int n,_=>{_,by rw[toP],by rw[PyData.canLay0],by rw[PyData.depth,dpD],by rw[PyData.eqv];simp}
 |.str s,h=>{_,by rw[toP],by rw[PyData.canLay0];rw[okD]at h;exact h,by rw[PyData.depth,dpD],by rw[PyData.eqv];simp}
 |.lst l,h=>by rw[okD]at h;let(p,h1,h2,h3,h4):=Ze l h;exact{.list p,by rw[toP,h1];rfl,by rw[PyData.canLay0];exact h2,by rw[PyData.depth,dpD,h3],by rw[PyData.eqv];exact h4}
 |.tup l,h=>by rw[okD]at h;let(p,h1,h2,h3,h4):=Ze l h;exact{.tuple p,by rw[toP,h1];rfl,by rw[PyData.canLay0];exact h2,by rw[PyData.depth,dpD,h3],by rw[PyData.eqv];exact h4}
 |.ins ..,h=>by rw[okD]at h;cases h
 |.exc ..,h=>by rw[okD]at h;cases h
 |.dct ..,h=>by rw[okD]at h;cases h
theorem Ze:∀l:List D,QS l=true->∃p,qa1 l=some p/\PyData.canLayAll0 p=true/\PyData.depthAll p=Qu l/\PyData.eqvAll p p=true
 |[],_=>{[],by rw[qa1],by rw[PyData.canLayAll0],by rw[PyData.depthAll,Qu],by rw[PyData.eqvAll]}
 | d::l,h=>by rw[QS,Bool.and_eq_true]at h;let(p,h1,h2,h3,h4):=qeQ d h.1;let(q,h5,h6,h7,h8):=Ze l h.2;exact{p::q,by rw[qa1,h1,h5];rfl,by rw[PyData.canLayAll0,h2,h6];rfl,by rw[PyData.depthAll,Qu,h3,h7],by rw[PyData.eqvAll,h4,h8];rfl}
end
def qeR{d:D}(h:okD d=true)(hd:dpD d<=64):∃p,toP d=some p/\SeqAt.shaped p=true/\PyData.eqv p p=true:=by let(p,h1,h2,h3,h4):=qeQ d h;exact{p,h1,by unfold SeqAt.shaped;rw[h2,h3];simpa using hd,h4}
def yR{d:D}(h:okD d=true)(hd:dpD d<=64):eqD d d=some true:=by let(p,h1,h2,h3):=qeR h hd;unfold eqD;rw[h1];dsimp only;rw[h2,h3];rfl
def qjD(n:Int):SeqAt.shaped (.int n)=true:=by unfold SeqAt.shaped;simp[PyData.canLay0,PyData.depth]
def qF(a b:Int):eqD (.int a) (.int b)=some (a == b):=by unfold eqD;simp![toP,qjD,Bool.and_self,if_true,PyData.eqv]
theorem qgJ{l:List D}(h:QS l=true)(hd:Qu l<=63):eqD (.lst l) (.lst [])=some l.isEmpty:=by
 let(p,h1,h2,h3):=qeR (d:=.lst l) (by rw[okD];exact h) (by rw[dpD];lia);unfold eqD;have e:toP (.lst [])=some (.list []):=by simp[toP,qa1]
 rw[h1,e];dsimp only;rw[h2,show SeqAt.shaped (.list [])=true by unfold SeqAt.shaped;simp[PyData.canLay0,PyData.canLayAll0,PyData.depth,PyData.depthAll]];rw[toP]at h1;let(q,h4,rfl):=Option.map_eq_some_iff.mp h1
 cases l with
 |nil=>rw[qa1]at h4;cases h4;simp[PyData.eqv,PyData.eqvAll]
 |cons d l=>rw[qa1]at h4;let(x,h5,h6):=Option.bind_eq_some_iff.mp h4;let(y,h7,rfl):=Option.map_eq_some_iff.mp h6;simp[PyData.eqv,PyData.eqvAll]
def Zf{α:Type}{l:List α}{i:Int}{j:Nat}(h:i=(j:Int))(hj:j < l.length):atI l i=some l[j]:=by subst h;unfold atI ixN;rw[if_pos (1:),if_pos (1:)];simp[hj]
def qdN{n:Nat}:ixN (n+1) (-1)=some n:=by unfold ixN;rw[if_neg (1:),if_pos (1:),show((-1:Int)+((n+1:Nat):Int)).toNat=n by lia]
def kk_f(pg:Pg)(k:Nat)(f:Str)(args:List Ar):(pg.kk k).f f args=clK pg k f args:=(rfl)
def kk_x2(pg:Pg)(k:Nat):(pg.kk (k+2)).x=true:=qnd
def at_0{α:Type}(a:α)(l:List α):atI (a::l) 0=some a:=by exact Zf (i:=0) (j:=0) rfl (5:)
def at_1{α:Type}(a b:α)(l:List α):atI (a::b::l) 1=some b:=by exact Zf (i:=1) (j:=1) rfl (5:)
def qhp{α:Type}{l:List α}{j:Nat}{x:α}(h:l[j]?=some x):atI l (j:Int)=some x:=by let(h1,h2):=List.getElem?_eq_some_iff.mp h;rw[Zf rfl h1,h2]
def enF(i:Nat):List D->List D
 |[]=>[]
 | d::l=>.tup [.int i,d]::enF (i+1) l
theorem qeS:∀(l:List D) (i:Nat),(List.range' i l.length).zipWith (λ(i:Nat) d=>D.tup [.int i,d]) l=enF i l
 |[],i=>rfl
 | d::l,i=>by rw[List.length_cons,List.range'_succ,List.zipWith_cons_cons,qeS l (i+1)];rfl
def Yq(l:List D):Jj l=enF 0 l:=by unfold Jj;rw[List.range_eq_range',qeS]
def rgF(i:Int):Nat->List D
 |0=>[]
 | n+1=>.int i::rgF (i+1) n
theorem qeT:∀(n:Nat) (lo:Int) (s:Nat),(List.range' s n).map (λi:Nat=>D.int (lo+i))=rgF (lo+s) n
 |0,_,_=>rfl
 | n+1,lo,s=>by rw[List.range'_succ,List.map_cons,qeT n lo (s+1)];show _=D.int (lo+s)::rgF (lo+s+1) n;rw[show lo+((s+1:Nat):Int)=lo+s+1 by lia]
def zI(lo hi:Int):zF lo hi=rgF lo (hi - lo).toNat:=by
 unfold zF;rw[List.range_eq_range',qeT]
 congr 1
 lia
def ixN_app{α:Type}(l:List α)(x:α):ixN (l++[x]).length (-1)=some l.length:=by rw[List.length_append];exact qdN
def set_app{α:Type}(l:List α)(x y:α):(l++[x]).set l.length y=l++[y]:=by simp
def emp_app{α:Type}(l:List α)(x:α):(l++[x]).isEmpty=false:=by cases l<;>rfl
def qb{α M γ:Type}(x:R α)(f:α->R M)(g:M->R γ):(x.th f).th g=x.th λa=>(f a).th g:=by cases x<;>rfl
def qv{α:Type}(x:R α):x.th R.ok=x:=by cases x<;>rfl
section
variable{M:Type}(cl:Cl)(w:Nat)
def Jl(N:Env)(K:Rv×Env->R M)(r:Rv):R M:=K (r,N)
def kBl(N:Env)(K:Rv×Env->R M)(b:Bool):R M:=K (.val (.bl b),N)
def kBo(N:Env)(K:Bool×Env->R M)(b:Bool):R M:=K (b,N)
def qlt(N:Env)(K:Rv×Env->R M)(l:List D):R M:=K (.tmp l,N)
def kB2(op:Operator)(u:Rv)(K:Rv×Env->R M)(y:Rv×Env):R M:=(YJ op u y.1).th (Jl y.2 K)
def kB1(op:Operator)(b:E)(K:Rv×Env->R M)(x:Rv×Env):R M:=(iR cl b x.2).th (kB2 op x.1 K)
def ql2(K:Rv×Env->R M)(x:Rv×Env):R M:=R.th (match x.1 with
  |.val (.int i)=>.ok (.val (.int (-i)),x.2)
  |_=>.no) K
def ql3(K:Rv×Env->R M)(x:Rv×Env):R M:=R.th (match x.1 with
  |.val (.bl b)=>.ok (.val (.bl (!b)),x.2)
  |_=>.no) K
def ql4(b:E)(K:Rv×Env->R M)(x:Rv×Env):R M:=R.th (match x.1 with
  |.val (.bl true)=>iR cl b x.2
  |.val (.bl false)=>.ok (.val (.bl false),x.2)
  |_=>.no) K
def kC2(op:CmpOp)(u:Rv)(K:Rv×Env->R M)(y:Rv×Env):R M:=(R.of (JD op u y.1)).th (kBl y.2 K)
def kC1(op:CmpOp)(b:E)(K:Rv×Env->R M)(x:Rv×Env):R M:=(iR cl b x.2).th (kC2 op x.1 K)
def kI2(u:Rv)(K:Rv×Env->R M)(y:Rv×Env):R M:=(idxD u y.1).th (Jl y.2 K)
def kI1(b:E)(K:Rv×Env->R M)(x:Rv×Env):R M:=(iR cl b x.2).th (kI2 x.1 K)
def kS3(v:Rv)(l:Option Int)(K:Rv×Env->R M)(h:Option Int×Env):R M:=(sliceD v l h.1).th (Jl h.2 K)
def kS2(v:Rv)(hi:O)(K:Rv×Env->R M)(l:Option Int×Env):R M:=(iO cl hi l.2).th (kS3 v l.1 K)
def kS1(lo hi:O)(K:Rv×Env->R M)(x:Rv×Env):R M:=(iO cl lo x.2).th (kS2 cl x.1 hi K)
def ql5(K:Rv×Env->R M)(x:List D×Env):R M:=if x.1.length<=sizeLine then K (.tmp x.1,x.2) else .no
def ql6(K:Rv×Env->R M)(x:List D×Env):R M:=if x.1.length<=sizeLine then K (.val (.tup x.1),x.2) else .no
def qjE(f:Str)(K:Rv×Env->R M)(x:List D×Env):R M:=(cl f (x.1.map .val)).th (Jl x.2 K)
def qjF(f:Str)(K:Rv×Env->R M)(x:List Ar×Env):R M:=(cl f x.1).th (Jl x.2 K)
def kF1(f:B1)(K:Rv×Env->R M)(x:Rv×Env):R M:=(f.go x.1).th (Jl x.2 K)
def kG2(f:B2)(u:Rv)(K:Rv×Env->R M)(y:Rv×Env):R M:=(f.go u y.1).th (Jl y.2 K)
def kG1(f:B2)(b:E)(K:Rv×Env->R M)(x:Rv×Env):R M:=(noX (iR cl b x.2)).th (kG2 f x.1 K)
def ql7(t:Str)(K:Rv×Env->R M)(x:Rv×Env):R M:=(R.of (YK cl.cs x.1 t)).th (kBl x.2 K)
def qlu(N:Env)(K:Rv×Env->R M)(d:D):R M:=K (.val d,N)
def ql8(x:Str)(K:Rv×Env->R M)(y:Rv×Env):R M:=(R.of (qaK cl.cs y.1 x)).th (qlu y.2 K)
def qlv(f:Str)(v:Rv)(K:Rv×Env->R M)(z:List Ar×Env):R M:=(cl f (toAr v::z.1)).th (Jl z.2 K)
def qlw(v:Rv)(l:Es)(N:Env)(K:Rv×Env->R M)(f:Str):R M:=(iAs cl l N).th (qlv cl f v K)
def qlx(x:Str)(v:Rv)(K:Rv×Env->R M)(z:List Ar×Env):R M:=(noX (bmD x v z.1)).th (Jl z.2 K)
def qly(N:Env)(K:Rv×Env->R M)(z:Str):R M:=K (.val (.str z),N)
def ql9(K:Rv×Env->R M)(x:List D×Env):R M:=(R.of (JN Str.empty x.1)).th (qly x.2 K)
def qks(x:Str)(v:Rv)(l:Es)(N:Env)(K:Rv×Env->R M)(o:Option Str):R M:=match o with
 |some f=>qlw cl v l N K f
 |none=>(noX (iAs cl l N)).th (qlx x v K)
def qlz(x:Str)(l:Es)(K:Rv×Env->R M)(y:Rv×Env):R M:=qks cl x y.1 l y.2 K (mtD cl.cs y.1 x)
def qma(f:Str)(K:Rv×Env->R M)(x:List Ar×Env):R M:=(cl.nw f x.1).th (Jl x.2 K)
def qmb(t:Ty)(K:Rv×Env->R M)(x:Rv×Env):R M:=(R.of (tyG cl.cs t x.1)).th (kBl x.2 K)
def qjG(e:E)(tg:Tg)(c:F)(n:Nat)(fr:List Nat)(K:Rv×Env->R M)(x:List D×Env):R M:=if x.1.length<=sizeLine then (noX (jc cl e tg c x.1 (ZZ n fr x.2) [])).th (qlt x.2 K) else .no
def kTn(K:Bool×Env->R M)(t:Bool×Env):R M:=K (!t.1,t.2)
def kTa(b:T)(K:Bool×Env->R M)(t:Bool×Env):R M:=if t.1=true then (iT cl b t.2).th K else K (false,t.2)
def kTo(b:T)(K:Bool×Env->R M)(t:Bool×Env):R M:=if t.1=true then K (true,t.2) else (iT cl b t.2).th K
def kD2(op:CmpOp)(u:Rv)(K:Bool×Env->R M)(y:Rv×Env):R M:=(R.of (JD op u y.1)).th (kBo y.2 K)
def kD1(op:CmpOp)(b:E)(K:Bool×Env->R M)(x:Rv×Env):R M:=(iR cl b x.2).th (kD2 op x.1 K)
def kTv(K:Bool×Env->R M)(x:Rv×Env):R M:=(R.of (truthD x.1)).th (kBo x.2 K)
def kE2(d:D)(K:List D×Env->R M)(y:List D×Env):R M:=K (d::y.1,y.2)
def kE1(l:Es)(K:List D×Env->R M)(x:D×Env):R M:=(iEs cl l x.2).th (kE2 x.1 K)
def kA2(v:Rv)(K:List Ar×Env->R M)(y:List Ar×Env):R M:=K (toAr v::y.1,y.2)
def kA1(l:Es)(K:List Ar×Env->R M)(x:Rv×Env):R M:=(iAs cl l x.2).th (kA2 x.1 K)
def kO(K:Option Int×Env->R M)(x:Rv×Env):R M:=R.th (match x.1 with
  |.val (.int i)=>.ok (some i,x.2)
  |_=>.no) K
def qmc(N:Env)(K:List D×Env->R M)(l:List D):R M:=K (l,N)
def qmd(K:List D×Env->R M)(x:(Sk×List D)×Env):R M:=K (x.1.2,x.2)
def qme(K:List D×Env->R M)(x:Rv×Env):R M:=R.th (match x.1.int? with
  |some n=>if qR n=true then .ok (zF 0 n,x.2) else .no
  |none=>.no) K
def kR2(u:Rv)(K:List D×Env->R M)(y:Rv×Env):R M:=R.th (match u.int?,y.1.int? with
  |some i,some j=>if qR i=true/\qR j=true then .ok (zF i j,y.2) else .no
  |_,_=>.no) K
def qjH(K:List D×Env->R M)(x:(Sk×List D)×Env):R M:=R.th (match x.1.1 with |.lst=>.ok (Jj x.1.2,x.2) |_=>.no) K
def qlA(K:D×Env->R M)(x:Rv×Env):R M:=(qko x).th K
def qdO(K:(Sk×List D)×Env->R M)(x:Rv×Env):R M:=(qkp x).th K
def kX(K:Rv->R M)(x:Rv×Env):R M:=R.th (match x.1 with
  |.val d=>.ok (.val d)
  |.tmp l=>.ok (.tmp l)
  |_=>.no) K
def kAx(K:Sl×Env->R M)(x:Rv×Env):R M:=R.th (match x.1 with
  |.val d=>.ok (.val d,x.2)
  |.tmp l=>.ok (.own l,x.2)
  |_=>.no) K
def qgK{α:Type}(s:Sl)(K:α×Env->R M)(x:α×Env):R M:=K (x.1,s::x.2)
def qlB(K:Fl->R M)(x:Rv×Env):R M:=K (.next x.2)
def oGo(o:Option (List D))(x:R M):R M:=match o with
 |none=>.no
 |some _=>x
def qgL(i:Nat)(d:D)(N:Env)(K:Fl->R M)(o:Option (List D)):R M:=R.th (match o with
   |some l=>if l.length < sizeLine then .ok (.next (N.set i (.own (l++[d])))) else .no
   |none=>.no) K
def qmf(i:Nat)(K:Fl->R M)(y:D×Env):R M:=qgL i y.1 y.2 K (zA y.2 i)
def kRt(K:Fl->R M)(r:Rv):R M:=K (.ret r)
def qmg(i:Nat)(K:Fl->R M)(s:Sl×Env):R M:=K (.next (s.2.set i s.1))
def kNx(K:Fl->R M)(N:Env):R M:=K (.next N)
def kST(tg:Tg)(K:Fl->R M)(x:D×Env):R M:=(tg.go x.1 x.2).th (kNx K)
def qlC(i:Nat)(d:D)(N:Env)(K:Fl->R M)(l:List D)(o:Option Nat):R M:=R.th (match o with
    |some k=>.ok (.next (N.set i (.own (l.set k d))))
    |none=>.no) K
def qkt(i:Nat)(d:D)(N:Env)(K:Fl->R M)(o:Option (List D))(v:Option Int):R M:=match o,v with
 |some l,some n=>qlC i d N K l (ixN l.length n)
 |_,_=>.no
def qlD(i:Nat)(d:D)(K:Fl->R M)(z:Rv×Env):R M:=qkt i d z.2 K (zA z.2 i) z.1.int?
def kSI(i:Nat)(x:E)(K:Fl->R M)(y:D×Env):R M:=oGo (zA y.2 i) ((iR cl x y.2).th (qlD i y.1 K))
def qmh(a b:Ss)(K:Fl->R M)(t:Bool×Env):R M:=if t.1=true then (iSs cl w a t.2).th K else (iSs cl w b t.2).th K
def qmi(tg:Tg)(b:Ss)(K:Fl->R M)(x:List D×Env):R M:=(JS cl w tg b x.1 x.2).th K
def qgM(l:Ss)(K:Fl->R M)(f:Fl):R M:=(qdI f λN1=>iSs cl w l N1).th K
def qku(tg:Tg)(b:Ss)(l:List D)(K:Fl->R M)(f:Fl):R M:=(qdI f λN1=>JS cl w tg b l N1).th K
def qmj(tg:Tg)(b:Ss)(l:List D)(K:Fl->R M)(N:Env):R M:=(iSs cl w b N).th (qku cl w tg b l K)
def kP3(e:E)(tg:Tg)(c:F)(l acc:List D)(K:List D->R M)(x:D×Env):R M:=if acc.length < sizeLine then (jc cl e tg c l x.2 (acc++[x.1])).th K else .no
def kP2(e:E)(tg:Tg)(c:F)(l acc:List D)(K:List D->R M)(t:Bool×Env):R M:=if t.1=true then (zU e (iR cl e) t.2).th (kP3 cl e tg c l acc K) else (jc cl e tg c l t.2 acc).th K
def kP1(e:E)(tg:Tg)(c:F)(l acc:List D)(K:List D->R M)(N:Env):R M:=(iF cl c N).th (kP2 cl e tg c l acc K)
def jD{α:Type}{c:Prop}[Decidable c](x y:R α)(K:α->R M):(if c then x else y).th K=if c then x.th K else y.th K:=by split<;>rfl
def qB{α:Type}(x:R α){f g:α->R M}(h:∀a,f a=g a):x.th f=x.th g:=by cases x<;>first|rfl|exact h _
section
variable(N:Env)(K:Rv×Env->R M)
def xR_var(i:Nat):(iR cl (.var i) N).th K=(slR N i).th (Jl N K):=(qb (slR N i) _ _)
def xR_con(d:D):(iR cl (.con d) N).th K=K (.val d,N):=(rfl)
def xR_bin(op:Operator)(a b:E):(iR cl (.bin op a b) N).th K=(iR cl a N).th (kB1 cl op b K):=by rw[qji,qb];refine qB _ λx=>?_;rw[qb];refine qB _ λy=>?_;rw[qb];rfl
def xR_neg(a:E):(iR cl (.neg a) N).th K=(iR cl a N).th (ql2 K):=by rw[qjj,qb];rfl
def xR_not(a:E):(iR cl (.not a) N).th K=(iR cl a N).th (ql3 K):=by rw[qjk,qb];rfl
def xR_one(a:E):(iR cl (.one a) N).th K=(iR cl a N).th K:=(rfl)
def xR_and(a b:E):(iR cl (.and a b) N).th K=(iR cl a N).th (ql4 cl b K):=by rw[qjl,qb];rfl
def xR_cmp(op:CmpOp)(a b:E):(iR cl (.cmp op a b) N).th K=(iR cl a N).th (kC1 cl op b K):=by rw[qjm,qb];refine qB _ λx=>?_;rw[qb];refine qB _ λy=>?_;rw[qb];rfl
def xR_idx(a b:E):(iR cl (.idx a b) N).th K=(iR cl a N).th (kI1 cl b K):=by rw[qjn,qb];refine qB _ λx=>?_;rw[qb];refine qB _ λy=>?_;rw[qb];rfl
def xR_sli(a:E)(lo hi:O):(iR cl (.sli a lo hi) N).th K=(iR cl a N).th (kS1 cl lo hi K):=by rw[qjo,qb];refine qB _ λx=>?_;rw[qb];refine qB _ λy=>?_;rw[qb];refine qB _ λz=>?_;rw[qb];rfl
def xR_lst(l:Es):(iR cl (.lst l) N).th K=(iEs cl l N).th (ql5 K):=by rw[qjp,qb];refine qB _ λx=>?_;rw[jD];rfl
def xR_tup(l:Es):(iR cl (.tup l) N).th K=(iEs cl l N).th (ql6 K):=by rw[qjq,qb];refine qB _ λx=>?_;rw[jD];rfl
def xR_calF(f:Str)(l:Es):(iR cl (.calF f l) N).th K=(iEs cl l N).th (qjE cl f K):=by rw[qgE,qb];refine qB _ λx=>?_;rw[qb];rfl
def xR_call(f:Str)(l:Es):(iR cl (.call f l) N).th K=(iAs cl l N).th (qjF cl f K):=by rw[qgF,qb];refine qB _ λx=>?_;rw[qb];rfl
def xR_b1(f:B1)(a:E):(iR cl (.b1 f a) N).th K=(iR cl a N).th (kF1 f K):=by rw[qlo,qb];refine qB _ λx=>?_;rw[qb];rfl
def xR_b2(f:B2)(a b:E):(iR cl (.b2 f a b) N).th K=(iR cl a N).th (kG1 cl f b K):=by rw[qlp,qb];refine qB _ λx=>?_;rw[qb];refine qB _ λy=>?_;rw[qb];rfl
def xR_isc(t:Str)(a:E):(iR cl (.isc t a) N).th K=(noX (iR cl a N)).th (ql7 cl t K):=by rw[qjs,qb];refine qB _ λx=>?_;rw[qb];rfl
def xR_fld(a:E)(x:Str):(iR cl (.fld a x) N).th K=(noX (iR cl a N)).th (ql8 cl x K):=by rw[qjt,qb];refine qB _ λy=>?_;rw[qb];rfl
theorem xR_met(a:E)(x:Str)(l:Es):(iR cl (.met a x l) N).th K=(iR cl a N).th (qlz cl x l K):=by
 rw[qjv,qb];refine qB _ λy=>?_;unfold qlz
 cases mtD cl.cs y.1 x with
 |some f=>unfold goM;rw[qb];refine qB _ λz=>?_;rw[qb];rfl
 |none=>unfold goM;rw[qb];refine qB _ λz=>?_;rw[qb];rfl
def xR_fst(l:Es):(iR cl (.fst l) N).th K=(noX (iEs cl l N)).th (ql9 K):=by rw[qju,qb];refine qB _ λx=>?_;rw[qb];rfl
def xR_new(f:Str)(l:Es):(iR cl (.new f l) N).th K=(ifX cl.y (iAs cl l N)).th (qma cl f K):=by rw[qjw,qb];refine qB _ λx=>?_;rw[qb];rfl
def xR_isi(t:Ty)(a:E):(iR cl (.isi t a) N).th K=(iR cl a N).th (qmb cl t K):=by rw[qjr,qb];refine qB _ λx=>?_;rw[qb];rfl
def xR_comp(e:E)(src:I)(tg:Tg)(c:F)(n:Nat)(fr:List Nat):(iR cl (.comp e src tg c n fr) N).th K=(iI cl src N).th (qjG cl e tg c n fr K):=by rw[qgG,qb];refine qB _ λx=>?_;rw[jD,qb];rfl
def n_ok{α:Type}(a:α):noX (R.ok a)=.ok a:=(rfl)
def n_R(e:E):noX (iR cl e N)=noX ((iR cl e N).th R.ok):=by rw[qv]
def n_Es(l:Es):noX (iEs cl l N)=noX ((iEs cl l N).th R.ok):=by rw[qv]
def ix_ok{α:Type}(b:Bool)(x:α):ifX b (R.ok x)=.ok x:=by cases b<;>rfl
def ix_tt{α:Type}(r:R α):ifX true r=r:=(rfl)
def ix_As(b:Bool)(l:Es):ifX b (iAs cl l N)=ifX b ((iAs cl l N).th R.ok):=by rw[qv]
def n_As(l:Es):noX (iAs cl l N)=noX ((iAs cl l N).th R.ok):=by rw[qv]
theorem n_var(i:Nat):(noX (iR cl (.var i) N)).th K=(slR N i).th (Jl N K):=by
 show(noX ((slR N i).th _)).th K=_
 cases e:slR N i with
 |ok r=>rfl
 |no=>rfl
 |exc c l=>unfold slR at e;split at e<;>cases e
end
section
variable(N:Env)(K:Rv×Env->R M)(v u:Rv)
def yRet:Jl N K v=K (v,N):=(rfl)
def yBl(b:Bool):kBl N K b=K (.val (.bl b),N):=(rfl)
def yTmp(l:List D):qlt N K l=K (.tmp l,N):=(rfl)
def yB1(op:Operator)(b:E):kB1 cl op b K (v,N)=(iR cl b N).th (kB2 op v K):=(rfl)
def yB2(op:Operator):kB2 op u K (v,N)=(YJ op u v).th (Jl N K):=(rfl)
def yNeg(i:Int):ql2 K (.val (.int i),N)=K (.val (.int (-i)),N):=(rfl)
def yNot(b:Bool):ql3 K (.val (.bl b),N)=K (.val (.bl (!b)),N):=(rfl)
def yAnd(b:E)(t:Bool):ql4 cl b K (.val (.bl t),N)=if t=true then (iR cl b N).th K else K (.val (.bl false),N):=by cases t<;>rfl
def yC1(op:CmpOp)(b:E):kC1 cl op b K (v,N)=(iR cl b N).th (kC2 op v K):=(rfl)
def yC2(op:CmpOp):kC2 op u K (v,N)=(R.of (JD op u v)).th (kBl N K):=(rfl)
def yI1(b:E):kI1 cl b K (v,N)=(iR cl b N).th (kI2 v K):=(rfl)
def yI2:kI2 u K (v,N)=(idxD u v).th (Jl N K):=(rfl)
def yS1(lo hi:O):kS1 cl lo hi K (v,N)=(iO cl lo N).th (kS2 cl v hi K):=(rfl)
def yS2(hi:O)(l:Option Int):kS2 cl v hi K (l,N)=(iO cl hi N).th (kS3 v l K):=(rfl)
def yS3(l h:Option Int):kS3 v l K (h,N)=(sliceD v l h).th (Jl N K):=(rfl)
def yLst(l:List D):ql5 K (l,N)=if l.length<=sizeLine then K (.tmp l,N) else .no:=(rfl)
def yTup(l:List D):ql6 K (l,N)=if l.length<=sizeLine then K (.val (.tup l),N) else .no:=(rfl)
def yCalF(f:Str)(l:List D):qjE cl f K (l,N)=(cl f (l.map .val)).th (Jl N K):=(rfl)
def yCall(f:Str)(l:List Ar):qjF cl f K (l,N)=(cl f l).th (Jl N K):=(rfl)
def yF1(f:B1):kF1 f K (v,N)=(f.go v).th (Jl N K):=(rfl)
def yG1(f:B2)(b:E):kG1 cl f b K (v,N)=(noX (iR cl b N)).th (kG2 f v K):=(rfl)
def yG2(f:B2):kG2 f u K (v,N)=(f.go u v).th (Jl N K):=(rfl)
def yIsc(t:Str):ql7 cl t K (v,N)=(R.of (YK cl.cs v t)).th (kBl N K):=(rfl)
def yDat(d:D):qlu N K d=K (.val d,N):=(rfl)
def yFld(x:Str):ql8 cl x K (v,N)=(R.of (qaK cl.cs v x)).th (qlu N K):=(rfl)
def yMt3(f:Str)(l:List Ar):qlv cl f v K (l,N)=(cl f (toAr v::l)).th (Jl N K):=(rfl)
def yMt2(f:Str)(l:Es):qlw cl v l N K f=(iAs cl l N).th (qlv cl f v K):=(rfl)
def yMt1(x:Str)(l:Es):qlz cl x l K (v,N)=qks cl x v l N K (mtD cl.cs v x):=(rfl)
def yMtO(x:Str)(l:Es)(f:Str):qks cl x v l N K (some f)=qlw cl v l N K f:=(rfl)
def yMtN(x:Str)(l:Es):qks cl x v l N K none=(noX (iAs cl l N)).th (qlx x v K):=(rfl)
def yMtI(x:Str)(l:List Ar):qlx x v K (l,N)=(noX (bmD x v l)).th (Jl N K):=(rfl)
def yStr(z:Str):qly N K z=K (.val (.str z),N):=(rfl)
def yFst(l:List D):ql9 K (l,N)=(R.of (JN Str.empty l)).th (qly N K):=(rfl)
def bm_s(x a:Str)(as:List Ar):bmD x (.val (.str a)) as=qf9 x a as:=(rfl)
def yMts(cs:Cs)(z x:Str):mtD cs (.val (.str z)) x=none:=(rfl)
theorem Qv:∀zs:List Str,Qh (zs.map D.str)=some zs
 |[]=>rfl
 | z::zs=>by show(Qh (zs.map D.str)).map (z :: ·)=_;rw[Qv zs];rfl
def qgN{a:Str}{zs:List Str}{ar:Ar}(h:ar=.val (.lst (zs.map D.str))\/ar=.bor (zs.map D.str))(hz:(zs.map (·.length)).sum+zs.length * a.length<=16777216):qf9 "join" a [ar]=.ok (.val (.str (Txt.join a zs))):=by
 have e:qaL "join" a (zs.map D.str)=.ok (.val (.str (Txt.join a zs))):=by unfold qaL;rw[if_pos rfl,Qv];exact if_pos hz
 rcases h with rfl|rfl
 ·exact e
 ·exact e
def yS(acc:Str):JN acc []=some acc:=(rfl)
def zv{acc z:Str}{l:List D}(h1:z.length<=3000)(h2:(acc++z).length<=sizeLine):JN acc (.str z::l)=JN (acc++z) l:=by show((if z.length<=3000 then some z else none).bind λy=>if (acc++y).length<=sizeLine then JN (acc++y) l else none)=_;rw[if_pos h1];exact if_pos h2
def yT{acc:Str}{n:Int}{l:List D}(h1:n.natAbs.log2 < 1920)(h2:(acc++Str.ofString (toString n)).length<=sizeLine):JN acc (.int n::l)=JN (acc++Str.ofString (toString n)) l:=by show((if n.natAbs.log2 < 1920 then some (Str.ofString (toString n)) else none).bind λy=>if (acc++y).length<=sizeLine then JN (acc++y) l else none)=_;rw[if_pos h1];exact if_pos h2
def yNew(f:Str)(l:List Ar):qma cl f K (l,N)=(cl.nw f l).th (Jl N K):=(rfl)
def yIsi(t:Ty):qmb cl t K (v,N)=(R.of (tyG cl.cs t v)).th (kBl N K):=(rfl)
def yComp(e:E)(tg:Tg)(c:F)(n:Nat)(fr:List Nat)(l:List D):qjG cl e tg c n fr K (l,N)=if l.length<=sizeLine then (noX (jc cl e tg c l (ZZ n fr N) [])).th (qlt N K) else .no:=(rfl)
end
section
variable(N:Env)(K:Bool×Env->R M)(v u:Rv)(t:Bool)
def xT_not(a:T):(iT cl (.not a) N).th K=(iT cl a N).th (kTn K):=by rw[qjx,qb];rfl
def xT_one(a:T):(iT cl (.one a) N).th K=(iT cl a N).th K:=(rfl)
def xT_and(a b:T):(iT cl (.and a b) N).th K=(iT cl a N).th (kTa cl b K):=by rw[qjy,qb];refine qB _ λt=>?_;rw[jD];rfl
def xT_or(a b:T):(iT cl (.or a b) N).th K=(iT cl a N).th (kTo cl b K):=by rw[qlq,qb];refine qB _ λt=>?_;rw[jD];rfl
def xT_cmp(op:CmpOp)(a b:E):(iT cl (.cmp op a b) N).th K=(iR cl a N).th (kD1 cl op b K):=by rw[qjz,qb];refine qB _ λx=>?_;rw[qb];refine qB _ λy=>?_;rw[qb];rfl
def xT_val(a:E):(iT cl (.val a) N).th K=(iR cl a N).th (kTv K):=by rw[qjA,qb];refine qB _ λx=>?_;rw[qb];rfl
def yBo:kBo N K t=K (t,N):=(rfl)
def yTn:kTn K (t,N)=K (!t,N):=(rfl)
def yTa(b:T):kTa cl b K (t,N)=if t=true then (iT cl b N).th K else K (false,N):=(rfl)
def yTo(b:T):kTo cl b K (t,N)=if t=true then K (true,N) else (iT cl b N).th K:=(rfl)
def yD1(op:CmpOp)(b:E):kD1 cl op b K (v,N)=(iR cl b N).th (kD2 op v K):=(rfl)
def yD2(op:CmpOp):kD2 op u K (v,N)=(R.of (JD op u v)).th (kBo N K):=(rfl)
def yTv:kTv K (v,N)=(R.of (truthD v)).th (kBo N K):=(rfl)
def xF_yes:(iF cl .yes N).th K=K (true,N):=(rfl)
def xF_test(c:T):(iF cl (.test c) N).th K=(iT cl c N).th K:=(rfl)
end
section
variable(N:Env)
def xEs_nil(K:List D×Env->R M):(iEs cl .nil N).th K=K ([],N):=(rfl)
def xEs_cons(K:List D×Env->R M)(e:E)(l:Es):(iEs cl (.cons e l) N).th K=(zU e (iR cl e) N).th (kE1 cl l K):=by rw[qdL,qb];refine qB _ λx=>?_;rw[qb];rfl
def yE1(K:List D×Env->R M)(l:Es)(d:D):kE1 cl l K (d,N)=(iEs cl l N).th (kE2 d K):=(rfl)
def yE2(K:List D×Env->R M)(d:D)(ds:List D):kE2 d K (ds,N)=K (d::ds,N):=(rfl)
def xAs_nil(K:List Ar×Env->R M):(iAs cl .nil N).th K=K ([],N):=(rfl)
def xAs_cons(K:List Ar×Env->R M)(e:E)(l:Es):(iAs cl (.cons e l) N).th K=(iR cl e N).th (kA1 cl l K):=by rw[qdM,qb];refine qB _ λx=>?_;rw[qb];rfl
def yA1(K:List Ar×Env->R M)(l:Es)(v:Rv):kA1 cl l K (v,N)=(iAs cl l N).th (kA2 v K):=(rfl)
def yA2(K:List Ar×Env->R M)(v:Rv)(l:List Ar):kA2 v K (l,N)=K (toAr v::l,N):=(rfl)
def xO_none(K:Option Int×Env->R M):(iO cl .none N).th K=K (none,N):=(rfl)
def xO_some(K:Option Int×Env->R M)(e:E):(iO cl (.some e) N).th K=(iR cl e N).th (kO K):=by rw[qgH,qb];rfl
def yO(K:Option Int×Env->R M)(i:Int):kO K (.val (.int i),N)=K (some i,N):=(rfl)
variable(K:List D×Env->R M)
def xI_nam(i:Nat):(iI cl (.nam i) N).th K=(slC N i).th (qmc N K):=qb (slC N i) _ _
def xI_seq(a:E):(iI cl (.seq a) N).th K=(Yg a (iR cl a) N).th (qmd K):=by rw[qjB,qb];rfl
def xI_rng(a:E):(iI cl (.rng a) N).th K=(iR cl a N).th (qme K):=by rw[qjC,qb];rfl
def yNam(l:List D):qmc N K l=K (l,N):=(rfl)
def slC_s(s:Sl)(i:Nat):slC (s::N) (i+1)=slC N i:=(rfl)
def slC_o(l:List D):slC (.own l::N) 0=.ok l:=(rfl)
def xI_enum(a:E):(iI cl (.enum a) N).th K=(Yg a (iR cl a) N).th (qjH K):=by rw[qgI,qb];rfl
def ySeq(s:Sk)(l:List D):qmd K ((s,l),N)=K (l,N):=(rfl)
def yRng(n:Int):qme K (.val (.int n),N)=if qR n=true then K (zF 0 n,N) else .no:=by show R.th (if qR n=true then _ else _) K=_;rw[jD];rfl
def yEnum(l:List D):qjH K ((.lst,l),N)=K (Jj l,N):=(rfl)
end
section
variable(N:Env)(s:Sl)(i:Nat)(d:D)(l:List D)
def yVal(K:D×Env->R M):qlA K (.val d,N)=K (d,N):=(rfl)
def yValt(K:D×Env->R M):qlA K (.tmp l,N)=K (.lst l,N):=(rfl)
def yValL(K:(Sk×List D)×Env->R M):qdO K (.val (.lst l),N)=K ((.lst,l),N):=(rfl)
def yValLt(K:(Sk×List D)×Env->R M):qdO K (.val (.tup l),N)=K ((.tup,l),N):=(rfl)
def yValLm(K:(Sk×List D)×Env->R M):qdO K (.tmp l,N)=K ((.lst,l),N):=(rfl)
def yX(K:Rv->R M):kX K (.val d,N)=K (.val d):=(rfl)
def yXt(K:Rv->R M):kX K (.tmp l,N)=K (.tmp l):=(rfl)
def yAx(K:Sl×Env->R M):kAx K (.val d,N)=K (.val d,N):=(rfl)
def yAxt(K:Sl×Env->R M):kAx K (.tmp l,N)=K (.own l,N):=(rfl)
def yCons{α:Type}(K:α×Env->R M)(x:α):qgK s K (x,N)=K (x,s::N):=(rfl)
def xE_s(K:D×Env->R M):(slE (s::N) (i+1)).th K=(slE N i).th (qgK s K):=by rw[qlr,qb];rfl
def xE_v(K:D×Env->R M):(slE (.val d::N) 0).th K=K (d,.val d::N):=(rfl)
def xE_o(K:D×Env->R M):(slE (.own l::N) 0).th K=K (.lst l,.val (.lst l)::N):=(rfl)
variable(K:(Sk×List D)×Env->R M)
def xL_s:(slL (s::N) (i+1)).th K=(slL N i).th (qgK s K):=by rw[qls,qb];rfl
def xL_z(z:Str):(slL (.val (.str z)::N) 0).th K=K ((.str,qdk z),.val (.str z)::N):=(rfl)
def xL_o:(slL (.own l::N) 0).th K=K ((.lst,l),.val (.lst l)::N):=(rfl)
end
section
variable(N:Env)(K:Fl->R M)(i:Nat)
def xS_expr(e:E):(iS cl w (.expr e) N).th K=(iR cl e N).th (qlB K):=by rw[qgB,qb];rfl
def oGo_some(l:List D)(x:R M):oGo (some l) x=x:=(rfl)
theorem xS_app(e:E):(iS cl w (.app i e) N).th K=oGo (zA N i) ((zU e (iR cl e) N).th (qmf i K)):=by
 rw[qja]
 cases zA N i with
 |none=>rfl
 |some l=>show R.th (R.th (zU e (iR cl e) N) _) K=_;rw[qb];rfl
def yApp(d:D):qmf i K (d,N)=qgL i d N K (zA N i):=(rfl)
def yApp2(d:D)(l:List D):qgL i d N K (some l)=if l.length < sizeLine then K (.next (N.set i (.own (l++[d])))) else .no:=by show R.th (if l.length < sizeLine then _ else _) K=_;rw[jD];rfl
def xS_clr:(iS cl w (.clr i) N).th K=oGo (zA N i) (K (.next (N.set i (.own [])))):=by
 rw[qjb]
 cases zA N i<;>rfl
def xS_ret(e:E):(iS cl w (.ret e) N).th K=(qdl e (iR cl e) N).th (kRt K):=by rw[qjc,qb];rfl
def yRt(r:Rv):kRt K r=K (.ret r):=(rfl)
def xS_set(e:E):(iS cl w (.set i e) N).th K=(qa5 e (iR cl e) N).th (qmg i K):=by rw[qjd,qb];rfl
def ySet(s:Sl):qmg i K (s,N)=K (.next (N.set i s)):=(rfl)
def xS_setT(tg:Tg)(e:E):(iS cl w (.setT tg e) N).th K=(zU e (iR cl e) N).th (kST tg K):=by rw[qgC,qb];refine qB _ λx=>?_;rw[qb];rfl
def yST(tg:Tg)(d:D):kST tg K (d,N)=(tg.go d N).th (kNx K):=(rfl)
def yNx:kNx K N=K (.next N):=(rfl)
theorem xS_setI(x e:E):(iS cl w (.setI i x e) N).th K=(zU e (iR cl e) N).th (kSI cl i x K):=by
 rw[qgD,qb];refine qB _ λy=>?_;show R.th (match zA y.2 i with |none=>_ |some _=>_) K=oGo (zA y.2 i) _
 cases zA y.2 i with
 |none=>rfl
 |some l=>
  show R.th (R.th (iR cl x y.2) _) K=R.th _ _;rw[qb];refine qB _ λz=>?_;show R.th (match zA z.2 i,z.1.int? with |some l,some n=>_ |_,_=>_) K=qkt i y.1 z.2 K (zA z.2 i) z.1.int?
  cases zA z.2 i with
  |none=>rfl
  |some l=>cases z.1.int?<;>rfl
def ySI(x:E)(d:D):kSI cl i x K (d,N)=oGo (zA N i) ((iR cl x N).th (qlD i d K)):=(rfl)
def ySI2(d:D)(v:Rv):qlD i d K (v,N)=qkt i d N K (zA N i) v.int?:=(rfl)
def ySI3(d:D)(l:List D)(n:Int):qkt i d N K (some l) (some n)=qlC i d N K l (ixN l.length n):=(rfl)
def ySI4(d:D)(l:List D)(k:Nat):qlC i d N K l (some k)=K (.next (N.set i (.own (l.set k d)))):=(rfl)
def xS_ite(c:T)(a b:Ss):(iS cl w (.ite c a b) N).th K=(iT cl c N).th (qmh cl w a b K):=by rw[qje,qb];refine qB _ λt=>?_;rw[jD];rfl
def yIte(a b:Ss)(t:Bool):qmh cl w a b K (t,N)=if t=true then (iSs cl w a N).th K else (iSs cl w b N).th K:=(rfl)
def xS_for(tg:Tg)(src:I)(b:Ss):(iS cl w (.for_ tg src b) N).th K=(iI cl src N).th (qmi cl w tg b K):=by rw[qjf,qb];rfl
def yFor(tg:Tg)(b:Ss)(l:List D):qmi cl w tg b K (l,N)=(JS cl w tg b l N).th K:=(rfl)
def qmk(n:Str)(K:Fl->R M)(x:List D×Env):R M:=(mkX cl.x cl.cs n x.1).th K
def xS_rai(n:Str)(l:Es):(iS cl w (.rai n l) N).th K=(noX (iEs cl l N)).th (qmk cl n K):=by rw[qjg,qb];rfl
def yRai(n:Str)(l:List D):qmk cl n K (l,N)=(mkX cl.x cl.cs n l).th K:=(rfl)
def xS_try(b:Ss)(hs:List (Str×Nat×Nat)):(iS cl w (.try_ b hs) N).th K=(qln cl hs N.length ((iSs cl w b N).th R.ok)).th K:=by rw[qjh,qv]
def yTry_exc(hs:List (Str×Nat×Nat))(n:Nat)(C:Addr)(l:List (Str×D)):qln cl hs n (.exc C l)=jC cl.cs n C l hs:=(rfl)
def th_exc{α:Type}(c:Addr)(l:List (Str×D))(K:α->R M):(R.exc c l:R α).th K=.exc c l:=(rfl)
def xSs_nil:(iSs cl w .nil N).th K=K (.next N):=(rfl)
def xSs_cons(s:S)(l:Ss):(iSs cl w (.cons s l) N).th K=(iS cl w s N).th (qgM cl w l K):=by rw[qdK,qb];rfl
def yNext(l:Ss):qgM cl w l K (.next N)=(iSs cl w l N).th K:=(rfl)
def yNextr(l:Ss)(r:Rv):qgM cl w l K (.ret r)=K (.ret r):=(rfl)
def xFo_cons(tg:Tg)(b:Ss)(d:D)(l:List D):(JS cl w tg b (d::l) N).th K=(tg.go d N).th (qmj cl w tg b l K):=by rw[qcc,qb,qb];refine qB _ λN2=>?_;rfl
def yFo1(tg:Tg)(b:Ss)(l:List D):qmj cl w tg b l K N=(iSs cl w b N).th (qku cl w tg b l K):=(rfl)
def yFo2(tg:Tg)(b:Ss)(l:List D):qku cl w tg b l K (.next N)=(JS cl w tg b l N).th K:=(rfl)
def yFo2r(tg:Tg)(b:Ss)(l:List D)(r:Rv):qku cl w tg b l K (.ret r)=K (.ret r):=(rfl)
end
section
variable(N:Env)(K:List D->R M)(e:E)(tg:Tg)(c:F)(l acc:List D)(d:D)
def xP_cons:(jc cl e tg c (d::l) N acc).th K=(tg.go d N).th (kP1 cl e tg c l acc K):=by
 rw[qaR,qb];refine qB _ λN1=>?_;rw[qb];refine qB _ λbt=>?_;rw[jD,qb];show(if bt.1=true then _ else _)=(if bt.1=true then _ else _)
 by_cases h:bt.1=true
 ·rw[if_pos h,if_pos h];refine qB _ λx=>?_;rw[jD];rfl
 ·rw[if_neg h,if_neg h]
def yP1:kP1 cl e tg c l acc K N=(iF cl c N).th (kP2 cl e tg c l acc K):=(rfl)
def yP2(t:Bool):kP2 cl e tg c l acc K (t,N)=if t=true then (zU e (iR cl e) N).th (kP3 cl e tg c l acc K) else (jc cl e tg c l N acc).th K:=(rfl)
def yP3:kP3 cl e tg c l acc K (d,N)=if acc.length < sizeLine then (jc cl e tg c l N (acc++[d])).th K else .no:=(rfl)
end
end
def vc:E->Bool
 |.var _=>true
 |.con _=>true
 |_=>false
def vc_bin(op:Operator)(a b:E):vc (.bin op a b)=false:=(rfl)
def vc_neg(a:E):vc (.neg a)=false:=(rfl)
def vc_and(a b:E):vc (.and a b)=false:=(rfl)
def vc_idx(a b:E):vc (.idx a b)=false:=(rfl)
def vc_sli(a:E)(lo hi:O):vc (.sli a lo hi)=false:=(rfl)
def vc_lst(l:Es):vc (.lst l)=false:=(rfl)
def vc_fst(l:Es):vc (.fst l)=false:=(rfl)
def vc_tup(l:Es):vc (.tup l)=false:=(rfl)
def vc_call(f:Str)(l:Es):vc (.call f l)=false:=(rfl)
def vc_b1(f:B1)(a:E):vc (.b1 f a)=false:=(rfl)
def vc_b2(f:B2)(a b:E):vc (.b2 f a b)=false:=(rfl)
def vc_fld(a:E)(x:Str):vc (.fld a x)=false:=(rfl)
def vc_met(a:E)(x:Str)(l:Es):vc (.met a x l)=false:=(rfl)
def vc_new(f:Str)(l:Es):vc (.new f l)=false:=(rfl)
def vc_comp(e:E)(src:I)(tg:Tg)(c:F)(n:Nat)(fr:List Nat):vc (.comp e src tg c n fr)=false:=(rfl)
section
variable{M:Type}(r:Env->R (Rv×Env))(N:Env)
def eE_g{e:E}(h:vc e=false)(K:D×Env->R M):(zU e r N).th K=(r N).th (qlA K):=by rw[show zU e r N=(r N).th qko from(by cases e<;>first|rfl|(cases h)),qb];rfl
def eL_g{e:E}(h:vc e=false)(K:(Sk×List D)×Env->R M):(Yg e r N).th K=(r N).th (qdO K):=by rw[show Yg e r N=(r N).th qkp from(by cases e<;>first|rfl|(cases h)),qb];rfl
def eX_g{e:E}(h:vc e=false)(K:Rv->R M):(qdl e r N).th K=(r N).th (kX K):=by rw[show qdl e r N=(r N).th λx=>match x.1 with |.val d=>R.ok (.val d) |.tmp l=>.ok (.tmp l) |_=>.no from(by cases e<;>first|rfl|(cases h)),qb];rfl
def eA_g{e:E}(h:vc e=false)(K:Sl×Env->R M):(qa5 e r N).th K=(r N).th (kAx K):=by rw[show qa5 e r N=(r N).th λx=>match x.1 with |.val d=>R.ok (.val d,x.2) |.tmp l=>.ok (.own l,x.2) |_=>.no from(by cases e<;>first|rfl|(cases h)),qb];rfl
def eE_var(K:D×Env->R M)(i:Nat):(zU (.var i) r N).th K=(slE N i).th K:=(rfl)
def eE_con(K:D×Env->R M)(d:D):(zU (.con d) r N).th K=K (d,N):=(rfl)
def eL_var(K:(Sk×List D)×Env->R M)(i:Nat):(Yg (.var i) r N).th K=(slL N i).th K:=(rfl)
def eX_var(K:Rv->R M)(i:Nat):(qdl (.var i) r N).th K=(slX N i).th K:=(rfl)
def eX_con(K:Rv->R M)(d:D):(qdl (.con d) r N).th K=K (.val d):=(rfl)
def eA_con(K:Sl×Env->R M)(d:D):(qa5 (.con d) r N).th K=K (.val d,N):=(rfl)
end
def bAdd(a b:Int):YJ .Add (.val (.int a)) (.val (.int b))=.ok (.val (.int (a+b))):=(rfl)
def bAdds(a b:Str):YJ .Add (.val (.str a)) (.val (.str b))=if a.length+b.length<=sizeLine then .ok (.val (.str (a++b))) else .no:=(rfl)
def bAddtt(a b:List D):YJ .Add (.tmp a) (.tmp b)=if a.length+b.length<=sizeLine then .ok (.tmp (a++b)) else .no:=(rfl)
def bAddct(a b:List D):YJ .Add (.cell a) (.tmp b)=if a.length+b.length<=sizeLine then .ok (.tmp (a++b)) else .no:=(rfl)
def bAddvt(a b:List D):YJ .Add (.val (.lst a)) (.tmp b)=if a.length+b.length<=sizeLine then .ok (.tmp (a++b)) else .no:=(rfl)
def bSub(a b:Int):YJ .Sub (.val (.int a)) (.val (.int b))=.ok (.val (.int (a - b))):=(rfl)
def bMult(a b:Int):YJ .Mult (.val (.int a)) (.val (.int b))=if Q9 a b=true then .ok (.val (.int (a * b))) else .no:=(rfl)
def bDiv(a b:Int):YJ .FloorDiv (.val (.int a)) (.val (.int b))=if 0 < b/\b < 1073741824 then .ok (.val (.int (a / b))) else if b < 0/\-1073741824 < b then .ok (.val (.int (a.fdiv b))) else .no:=(rfl)
def bMod(a b:Int):YJ .Mod (.val (.int a)) (.val (.int b))=if 0 < b then .ok (.val (.int (a % b))) else if b < 0 then .ok (.val (.int (a.fmod b))) else .no:=(rfl)
def bPow(a b:Int):YJ .Pow (.val (.int a)) (.val (.int b))=if 0<=b/\b<=1000000/\a.natAbs < 2 ^ 64 then .ok (.val (.int (a ^ b.toNat))) else .no:=(rfl)
def cEq(x y:Rv):JD .Eq x y=eqD x.data y.data:=(rfl)
def cNe(x y:Rv):JD .NotEq x y=(eqD x.data y.data).map (!·):=(rfl)
def cLt(a b:Int):JD .Lt (.val (.int a)) (.val (.int b))=some (decide (a < b)):=(rfl)
def cLe(a b:Int):JD .LtE (.val (.int a)) (.val (.int b))=some (decide (a<=b)):=(rfl)
def cGt(a b:Int):JD .Gt (.val (.int a)) (.val (.int b))=some (decide (b < a)):=(rfl)
def cIn(x y:Rv):JD .In x y=qcU x y:=(rfl)
def cNi(x y:Rv):JD .NotIn x y=(qcU x y).map (!·):=(rfl)
def mIn(a b:Str):qcU (.val (.str a)) (.val (.str b))=some (qho a b):=(rfl)
def rgoV(i:Nat)(d:D)(N:Env):Tg.go (.one i) d N=.ok (N.set i (.val d)):=(rfl)
def rgoT(l:List Nat)(ds:List D)(N:Env):Tg.go (.many l) (.tup ds) N=Ye l ds N:=(rfl)
def setIs_nil(N:Env):Ye [] [] N=.ok N:=(rfl)
def setIs_cons(i:Nat)(l:List Nat)(d:D)(ds:List D)(N:Env):Ye (i::l) (d::ds) N=Ye l ds (N.set i (.val d)):=(rfl)
section
variable{α M:Type}(f:α->M)(a b:α)(l m:List α)(n:Nat)
def g_mapc:List.map f (a::l)=f a::List.map f l:=(rfl)
def g_mapn:List.map f []=[]:=(rfl)
def g_lenc:(a::l).length=l.length+1:=(rfl)
def g_lenn:([]:List α).length=0:=(rfl)
def g_rep0:List.replicate 0 a=[]:=(rfl)
def g_reps:List.replicate (n+1) a=a::List.replicate n a:=(rfl)
def g_appc:(a::l)++m=a::(l++m):=(rfl)
def g_appn:[]++m=m:=(rfl)
def g_set0:(a::l).set 0 b=b::l:=(rfl)
def g_sets:(a::l).set (n+1) b=a::l.set n b:=(rfl)
def g_last(l:List α)(x:α):atI (l++[x]) (-1)=some x:=L2.qc8 ..
def g_nott:(!true)=false:=(rfl)
def g_notf:(!false)=true:=(rfl)
def g_omap:Option.map f (some a)=some (f a):=(rfl)
def g_fe:(false=true)=False:=Bool.false_eq_true
def g_and(p:Prop):(p/\p)=p:=and_self p
def g_dt(h:Decidable True):@decide True h=true:=decide_true ..
def g_df(h:Decidable False):@decide False h=false:=decide_false ..
end
def aL(b:Bool)(l:List D):Ar:=match b with
 |true=>.bor l
 |false=>.val (.lst l)
def rA(b:Bool)(l:List D):Rv:=match b with
 |true=>.cell l
 |false=>.val (.lst l)
def pS(b:Bool)(l:List D):Sl:=match b with
 |true=>.bor l
 |false=>.val (.lst l)
section
variable{M:Type}(b:Bool)(l:List D)(N:DE.Env)
def lend_v(d:D):qkm (.val d)=.val d:=(rfl)
def qne:aL true l=.bor l:=rfl
def qnf:aL false l=.val (.lst l):=rfl
def sA_p:toSl (aL b l)=pS b l:=by cases b<;>rfl
def sA_R:slR (pS b l::N) 0=.ok (rA b l):=by cases b<;>rfl
def sA_L(K:(Sk×List D)×DE.Env->R M):(slL (pS b l::N) 0).th K=K ((.lst,l),pS b l::N):=by cases b<;>rfl
def rA_l:(rA b l).list?=some l:=by cases b<;>rfl
def rA_s:(rA b l).str?=none:=by cases b<;>rfl
def rA_t:(rA b l).tup?=none:=by cases b<;>rfl
def rA_y:Ty.list.go (rA b l)=some true:=by cases b<;>rfl
end
noncomputable abbrev RW(pg:Pg)(f:Str)(c:Nat×Nat×Ss):Prop:=∀(k:Nat) (args:List Ar),clK pg (k+1) f args=runD (pg.kk k) 1000 c args
noncomputable abbrev USs(b c:Ss):Prop:=∀{M:Type} (cl:Cl) (w:Nat) (N:DE.Env) (K:Fl->R M),(iSs cl w b N).th K=(iSs cl w c N).th K
noncomputable abbrev UE(b c:E):Prop:=∀{M:Type} (cl:Cl) (N:DE.Env) (K:D×DE.Env->R M),(zU b (iR cl b) N).th K=(zU c (iR cl c) N).th K
abbrev sf:Str:="self"
def atE(e:Expr):Option (Expr×Str×Pos):=(vE e).bind (·.elim (λ_=>none) (·.elim (λ_=>none) (·.elim some λ_=>none)))
theorem qeU{e:Expr}{t:Expr×Str×Pos}(h:atE e=some t):e=.Attribute t.1 t.2.1 t.2.2:=by
 let(u,h1,h2):=bind_some h
 have:=qbY h1
 match u,h2 with
 |.inr (.inr (.inl t)),h2=>cases h2;exact this
 |.inl _,h2=>cases h2
 |.inr (.inl _),h2=>cases h2
 |.inr (.inr (.inr _)),h2=>cases h2
def jsE(e:Expr):Option (List Expr×Pos):=(vE e).bind (·.elim (λ_=>none) (·.elim (λ_=>none) (·.elim (λ_=>none) (·.elim some λ_=>none))))
theorem qjI{e:Expr}{t:List Expr×Pos}(h:jsE e=some t):e=.JoinedStr t.1 t.2:=by
 let(u,h1,h2):=bind_some h
 have:=qbY h1
 match u,h2 with
 |.inr (.inr (.inr (.inl t))),h2=>cases h2;exact this
 |.inl _,h2=>cases h2
 |.inr (.inl _),h2=>cases h2
 |.inr (.inr (.inl _)),h2=>cases h2
 |.inr (.inr (.inr (.inr _))),h2=>cases h2
def inA(st:Stmt):Option (Str×Str×Str):=(aN st).bind λq=>(atE q.1).bind λa=>(nmE a.1).bind λs=>(nmE q.2).bind λb=>some (s,a.2.1,b)
def qeV{st:Stmt}{t:Str×Str×Str}(h:inA st=some t):∃sp ap bp p,st=.Assign [.Attribute (.Name t.1 sp) t.2.1 ap] (.Name t.2.2 bp) p:=by let(q,h1,h2):=bind_some h;clear h;let(a,h3,h4):=bind_some h2;clear h2;let(s,h5,h6):=bind_some h4;clear h4;let(b,h7,h8):=bind_some h6;clear h6;let(p,e1):=qir h1;have e2:=qeU h3;let(sp,e3):=j5 h5;let(bp,e4):=j5 h7;clear h1 h3 h5 h7;cases h8;exact{sp,a.2.2,bp,p,by rw[e1,e2,e3,e4]}
def qjJ:List Stmt->Option (List Str)
 |[]=>some []
 | st::l=>(inA st).bind λt=>if t.1=sf/\t.2.2=t.2.1 then (qjJ l).map (t.2.1 :: ·) else none
def pkE(e:Expr):Option (Str ⊕ Str):=(vE e).bind (·.elim (λ_=>none) (·.elim (λ_=>none) (·.elim (λ_=>none) (·.elim (λ_=>none) (·.elim (λt=>oif (decide (t.2.1 = -1)&&t.2.2.1.isNone) ((nmE t.1).map .inr)) λt=>(match t.1 with |.str z=>some (.inl z) |_=>none))))))
theorem qjK{e:Expr}{t:Str ⊕ Str}(h:pkE e=some t):t.elim (λz=>∃j p,e=.Constant (.str z) j p) λx=>∃np p,e=.FormattedValue (.Name x np) (-1) none p:=by
 let(u,h1,h2):=bind_some h
 have:=qbY h1
 clear h h1
 match u,h2 with
 |.inl _,h2=>cases h2
 |.inr (.inl _),h2=>cases h2
 |.inr (.inr (.inl _)),h2=>cases h2
 |.inr (.inr (.inr (.inl _))),h2=>cases h2
 |.inr (.inr (.inr (.inr (.inl (y,i,f,p))))),h2=>let(hc,h2):=qh h2;let(x,h3,rfl):=map_some h2;let(np,e1):=j5 h3;rw[Bool.and_eq_true,decide_eq_true_eq]at hc;have e2:f=none:=Option.isNone_iff_eq_none.mp hc.2;have e3:i = -1:=hc.1;exact{np,p,by rw[this,<-e1,<-e3,<-e2];rfl}
 |.inr (.inr (.inr (.inr (.inr (c,j,p))))),h2=>cases c<;>first|(cases h2;exact⟨j,p,this⟩)|cases h2
def Yr(ns:List Str):List Expr->Bool
 |[]=>true
 | e::l=>(pkE e).elim false λt=>t.elim (λz=>decide (z.length<=3000)) (λx=>ns.contains x&&qK x)&&Yr ns l
def exS(s:Stmt):Option Expr:=(vS s).bind (·.elim (λ_=>none) λt=>some t.1)
theorem qjL{s:Stmt}{x:Expr}(h:exS s=some x):∃p,s=.Expr x p:=by
 let(u,h1,h2):=bind_some h
 have:=vsb s
 rw[h1]at this
 cases u with
 |inl u=>cases h2
 |inr u=>cases h2;exact{_,this}
def inX(st:Stmt):Option (Str×Str×Str×List Expr×Bool):=(exS st).bind λx=>(caE x).bind λt=>(atE t.1).bind λa=>(nmE a.1).bind λd=>oif (t.2.2.1.isEmpty&&decide (t.2.1.length=2)) (t.2.1[0]?.bind λs0=>t.2.1[1]?.bind λj=>(nmE s0).bind λs=>(jsE j).bind λq=>some (d,a.2.1,s,q.1,a.2.2.endLine == t.2.2.2.line))
theorem qbA{α:Type}{l:List α}{a b:α}(h:l.length=2)(h0:l[0]?=some a)(h1:l[1]?=some b):l=[a,b]:=by
 match l,h with
 |[x,y],_=>cases h0;cases h1;rfl
def qjM{st:Stmt}{t:Str×Str×Str×List Expr×Bool}(h:inX st=some t):∃dp ap sp jp cp ep,st=.Expr (.Call (.Attribute (.Name t.1 dp) t.2.1 ap) [.Name t.2.2.1 sp,.JoinedStr t.2.2.2.1 jp] [] cp) ep/\t.2.2.2.2=(ap.endLine == cp.line):=by let(x,h1,h2):=bind_some h;clear h;let(c,h3,h4):=bind_some h2;clear h2;let(a,h5,h6):=bind_some h4;clear h4;let(d,h7,h8):=bind_some h6;clear h6;let(hc,h9):=qh h8;clear h8;let(s0,g1,g2):=bind_some h9;clear h9;let(j,g3,g4):=bind_some g2;clear g2;let(s,g5,g6):=bind_some g4;clear g4;let(q,g7,g8):=bind_some g6;clear g6;rw[Bool.and_eq_true,decide_eq_true_eq]at hc;let(ep,e1):=qjL h1;have e2:=qeE h3;have e3:=qeU h5;let(dp,e4):=j5 h7;let(sp,e5):=j5 g5;have e6:=qjI g7;have e7:=qbA hc.2 g1 g3;have e8:=List.isEmpty_iff.mp hc.1;clear h1 h3 h5 h7 g1 g3 g5 g7 hc;cases g8;exact{dp,a.2.2,sp,q.2,c.2.2.2,ep,by rw[e1,e2,e3,e4,e7,e5,e6,e8],rfl}
def qml(D:Str)(ns:List Str)(st:Stmt):Bool:=match qt st with
 |[]=>false
 | s0::l=>(inX s0).elim false λt=>decide (t.1=D)&&decide (t.2.1 = "__init__")&&decide (t.2.2.1=sf)&&t.2.2.2.2&&Yr ns t.2.2.2.1&&decide (2<=t.2.2.2.1.length)&&decide (t.2.2.2.1.length<=22)&&decide (qjJ l=some ns)&&decide (Jk st=sf::ns)&&decide (fnN st=sf::ns)&&jg st&&qK D&&glB (qe st) D&&decide ns.Nodup&&ns.all qK&&!ns.contains sf&&decide (ns.length<=10)
theorem qaa{f:Str}{y:V}:∀{fs:List (Str×V)},f∉fs.map (·.1)->yZ f y fs=fs++[(f,y)]
 |[],_=>rfl
 | (g,x)::r,h=>by have h1:g≠f:=λz=>h (by simp[z]);have h2:f∉r.map (·.1):=λz=>h (by simp[z]);show(if g=f then (g,y)::r else (g,x)::yZ f y r)=_;rw[if_neg h1,qaa h2];rfl
section
variable{X:Cx}{C:Addr}
theorem Qw(vis:∀y,y∈X.N->Vis X.env.scope y)(h0:X.N[0]?=some sf)(hc:∀n,n∈X.N->n≠sf->XcS X.K C n/\qK n=true):∀(l:List Stmt) (ns:List Str),qjJ l=some ns->∀(j:Nat) (fs:List (Str×V)) (us:List V),(∀(i:Nat) (n:Str),ns[i]?=some n->X.N[j+i]?=some n/\n≠sf)->us.length=ns.length->(fs.map (·.1)++ns).Nodup->fs.length+ns.length < 1000->
  ∃t,PSs X l t/\∀(x dd:Addr) (D:Ends) (Z:L2.St) (H:Hp),Z[0]?=some (some (.ref x))->(∀(i:Nat) (u:V),us[i]?=some u->Z[j+i]?=some (some u))->H x=some (yD x C (some dd))->H dd=some (xD dd fs)->dd≠x->D.nx Z (upd H dd (xD dd (fs++ns.zip us)))->t D Z H
 |[],ns,h=>by cases h;intro j fs us _ hl _ _;refine{_,zQ,λx dd D Z H _ _ _ hd _ q=>?_};rw[List.zip_nil_left,List.append_nil,ZT hd]at q;exact q
 | st::l,ns,h=>by
  ·let((s,a,b),hA,h'):=bind_some h;clear h;let(sp,ap,bp,p,rfl):=qeV hA;have h:(if s=sf/\b=a then (qjJ l).map (a :: ·) else none)=some ns:=h';clear h' hA;dsimp only
   by_cases hq:s=sf/\b=a
   case neg=>rw[if_neg hq]at h;cases h
   rw[if_pos hq]at h;let(ns,h1,rfl):=map_some h;let(rfl,rfl):=hq;intro j fs us hN hl nd hz
   match us,hl with
   | u::us,hl=>
    let(n0,n1):=hN 0 b rfl;rw[Nat.add_zero]at n0;let(cS,nok):=hc b (List.mem_of_getElem? n0) n1;let(m1,m2,m3):=qx nok
    have nb:b∉fs.map (·.1):=λz=>by
     have:=(List.nodup_append.mp nd).2.2 b z b (5:)
     exact this rfl
    let(t,ht,hr):=Qw vis h0 hc l ns h1 (j+1) (fs++[(b,u)]) us (λi n e=>by
     have:=hN (i+1) n (-e:)
     rw[show j+1+i=j+(i+1) by lia];exact this) (-hl:) (by rw[List.map_append,List.append_assoc];exact nd) (by simp![List.length_append,List.length_cons,List.length_nil]at hz ⊢;lia)
    refine{_,qo (qf1 (jA (i:=0) h0 (vis _ (List.mem_of_getElem? h0))) (jA (i:=j) n0 (vis _ (List.mem_of_getElem? n0)) m1 m2) (yq rfl _ _ _)) ht,λx dd D Z H s0 su hx hd ne q=>?_};refine{u,by have:=su 0 u rfl;rwa[Nat.add_zero]at this,.ref x,s0,x,C,dd,fs,rfl,hx,hd,by lia,cS,?_};refine hr x dd D Z _ s0 (λi v e=>by rw[show j+1+i=j+(i+1) by lia];exact su (i+1) v (-e:)) (by rw[qc (Ne.symm ne)];exact hx) (by rw[qaa nb,qf]) ne ?_;rw[qfa,List.append_assoc];exact q
theorem Ys{ns:List Str}(hN:X.N=sf::ns)(vis:∀y,y∈X.N->Vis X.env.scope y):∀es:List Expr,Yr ns es=true->PJ X es (λZ=>∀i,i < ns.length->∃v,Z[i+1]?=some (some v)/\qfY v)
 |[],_=>λpins s Z H acc I _ h=>qih pins s Z H acc I trivial h
 | e::l,h=>by
  replace h:((pkE e).elim false λt=>t.elim (λz=>decide (z.length<=3000)) (λx=>ns.contains x&&qK x)&&Yr ns l)=true:=h
  cases hc:pkE e with
  |none=>rw[hc]at h;cases h
  |some t=>
   rw[hc]at h
   replace h:=Bool.and_eq_true_iff.mp h
   have q:=qjK hc;clear hc
   cases t with
   |inl z=>let(j,p,rfl):=q;exact qii (of_decide_eq_true h.1) (Ys hN vis l h.2)
   |inr y=>
    let(np,p,rfl):=q;let(h,hr):=h
    replace h:=Bool.and_eq_true_iff.mp h
    let(hy,hn):=h;let(m1,m2,m3):=qx hn;let(i,hi,e):=List.getElem_of_mem (by simpa using hy:y∈ns);have hx:X.N[i+1]?=some y:=by rw[hN,List.getElem?_cons_succ,List.getElem?_eq_getElem hi,e]
    exactλpins s Z H acc I ht hl=>qij (jA (i:=i+1) hx (vis _ (List.mem_of_getElem? hx)) m1 m2) (Ys hN vis l hr) pins s Z H acc I ⟨ht i hi,ht⟩ hl
end
section
variable{P:Program}{wd:World}{K:Frag}{mg:PR}{base:Heap}
theorem qjN{D nm f:Str}{ns:List Str}{st:Stmt}{fI C aD:Addr}{fd:FuncData}(hb:qml D ns st=true)(hne:ns≠[])(F:Fun K nm f st fI fd)(hD:ClsIni K aD)(mD:mg D=some (.ref aD))(ok:JM K C fI bV "ValueError.__new__" = true)(hs:∀n∈ns,XcS K C n)(j:Nat) :
  FnOk P wd K mg base CX0 (j+1) fI fd (sf::ns) (qiX C ns):=by
 unfold qml at hb
 cases hbody:qt st with
 |nil=>rw[hbody]at hb;cases hb
 |cons s0 l=>
 rw[hbody]at hb;dsimp only at hb
 cases hX:inX s0 with
 |none=>rw[hX]at hb;cases hb
 |some t=>
 rw[hX]at hb;dsimp only[Option.elim]at hb;let(d,i,s,vs0,b0):=t;let(dp,ap,sp,jp,cp,ep,rfl,hl0):=qjM hX;clear hX;simp![Bool.and_eq_true,decide_eq_true_eq,Bool.not_eq_true',List.all_eq_true]at hb;let((((((((((((((((rfl,rfl),rfl),hl),hp),hr2),hr),hS),hpar),hfn),hc),dok),dgl),nd),nok),nos),nl):=hb
 let(v1,v2,rest,rfl):∃v1 v2 rest,vs0=v1::v2::rest:=by
  match vs0,hr2 with
  | v1::v2::rest,_=>exact⟨v1,v2,rest,rfl⟩
 have hl:(ap.endLine == cp.line)=true:=by rw[<-hl0];exact hl
 have hr:rest.length<=20:=by simp![List.length_cons]at hr;lia
 have S:=zH hc;rw[hpar,hfn]at S;let(n1,n2,n3):=qx dok;refine F.ok S (λvs H Q E z=>?_) (λcdv A outer s H vs Q E hrm z=>?_)
 ·let(x,us,rfl,_,h1,_):=z;simp[h1]
 ·let(x,us,rfl,hx,h1,hf,q):=z
  have vis:∀y,y∈(sf::ns:List Str)->Vis (qe st) y:=λy hy=>by
   rcases S.par y hy with k|k
   ·exact .inl k
   ·exact .inr (.inl k)
  have hg:Gl (JC CX0 P wd K mg base (sf::ns) f (qe st) fI cdv A outer s H E).nox d:=by
   have:((qe st).names.lookup d == some NameKind.globalImplicit)=true:=dgl
   exact(by simpa using this:(qe st).names.lookup d=some .globalImplicit)
  have hN0:(JC CX0 P wd K mg base (sf::ns) f (qe st) fI cdv A outer s H E).nox.N=sf::ns:=rfl
  let(a,ns',rfl):∃a ns',ns=a::ns':=by
   cases ns with
   |nil=>exact absurd rfl hne
   |cons a l=>exact⟨a,l,rfl⟩
  match us,h1 with
  | u::us,h1=>
   match l,hS,hbody with
   |[],hS,_=>cases hS
   | st1::l,hS,hbody=>
    let((s2,a2,b2),hA,h'):=bind_some hS;clear hS;let(sp2,ap2,bp2,p2,rfl):=qeV hA;have hS:(if s2=sf/\b2=a2 then (qjJ l).map (a2 :: ·) else none)=_:=h';clear h' hA;dsimp only at hbody
    by_cases hq:s2=sf/\b2=a2
    case neg=>rw[if_neg hq]at hS;cases hS
    rw[if_pos hq]at hS;let(ns2,hS2,e3):=map_some hS;injection e3 with e3 e4;subst e3 e4;let(rfl,rfl):=hq
    have an:b2≠sf:=λz=>by rw[z]at nos;simp at nos
    let(m1,m2,m3):=qx (nok b2 (5:))
    have hne2:∀n∈ns2,n≠sf:=λn hn z=>by
     rw[z]at hn
     have:(b2::ns2).contains sf=true:=by simp[hn]
     rw[nos]at this;cases this
    rw[hbody];have c0:(sf::b2::ns2:List Str)[0]?=some sf:=rfl;have c1:(sf::b2::ns2:List Str)[1]?=some b2:=rfl;have pv0:∀pos,PE (JC CX0 P wd K mg base (sf::b2::ns2) f (qe st) fI cdv A outer s H E).nox (.Name sf pos) (qaZ 0):=λpos=>jA (i:=0) c0 (vis _ (5:));have pv1:∀pos,PE (JC CX0 P wd K mg base (sf::b2::ns2) f (qe st) fI cdv A outer s H E).nox (.Name b2 pos) (qaZ 1):=λpos=>jA (i:=1) c1 (vis _ (5:)) m1 m2;have js:=qbQ (pos:=jp) (Ys (X:=(JC CX0 P wd K mg base (sf::b2::ns2) f (qe st) fI cdv A outer s H E).nox) rfl vis _ hp) hr;have pa:=qg (pv0 sp) (qg js qq rfl) rfl;have hN1:∀(i:Nat) (n:Str),ns2[i]?=some n->(sf::b2::ns2:List Str)[2+i]?=some n/\n≠sf:=λi n e=>{by rw[show 2+i=i+2 by lia];exact e,hne2 n (List.mem_of_getElem? e)};have hlen:us.length=ns2.length:=(-h1:)
    let(t,ht,hst):=Qw (X:=(JC CX0 P wd K mg base (sf::b2::ns2) f (qe st) fI cdv A outer s H E).nox) (C:=C) vis c0 (λn hn e=>{hs n (by
     rcases List.mem_cons.mp hn with z|z
     ·exact absurd z e
     ·exact z),nok n (by
     rcases List.mem_cons.mp hn with z|z
     ·exact absurd z e
     ·exact z)}) l ns2 hS2 2 [(b2,u)] us hN1 hlen nd (by simp![List.length_cons,List.length_nil]at nl ⊢;lia)
    refine{_,qo (zx (qdh hD hg mD pa n1 rfl rfl (j6 (o:=.Name d dp) (x:="__init__") (es:=[.Name sf sp,.JoinedStr (v1::v2::rest) jp]) rfl rfl (by show(2:Nat) < 30;decide) hl)) (yq rfl _ _ _)) (qo (qf0 (pv0 sp2) (pv1 bp2) (yq rfl _ _ _)) ht),?_};have g0:(L2.jM (sf::b2::ns2) (.ref x::u::us))[0]?=some (some (.ref x)):=rfl;have g1:(L2.jM (sf::b2::ns2) (.ref x::u::us))[1]?=some (some u):=rfl
    have g2:∀(i:Nat) (v:V),us[i]?=some v->(L2.jM (sf::b2::ns2) (.ref x::u::us))[2+i]?=some (some v):=λi v e=>by rw[show 2+i=i+2 by lia];show(us.map some++_)[i]?=_;have hi:i < us.length:=(List.getElem?_eq_some_iff.mp e).1;rw[List.getElem?_append_left (-hi:),List.getElem?_map,e];rfl
    refine{.ref x,g0,{λi hi=>?_,λz=>{x,C,fI,z,rfl,hx,ok,u,g1,.ref x,g0,x,C,rfl,hx,hs b2 (5:),λdd hd=>?_}}}
    ·cases i with
     |zero=>exact{u,g1,hf u (5:)}
     |succ i=>
      have hi2:i < us.length:=by simp![List.length_cons]at hi;lia
      exact{us[i],by have:=g2 i us[i] (List.getElem?_eq_getElem hi2);rwa[show 2+i=i+1+1 by lia]at this,hf _ (5:)}
    ·have ne:dd≠x:=λz=>by rw[z,hx]at hd;cases hd
     refine hst x dd _ _ _ g0 g2 qf (by rw[qc ne,qf]) ne ?_
     have e:upd (upd (upd H dd (xD dd [(b2,u)])) x (yD x C (some dd))) dd (xD dd ([(b2,u)]++ns2.zip us))=upd (upd H dd (xD dd ((b2::ns2).zip (u::us)))) x (yD x C (some dd)):=by
      funext b;unfold upd
      by_cases h1:b=dd
      ·subst h1;rw[if_pos rfl,if_neg ne,if_pos rfl];rfl
      ·rw[if_neg h1]
       by_cases h2:b=x
       ·rw[if_pos h2,if_pos h2]
       ·rw[if_neg h2,if_neg h2,if_neg h1,if_neg h1]
     rw[e];exact q dd hd ne
end
end DE
namespace DG
open PySem L2 DE
def rk(c:Str):Bool:=c == "Within" || c == "Since" || c == "InRow"
def pcs(x:Xs:={}):Cs where
 toXs:=x
 tab:=["Within","Since","InRow","Book"]
 fld:=λc x=>(rk c&&(x == "lands" || x == "most" || (x == "span" && c == "Within")||(x == "leave" && c != "Within")))||(c == "Book" && (x == "kept_rules" || x == "kept_papers"))
 mt:=λc x=>if rk c&&x == "weight" then some "Rule.weight" else if c == "Book" && x == "rules" then some "Book.rules" else if c == "Book" && x == "lifted" then some "Book.lifted" else if c == "Book" && x == "papers" then some "Book.papers" else none
 sub:=λc t=>if rk c&&t == "Within" then some (c == "Within") else if rk c&&t == "Since" then some (c != "Within") else none
def Qx(s:Str):Bool:=decide (1<=s.length)&&decide (s.length<=8)&&s.cps.toList.all λc=>decide (97<=c)&&decide (c<=122)
def qcd:D->Option (Str×Int)
 |.tup [.str s,.int w]=>if Qx s&&decide (1<=w)&&decide (w<=9) then some (s,w) else none
 |_=>none
def JT:List Str->List D->Bool
 |_,[]=>true
 | acc,d::l=>match qcd d with
  |some p=>!acc.contains p.1&&JT (acc++[p.1]) l
  |none=>false
def qy(l:List D):Bool:=decide (1<=l.length)&&decide (l.length<=6)&&JT [] l
def btw(n a b:Int):Bool:=decide (a<=n)&&decide (n<=b)
def qaS:D->Bool
 |.ins c _ _=>rk c
 |_=>false
def qE(many:Int):D->Bool
 |.tup [.int o,.int a,.int b]=>btw o 0 (many - 1)&&btw a 0 1000000000&&btw b 0 1000000000&&decide (a<=b)
 |_=>false
def arL:Ar->Option (List D)
 |.val (.lst l)=>some l
 |.bor l=>some l
 |_=>none
def arI:Ar->Option Int
 |.val (.int n)=>some n
 |_=>none
def yr:List Ar->Option (List (Str×D))
 |[a,b]=>match arL a,arI b with
  |some l,some m=>if (qy l&&btw m 0 1000000000)=true then some [("lands",.tup l),("most",.int m)] else none
  |_,_=>none
 |_=>none
def zJ(x:Str):List Ar->Option (List (Str×D))
 |[a,b,c]=>match arL a,arI b,arI c with
  |some l,some m,some s=>if (qy l&&btw m 0 1000000000&&btw s 1 1000000000)=true then some [("lands",.tup l),("most",.int m),(x,.int s)] else none
  |_,_,_=>none
 |_=>none
def Zg:List Ar->Option (List (Str×D))
 |[a,b]=>match arL a,arI b with
  |some l,some m=>if (qy l&&btw m 0 1000000000)=true then some [("lands",.tup l),("most",.int m),("leave",.int 1)] else none
  |_,_=>none
 |_=>none
def JU:List Ar->Option (List (Str×D))
 |[a,b]=>match arL a,arL b with
  |some l,some ps=>if ((decide (l.length<=8)&&l.all qaS)&&(decide (ps.length<=12)&&ps.all (qE l.length)))=true then some [("kept_rules",.lst l),("kept_papers",.lst ps)] else none
  |_,_=>none
 |_=>none
def Yt(c:Str):Option (List (Str×D))->R Rv
 |some fs=>.ok (.val (.ins c (fs.map (·.1)) (fs.map (·.2))))
 |none=>.no
def pnw(k:Nat)(f:Str)(args:List Ar):R Rv:=if k < 12 then .no else
 if f = "Within" then Yt "Within" (zJ "span" args) else if f = "Since" then Yt "Since" (zJ "leave" args) else if f = "InRow" then Yt "InRow" (Zg args) else if f = "Book" then Yt "Book" (JU args) else .no
def yi:Nat×Nat×Ss:=(1,1,%[.ret (.and (.isi Ty.int (.var 0)) (.one (.not (.isi Ty.bool (.var 0)))))|0])
def qL:Nat×Nat×Ss:=(3,3,%[.ret (.and (.call "is_whole" %[0|0]) (.and (.cmp .LtE (.var 1) (.var 0)) (.one (.cmp .LtE (.var 0) (.var 2)))))|0])
def jx:Nat×Nat×Ss:=(2,2,%[.ret (.and (.call "is_between" %[0,.con (.int 0),.con (.int 1000000000)|0]) (.and (.call "is_between" %[1,.con (.int 0),.con (.int 1000000000)|0]) (.one (.cmp .LtE (.var 0) (.var 1)))))|0])
noncomputable abbrev jh:Ss:=%[.ite (.cmp .NotIn (.var 2) (.var 1)) %[.ret (.con (.bl false))|0] .nil|0]
def zB:Ss:=jh
def yE:USs zB jh:=λ_ _ _ _=>(rfl)
def yt:Nat×Nat×Ss:=(2,3,%[.for_ (.one 2) (.seq (.var 0)) zB,.ret (.con (.bl true))|0])
def Qy:Nat×Nat×Ss:=(1,1,%[.ite (.not (.val (.isi Ty.str (.var 0)))) %[.ret (.con (.bl false))|0] .nil,.ret (.and (.cmp .LtE (.con (.int 1)) (.b1 .len (.var 0))) (.and (.cmp .LtE (.b1 .len (.var 0)) (.con (.int 8))) (.one (.call "is_made_of" %[0,.con (.str "abcdefghijklmnopqrstuvwxyz")|0]))))|0])
class CH(pg:Pg):Prop where
 r_is_whole:RW pg "is_whole" yi
 r_is_between:RW pg "is_between" qL
 r_are_days:RW pg "are_days" jx
 r_is_made_of:RW pg "is_made_of" yt
 r_is_name:RW pg "is_name" Qy
noncomputable abbrev Jm:Ss:=%[.ite (.and (.val (.var 1)) (.one (.cmp .LtE (.var 2) (.bin .Add (.idx (.idx (.var 1) (.neg (.con (.int 1)))) (.con (.int 1))) (.con (.int 1)))))) %[.setI 1 (.neg (.con (.int 1))) (.tup %[.idx (.idx (.var 1) (.neg (.con (.int 1)))) (.con (.int 0)),.b2 .max (.idx (.idx (.var 1) (.neg (.con (.int 1)))) (.con (.int 1))) (.var 3)|0])|0] %[.app 1 (.tup %[2,3|0])|0]|0]
def yj:Ss:=Jm
def ji:USs yj Jm:=λ_ _ _ _=>(rfl)
def qab:Nat×Nat×Ss:=(1,4,%[.set 1 (.lst .nil),.for_ (.many [2,3]) (.seq (.b1 .srt (.var 0))) yj,.ret (.var 1)|0])
class SP(pg:Pg):Prop where
 r_spread:RW pg "spread" qab
def Qz:Nat×Nat×Ss:=(1,1,%[.ite (.or (.not (.val (.isi Ty.tuple (.var 0)))) (.one (.cmp .NotEq (.b1 .len (.var 0)) (.con (.int 2))))) %[.ret (.con (.bl false))|0] .nil,.ret (.and (.call "is_name" %[.idx (.var 0) (.con (.int 0))|0]) (.one (.call "is_between" %[.idx (.var 0) (.con (.int 1)),.con (.int 1),.con (.int 9)|0])))|0])
noncomputable abbrev jE:Ss:=%[.ite (.or (.not (.val (.call "is_land" %[2|0]))) (.one (.cmp .In (.idx (.var 2) (.con (.int 0))) (.var 1)))) %[.ret (.con (.bl false))|0] .nil,.app 1 (.idx (.var 2) (.con (.int 0)))|0]
def zW:Ss:=jE
def Jn:USs zW jE:=λ_ _ _ _=>(rfl)
def Jo:Nat×Nat×Ss:=(1,3,%[.ite (.or (.not (.val (.isi Ty.list (.var 0)))) (.or (.cmp .Lt (.b1 .len (.var 0)) (.con (.int 1))) (.one (.cmp .Gt (.b1 .len (.var 0)) (.con (.int 6)))))) %[.ret (.con (.bl false))|0] .nil,.set 1 (.lst .nil),.for_ (.one 2) (.seq (.var 0)) zW,.ret (.con (.bl true))|0])
noncomputable abbrev jF:Ss:=%[.ite (.and (.not (.val (.isc "Within" (.var 1)))) (.one (.not (.val (.isc "Since" (.var 1)))))) %[.ret (.con (.bl false))|0] .nil|0]
def zX:Ss:=jF
def zl:USs zX jF:=λ_ _ _ _=>(rfl)
def qJ:Nat×Nat×Ss:=(1,2,%[.ite (.or (.not (.val (.isi Ty.list (.var 0)))) (.one (.cmp .Gt (.b1 .len (.var 0)) (.con (.int 8))))) %[.ret (.con (.bl false))|0] .nil,.for_ (.one 1) (.seq (.var 0)) zX,.ret (.con (.bl true))|0])
def zK:Nat×Nat×Ss:=(2,2,%[.ite (.or (.not (.val (.isi Ty.tuple (.var 0)))) (.one (.cmp .NotEq (.b1 .len (.var 0)) (.con (.int 3))))) %[.ret (.con (.bl false))|0] .nil,.ret (.and (.call "is_between" %[.idx (.var 0) (.con (.int 0)),.con (.int 0),.bin .Sub (.var 1) (.con (.int 1))|0]) (.one (.call "are_days" %[.idx (.var 0) (.con (.int 1)),.idx (.var 0) (.con (.int 2))|0])))|0])
noncomputable abbrev zL:Ss:=%[.ite (.not (.val (.call "is_paper" %[3,1|0]))) %[.rai "NoPaper" %[2|0]|0] .nil|0]
def zf:Ss:=zL
def zw:USs zf zL:=λ_ _ _ _=>(rfl)
def qI:Nat×Nat×Ss:=(2,4,%[.ite (.not (.val (.isi Ty.list (.var 0)))) %[.rai "NoPaper" %[.con .non|0]|0] .nil,.for_ (.many [2,3]) (.enum (.var 0)) zf,.ite (.cmp .Gt (.b1 .len (.var 0)) (.con (.int 12))) %[.rai "NoPaper" %[.con .non|0]|0] .nil|0])
def yu:Nat×Nat×Ss:=(1,1,%[.ret (.b1 .list (.fld (.var 0) "kept_rules"))|0])
def j8:Nat×Nat×Ss:=(1,1,%[.ret (.b1 .list (.fld (.var 0) "kept_papers"))|0])
abbrev z8:E:=(.tup %[1,2|0])
def zm:E:=z8
def zM:UE zm z8:=λ_ _ _=>(rfl)
def j9:Nat×Nat×Ss:=(2,2,%[.ret (.call "spread" %[.comp zm (.seq (.fld (.var 0) "kept_papers")) (.many [0,1,2]) (.test (.cmp .Eq (.var 0) (.var 3))) 3 [1]|0])|0])
class BO(pg:Pg):Prop where
 r_are_rules:RW pg "are_rules" qJ
 r_is_paper:RW pg "is_paper" zK
 r_check_papers:RW pg "check_papers" qI
 r_Book_rules:RW pg "Book.rules" yu
 r_Book_papers:RW pg "Book.papers" j8
 r_Book_lifted:RW pg "Book.lifted" j9
end DG
namespace FA
open PySem L2 DE DG
def zC:Nat×Nat×Ss:=(2,2,%[.ite (.cmp .Lt (.var 1) (.b1 .len (.var 0))) %[.ret (.idx (.var 0) (.var 1))|0] .nil,.ret (.con (.int 0))|0])
class LC(pg:Pg):Prop where
 r__law_cell_at:RW pg "_law_cell_at" zC
noncomputable abbrev jj:Ss:=%[.set 9 (.bin .Add (.bin .Add (.bin .FloorDiv (.var 0) (.con (.int 64))) (.bin .Mult (.bin .Mult (.con (.int 5)) (.var 8)) (.var 8))) (.bin .Mult (.bin .Mult (.con (.int 3)) (.var 6)) (.b1 .int (.cmp .Eq (.var 8) (.var 4))))),.set 7 (.bin .Add (.var 7) (.idx (.var 2) (.bin .Mod (.var 9) (.con (.int 26)))))|0]
def qV:Ss:=jj
def yF:USs qV jj:=λ_ _ _ _=>(rfl)
noncomputable abbrev jk:Ss:=%[.set 7 (.con (.str "")),.for_ (.one 8) (.rng (.var 3)) qV,.app 5 (.var 7)|0]
def zD:Ss:=jk
def yG:USs zD jk:=λ_ _ _ _=>(rfl)
def yv:Nat×Nat×Ss:=(2,10,%[.set 2 (.con (.str "abcdefghijklmnopqrstuvwxyz")),.set 3 (.bin .Add (.con (.int 1)) (.bin .Mod (.var 0) (.con (.int 8)))),.set 4 (.bin .Mod (.bin .FloorDiv (.var 0) (.con (.int 8))) (.var 3)),.set 5 (.lst .nil),.for_ (.one 6) (.rng (.var 1)) zD,.ret (.var 5)|0])
class LN(pg:Pg):Prop where
 r__law_lands:RW pg "_law_lands" yv
def zY:Nat×Nat×Ss:=(1,5,%[.setT (.many [1,2,3,4]) (.var 0),.ite (.cmp .Eq (.var 1) (.con (.str "within"))) %[.ret (.new "Within" %[.b1 .list (.var 2),3,4|0])|0] .nil,.ite (.cmp .Eq (.var 1) (.con (.str "since"))) %[.ret (.new "Since" %[.b1 .list (.var 2),3,4|0])|0] .nil,.ret (.new "InRow" %[.b1 .list (.var 2),3|0])|0])
class LM(pg:Pg):Prop where
 r__law_made:RW pg "_law_made" zY
end FA
namespace DG
open PySem L2 DE
open CH SP BO
section
variable{pg:Pg}[CH pg]
def qdP(k:Nat)(n:Int):clK pg (k+1) "is_whole" [.val (.int n)]=.ok (.val (.bl true)):=by rw[r_is_whole];simp?![yi]
def JV(k:Nat)(n a b:Int)(h1:a<=n)(h2:n<=b):clK pg (k+2) "is_between" [.val (.int n),.val (.int a),.val (.int b)]=.ok (.val (.bl true)):=by rw[r_is_between];simp?![qL,qdP,h1,h2,decide_true]
def yk(c:Nat):Prop:=97<=c/\c < 123
def qgO(c:Nat)(h:yk c):qho ⟨#[c]⟩ "abcdefghijklmnopqrstuvwxyz" = true:=by
 have key:∀j:Fin 26,qho ⟨#[97+j.val]⟩ "abcdefghijklmnopqrstuvwxyz" = true:=(3:)
 have:=key ⟨c - 97,by unfold yk at h;lia⟩
 rw[show 97+(c - 97)=c by unfold yk at h;lia]at this;exact this
theorem QA(k:Nat)(z:Str):∀(l:List Nat) (s:Sl),(∀c∈l,yk c)->∃s',JS (pg.kk k) 1000 (.one 2) zB (l.map λc=>D.str ⟨#[c]⟩) [.val (.str z),.val (.str "abcdefghijklmnopqrstuvwxyz"),s]=.ok (.next [.val (.str z),.val (.str "abcdefghijklmnopqrstuvwxyz"),s'])
 |[],s,_=>{s,by rw[List.map_nil,qdJ]}
 | c::l,s,h=>by let(s',e):=QA k z l (.val (.str ⟨#[c]⟩)) λx hx=>h x (by simp[hx]);refine{s',?_};rw[List.map_cons];simp?[yE,qgO c (h c (5:)),e]
def qgP(k:Nat)(z:Str)(h:∀c∈z.cps.toList,yk c):clK pg (k+1) "is_made_of" [.val (.str z),.val (.str "abcdefghijklmnopqrstuvwxyz")]=.ok (.val (.bl true)):=by rw[r_is_made_of];let(s',e):=QA (pg:=pg) k z z.cps.toList .no h;simp?![yt,Nat.reduceAdd,Nat.reduceSub,qdk,e]
structure NameOk(z:Str):Prop where
 one:1<=z.cps.size
 eight:z.cps.size<=8
 lets:∀c∈z.cps.toList,yk c
def qgQ(k:Nat)(z:Str)(h:NameOk z):clK pg (k+2) "is_name" [.val (.str z)]=.ok (.val (.bl true)):=by
 have hz:z.length<=sizeLine:=by
  have:=h.eight
  show z.cps.size<=2 ^ 24
  lia
 have h1:(1:Int)<=(z.length:Int):=by
  have:=h.one
  show(1:Int)<=(z.cps.size:Int)
  lia
 have h8:(z.length:Int)<=8:=by
  have:=h.eight
  show(z.cps.size:Int)<=8
  lia
 rw[r_is_name];simp?![Qy,hz,h1,h8,decide_true,qgP k z h.lets]
end
def NameOk.of{z:Str}(h:Qx z=true):NameOk z:=by
 unfold Qx at h;simp![Bool.and_eq_true,decide_eq_true_eq,List.all_eq_true]at h;refine{h.1.1,h.1.2,λc hc=>?_}
 have:=h.2 c hc
 unfold yk
 lia
theorem qjO(d:D):(qcd d).elim True λp=>d=.tup [.str p.1,.int p.2]/\NameOk p.1/\1<=p.2/\p.2<=9:=by
 cases d with
 |tup l=>cases l with
  |nil=>exact True.intro
  |cons a l=>cases a with
   |str x=>cases l with
    |nil=>exact True.intro
    |cons b l=>cases b with
     |int y=>cases l with
      |nil=>
       show(if (Qx x&&decide (1<=y)&&decide (y<=9))=true then some (x,y) else none).elim True _
       by_cases hc:(Qx x&&decide (1<=y)&&decide (y<=9))=true
       ·rw[if_pos hc];simp![Bool.and_eq_true,decide_eq_true_eq]at hc;exact{rfl,NameOk.of hc.1.1,hc.1.2,hc.2}
       ·rw[if_neg hc];exact True.intro
      |cons _ _=>exact True.intro
     |_=>exact True.intro
   |_=>exact True.intro
 |_=>exact True.intro
def qdQ{d:D}{p:Str×Int}(h:qcd d=some p):d=.tup [.str p.1,.int p.2]/\NameOk p.1/\1<=p.2/\p.2<=9:=by have b:=qjO d;rw[h]at b;exact b
def qdR(s:Str)(acc:List Str):inD (.str s) (acc.map D.str)=some (acc.contains s):=by
 have e:∀acc:List Str,inV (V.str s) (acc.map V.str)=acc.contains s:=by
  intro acc
  induction acc with
  |nil=>rfl
  |cons z l ih=>
   rw[List.map_cons,List.contains_cons,<-ih];show(eqV (V.str z) (V.str s)||_)=_
   congr 1
   exact BEq.comm
 unfold inD;rw[if_pos (by simp[zE]),show(acc.map D.str).map flV=acc.map V.str by simp[flV]];exact congrArg some (e acc)
def qce(s:Str)(acc:List Str):qcU (.val (.str s)) (.cell (acc.map D.str))=some (acc.contains s):=qdR s acc
theorem qgR(n:Int)(d:D):cond (qE n d) (∃o a b,d=.tup [.int o,.int a,.int b]/\0<=o/\o<=n - 1/\0<=a/\a<=b/\b<=1000000000) True:=by
 cases d with
 |tup l=>cases l with
  |nil=>exact True.intro
  |cons a l=>cases a with
   |int o=>cases l with
    |nil=>exact True.intro
    |cons b l=>cases b with
     |int a=>cases l with
      |nil=>exact True.intro
      |cons c l=>cases c with
       |int b=>cases l with
        |nil=>
         cases h:qE n (.tup [.int o,.int a,.int b]) with
         |false=>exact True.intro
         |true=>simp![qE,btw,Bool.and_eq_true,decide_eq_true_eq]at h;exact⟨o,a,b,rfl,h.1.1.1.1,h.1.1.1.2,h.1.1.2.1,h.2,h.1.2.2⟩
        |cons _ _=>exact True.intro
       |_=>exact True.intro
     |_=>exact True.intro
   |_=>exact True.intro
 |_=>exact True.intro
def Jp{n:Int}{d:D}(h:qE n d=true):∃o a b,d=.tup [.int o,.int a,.int b]/\0<=o/\o<=n - 1/\0<=a/\a<=b/\b<=1000000000:=by have b:=qgR n d;rw[h]at b;exact b
end DG
namespace FA
open PySem L2 DE DG
open LC LN LM
def QB{i j:Int}(h1:-(2 ^ 64) < j)(h2:j < 2 ^ 64):Q9 i j=true:=by unfold Q9;rw[decide_eq_true h1,decide_eq_true h2];simp
def qeW{i j:Int}(h1:-(2 ^ 64) < i)(h2:i < 2 ^ 64):Q9 i j=true:=by unfold Q9;rw[decide_eq_true h1,decide_eq_true h2];simp
def zN(ns:List Int)(i:Nat):Int:=ns.getD i 0
section
variable{pg:Pg}[LC pg]
def Zh(k:Nat)(ns:List Int)(i:Nat):clK pg (k+1) "_law_cell_at" [.scr (ns.map D.int),.val (.int (i:Int))]=.ok (.val (.int (zN ns i))):=by
 rw[r__law_cell_at]
 by_cases h:i < ns.length
 ·have h1:(i:Int) < ((ns.map D.int).length:Int):=by rw[List.length_map];lia
  have h2:atI (ns.map D.int) (i:Int)=some (.int (zN ns i)):=qhp (by simp[h,zN]);simp?![zC,Nat.reduceAdd,Nat.reduceSub,h1,h2,decide_true]
 ·have h1:¬ (i:Int) < ((ns.map D.int).length:Int):=by rw[List.length_map];lia
  have h2:zN ns i=0:=by simp[zN,h]
  simp?![zC,Nat.reduceAdd,Nat.reduceSub,h1,h2,decide_false]
end
def qjP(i:Int)(h0:0<=i)(h1:i < 26):atI (Str.cps "abcdefghijklmnopqrstuvwxyz").toList i=some (97+i.toNat)/\yk (97+i.toNat):=by
 have key:∀j:Fin 26,atI (Str.cps "abcdefghijklmnopqrstuvwxyz").toList (j.val:Int)=some (97+j.val):=(3:)
 let(j,rfl):=Int.eq_ofNat_of_zero_le h0;exact{key {j,by lia},by unfold yk;simp;lia}
def qdS(z:Str)(c:Nat):(z++(⟨#[c]⟩:Str)).cps.toList=z.cps.toList++[c]:=by show(z.cps ++ #[c]).toList=_;simp
def ltr(cell at' k:Int)(j:Nat):Nat:=97+((cell / 64+5 * (j:Int) * (j:Int)+3 * k * (if ((j:Int) == at')=true then 1 else 0)) % 26).toNat
def qgS(cell at' k:Int)(j:Nat):yk (ltr cell at' k j):=by
 unfold yk ltr
 lia
def Nm(cell at' k:Int)(j:Nat)(z:Str):Prop:=z.cps.toList=(List.range j).map (ltr cell at' k)
def Nm.ok{cell at' k:Int}{m:Nat}{z:Str}(h:Nm cell at' k m z)(h1:1<=m)(h8:m<=8):NameOk z:=by
 have e:z.cps.size=m:=by rw[<-Array.length_toList,h];simp
 refine{by lia,by lia,λc hc=>?_};rw[h]at hc;let(j,_,rfl):=List.mem_map.mp hc;exact qgS ..
def qaT(cl:Cl)(v1 v3 v5 s9:Sl)(cell at' k:Int)(j:Nat)(z:Str)(hj:j < 8)(hz:z.cps.size < 8) :
  ∃s9',iSs cl 1000 qV [.val (.int cell),v1,.val (.str "abcdefghijklmnopqrstuvwxyz"),v3,.val (.int at'),v5,.val (.int k),.val (.str z),.val (.int j),s9]=.ok (.next [.val (.int cell),v1,.val (.str "abcdefghijklmnopqrstuvwxyz"),v3,.val (.int at'),v5,.val (.int k),.val (.str (z++(⟨#[ltr cell at' k j]⟩:Str))),.val (.int j),s9']):=by
 have m1:Q9 5 (j:Int)=true:=qeW (2:) (2:);have m2:Q9 (5 * (j:Int)) (j:Int)=true:=QB (1:) (1:);have m3:Q9 3 k=true:=qeW (2:) (2:);have m4:Q9 (3 * k) (if ((j:Int) == at')=true then 1 else 0)=true:=QB (by split<;>decide) (by split<;>decide);have h1:=(qjP ((cell / 64+5 * j * j+3 * k * (if ((j:Int) == at')=true then 1 else 0)) % 26) (Int.emod_nonneg _ (2:)) (Int.emod_lt_of_pos _ (2:))).1
 have hl:z.length+(⟨#[ltr cell at' k j]⟩:Str).length<=sizeLine:=by
  show z.cps.size+1<=2 ^ 24
  lia
 have h26:("abcdefghijklmnopqrstuvwxyz" : Str).length<=sizeLine:=(3:)
 refine{.val (.int (cell / 64+5 * j * j+3 * k * (if ((j:Int) == at')=true then 1 else 0))),?_};unfold ltr at hl ⊢;simp?[yF,m1,m2,m3,m4,qF,h1,hl,h26]
theorem qdT(cl:Cl)(v1 v3 v5:Sl)(cell at' k:Int)(n:Nat):∀(j:Nat) (z:Str) (s8 s9:Sl),j+n<=8->Nm cell at' k j z->
  ∃z' s8' s9',JS cl 1000 (.one 8) qV (rgF (j:Int) n) [.val (.int cell),v1,.val (.str "abcdefghijklmnopqrstuvwxyz"),v3,.val (.int at'),v5,.val (.int k),.val (.str z),s8,s9]=.ok (.next [.val (.int cell),v1,.val (.str "abcdefghijklmnopqrstuvwxyz"),v3,.val (.int at'),v5,.val (.int k),.val (.str z'),s8',s9'])/\Nm cell at' k (j+n) z':=by
 induction n with
 |zero=>exactλj z s8 s9 _ hz=>⟨z,s8,s9,rfl,hz⟩
 |succ n ih=>
  intro j z s8 s9 hn hz;have sz:z.cps.size=j:=by rw[<-Array.length_toList,hz];simp
  let(t9,st):=qaT cl v1 v3 v5 s9 cell at' k j z (1:) (1:)
  let(z',s8',s9',ih,e1):=ih (j+1) (z++(⟨#[ltr cell at' k j]⟩:Str)) (.val (.int j)) t9 (1:) (by
   unfold Nm at hz ⊢;rw[qdS,hz,List.range_succ,List.map_append]
   rfl)
  refine{z',s8',s9',?_,by rw[show j+(n+1)=j+1+n by lia];exact e1};rw[show((j+1:Nat):Int)=(j:Int)+1 from by lia]at ih;refine(qv _).symm.trans ?_;rw[rgF];simp![xFo_cons,rgoV,List.set_cons_succ,List.set_cons_zero,th_ok,yFo1,st,yFo2,ih]
def Nms(cell at':Int)(m:Nat)(zs:List Str):Prop:=∀(i:Nat) (z:Str),zs[i]?=some z->Nm cell at' (i:Int) m z
theorem QC(cl:Cl)(v1:Sl)(cell at':Int)(m:Nat)(hm:1<=m/\m<=8):∀(n:Nat) (zs:List Str) (s6 s7 s8 s9:Sl),zs.length+n < 1000->Nms cell at' m zs->
  ∃(zs':List Str) (s6' s7' s8' s9':Sl),JS cl 1000 (.one 6) zD (rgF (zs.length:Int) n) [.val (.int cell),v1,.val (.str "abcdefghijklmnopqrstuvwxyz"),.val (.int (m:Int)),.val (.int at'),.own (zs.map D.str),s6,s7,s8,s9]=.ok (.next [.val (.int cell),v1,.val (.str "abcdefghijklmnopqrstuvwxyz"),.val (.int (m:Int)),.val (.int at'),.own (zs'.map D.str),s6',s7',s8',s9'])/\zs'.length=zs.length+n/\Nms cell at' m zs'
 |0,zs,s6,s7,s8,s9,_,hz=>⟨zs,s6,s7,s8,s9,rfl,rfl,hz⟩
 | n+1,zs,s6,s7,s8,s9,hl,hz=>by
  let(z,s8',s9',e,h1):=qdT cl v1 (.val (.int (m:Int))) (.own (zs.map D.str)) cell at' (zs.length:Int) m 0 "" s8 s9 (1:) rfl;rw[Nat.zero_add]at h1
  let(zs',t6,t7,t8,t9,ih,h3,h4):=QC cl v1 cell at' m hm n (zs++[z]) (.val (.int (zs.length:Int))) (.val (.str z)) s8' s9' (by simp;lia) (λi x hx=>by
   by_cases q:i < zs.length
   ·rw[List.getElem?_append_left q]at hx;exact hz i x hx
   ·rw[List.getElem?_append_right (1:)]at hx
    have:i - zs.length=0:=by
     have:=(List.getElem?_eq_some_iff.mp hx).1
     simp at this
     lia
    rw[this]at hx;simp at hx;subst hx
    have:i=zs.length:=by lia
    subst this;exact h1)
  refine{zs',t6,t7,t8,t9,?_,by rw[h3];simp;lia,h4}
  have hs:qR (m:Int)=true:=by
   unfold qR;simp
   lia
  have hz':(zs.map D.str).length < sizeLine:=by
   rw[List.length_map];show _ < 2 ^ 24
   lia
  rw[List.length_append,List.length_singleton,show((zs.length+1:Nat):Int)=(zs.length:Int)+1 from by lia]at ih;refine(qv _).symm.trans ?_;rw[rgF];rw[show((0:Nat):Int)=0 from rfl]at e;simp![List.map_append,List.map_cons,List.map_nil]at ih;simp?![yG,hs,zI,Int.sub_zero,Int.toNat_natCast,e,hz',ih]
end FA
namespace DE
open PySem L2
def isX(n t:Str):Bool:=t == n||t == "DayError"
def qac(l:List (Str×Addr×List Str))(er:List (Str×Addr)):Xs where
 xa n:=((l.lookup n).map (·.1)).getD 0
 xn n:=(l.lookup n).map (·.2)
 xs C t:=(l.find? λe=>e.2.1 == C).bind λe=>if t == "ValueError" then some true else (er.lookup t).map λ_=>isX e.1 t
 xg C x:=l.any λe=>e.2.1 == C&&e.2.2.contains x
end DE
namespace DG
open PySem L2 DE
def Jq:D->Option Bool
 |.ins c _ _=>if rk c=true then some true else if c = "Rule" then some false else none
 |.exc ..=>none
 |.dct ..=>none
 |_=>some false
def ruT:List D->Option Bool
 |[]=>some true
 | d::l=>match Jq d with
  |some true=>ruT l
  |o=>o
def noL:D->Bool
 |.lst _=>false
 |d=>plB d
def qng:D->Bool
 |.ins c _ _=>rk c||c == "Rule"
 |_=>false
def qG(a:Ar):Option Bool:=match arL a with
 |some l=>if 8 < l.length then some false else ruT l
 |none=>match a with
  |.val d=>if (noL d||qng d)=true then some false else none
  |_=>none
def jl:D->Bool
 |.tup [a,b,c]=>zE a&&zE b&&zE c
 |d=>plB d
def jO(many:Int):Nat->List D->Option Nat
 |_,[]=>none
 | i,d::l=>if qE many d=true then jO many (i+1) l else some i
def qm(X:Addr)(many:Int)(b:Ar):R (List D):=match arL b with
 |some l=>if (l.all jl&&decide (l.length<=1000))=true then (match jO many 0 l with
  |some i=>.exc X [("number",.int i)]
  |none=>if 12 < l.length then .exc X [("number",.non)] else .ok l) else .no
 |none=>match b with
  |.val d=>if noL d=true then .exc X [("number",.non)] else .no
  |_=>.no
def nwB(X Y:Addr):List Ar->R Rv
 |[a,b]=>match qG a with
  |some false=>.exc X []
  |some true=>(R.of (arL a)).th λl=>(qm Y l.length b).th λps=>.ok (.val (.ins "Book" ["kept_rules","kept_papers"] [.lst l,.lst ps]))
  |none=>.no
 |_=>.no
def qcf(X Y:Addr)(k:Nat)(f:Str)(args:List Ar):R Rv:=if k < 12 then .no else
 if f = "Within" then Yt "Within" (zJ "span" args) else if f = "Since" then Yt "Since" (zJ "leave" args) else if f = "InRow" then Yt "InRow" (Zg args) else if f = "Rule" then Yt "Rule" (yr args) else if f = "Book" then nwB X Y args else .no
end DG
namespace K14
open PySem L2 DE DG FA
def top(i:Nat):Stmt:=PySem.Challenge.pw_daysgate_k14_a_book.main.body.getD i (.Pass ⟨0,0,0,0⟩)
def mem(i j:Nat):Stmt:=(qfx (top i)).getD j (.Pass ⟨0,0,0,0⟩)
def xE:List (Str×Addr×List Str):=[("NoRule",79,[]),("NoPaper",98,["number"])]
def xR:List (Str×Addr):=[("DayError",66),("NoRule",79),("NoPaper",98)]
def rk'(c:Str):Bool:=rk c||c == "Rule"
def qhq:Cs:={ tab:=["Rule","Within","Since","InRow","Book"],fld:=λc x=>(rk c&&(x == "lands" || x == "most" || (x == "span" && c == "Within")||(x == "leave" && c != "Within")))||(c == "Book" && (x == "kept_rules" || x == "kept_papers")),mt:=λc x=>if c == "Within" && x == "line" then some "Within.line" else if c == "Since" && x == "line" then some "Since.line" else if c == "InRow" && x == "line" then some "InRow.line" else if c == "Book" && x == "rules" then some "Book.rules" else if c == "Book" && x == "papers" then some "Book.papers" else if c == "Book" && x == "lifted" then some "Book.lifted" else none,sub:=λc t=>if rk' c&&t == "Within" then some (c == "Within") else if rk' c&&t == "Since" then some (c != "Within" && c != "Rule") else none,pl:=λt=>t == "Within" || t == "Since",pt:=λc=>rk' c,toXs:=qac xE xR }
def pg:Pg:={ defs:=[(("is_whole" : Str),top 4),(("is_between" : Str),top 5),(("are_days" : Str),top 6),(("is_made_of" : Str),top 7),(("is_name" : Str),top 8),(("spread" : Str),top 10),(("is_land" : Str),top 18),(("are_lands" : Str),top 19),(("line_of" : Str),top 24),(("are_rules" : Str),top 28),(("is_paper" : Str),top 29),(("check_papers" : Str),top 30),(("_law_cell_at" : Str),top 33),(("_law_lands" : Str),top 34),(("_law_number" : Str),top 35),(("_law_rule" : Str),top 36),(("_law_made" : Str),top 37),(("_law_paper" : Str),top 38),(("_law_joined" : Str),top 39),(("_law_refusal" : Str),top 40),(("_law_bad" : Str),top 41),(("_law_alike" : Str),top 42),(("law" : Str),top 43)],gl:=λx=>if x = "GREATEST" then some (.int 1000000000) else if x = "LETTERS" then some (.str "abcdefghijklmnopqrstuvwxyz") else if x = "LONGEST_NAME" then some (.int 8) else if x = "MOST_LANDS" then some (.int 6) else if x = "GREATEST_WEIGHT" then some (.int 9) else if x = "MOST_RULES" then some (.int 8) else if x = "MOST_PAPERS" then some (.int 12) else none,m:=40,w:=1000,meths:=[("Within.line",mem 21 1),("Since.line",mem 22 1),("InRow.line",mem 23 1),("Book.rules",mem 31 1),("Book.papers",mem 31 2),("Book.lifted",mem 31 3)],cs:=qhq,nw:=qcf 79 98 }
instance:DG.CH pg:={%[4|1],%[5|1],%[6|1],%[7|1],%[8|1]}
instance:DG.SP pg:={%[10|1]}
instance:DG.BO pg:={%[28|1],%[29|1],%[30|1],qz (pg:=pg) (st:=mem 31 1) (4:) (λk cl=>(4:)),qz (pg:=pg) (st:=mem 31 2) (4:) (λk cl=>(4:)),qz (pg:=pg) (st:=mem 31 3) (4:) (λk cl=>(4:))}
instance:FA.LC pg:={%[33|1]}
instance:FA.LN pg:={%[34|1]}
instance:FA.LM pg:={%[37|1]}
def qcg:RW pg "is_land" Qz:=%[18|1]
def Zi:RW pg "are_lands" Jo:=%[19|1]
abbrev yw:E:=(.fst %[0,.con (.str " "),1|0])
def jP:E:=yw
def Yu:UE jP yw:=λ_ _ _=>(rfl)
def QD:Nat×Nat×Ss:=(2,4,%[.set 2 (.fld (.var 1) "most"),.set 3 (.met (.con (.str ", ")) "join" %[.comp jP (.seq (.fld (.var 1) "lands")) (.many [0,1]) .yes 2 []|0]),(.ret (.fst %[0,.con (.str " most "),2,(.con (.str ": ")),3|0]))|0])
def qch:RW pg "line_of" QD:=%[24|1]
def zZ:Nat×Nat×Ss:=(2,2,%[.ite (.cmp .Eq (.bin .Mod (.var 0) (.con (.int 5))) (.con (.int 0))) %[.ret (.bin .Mod (.bin .FloorDiv (.var 0) (.con (.int 5))) (.bin .Add (.var 1) (.con (.int 1))))|0] .nil,.ret (.bin .Mod (.bin .FloorDiv (.var 0) (.con (.int 5))) (.b2 .min (.con (.int 31)) (.bin .Add (.var 1) (.con (.int 1)))))|0])
def Yv:RW pg "_law_number" zZ:=%[35|1]
noncomputable abbrev jG:Ss:=%[.app 4 (.tup %[.idx (.var 1) (.bin .Mod (.bin .Add (.bin .FloorDiv (.var 2) (.con (.int 18))) (.var 5)) (.b1 .len (.var 1))),.bin .Add (.con (.int 1)) (.bin .Mod (.bin .FloorDiv (.bin .FloorDiv (.var 2) (.con (.int 108))) (.bin .Add (.var 5) (.con (.int 1)))) (.idx (.lst %[.con (.int 9),.con (.int 2),.con (.int 2)|0]) (.bin .Mod (.bin .Add (.var 2) (.var 5)) (.con (.int 3)))))|0])|0]
def z5:Ss:=jG
def Jr:USs z5 jG:=λ_ _ _ _=>(rfl)
def z7:Nat×Nat×Ss:=(2,8,%[.set 2 (.bin .Mod (.bin .Mult (.var 0) (.con (.int 1099087573))) (.con (.int 10000000000037))),.set 3 (.bin .Add (.con (.int 1)) (.bin .Mod (.bin .FloorDiv (.var 2) (.con (.int 3))) (.b1 .len (.var 1)))),.set 4 (.lst .nil),.for_ (.one 5) (.rng (.var 3)) z5,.set 6 (.call "_law_number" %[.bin .FloorDiv (.var 2) (.con (.int 972)),.bin .Pow (.con (.int 10)) (.con (.int 9))|0]),.set 7 (.bin .Add (.con (.int 1)) (.call "_law_number" %[.bin .FloorDiv (.var 2) (.con (.int 30132)),.bin .Sub (.bin .Pow (.con (.int 10)) (.con (.int 9))) (.con (.int 1))|0])),.ite (.cmp .Eq (.bin .Mod (.var 2) (.con (.int 3))) (.con (.int 0))) %[.ret (.tup %[.con (.str "within"),4,6,7|0])|0] .nil,.ite (.cmp .Eq (.bin .Mod (.var 2) (.con (.int 3))) (.con (.int 1))) %[.ret (.tup %[.con (.str "since"),4,6,7|0])|0] .nil,.ret (.tup %[.con (.str "row"),4,6,.con (.int 1)|0])|0])
def Zj:RW pg "_law_rule" z7:=%[36|1]
def jm:Nat×Nat×Ss:=(2,5,%[.set 2 (.bin .Mod (.bin .Mult (.var 0) (.con (.int 1099087573))) (.con (.int 10000000000037))),.set 3 (.bin .Mod (.bin .FloorDiv (.var 2) (.con (.int 8))) (.con (.int 60))),.ite (.cmp .Eq (.bin .Mod (.bin .FloorDiv (.var 2) (.con (.int 480))) (.con (.int 5))) (.con (.int 0))) %[.set 3 (.bin .Mod (.bin .FloorDiv (.var 2) (.con (.int 2400))) (.bin .Add (.bin .Pow (.con (.int 10)) (.con (.int 9))) (.con (.int 1))))|0] .nil,.set 4 (.b2 .min (.bin .Pow (.con (.int 10)) (.con (.int 9))) (.bin .Add (.var 3) (.bin .Mod (.bin .FloorDiv (.var 2) (.con (.int 2400))) (.idx (.lst %[.con (.int 1),.con (.int 4),.con (.int 20),.bin .Pow (.con (.int 10)) (.con (.int 9))|0]) (.bin .Mod (.bin .FloorDiv (.var 2) (.con (.int 64))) (.con (.int 4))))))),.ret (.tup %[.bin .Mod (.var 2) (.var 1),3,4|0])|0])
def QE:RW pg "_law_paper" jm:=%[38|1]
noncomputable abbrev z9:E:=(.tup %[.idx (.var 0) (.con (.int 1)),.idx (.var 0) (.con (.int 2))|0])
def zn:E:=z9
def zO:UE zn z9:=λ_ _ _=>(rfl)
noncomputable abbrev ja:Ss:=%[.ite (.and (.cmp .NotEq (.var 2) (.lst .nil)) (.one (.cmp .LtE (.var 3) (.bin .Add (.idx (.idx (.var 2) (.bin .Sub (.b1 .len (.var 2)) (.con (.int 1)))) (.con (.int 1))) (.con (.int 1)))))) %[.setI 2 (.bin .Sub (.b1 .len (.var 2)) (.con (.int 1))) (.tup %[.idx (.idx (.var 2) (.bin .Sub (.b1 .len (.var 2)) (.con (.int 1)))) (.con (.int 0)),.b2 .max (.idx (.idx (.var 2) (.bin .Sub (.b1 .len (.var 2)) (.con (.int 1)))) (.con (.int 1))) (.var 4)|0])|0] %[.app 2 (.tup %[3,4|0])|0]|0]
def zo:Ss:=ja
def qT:USs zo ja:=λ_ _ _ _=>(rfl)
def ya:Nat×Nat×Ss:=(2,5,%[.set 2 (.lst .nil),.for_ (.many [3,4]) (.seq (.b1 .srt (.comp zn (.seq (.var 0)) (.one 0) (.test (.cmp .Eq (.idx (.var 0) (.con (.int 0))) (.var 1))) 1 [1]))) zo,.ret (.var 2)|0])
def Yw:RW pg "_law_joined" ya:=%[39|1]
def qp:Nat×Nat×Ss:=(2,4,%[.set 2 (.con .non),.try_ %[.expr (.new "Book" %[0,1|0])|0] [("NoRule",3,2),("NoPaper",3,2)],.ite (.or (.not (.val (.isc "DayError" (.var 2)))) (.one (.not (.val (.isc "ValueError" (.var 2)))))) %[.ret (.con (.str "none"))|0] .nil,.ite (.val (.isc "NoRule" (.var 2))) %[.ret (.idx (.lst %[.con (.str "both"),.con (.str "rule")|0]) (.b1 .int (.not (.isc "NoPaper" (.var 2)))))|0] .nil,.ret (.tup %[.con (.str "paper"),.fld (.var 2) "number"|0])|0])
def JF:RW pg "_law_refusal" qp:=%[40|1]
def JW:Nat×Nat×Ss:=(2,4,%[.set 2 (.bin .Mod (.bin .FloorDiv (.var 0) (.con (.int 16))) (.bin .Pow (.con (.int 10)) (.con (.int 9)))),.set 3 (.lst %[.con .non,.tup %[.con (.int 0),.con (.int 1)|0],.tup %[.con (.int 0),.con (.int 1),.con (.int 2),.con (.int 3)|0],.lst %[.con (.int 0),.con (.int 1),.con (.int 2)|0],.tup %[1,.con (.int 1),.con (.int 2)|0],.tup %[.neg (.con (.int 1)),.con (.int 1),.con (.int 2)|0],.tup %[.con (.int 0),.con (.int 2),.con (.int 1)|0],.tup %[.con (.int 0),.bin .Sub (.neg (.con (.int 1))) (.var 2),.con (.int 2)|0]|0]),.set 3 (.bin .Add (.var 3) (.lst %[.tup %[.con (.int 0),.con (.int 1),.bin .Add (.bin .Add (.bin .Pow (.con (.int 10)) (.con (.int 9))) (.con (.int 1))) (.var 2)|0],.tup %[.con (.bl true),.con (.int 1),.con (.int 2)|0],.tup %[.con (.int 0),.con (.bl true),.con (.int 2)|0],.tup %[.con (.int 0),.con (.int 1),.con .non|0],.tup %[.con (.str "0"),.con (.int 1),.con (.int 2)|0],.tup %[.con (.int 0),.con (.int 1),.con (.str "2")|0],.con (.int 7)|0])),.ret (.idx (.var 3) (.bin .Mod (.var 0) (.con (.int 15))))|0])
def qaU:RW pg "_law_bad" JW:=%[41|1]
abbrev jo:E:=(.met (.var 0) "line" .nil)
def jH:E:=jo
def yH:UE jH jo:=λ_ _ _=>(rfl)
noncomputable abbrev jq:Ss:=%[.set 7 (.met (.var 0) "lifted" %[6|0]),.ite (.or (.not (.val (.isi Ty.list (.var 7)))) (.one (.cmp .NotEq (.var 7) (.call "_law_joined" %[2,6|0])))) %[.ret (.con (.bl false))|0] .nil,.app 7 (.con .non)|0]
def qW:Ss:=jq
def yI:USs qW jq:=λ_ _ _ _=>(rfl)
abbrev jr:E:=(.met (.var 0) "line" .nil)
def jI:E:=jr
def yJ:UE jI jr:=λ_ _ _=>(rfl)
def yx:Nat×Nat×Ss:=(4,8,%[.set 4 (.met (.var 0) "rules" .nil),.set 5 (.met (.var 0) "papers" .nil),.ite (.or (.not (.val (.isi Ty.list (.var 4)))) (.one (.cmp .NotEq (.comp jH (.nam 4) (.one 0) .yes 1 []) (.var 1)))) %[.ret (.con (.bl false))|0] .nil,.ite (.or (.not (.val (.isi Ty.list (.var 5)))) (.one (.cmp .NotEq (.var 5) (.var 2)))) %[.ret (.con (.bl false))|0] .nil,.clr 4,.app 5 (.con .non),.for_ (.one 6) (.rng (.var 3)) qW,.ret (.and (.cmp .Eq (.met (.var 0) "papers" .nil) (.var 2)) (.one (.cmp .Eq (.comp jI (.seq (.met (.var 0) "rules" .nil)) (.one 0) .yes 1 []) (.var 1))))|0])
def QF:RW pg "_law_alike" yx:=%[42|1]
noncomputable abbrev qad:E:=(.call "_law_made" %[.call "_law_rule" %[0,1|0]|0])
def Zk:E:=qad
def qci:UE Zk qad:=λ_ _ _=>(rfl)
abbrev qae:E:=(.call "_law_paper" %[0,1|0])
def Zl:E:=qae
def qcj:UE Zl qae:=λ_ _ _=>(rfl)
abbrev qaf:E:=(.met (.var 0) "line" .nil)
def qck:E:=qaf
def qcl:UE qck qaf:=λ_ _ _=>(rfl)
def qdU:Nat×Nat×Ss:=(1,14,%[.set 1 (.call "_law_lands" %[.call "_law_cell_at" %[0,.con (.int 0)|0],.con (.int 6)|0]),.set 3 (.comp Zk (.seq (.bin .Add (.lst %[.call "_law_cell_at" %[0,.con (.int 1)|0]|0]) (.sli (.var 0) (.some (.con (.int 2))) (.some (.con (.int 9)))))) (.one 0) .yes 1 [1]),.set 4 (.b1 .len (.var 3)),.set 5 (.comp Zl (.seq (.sli (.var 0) (.some (.con (.int 9))) (.some (.con (.int 21))))) (.one 0) .yes 1 [4]),.set 6 (.comp qck (.seq (.var 3)) (.one 0) .yes 1 []),.set 7 (.lst %[.b1 .list (.var 3),.b1 .list (.var 5)|0]),.set 8 (.new "Book" %[.idx (.var 7) (.con (.int 0)),.idx (.var 7) (.con (.int 1))|0]),.ite (.or (.cmp .NotEq (.idx (.var 7) (.con (.int 1))) (.var 5)) (.one (.cmp .NotEq (.b1 .len (.idx (.var 7) (.con (.int 0)))) (.var 4)))) %[.ret (.con (.bl false))|0] .nil,.expr (.met (.idx (.var 7) (.con (.int 0))) "clear" .nil),.expr (.met (.idx (.var 7) (.con (.int 1))) "append" %[.con .non|0]),.ite (.or (.not (.val (.calF "_law_alike" %[8,6,5,4|0]))) (.one (.not (.val (.calF "_law_alike" %[8,6,5,4|0]))))) %[.ret (.con (.bl false))|0] .nil,.set 2 (.bin .Add (.bin .Mod (.bin .Mult (.call "_law_cell_at" %[0,.con (.int 0)|0]) (.con (.int 48271))) (.con (.int 2147483647))) (.var 4)),.set 9 (.bin .Mod (.var 2) (.bin .Add (.b1 .len (.var 5)) (.con (.int 1)))),.set 10 (.bin .Add (.bin .Add (.bin .Add (.sli (.var 5) .none (.some (.var 9))) (.lst %[.call "_law_bad" %[.bin .FloorDiv (.var 2) (.con (.int 13)),4|0]|0])) (.sli (.var 5) (.some (.var 9)) .none)) (.lst %[.call "_law_bad" %[.bin .FloorDiv (.var 2) (.con (.int 195)),4|0]|0])),.set 11 (.bin .Add (.var 3) (.bin .Mult (.lst %[.idx (.var 3) (.con (.int 0))|0]) (.bin .Sub (.con (.int 9)) (.var 4)))),.set 12 (.idx (.lst %[.con .non,.con (.int 3),.idx (.var 6) (.con (.int 0)),.new "Rule" %[.lst %[.tup %[.con (.str "a"),.con (.int 1)|0]|0],.con (.int 3)|0],1,.tup %[.idx (.var 3) (.con (.int 0))|0]|0]) (.bin .Mod (.bin .FloorDiv (.var 2) (.con (.int 64))) (.con (.int 6)))),.ite (.or (.cmp .NotEq (.call "_law_refusal" %[3,10|0]) (.tup %[.con (.str "paper"),9|0])) (.one (.cmp .NotEq (.call "_law_refusal" %[11,10|0]) (.con (.str "rule"))))) %[.ret (.con (.bl false))|0] .nil,.ite (.or (.cmp .NotEq (.call "_law_refusal" %[.bin .Add (.var 3) (.lst %[12|0]),5|0]) (.con (.str "rule"))) (.one (.cmp .NotEq (.call "_law_refusal" %[12,10|0]) (.con (.str "rule"))))) %[.ret (.con (.bl false))|0] .nil,.ite (.cmp .NotEq (.call "_law_refusal" %[3,.bin .Add (.var 5) (.bin .Mult (.lst %[.tup %[.con (.int 0),.con (.int 1),.con (.int 2)|0]|0]) (.bin .Sub (.con (.int 13)) (.b1 .len (.var 5))))|0]) (.tup %[.con (.str "paper"),.con .non|0])) %[.ret (.con (.bl false))|0] .nil,.set 6 (.sli (.bin .Add (.var 6) (.bin .Mult (.sli (.var 6) .none (.some (.con (.int 1)))) (.con (.int 8)))) .none (.some (.con (.int 8)))),.set 13 (.idx (.lst %[.con .non,.tup .nil,.b1 .tup (.var 5)|0]) (.bin .Mod (.bin .FloorDiv (.var 2) (.con (.int 64))) (.con (.int 3)))),.ret (.and (.cmp .Eq (.call "_law_refusal" %[3,13|0]) (.tup %[.con (.str "paper"),.con .non|0])) (.one (.calF "_law_alike" %[.new "Book" %[.sli (.var 11) .none (.some (.con (.int 8))),.lst .nil|0],6,.lst .nil,.con (.int 8)|0])))|0])
def yc:Nat×Nat×Ss:=(1,2,%[.set 1 (.fld (.var 0) "span"),.ret (.call "line_of" %[.fst %[.con (.str "within "),1|0],0|0])|0])
def Yx:RW pg "Within.line" yc:=qz (pg:=pg) (st:=mem 21 1) (4:) (λk cl=>(4:))
def yz:Nat×Nat×Ss:=(1,2,%[.set 1 (.fld (.var 0) "leave"),.ret (.call "line_of" %[.fst %[.con (.str "since "),1|0],0|0])|0])
def QG:RW pg "Since.line" yz:=qz (pg:=pg) (st:=mem 22 1) (4:) (λk cl=>(4:))
def yA:Nat×Nat×Ss:=(1,1,%[.ret (.call "line_of" %[.con (.str "row"),0|0])|0])
def QH:RW pg "InRow.line" yA:=qz (pg:=pg) (st:=mem 23 1) (4:) (λk cl=>(4:))
end K14
namespace FA
open PySem L2 DE DG
open LC LN LM
def lnD(p:Str×Int):D:=.tup [.str p.1,.int p.2]
def qcm(p:Str×Int):lnD p=.tup [.str p.1,.int p.2]:=rfl
def qdV{z:Str}(h:NameOk z):Qx z=true:=by
 unfold Qx;simp![Bool.and_eq_true,decide_eq_true_eq,List.all_eq_true];refine{⟨h.one,h.eight⟩,λc hc=>?_}
 have:=h.lets c hc
 unfold yk at this
 lia
structure LnOk(p:Str×Int):Prop where
 nm:NameOk p.1
 one:1<=p.2
 nine:p.2<=9
def qdW{p:Str×Int}(h:LnOk p):qcd (lnD p)=some p:=by show(if (Qx p.1&&decide (1<=p.2)&&decide (p.2<=9))=true then some (p.1,p.2) else none)=_;rw[if_pos (by rw[qdV h.nm,decide_eq_true h.one,decide_eq_true h.nine];rfl)]
theorem QI:∀(l:List (Str×Int)) (acc:List Str),(∀p∈l,LnOk p)->(acc++l.map (·.1)).Nodup->JT acc (l.map lnD)=true
 |[],acc,_,_=>rfl
 | p::l,acc,h,nd=>by
  rw[List.map_cons];unfold JT;rw[qdW (h p (5:))];have e:acc++(p::l).map (·.1)=(acc++[p.1])++l.map (·.1):=by simp
  rw[e]at nd
  have n1:p.1∉acc:=by
   have:=(List.nodup_append.mp nd).1
   have:=(List.nodup_append.mp this).2.2
   intro hm;exact this p.1 hm p.1 (5:) rfl
  simp![Bool.and_eq_true,Bool.not_eq_true'];exact{by simpa using n1,QI l (acc++[p.1]) (λq hq=>h q (by simp[hq])) nd}
def qaV{l:List (Str×Int)}(h:∀p∈l,LnOk p)(nd:(l.map (·.1)).Nodup)(h1:1<=l.length)(h6:l.length<=6):qy (l.map lnD)=true:=by unfold qy;rw[List.length_map,decide_eq_true h1,decide_eq_true h6,QI l [] h (-nd:)];rfl
def qdX{zs:List Str}(i:Int)(h0:0<=i)(h1:i < zs.length):∃z,atI (zs.map D.str) i=some (.str z)/\zs[i.toNat]?=some z:=by
 let(j,rfl):=Int.eq_ofNat_of_zero_le h0;have hj:j < zs.length:=by lia
 exact{zs[j],qhp (by rw[List.getElem?_map,List.getElem?_eq_getElem hj];rfl),by simp[hj]}
def Lns(zs:List Str)(a:Int)(l:List (Str×Int)):Prop:=∀(i:Nat) (p:Str×Int),l[i]?=some p->zs[((a+(i:Int)) % (zs.length:Int)).toNat]?=some p.1/\LnOk p
inductive Kd where
 | wi|si|ro
def Kd.nm:Kd->Str
 |.wi=>"within"
 |.si=>"since"
 |.ro=>"row"
structure Ru where
 kd:Kd
 lands:List (Str×Int)
 most:Int
 days:Int
def ruD(r:Ru):D:=.tup [.str r.kd.nm,.lst (r.lands.map lnD),.int r.most,.int r.days]
end FA
namespace Dy
abbrev P:=Int×Int
def stp(acc:List P)(p:P):List P:=match acc.getLast? with
 |some l=>if p.1<=l.2+1 then acc.dropLast++[(l.1,if p.2 > l.2 then p.2 else l.2)] else acc++[p]
 |none=>[p]
def Zm(p:P):stp [] p=[p]:=rfl
def Yy(a:List P)(l p:P):stp (a++[l]) p=if p.1<=l.2+1 then a++[(l.1,if p.2 > l.2 then p.2 else l.2)] else (a++[l])++[p]:=by unfold stp;rw[List.getLast?_append];simp
theorem Zn{α:Type}(l:List α):l=[]\/∃a x,l=a++[x]:=by
 cases l with
 |nil=>exact .inl rfl
 |cons a r=>exact .inr ⟨(a::r).dropLast,(a::r).getLast (5:),(List.dropLast_concat_getLast (5:)).symm⟩
def qnh(A:List P)(d:Int):Bool:=A.any λp=>decide (p.1<=d)&&decide (d<=p.2)
end Dy
namespace DG
open PySem L2 DE FA Dy
open CH SP BO
theorem Zo:∀ps:List (Int×Int),qeA (ps.map pD)=some ps
 |[]=>rfl
 | p::ps=>by rw[List.map_cons,qeA,Zo ps];rfl
def jQ(p:Int×Int):pD p=.tup [.int p.1,.int p.2]:=rfl
def spr(ps:List (Int×Int)):List (Int×Int):=(jz ps).foldl stp []
def Zp(acc:List (Int×Int))(p:Int×Int):(stp acc p).length<=acc.length+1:=by
 rcases Zn acc with rfl|⟨a,l,rfl⟩
 ·simp[Zm]
 ·rw[Yy]
  split<;>simp
def zp{n:Nat}(h:n < 100000):n < sizeLine:=Nat.lt_trans h (3:)
def qcn{n:Nat}(h:n < 100000):n<=sizeLine:=Nat.le_of_lt (zp h)
theorem Js(cl:Cl)(v:Sl):∀(ps acc:List (Int×Int)) (s2 s3:Sl),acc.length+ps.length < 10000->∃s2' s3',JS cl 1000 (.many [2,3]) yj (ps.map pD) [v,.own (acc.map pD),s2,s3]=.ok (.next [v,.own ((ps.foldl stp acc).map pD),s2',s3'])
 |[],acc,s2,s3,_=>⟨s2,s3,rfl⟩
 | p::ps,acc,s2,s3,hl=>by
  rw[List.length_cons]at hl
  have:=Zp acc p
  let(s2',s3',ih):=Js cl v ps (stp acc p) (.val (.int p.1)) (.val (.int p.2)) (1:);refine{s2',s3',?_};have hs:acc.length < sizeLine:=zp (1:);have two:0+1+1<=sizeLine:=(3:)
  rw[List.foldl_cons];rcases Zn acc with rfl|⟨a,l,rfl⟩
  ·rw[Zm]at ih ⊢;simp![List.map_cons,List.map_nil,jQ]at ih;simp?[ji,jQ,List.isEmpty_nil,two,show(0:Nat) < sizeLine by decide+kernel,ih]
  ·rw[Yy]at ih ⊢
   by_cases hc:p.1<=l.2+1
   ·rw[if_pos hc]at ih ⊢;simp![List.map_append,List.map_cons,List.map_nil,jQ]at ih;simp?[ji,jQ,List.map_append,hc,two,ih]
   ·rw[if_neg hc]at ih ⊢;simp![List.map_append,List.map_cons,List.map_nil,jQ]at ih;have hs':(a.map pD++[D.tup [.int l.1,.int l.2]]).length < sizeLine:=(-hs:)
    simp?[ji,jQ,List.map_append,hc,two,hs',ih]
def qco{pg:Pg}[SP pg](k:Nat)(b:Bool)(ps:List (Int×Int))(hl:ps.length < 4000):clK pg (k+1) "spread" [aL b (ps.map pD)]=.ok (.tmp ((spr ps).map pD)):=by
 have hl':(jz ps).length < 10000:=by unfold jz;rw[List.length_mergeSort];lia
 rw[r_spread];let(s2,s3,e):=Js (pg.kk k) (pS b (ps.map pD)) (jz ps) [] .no .no (-hl':);rw[List.map_nil]at e;simp?![qab,Ji,Zo,hl,show(0:Nat)<=sizeLine by decide+kernel,e,spr]
def _root_.FA.Kd.cls:Kd->Str
 |.wi=>"Within"
 |.si=>"Since"
 |.ro=>"InRow"
def _root_.FA.Kd.fld:Kd->Str
 |.wi=>"span"
 |.si=>"leave"
 |.ro=>"leave"
def ruI(r:Ru):D:=.ins r.kd.cls ["lands","most",r.kd.fld] [.tup (r.lands.map lnD),.int r.most,.int r.days]
abbrev Pa:=Int×Int×Int
def paD(p:Pa):D:=.tup [.int p.1,.int p.2.1,.int p.2.2]
def yd(p:Pa):paD p=.tup [.int p.1,.int p.2.1,.int p.2.2]:=rfl
def bkI(rs:List Ru)(ps:List Pa):D:=.ins "Book" ["kept_rules","kept_papers"] [.lst (rs.map ruI),.lst (ps.map paD)]
def qdY{z:Str}(h:NameOk z):PyData.strOk z=true:=by
 unfold PyData.strOk;rw[<-Array.all_toList,List.all_eq_true];intro c hc
 have:=h.lets c hc
 unfold yk at this;rw[decide_eq_true_eq]
 lia
def ofN(n:Int)(ps:List Pa):List (Int×Int):=(ps.filter λp=>p.1 == n).map λp=>(p.2.1,p.2.2)
def lift(n:Int)(ps:List Pa):List (Int×Int):=spr (ofN n ps)
theorem jR(cl:Cl)(n:Int):∀(ps:List Pa) (acc:List (Int×Int)) (s0 s1 s2:Sl),acc.length+ps.length < 10000->jc cl zm (.many [0,1,2]) (.test (.cmp .Eq (.var 0) (.var 3))) (ps.map paD) [s0,s1,s2,.val (.int n)] (acc.map pD)=.ok ((acc++ofN n ps).map pD)
 |[],acc,s0,s1,s2,_=>by simp[ofN,j7]
 | p::ps,acc,s0,s1,s2,hl=>by
  rw[List.length_cons]at hl;have two:0+1+1<=sizeLine:=(3:)
  have hs:(acc.map pD).length < sizeLine:=by rw[List.length_map];exact zp (1:)
  cases hc:(p.1 == n) with
  |true=>
   have ih:=jR cl n ps (acc++[(p.2.1,p.2.2)]) (.val (.int p.1)) (.val (.int p.2.1)) (.val (.int p.2.2)) (by simp;lia);have e:ofN n (p::ps)=(p.2.1,p.2.2)::ofN n ps:=by simp[ofN,hc]
   rw[e];simp![List.map_append,List.map_cons,List.map_nil,jQ,List.append_assoc,List.cons_append,List.nil_append]at ih ⊢;simp?[zM,yd,qF,hc,two,hs,ih]
  |false=>
   have ih:=jR cl n ps acc (.val (.int p.1)) (.val (.int p.2.1)) (.val (.int p.2.2)) (1:);have e:ofN n (p::ps)=ofN n ps:=by simp[ofN,hc]
   rw[e];rw[List.map_cons];simp?[zM,yd,qF,hc,two,hs,ih]
def Zq(n:Int)(ps:List Pa):(ofN n ps).length<=ps.length:=by unfold ofN;rw[List.length_map];exact List.length_filter_le ..
end DG
namespace K14
open PySem L2 DE DG FA
def qdZ(x:Str):x.cps.toList.length=x.length:=by simp[Str.length]
abbrev nS(n:Int):Str:=Str.ofString (toString n)
def qjQ(c:Nat):Prop:=48<=c/\c < 58
def qgT(m:Nat):Nat.toDigits 10 m≠[]:=λe=>by have h:=PySem.toDigits_len_ge 10 m;rw[e]at h;exact absurd h (2:)
structure NumOk(n:Int):Prop where
 lo:0<=n
 hi:n<=1000000000
def qd0{n:Int}(h:NumOk n):∀c∈(nS n).cps.toList,qjQ c:=by let(m,rfl):=Int.eq_ofNat_of_zero_le h.lo;intro c hc;rw[PySem.W.KIN.signs_num]at hc;let(ch,hch,e):=List.mem_map.mp hc;have r:=PyProof.Rows.digit_range (Nat.isDigit_of_mem_toDigits (2:) (2:) hch);rw[<-e];exact{r.1,by have:=r.2;omega}
def Jt{n:Int}(h:NumOk n):1<=(nS n).length/\(nS n).length<=10:=by have h0:=h.lo;have h1:=h.hi;refine{?_,PySem.W.KT.len_num h0 (by omega)};let(m,rfl):=Int.eq_ofNat_of_zero_le h.lo;rw[<-qdZ,PySem.W.KIN.signs_num,List.length_map];exact List.length_pos_iff.mpr (qgT m)
def Ju{n:Int}(h:NumOk n):n.natAbs.log2 < 1920:=by
 have h0:=h.lo;have h1:=h.hi
 have:n.natAbs < 2 ^ 30:=by omega
 by_cases hz:n.natAbs=0
 ·rw[hz];decide
 ·have:=(Nat.log2_lt hz).mpr this
  omega
def qgU(k:Nat)(s:Str)(w:Int)(hs:NameOk s)(h1:1<=w)(h9:w<=9):clK pg (k+3) "is_land" [.val (.tup [.str s,.int w])]=.ok (.val (.bl true)):=by
 rw[qcg];have e0:atI [D.str s,D.int w] 0=some (.str s):=by rfl
 have e1:atI [D.str s,D.int w] 1=some (.int w):=by rfl
 simp?![Qz,e0,e1,qF,DG.qgQ (pg:=pg) k s hs,DG.JV k w 1 9 h1 h9,show((((0+1+1:Nat):Int) == 2)=true) from rfl]
theorem JX(k:Nat)(v:Sl):∀(l:List D) (acc:List Str) (s2:Sl),JT acc l=true->acc.length+l.length < 1000->∃acc' s2',JS (pg.kk (k+3)) 1000 (.one 2) zW l [v,.own (acc.map D.str),s2]=.ok (.next [v,.own acc',s2'])
 |[],acc,s2,_,_=>{_,s2,rfl}
 | d::l,acc,s2,h,hl=>by
  unfold JT at h
  cases e:qcd d with
  |none=>rw[e]at h;cases h
  |some p=>
   rw[e]at h;simp![Bool.and_eq_true,Bool.not_eq_true']at h;let(rfl,hn,h1,h9):=qdQ e;rw[List.length_cons]at hl;let(acc',s2',ih):=JX k v l (acc++[p.1]) (.val (.tup [.str p.1,.int p.2])) h.2 (by simp;omega);refine{acc',s2',?_};rw[List.map_append,List.map_cons,List.map_nil]at ih;have e0:atI [D.str p.1,D.int p.2] 0=some (.str p.1):=by rfl
   have hs:(acc.map D.str).length < sizeLine:=by rw[List.length_map];show acc.length < 2 ^ 24;omega
   simp?[Jn,e0,qgU k p.1 p.2 hn h1 h9,qce,h.1,hs,ih]
def Zr(k:Nat)(b:Bool)(l:List D)(h:qy l=true):clK pg (k+4) "are_lands" [aL b l]=.ok (.val (.bl true)):=by
 unfold qy at h;simp![Bool.and_eq_true,decide_eq_true_eq]at h;have h1:¬ (l.length:Int) < 1:=by have:=h.1.1;omega
 have h2:¬ (6:Int) < (l.length:Int):=by have:=h.1.2;omega
 rw[Zi];let(acc',s2',ih):=JX k (pS b l) l [] .no h.2 (by have:=h.1.2;simp;omega);rw[List.map_nil]at ih;simp?![Jo,h1,h2,show(0:Nat)<=sizeLine by decide+kernel,ih]
def qu{n:Nat}(h:n<=100000):n<=sizeLine:=by show _<=2 ^ 24;omega
open LC LN LM
structure N6(zs:List Str):Prop where
 two:2<=zs.length
 six:zs.length<=6
 ok:∀z∈zs,NameOk z
 nd:zs.Nodup
def N6.once{zs:List Str}(h:N6 zs)(i j:Nat)(z:Str)(hi:zs[i]?=some z)(hj:zs[j]?=some z):i=j:=by
 let(li,ei):=List.getElem?_eq_some_iff.mp hi;let(lj,ej):=List.getElem?_eq_some_iff.mp hj;have nd:=List.pairwise_iff_getElem.mp h.nd;rcases Nat.lt_trichotomy i j with q|q|q
 ·exact absurd (ei.trans ej.symm) (nd i j li lj q)
 ·exact q
 ·exact absurd (ej.trans ei.symm) (nd j i lj li q)
def Nm.ne6{cell at' k k':Int}{m:Nat}{z z':Str}(h:Nm cell at' k m z)(h':Nm cell at' k' m z')(h0:0<=at')(h1:at' < m)(hk:0<=k/\k < 6)(hk':0<=k'/\k' < 6)(ne:k≠k'):z≠z':=by
 rintro rfl;have e:(List.range m).map (ltr cell at' k)=(List.range m).map (ltr cell at' k'):=h.symm.trans h';have e2:=congrArg (λl=>l[at'.toNat]?) e;simp![List.getElem?_map]at e2;rw[List.getElem?_range (by omega)]at e2;simp![Option.map_some,Option.some.injEq]at e2;unfold ltr at e2;have ea:((at'.toNat:Nat):Int)=at':=by omega
 rw[ea,beq_self_eq_true,if_pos rfl]at e2;omega
def qjR(k:Nat)(cell:Int):∃zs:List Str,clK pg (k+1) "_law_lands" [.val (.int cell),.val (.int 6)]=.ok (.tmp (zs.map D.str))/\zs.length=6/\N6 zs:=by
 have hm:∃m:Nat,(1+cell % 8:Int)=(m:Int)/\1<=m/\m<=8:={(1+cell % 8).toNat,by omega,by omega,by omega};let(m,e,h1,h2):=hm;have a0:0<=cell / 8 % (m:Int):=Int.emod_nonneg _ (by omega);have a1:cell / 8 % (m:Int) < m:=Int.emod_lt_of_pos _ (by omega);let(zs,s6,s7,s8,s9,h,h3,h4):=QC (pg.kk k) (.val (.int 6)) cell (cell / 8 % (m:Int)) m ⟨h1,h2⟩ 6 [] .no .no .no .no (5:) (λi z hz=>by simp at hz);simp at h3;refine{zs,?_,h3,{by omega,by omega,λz hz=>?_,?_}}
 ·rw[List.map_nil]at h;have hp:(0:Int) < (m:Int):=by omega
  have hs:qR 6=true:=by decide
  rw[show((([]:List Str).length:Nat):Int)=0 from rfl]at h;rw[r__law_lands];have t6:(6:Int).toNat=6:=rfl;simp?![yv,e,hp,show(0:Nat)<=sizeLine by decide+kernel,hs,zI,Int.sub_zero,t6,h]
 ·let(i,hi):=List.getElem?_of_mem hz;exact(h4 i z hi).ok h1 h2
 ·rw[List.nodup_iff_pairwise_ne,List.pairwise_iff_getElem];intro i j hi hj hij e;exact Nm.ne6 (h4 i _ (List.getElem?_eq_getElem hi)) (h4 j _ (List.getElem?_eq_getElem hj)) a0 a1 ⟨by omega,by omega⟩ ⟨by omega,by omega⟩ (by omega) e
def Lns.nodup6{zs:List Str}(hz:N6 zs){a:Int}{l:List (Str×Int)}(h:Lns zs a l)(hl:l.length<=zs.length):(l.map (·.1)).Nodup:=by
 rw[List.nodup_iff_pairwise_ne,List.pairwise_iff_getElem];intro i j hi hj hij e;rw[List.length_map]at hi hj;rw[List.getElem_map,List.getElem_map]at e;have h1:=(h i _ (List.getElem?_eq_getElem hi)).1;have h2:=(h j _ (List.getElem?_eq_getElem hj)).1;rw[e]at h1
 have:=hz.once _ _ _ h1 h2
 have hL:(0:Int) < (zs.length:Int):=by have:=hz.two;omega
 have a0:0<=(a+(i:Int)) % (zs.length:Int):=Int.emod_nonneg _ (by omega);have b0:0<=(a+(j:Int)) % (zs.length:Int):=Int.emod_nonneg _ (by omega);have e3:(a+(i:Int)) % (zs.length:Int)=(a+(j:Int)) % (zs.length:Int):=by omega
 have e5:(a+(j:Int) - (a+(i:Int))) % (zs.length:Int)=0:=by rw[Int.sub_emod,e3,Int.sub_self,Int.zero_emod]
 rw[show a+(j:Int) - (a+(i:Int))=((j - i:Nat):Int) by omega]at e5;rw[Int.emod_eq_of_lt (by omega) (by omega)]at e5;omega
theorem QJ(cl:Cl)(v0 v3 s6 s7:Sl)(n:Int)(zs:List Str)(hz:N6 zs):∀(m:Nat) (l:List (Str×Int)) (s5:Sl),l.length+m<=100->Lns zs (n / 18) l->
  ∃(l':List (Str×Int)) (s5':Sl),JS cl 1000 (.one 5) z5 (rgF (l.length:Int) m) [v0,.bor (zs.map D.str),.val (.int n),v3,.own (l.map lnD),s5,s6,s7]=.ok (.next [v0,.bor (zs.map D.str),.val (.int n),v3,.own (l'.map lnD),s5',s6,s7])/\l'.length=l.length+m/\Lns zs (n / 18) l'
 |0,l,s5,_,h=>⟨l,s5,rfl,rfl,h⟩
 | m+1,l,s5,hl,h=>by
  have hL:(0:Int) < (zs.length:Int):=by have:=hz.two;omega
  let(z,e1,e2):=qdX (zs:=zs) ((n / 18+(l.length:Int)) % (zs.length:Int)) (Int.emod_nonneg _ (by omega)) (Int.emod_lt_of_pos _ hL)
  have h3:∃q:Int,atI [D.int 9,D.int 2,D.int 2] ((n+(l.length:Int)) % 3)=some (.int q)/\2<=q/\q<=9:=by
   have a0:0<=(n+(l.length:Int)) % 3:=Int.emod_nonneg _ (2:);have a1:(n+(l.length:Int)) % 3 < 3:=Int.emod_lt_of_pos _ (2:)
   have:(n+(l.length:Int)) % 3=0\/(n+(l.length:Int)) % 3=1\/(n+(l.length:Int)) % 3=2:=by omega
   rcases this with e|e|e<;>rw[e]
   ·exact{9,rfl,by decide,by decide}
   ·exact{2,rfl,by decide,by decide}
   ·exact{2,rfl,by decide,by decide}
  let(q,e3,q2,q9):=h3;have hq:(0:Int) < q:=by omega
  have w0:0<=n / 108 / ((l.length:Int)+1) % q:=Int.emod_nonneg _ (by omega);have w1:n / 108 / ((l.length:Int)+1) % q < q:=Int.emod_lt_of_pos _ hq
  let(l',s5',ih,i1,i2):=QJ cl v0 v3 s6 s7 n zs hz m (l++[(z,1+n / 108 / ((l.length:Int)+1) % q)]) (.val (.int (l.length:Int))) (by simp;omega) (λi p hp=>by
   by_cases hi:i < l.length
   ·rw[List.getElem?_append_left hi]at hp;exact h i p hp
   ·rw[List.getElem?_append_right (by omega)]at hp;have hlt:=(List.getElem?_eq_some_iff.mp hp).1;simp at hlt;have hi:i=l.length:=by omega
    subst hi;simp at hp;subst hp;exact{e2,hz.ok z (List.mem_of_getElem? e2),by show 1<=1+_;omega,by show 1+_<=9;omega})
  refine{l',s5',?_,by rw[i1];simp;omega,i2}
  have hs:l.length < sizeLine:=by show _ < 2 ^ 24;omega
  have two:0+1+1<=sizeLine:=(3:)
  have three:0+1+1+1<=sizeLine:=(3:)
  have hd:(0:Int) < (l.length:Int)+1/\(l.length:Int)+1 < 1073741824:={by omega,by omega};rw[List.length_append,List.length_singleton,show((l.length+1:Nat):Int)=(l.length:Int)+1 from by omega]at ih;simp![List.map_append,List.map_cons,List.map_nil,qcm]at ih;refine(qv _).symm.trans ?_;rw[rgF];simp?![Jr,List.length_map,hL,e1,e3,hd,hq,two,three,hs,ih,qcm]
def qeY(k:Nat)(c t:Int)(h0:0<=t)(h1:t<=1000000000):∃n,0<=n/\n<=t/\clK pg (k+1) "_law_number" [.val (.int c),.val (.int t)]=.ok (.val (.int n)):=by
 rw[Yv];have hp:(0:Int) < t+1:=by omega
 by_cases hc:c % 5=0
 ·refine{c / 5 % (t+1),Int.emod_nonneg _ (by omega),by have:=Int.emod_lt_of_pos (c / 5) hp;omega,?_};have hb:(c % 5 == 0)=true:=(-hc:)
  simp?![zZ,qF,hb,hp]
 ·have hb:(c % 5 == 0)=false:=(-hc:)
  let(d,ed):∃d:Int,(if t+1 < 31 then t+1 else 31)=d:={_,rfl};have hd:0 < d/\d<=t+1:=by rw[<-ed];split<;>omega
  refine{c / 5 % d,Int.emod_nonneg _ (by omega),by have:=Int.emod_lt_of_pos (c / 5) hd.1;omega,?_};simp?![zZ,qF,hb,ed,hd.1]
structure R12(r:Ru):Prop where
 lands:qy (r.lands.map lnD)=true
 ok:∀p∈r.lands,LnOk p
 most:NumOk r.most
 days:NumOk r.days
 d1:1<=r.days
 row:r.kd=.ro->r.days=1
 nd:(r.lands.map (·.1)).Nodup
 l1:1<=r.lands.length
 l6:r.lands.length<=6
def qd1(k:Nat)(c:Int)(zs:List Str)(hz:N6 zs):∃r:Ru,R12 r/\clK pg (k+2) "_law_rule" [.val (.int c),.bor (zs.map D.str)]=.ok (.val (ruD r)):=by
 have hL:(0:Int) < (zs.length:Int):=by have:=hz.two;omega
 have hn:0<=c * 1099087573 % 10000000000037:=Int.emod_nonneg _ (2:);generalize hN:c * 1099087573 % 10000000000037=n at hn;have m0:0<=n / 3 % (zs.length:Int):=Int.emod_nonneg _ (by omega);have m1:n / 3 % (zs.length:Int) < zs.length:=Int.emod_lt_of_pos _ hL;have six:=hz.six;let(m,em):∃m:Nat,1+n / 3 % (zs.length:Int)=(m:Int):={(1+n / 3 % (zs.length:Int)).toNat,by omega};let(l,s4',e,e1,e2):=QJ (pg.kk (k+1)) (.val (.int c)) (.val (.int (m:Int))) .no .no n zs hz m [] .no (by simp;omega) (λi p hp=>by simp at hp);simp at e1;rw[List.map_nil,show((([]:List (Str×Int)).length:Nat):Int)=0 from rfl]at e
 have ok:∀p∈l,LnOk p:=λp hp=>by let(i,hi):=List.getElem?_of_mem hp;exact(e2 i p hi).2
 have nd:=Lns.nodup6 hz e2 (by omega);have lok:qy (l.map lnD)=true:=qaV ok nd (by omega) (by omega);let(t,t0,t1,et):=qeY k (n / 972) 1000000000 (2:) (2:);let(d,d0,d1,ed):=qeY k (n / 30132) 999999999 (2:) (2:);have mul:Q9 c 1099087573=true:=QB (2:) (2:)
 have sm:qR (m:Int)=true:=by unfold qR;simp;omega
 have p9:(10:Int) ^ (9:Int).toNat=1000000000:=by decide
 have c9:(0:Int)<=9/\(9:Int)<=1000000/\(10:Int).natAbs < 2 ^ 64:=by decide
 have m9:(1000000000:Int) - 1=999999999:=by decide
 have four':0+1+1+1+1<=sizeLine:=(3:)
 have zero:(0:Nat)<=sizeLine:=(3:)
 rw[Zj]
 by_cases c0:n % 3=0
 ·refine{{.wi,l,t,1+d},{lok,ok,⟨t0,t1⟩,{by show 0<=1+d;omega,by show 1+d<=_;omega},by show 1<=1+d;omega,λz=>(by cases z),nd,by show 1<=l.length;omega,by show l.length<=6;omega},?_};have hb:(n % 3 == 0)=true:=(-c0:)
  simp?![z7,List.length_map,mul,hN,hL,em,sm,zI,Int.sub_zero,Int.toNat_natCast,e,qF,hb,four',zero,p9,c9,m9,et,ed,ruD,Kd.nm]
 by_cases c1:n % 3=1
 ·refine{{.si,l,t,1+d},{lok,ok,⟨t0,t1⟩,{by show 0<=1+d;omega,by show 1+d<=_;omega},by show 1<=1+d;omega,λz=>(by cases z),nd,by show 1<=l.length;omega,by show l.length<=6;omega},?_};have hb:(n % 3 == 0)=false:=(-c0:)
  have hc:(n % 3 == 1)=true:=(-c1:)
  simp?![z7,List.length_map,mul,hN,hL,em,sm,zI,Int.sub_zero,Int.toNat_natCast,e,qF,hb,hc,four',zero,p9,c9,m9,et,ed,ruD,Kd.nm]
 ·refine{{.ro,l,t,1},{lok,ok,⟨t0,t1⟩,{by show(0:Int)<=1;decide,by show(1:Int)<=1000000000;decide},by show(1:Int)<=1;decide,λ_=>rfl,nd,by show 1<=l.length;omega,by show l.length<=6;omega},?_};have hb:(n % 3 == 0)=false:=(-c0:)
  have hc:(n % 3 == 1)=false:=(-c1:)
  simp?![z7,List.length_map,mul,hN,hL,em,sm,zI,Int.sub_zero,Int.toNat_natCast,e,qF,hb,hc,four',zero,p9,c9,m9,et,ed,ruD,Kd.nm]
def ym(p:Str×Int):Str:=p.1++(" " : Str)++nS p.2
def JY(l:List (Str×Int)):Str:=Str.join ", " (l.map ym)
def yK(h:Str)(r:Ru):Str:=h++(" most " : Str)++nS r.most++(": " : Str)++JY r.lands
def Yz(r:Ru):Str:=match r.kd with
 |.wi=>("within " : Str)++nS r.days
 |.si=>("since " : Str)++nS r.days
 |.ro=>"row"
def zq:(Str.length " " = 1)/\(Str.length ", " = 2)/\(Str.length ": " = 2)/\(Str.length " most " = 6)/\(Str.length "within " = 7)/\(Str.length "since " = 6)/\(Str.length "row" = 3):=(3:)
def qcp{p:Str×Int}(h:LnOk p):(ym p).length<=19:=by have h1:p.1.length<=8:=h.nm.eight;have h2:=(Jt (n:=p.2) ⟨by have:=h.one;omega,by have:=h.nine;omega⟩).2;unfold ym;rw[Str.length_append,Str.length_append,zq.1];omega
theorem qcq:∀(l:List (Str×Int)),(∀p∈l,LnOk p)->((l.map ym).map (·.length)).sum<=19 * l.length
 |[],_=>by simp
 | p::l,h=>by have h1:=qcp (h p (5:));have h2:=qcq l λq hq=>h q (by simp[hq]);simp![List.map_cons,List.sum_cons,List.length_cons];omega
def qaW{l:List (Str×Int)}(h:∀p∈l,LnOk p)(h6:l.length<=6):(JY l).length<=130:=by have h1:=qcq l h;have h2:=StrLaws.join_length_le (", " : Str) (l.map ym);rw[zq.2.1,List.length_map]at h2;unfold JY;omega
theorem QK(cl:Cl):∀(l:List (Str×Int)) (acc:List D) (s0 s1:Sl),(∀p∈l,LnOk p)->acc.length+l.length < 1000->
  jc cl jP (.many [0,1]) .yes (l.map lnD) [s0,s1] acc=.ok (acc++(l.map ym).map D.str)
 |[],acc,s0,s1,_,_=>by simp[j7]
 | p::l,acc,s0,s1,h,hl=>by
  have hp:=h p (5:);have h1:p.1.length<=8:=hp.nm.eight;have hn:NumOk p.2:={by have:=hp.one;omega,by have:=hp.nine;omega};have h2:=(Jt hn).2
  have f:JN Str.empty [.str p.1,.str " ",.int p.2]=some (ym p):=by rw[zv (by omega) (by rw[Str.length_append];exact qu (by rw[show Str.empty.length=0 from rfl];omega)),Str.empty_append,zv (3:) (by rw[Str.length_append,zq.1];exact qu (by omega)),yT (Ju hn) (by rw[Str.length_append,Str.length_append,zq.1];exact qu (by show _+_+(nS p.2).length<=_;omega)),yS];rfl
  rw[List.length_cons]at hl;have ih:=QK cl l (acc++[.str (ym p)]) (.val (.str p.1)) (.val (.int p.2)) (λq hq=>h q (by simp[hq])) (by simp;omega);rw[List.append_assoc]at ih
  have sz:acc.length < sizeLine:=by show _ < 2 ^ 24;omega
  refine(qv _).symm.trans ?_;rw[List.map_cons,List.map_cons,List.map_cons];simp?![Yu,qcm,f,sz,ih,List.singleton_append]
def qcr(r:Ru):qaK pg.cs (.val (ruI r)) "lands" = some (.tup (r.lands.map lnD)):=by let(kd,l,m,d):=r;cases kd<;>rfl
def qd2(r:Ru):qaK pg.cs (.val (ruI r)) "most" = some (.int r.most):=by let(kd,l,m,d):=r;cases kd<;>rfl
def qaX(k:Nat)(h:Str)(hh:h.length<=20)(r:Ru)(hr:R12 r):clK pg (k+1) "line_of" [.val (.str h),.val (ruI r)]=.ok (.val (.str (yK h r))):=by
 have c:=QK (pg.kk k) r.lands [] .no .no hr.ok (by have:=hr.l6;simp;omega);rw[List.nil_append]at c;have l1:=hr.l1;have l6:=hr.l6;have s1:=qcq r.lands hr.ok;have j:qf9 "join" ", " [.val (.lst ((r.lands.map ym).map D.str))]=.ok (.val (.str (Txt.join ", " (r.lands.map ym)))):=qgN (.inl rfl) (by rw[zq.2.1,List.length_map];omega);rw[show Txt.join ", " (r.lands.map ym)=Str.join ", " (r.lands.map ym) from StrLaws.glued_eq_join _ _]at j;have tl:=qaW hr.ok l6;have nl:=(Jt hr.most).2
 have f:JN Str.empty [.str h,.str " most ",.int r.most,.str ": ",.str (JY r.lands)]=some (yK h r):=by
  have e0:Str.empty.length=0:=rfl;have b1:(Str.empty++h).length=h.length:=by rw[Str.empty_append]
  have b2:(Str.empty++h++(" most " : Str)).length=h.length+6:=by rw[Str.length_append,b1,zq.2.2.2.1]
  have b3:(Str.empty++h++(" most " : Str)++nS r.most).length=h.length+6+(nS r.most).length:=by rw[Str.length_append,b2]
  have b4:(Str.empty++h++(" most " : Str)++nS r.most++(": " : Str)).length=h.length+6+(nS r.most).length+2:=by rw[Str.length_append,b3,zq.2.2.1]
  rw[zv (by omega) (by rw[b1];exact qu (by omega)),zv (3:) (by rw[b2];exact qu (by omega)),yT (Ju hr.most) (by rw[b3];exact qu (by omega)),zv (3:) (by rw[b4];exact qu (by omega)),zv (by omega) (by rw[Str.length_append,b4];exact qu (by omega)),yS,Str.empty_append];rfl
 have sz:(r.lands.map lnD).length<=sizeLine:=by rw[List.length_map];exact qu (by omega)
 rw[qch];unfold JY at f;have cs:(pg.kk k).cs=pg.cs:=rfl;generalize hx:ruI r=x;have f1:=qcr r;have f2:=qd2 r;rw[hx]at f1 f2;simp?![QD,cs,f1,f2,sz,ZZ,c,j,f]
def qd3{r:Ru}(hr:R12 r):(Yz r).length<=20:=by
 have h:=(Jt hr.days).2;unfold Yz;cases r.kd
 ·show(("within " : Str)++nS r.days).length<=20;rw[Str.length_append,zq.2.2.2.2.1];omega
 ·show(("since " : Str)++nS r.days).length<=20;rw[Str.length_append,zq.2.2.2.2.2.1];omega
 ·show Str.length "row"<=20
  decide+kernel
def qlE(r:Ru):Str:=match r.kd with
 |.wi=>"Within.line"
 |.si=>"Since.line"
 |.ro=>"InRow.line"
def qgV(r:Ru):mtD pg.cs (.val (ruI r)) "line" = some (qlE r):=by let(kd,l,m,d):=r;cases kd<;>rfl
theorem qgW(k:Nat)(r:Ru)(hr:R12 r):clK pg (k+2) (qlE r) [.val (ruI r)]=.ok (.val (.str (yK (Yz r) r))):=by
 have c:=qaX k (Yz r) (qd3 hr) r hr;have nl:=(Jt hr.days).2;have cs:(pg.kk (k+1)).cs=pg.cs:=rfl;let(kd,l,m,d):=r;have e0:Str.empty.length=0:=rfl;have nl:(nS d).length<=10:=nl;have sd:d.natAbs.log2 < 1920:=Ju hr.days
 cases kd with
 |wi=>
  have f:JN Str.empty [.str "within ",.int d]=some (("within " : Str)++nS d):=by rw[zv (3:) (3:),Str.empty_append,yT sd (by rw[Str.length_append,zq.2.2.2.2.1];exact qu (by show 7+(nS d).length<=_;omega)),yS]
  have fs:qaK pg.cs (.val (ruI ⟨.wi,l,m,d⟩)) "span" = some (.int d):=rfl;have c:clK pg (k+1) "line_of" [.val (.str (("within " : Str)++nS d)),.val (ruI ⟨.wi,l,m,d⟩)]=.ok (.val (.str (yK (("within " : Str)++nS d) ⟨.wi,l,m,d⟩))):=c;show clK pg (k+2) "Within.line" [.val (ruI ⟨.wi,l,m,d⟩)]=.ok (.val (.str (yK (("within " : Str)++nS d) ⟨.wi,l,m,d⟩)));generalize ruI ⟨.wi,l,m,d⟩=x at *;rw[Yx];simp?![yc,cs,fs,f,c]
 |si=>
  have f:JN Str.empty [.str "since ",.int d]=some (("since " : Str)++nS d):=by rw[zv (3:) (3:),Str.empty_append,yT sd (by rw[Str.length_append,zq.2.2.2.2.2.1];exact qu (by show 6+(nS d).length<=_;omega)),yS]
  have fs:qaK pg.cs (.val (ruI ⟨.si,l,m,d⟩)) "leave" = some (.int d):=rfl;have c:clK pg (k+1) "line_of" [.val (.str (("since " : Str)++nS d)),.val (ruI ⟨.si,l,m,d⟩)]=.ok (.val (.str (yK (("since " : Str)++nS d) ⟨.si,l,m,d⟩))):=c;show clK pg (k+2) "Since.line" [.val (ruI ⟨.si,l,m,d⟩)]=.ok (.val (.str (yK (("since " : Str)++nS d) ⟨.si,l,m,d⟩)));generalize ruI ⟨.si,l,m,d⟩=x at *;rw[QG];simp?![yz,cs,fs,f,c]
 |ro=>have c:clK pg (k+1) "line_of" [.val (.str "row"),.val (ruI ⟨.ro,l,m,d⟩)]=.ok (.val (.str (yK "row" ⟨.ro,l,m,d⟩))):=c;show clK pg (k+2) "InRow.line" [.val (ruI ⟨.ro,l,m,d⟩)]=.ok (.val (.str (yK "row" ⟨.ro,l,m,d⟩)));generalize ruI ⟨.ro,l,m,d⟩=x at *;rw[QH];simp?![yA,c]
def jJ{a b:Str}(ha:PyData.strOk a=true)(hb:PyData.strOk b=true):PyData.strOk (a++b)=true:=by unfold PyData.strOk at *;rw[Str.cps_append,Array.all_append,ha,hb];rfl
def qag{n:Int}(h:NumOk n):PyData.strOk (nS n)=true:=by
 unfold PyData.strOk;rw[<-Array.all_toList,List.all_eq_true];intro c hc
 have:=qd0 h c hc
 unfold qjQ at this;rw[decide_eq_true_eq];omega
def qcs{p:Str×Int}(h:LnOk p):PyData.strOk (ym p)=true:=jJ (jJ (qdY h.nm) (3:)) (qag ⟨by have:=h.one;omega,by have:=h.nine;omega⟩)
theorem qah:∀(l:List (Str×Int)),(∀p∈l,LnOk p)->PyData.strOk (JY l)=true
 |[],_=>(3:)
 |[p],h=>qcs (h p (5:))
 | p::q::l,h=>by have ih:=qah (q::l) λx hx=>h x (by simp![List.mem_cons]at hx ⊢;exact .inr hx);exact jJ (jJ (qcs (h p (5:))) (3:)) ih
def qgX{r:Ru}(hr:R12 r):PyData.strOk (Yz r)=true:=by
 unfold Yz;cases r.kd
 ·exact jJ (3:) (qag hr.days)
 ·exact jJ (3:) (qag hr.days)
 ·show PyData.strOk "row" = true
  decide+kernel
def qgY{r:Ru}(hr:R12 r):PyData.strOk (yK (Yz r) r)=true:=jJ (jJ (jJ (jJ (qgX hr) (3:)) (qag hr.most)) (3:)) (qah _ hr.ok)
open CH BO
abbrev aR:Addr:=79
abbrev aP:Addr:=98
def qlF:D->Bool
 |.int _=>true
 |_=>false
def qct(k:Nat)(d:D)(h:plB d=true):clK pg (k+1) "is_whole" [.val d]=.ok (.val (.bl (qlF d))):=by
 rw[r_is_whole]
 cases d<;>first|exact Bool.noConfusion h|simp?![yi,qlF]
def qgZ(d:D)(a b:Int):Bool:=match d with
 |.int n=>DG.btw n a b
 |_=>false
theorem jS(k:Nat)(d:D)(a b:Int)(h:plB d=true):clK pg (k+2) "is_between" [.val d,.val (.int a),.val (.int b)]=.ok (.val (.bl (qgZ d a b))):=by
 have w:=qct k d h;rw[r_is_between]
 cases d with
 |int n=>
  have w:clK pg (k+1) "is_whole" [.val (.int n)]=.ok (.val (.bl true)):=w;unfold qgZ DG.btw
  by_cases h1:a<=n
  ·by_cases h2:n<=b
   ·simp?![qL,w,h1,h2,decide_true,Bool.and_self]
   ·simp?![qL,w,h1,h2,decide_true,decide_false,Bool.and_false]
  ·simp?![qL,w,h1,decide_false,Bool.false_and]
 |ins c ns l=>cases h
 |exc c ns l=>cases h
 |dct ks l=>cases h
 |_=>simp?![qL,w,qlF,qgZ]
def qcu(a b:D):Bool:=match a,b with
 |.int x,.int y=>DG.btw x 0 1000000000&&DG.btw y 0 1000000000&&decide (x<=y)
 |_,_=>false
theorem qd4(k:Nat)(a b:D)(ha:zE a=true)(hb:zE b=true):clK pg (k+3) "are_days" [.val a,.val b]=.ok (.val (.bl (qcu a b))):=by
 have pa:plB a=true:=by cases a<;>first|rfl|cases ha
 have pb:plB b=true:=by cases b<;>first|rfl|cases hb
 have w:=jS k a 0 1000000000 pa;have v:=jS k b 0 1000000000 pb;rw[r_are_days]
 cases e1:qgZ a 0 1000000000 with
 |false=>
  have q:qcu a b=false:=by
   cases a with
   |int x=>
    have e1:DG.btw x 0 1000000000=false:=e1
    cases b with
    |int y=>show(DG.btw x 0 1000000000&&_&&_)=false;rw[e1];rfl
    |_=>rfl
   |_=>rfl
  rw[e1]at w;simp?![jx,w,q]
 |true=>
  rw[e1]at w
  cases a with
  |int x=>
   have e1:DG.btw x 0 1000000000=true:=e1
   cases e2:qgZ b 0 1000000000 with
   |false=>
    have q:qcu (.int x) b=false:=by
     cases b with
     |int y=>have e2:DG.btw y 0 1000000000=false:=e2;show(DG.btw x 0 1000000000&&DG.btw y 0 1000000000&&_)=false;rw[e2,Bool.and_false];rfl
     |_=>rfl
    rw[e2]at v;simp?![jx,w,v,q]
   |true=>
    rw[e2]at v
    cases b with
    |int y=>
     have e2:DG.btw y 0 1000000000=true:=e2
     have q:qcu (.int x) (.int y)=decide (x<=y):=by show(DG.btw x 0 1000000000&&DG.btw y 0 1000000000&&decide (x<=y))=_;rw[e1,e2];rfl
     simp?![jx,w,v,q]
    |_=>cases e2
  |_=>cases e1
theorem qcv(k:Nat)(n:Int)(d:D)(h:jl d=true):clK pg (k+4) "is_paper" [.val d,.val (.int n)]=.ok (.val (.bl (qE n d))):=by
 rw[r_is_paper]
 cases d with
 |tup l=>
  by_cases l3:l.length=3
  ·match l,l3 with
   |[a,b,c],_=>
    have h:(zE a&&zE b&&zE c)=true:=h;simp![Bool.and_eq_true]at h;have pa:plB a=true:=by cases a<;>first|rfl|cases h.1.1
    have e0:atI [a,b,c] 0=some a:=by rfl
    have e1:atI [a,b,c] 1=some b:=by rfl
    have e2:atI [a,b,c] 2=some c:=by rfl
    have w:clK pg (k+3) "is_between" [.val a,.val (.int 0),.val (.int (n - 1))]=_:=jS (k+1) a 0 (n - 1) pa;have v:=qd4 k b c h.1.2 h.2
    have q:qE n (.tup [a,b,c])=(qgZ a 0 (n - 1)&&qcu b c):=by
     cases a with
     |int o=>cases b with
      |int x=>cases c with
       |int y=>show(DG.btw o 0 (n - 1)&&DG.btw x 0 1000000000&&DG.btw y 0 1000000000&&decide (x<=y))=(DG.btw o 0 (n - 1)&&(DG.btw x 0 1000000000&&DG.btw y 0 1000000000&&decide (x<=y)));simp![Bool.and_assoc]
       |_=>exact(Bool.and_false _).symm
      |_=>exact(Bool.and_false _).symm
     |_=>rfl
    rw[q];have z3:((((0+1+1+1:Nat):Int) == 3)=true):=rfl
    cases e:qgZ a 0 (n - 1) with
    |false=>rw[e]at w;simp?![zK,e0,e1,e2,qF,w,z3,Bool.false_and]
    |true=>rw[e]at w;simp?![zK,e0,e1,e2,qF,w,v,z3,Bool.true_and]
  ·have e3:eqD (.int (l.length:Int)) (.int 3)=some false:=by
    rw[qF]
    congr 1
    exact beq_false_of_ne (by omega)
   have q:qE n (.tup l)=false:=by
    cases e:qE n (.tup l) with
    |false=>rfl
    |true=>let(o,x,y,e,_):=Jp e;cases e;exact absurd rfl l3
   simp?![zK,e3,q,Bool.not_false]
 |ins c ns l=>cases h
 |exc c ns l=>cases h
 |dct ks l=>cases h
 |_=>simp?![zK,qE]
def mkx(d:D)(h:qgc d=true):mkX true pg.cs "NoPaper" [d]=.exc aP [("number",d)]:=by
 have e:pg.cs.xn "NoPaper" = some (["number"]:List Str):=by rfl
 unfold mkX;rw[e]
 have c:(true&&decide ([d].length=(["number"]:List Str).length)&&decide ([d].length<=sizeLine) && [d].all qgc)=true:=by rw[List.all_cons,h];rfl
 exact(if_pos c).trans rfl
def qlG{i:Nat}(h:i < 100000):qgc (.int (i:Int))=true:=by
 refine decide_eq_true ?_;show(i:Int).natAbs.log2 < 1920;rw[Int.natAbs_natCast]
 by_cases hz:i=0
 ·subst hz;decide
 ·exact Nat.lt_trans ((Nat.log2_lt hz).mpr (Nat.lt_trans h (by decide:100000 < 2 ^ 17))) (2:)
theorem jt(k:Nat)(v:Sl)(n:Int):∀(l:List D) (i:Nat) (s2 s3:Sl),l.all jl=true->i+l.length < 10000->∃F,JS (pg.kk (k+4)) 1000 (.many [2,3]) zf (enF i l) [v,.val (.int n),s2,s3]=F/\(jO n i l=none->∃s s',F=.ok (.next [v,.val (.int n),s,s']))/\(∀j,jO n i l=some j->F=.exc aP [("number",.int (j:Int))])
 |[],i,s2,s3,_,_=>{_,rfl,λ_=>⟨s2,s3,rfl⟩,λj h=>by cases h}
 | d::l,i,s2,s3,h,hl=>by
  rw[List.all_cons,Bool.and_eq_true]at h;rw[List.length_cons]at hl;have w:=qcv k n d h.1;have cs:(pg.kk (k+4)).cs=pg.cs:=rfl;unfold jO
  cases e:qE n d with
  |true=>rw[e]at w;let(F,ih,a,b):=jt k v n l (i+1) (.val (.int i)) (.val d) h.2 (by omega);refine{F,?_,λz=>a (by rwa[if_pos rfl]at z),λj z=>b j (by rwa[if_pos rfl]at z)};rw[enF];simp?[zw,w,ih];exact qv _
  |false=>rw[e]at w;refine{_,rfl,(λz=>by rw[if_neg (2:)]at z;cases z),λj z=>?_};rw[if_neg (2:)]at z;cases z;have m:=mkx (.int (i:Int)) (qlG (by omega));rw[enF];simp?[zw,w,cs,m]
theorem ju(k:Nat)(n:Int)(b:Ar):(∀l,qm aP n b=.ok l->clK pg (k+5) "check_papers" [b,.val (.int n)]=.ok (.val .non))/\(∀C x,qm aP n b=.exc C x->clK pg (k+5) "check_papers" [b,.val (.int n)]=.exc C x):=by
 have cs:(pg.kk (k+4)).cs=pg.cs:=rfl;have m0:=mkx .non rfl
 have lists:∀(bb:Bool) (l:List D),b=aL bb l->(∀l',qm aP n b=.ok l'->clK pg (k+5) "check_papers" [b,.val (.int n)]=.ok (.val .non))/\(∀C x,qm aP n b=.exc C x->clK pg (k+5) "check_papers" [b,.val (.int n)]=.exc C x):=λbb l e=>by
  subst e;have ar:arL (aL bb l)=some l:=by cases bb<;>rfl
  unfold qm;rw[ar];dsimp only
  by_cases g:(l.all jl&&decide (l.length<=1000))=true
  ·rw[if_pos g];simp![Bool.and_eq_true,decide_eq_true_eq]at g;let(F,e,a,c):=jt k (pS bb l) n l 0 .no .no g.1 (by omega);rw[r_check_papers]
   cases q:jO n 0 l with
   |some j=>rw[c j q]at e;refine{(λl' z=>by cases z),λC x z=>?_};cases z;simp?![qI,Yq,e]
   |none=>
    let(s,s',rfl):=a q;dsimp only
    by_cases h12:12 < l.length
    ·have h2:(12:Int) < (l.length:Int):=by omega
     rw[if_pos h12];refine{(λl' z=>by cases z),λC x z=>?_};cases z;simp?![qI,Yq,e,h2,decide_true,cs,m0]
    ·have h2:¬ (12:Int) < (l.length:Int):=by omega
     rw[if_neg h12];refine{λl' z=>?_,λC x z=>by cases z};simp?![qI,Yq,e,h2]
  ·rw[if_neg g];exact{(λl' z=>by cases z),λC x z=>by cases z}
 cases b with
 |bor l=>exact lists true l rfl
 |scr l=>exact{(λl' z=>by cases z),λC x z=>by cases z}
 |val d=>
  have no:noL d=true->arL (.val d)=none->(∀l',qm aP n (.val d)=.ok l'->clK pg (k+5) "check_papers" [.val d,.val (.int n)]=.ok (.val .non))/\(∀C x,qm aP n (.val d)=.exc C x->clK pg (k+5) "check_papers" [.val d,.val (.int n)]=.exc C x):=λh ar=>by
   unfold qm;rw[ar];dsimp only;rw[if_pos h];refine{(λl' z=>by cases z),λC x z=>?_};cases z;rw[r_check_papers]
   cases d<;>first|exact Bool.noConfusion h|simp?![qI,cs,m0]
  cases d with
  |lst l=>exact lists false l rfl
  |ins c ns l=>exact{(λl' z=>by cases z),λC x z=>by cases z}
  |exc c ns l=>exact{(λl' z=>by cases z),λC x z=>by cases z}
  |dct ks l=>exact{(λl' z=>by cases z),λC x z=>by cases z}
  |_=>exact no rfl rfl
end K14
namespace K14
open PySem L2 DE DG FA
open LC LN LM CH BO
def i_w(c:Str)(ns:List Str)(ds:List D)(h:rk' c=true):YK pg.cs (.val (.ins c ns ds)) "Within" = some (c == "Within"):=by show(if (rk' c&&true)=true then _ else _)=_;rw[h];rfl
def i_s(c:Str)(ns:List Str)(ds:List D)(h:rk' c=true):YK pg.cs (.val (.ins c ns ds)) "Since" = some (c != "Within" && c != "Rule"):=by show(if (rk' c&&false)=true then _ else if (rk' c&&true)=true then _ else _)=_;rw[h];rfl
def i_p(d:D)(h:plB d=true):YK pg.cs (.val d) "Within" = some false/\YK pg.cs (.val d) "Since" = some false:=by cases d<;>first|exact Bool.noConfusion h|exact⟨rfl,rfl⟩
theorem qcx{d:D}(h:Jq d=some true):∃c ns ds,d=.ins c ns ds/\rk c=true:=by
 cases d with
 |ins c ns ds=>
  refine{c,ns,ds,rfl,?_};have h:(if rk c=true then some true else if c = "Rule" then some false else none)=some true:=h
  by_cases q:rk c=true
  ·exact q
  ·rw[if_neg q]at h
   split at h<;>cases h
 |_=>cases h
theorem qg0{d:D}(h:Jq d=some false):(∃ns ds,d=.ins "Rule" ns ds)\/plB d=true:=by
 cases d with
 |ins c ns ds=>
  have h:(if rk c=true then some true else if c = "Rule" then some false else none)=some false:=h
  by_cases q:rk c=true
  ·rw[if_pos q]at h;cases h
  ·rw[if_neg q]at h
   by_cases q2:c = "Rule"
   ·subst q2;exact .inl ⟨ns,ds,rfl⟩
   ·rw[if_neg q2]at h;cases h
 |exc c ns l=>cases h
 |dct ks l=>cases h
 |_=>exact .inr rfl
theorem jK(k:Nat)(v:Sl):∀(l:List D) (s1:Sl) (x:Bool),ruT l=some x->∃F,JS (pg.kk k) 1000 (.one 1) zX l [v,s1]=.ok F/\(x=true->∃s1',F=.next [v,s1'])/\(x=false->F=.ret (.val (.bl false)))
 |[],s1,x,h=>{_,rfl,λ_=>⟨s1,rfl⟩,λe=>by subst e;cases h}
 | d::l,s1,x,h=>by
  have cs:(pg.kk k).cs=pg.cs:=rfl;unfold ruT at h
  cases e:Jq d with
  |none=>rw[e]at h;cases h
  |some t=>
   rw[e]at h
   cases t with
   |true=>
    let(F,ih,a,b):=jK k v l (.val d) x h;refine{F,?_,a,b};let(c,ns,ds,rfl,hk):=qcx e;have hk':rk' c=true:=by unfold rk';rw[hk];rfl
    have i1:=i_w c ns ds hk';have i2:=i_s c ns ds hk'
    have nr:(c != "Rule")=true:=by rw[bne_iff_ne];rintro rfl;exact absurd hk (2:)
    rw[nr,Bool.and_true]at i2;refine(qv _).symm.trans ?_
    by_cases hw:(c == "Within")=true
    ·rw[hw]at i1;simp?![zl,cs,i1,ih]
    ·have hw:(c == "Within")=false:=(-hw:)
     have hn:(c != "Within")=true:=by simp[bne,hw]
     rw[hw]at i1;rw[hn]at i2;simp?![zl,cs,i1,i2,ih]
   |false=>
    have h:some false=some x:=h;cases h;refine{_,?_,(λz=>by cases z),λ_=>rfl}
    let(i1,i2):YK pg.cs (.val d) "Within" = some false/\YK pg.cs (.val d) "Since" = some false:=by
     rcases qg0 e with ⟨ns,ds,rfl⟩|hp
     ·exact{i_w "Rule" ns ds rfl,i_s "Rule" ns ds rfl}
     ·exact i_p d hp
    simp?[zl,cs,i1,i2]
theorem yB(k:Nat)(a:Ar)(x:Bool)(h:qG a=some x):clK pg (k+1) "are_rules" [a]=.ok (.val (.bl x)):=by
 rw[r_are_rules]
 have lists:∀(b:Bool) (l:List D),(if 8 < l.length then some false else ruT l)=some x->runD (pg.kk k) 1000 qJ [aL b l]=.ok (.val (.bl x)):=λb l h=>by
  by_cases h8:8 < l.length
  ·have h2:(8:Int) < (l.length:Int):=by omega
   rw[if_pos h8]at h;cases h;simp?![qJ,h2]
  ·have h2:¬ (8:Int) < (l.length:Int):=by omega
   rw[if_neg h8]at h;let(F,e,p,q):=jK k (pS b l) l .no x h
   cases x with
   |true=>let(s,rfl):=p rfl;simp?![qJ,h2,e]
   |false=>rw[q rfl]at e;simp?![qJ,h2,e]
 cases a with
 |bor l=>exact lists true l h
 |scr l=>cases h
 |val d=>
  cases d with
  |lst l=>exact lists false l h
  |ins c ns l=>let(hi,h2):=Yh (show(if (false||(rk c||c == "Rule"))=true then some false else none)=some x from h);cases h2;have cs:(pg.kk k).cs=pg.cs:=rfl;have it:qk6 pg.cs (.val (.ins c ns l))=some false:=if_pos hi;simp?![qJ,cs,it]
  |exc c ns l=>cases h
  |dct ks l=>cases h
  |_=>cases h;simp?![qJ]
open Dy
open SP
def Zs(k:Nat)(a b:Ar):(pg.kk (k+12)).nw "Book" [a,b]=nwB aR aP [a,b]:=by show(if k+12 < 12 then R.no else nwB aR aP [a,b])=_;rw[if_neg (by omega)]
def qjS(r:Ru):Jq (ruI r)=some true:=by let(kd,l,m,d):=r;cases kd<;>rfl
theorem qcy:∀rs:List Ru,ruT (rs.map ruI)=some true
 |[]=>rfl
 | r::rs=>by rw[List.map_cons];unfold ruT;rw[qjS];exact qcy rs
def JG(b:Bool)(l:List D):arL (aL b l)=some l:=by cases b<;>rfl
def QL(b:Bool)(rs:List Ru)(h:rs.length<=8):qG (aL b (rs.map ruI))=some true:=by unfold qG;rw[JG];dsimp only;rw[if_neg (by rw[List.length_map];omega),qcy]
structure PaOk(m:Int)(p:Pa):Prop where
 o0:0<=p.1
 o1:p.1 < m
 a0:0<=p.2.1
 ab:p.2.1<=p.2.2
 b1:p.2.2<=1000000000
def qe0{m:Int}{p:Pa}(h:PaOk m p):qE m (paD p)=true:=by have h1:=h.o0;have h2:=h.o1;have h3:=h.a0;have h4:=h.ab;have h5:=h.b1;show(btw p.1 0 (m - 1)&&btw p.2.1 0 1000000000&&btw p.2.2 0 1000000000&&decide (p.2.1<=p.2.2))=true;unfold btw;simp![Bool.and_eq_true,decide_eq_true_eq];omega
def qkv(ps:List Pa):(ps.map paD).all jl=true:=by rw[List.all_eq_true];intro d hd;let(p,_,rfl):=List.mem_map.mp hd;rfl
theorem YA{m:Int}:∀(ps:List Pa) (i:Nat),(∀p∈ps,PaOk m p)->jO m i (ps.map paD)=none
 |[],_,_=>rfl
 | p::ps,i,h=>by rw[List.map_cons];unfold jO;rw[if_pos (qe0 (h p (5:))),YA ps (i+1) λq hq=>h q (by simp[hq])]
theorem qe1{m:Int}(x:D)(r:List D)(hx:qE m x=false):∀(ps:List Pa) (i:Nat),(∀p∈ps,PaOk m p)->jO m i (ps.map paD++x::r)=some (i+ps.length)
 |[],i,_=>by show(if qE m x=true then _ else some i)=_;rw[if_neg (by rw[hx];decide)];rfl
 | p::ps,i,h=>by
  rw[List.map_cons,List.cons_append];unfold jO;rw[if_pos (qe0 (h p (5:))),qe1 x r hx ps (i+1) λq hq=>h q (by simp[hq]),List.length_cons]
  congr 1
  omega
def qcz{m:Int}(c:Bool)(ps:List Pa)(h:∀p∈ps,PaOk m p)(h12:ps.length<=12):qm aP m (aL c (ps.map paD))=.ok (ps.map paD):=by unfold qm;rw[JG];dsimp only;rw[if_pos (by rw[qkv,List.length_map,decide_eq_true (by omega)];rfl),YA ps 0 h];dsimp only;rw[if_neg (by rw[List.length_map];omega)]
def qaY{m:Int}(c:Bool)(ps:List Pa)(h:∀p∈ps,PaOk m p)(x:D)(r:List D)(hx:qE m x=false)(hg:(x::r).all jl=true)(hl:ps.length+r.length < 999):qm aP m (aL c (ps.map paD++x::r))=.exc aP [("number",.int (ps.length:Int))]:=by unfold qm;rw[JG];dsimp only;rw[if_pos (by rw[List.all_append,qkv,hg,decide_eq_true (by simp;omega)];rfl),qe1 x r hx ps 0 h,Nat.zero_add]
def Zt{m:Int}(c:Bool)(ps:List Pa)(h:∀p∈ps,PaOk m p)(h12:12 < ps.length)(hl:ps.length<=1000):qm aP m (aL c (ps.map paD))=.exc aP [("number",.non)]:=by unfold qm;rw[JG];dsimp only;rw[if_pos (by rw[qkv,List.length_map,decide_eq_true hl];rfl),YA ps 0 h];dsimp only;rw[if_pos (by rw[List.length_map];omega)]
def qcA(b c:Bool)(rs:List Ru)(ps:List Pa)(hr:rs.length<=8)(h:∀p∈ps,PaOk rs.length p)(h12:ps.length<=12):nwB aR aP [aL b (rs.map ruI),aL c (ps.map paD)]=.ok (.val (bkI rs ps)):=by unfold nwB;dsimp only;rw[QL b rs hr];dsimp only;rw[JG];simp![of_some,th_ok,List.length_map];rw[qcz c ps h h12];rfl
def qg1(a b:Ar)(h:qG a=some false):nwB aR aP [a,b]=.exc aR []:=by unfold nwB;dsimp only;rw[h]
def qjT(b:Bool)(rs:List Ru)(c:Ar)(hr:rs.length<=8){C:Addr}{x:List (Str×D)}(h:qm aP rs.length c=.exc C x):nwB aR aP [aL b (rs.map ruI),c]=.exc C x:=by unfold nwB;dsimp only;rw[QL b rs hr];dsimp only;rw[JG];simp![of_some,th_ok,List.length_map];rw[h];rfl
def qcB(rs:List Ru)(ps:List Pa):qaK pg.cs (.val (bkI rs ps)) "kept_rules" = some (.lst (rs.map ruI)):=rfl
def JZ(rs:List Ru)(ps:List Pa):qaK pg.cs (.val (bkI rs ps)) "kept_papers" = some (.lst (ps.map paD)):=rfl
def QM(k:Nat)(rs:List Ru)(ps:List Pa):clK pg (k+1) "Book.rules" [.val (bkI rs ps)]=.ok (.tmp (rs.map ruI)):=by have cs:(pg.kk k).cs=pg.cs:=rfl;have f:=qcB rs ps;rw[r_Book_rules];generalize bkI rs ps=x at *;simp?![yu,cs,f]
def YB(k:Nat)(rs:List Ru)(ps:List Pa):clK pg (k+1) "Book.papers" [.val (bkI rs ps)]=.ok (.tmp (ps.map paD)):=by have cs:(pg.kk k).cs=pg.cs:=rfl;have f:=JZ rs ps;rw[r_Book_papers];generalize bkI rs ps=x at *;simp?![j8,cs,f]
def YC(k:Nat)(rs:List Ru)(ps:List Pa)(n:Int)(hl:ps.length < 64):clK pg (k+2) "Book.lifted" [.val (bkI rs ps),.val (.int n)]=.ok (.tmp ((lift n ps).map pD)):=by
 have i:=jR (pg.kk (k+1)) n ps [] .no .no .no (by simp;omega);have s:=qco (pg:=pg) k false (ofN n ps) (Nat.lt_trans (Nat.lt_of_le_of_lt (Zq n ps) hl) (2:));have hs:(ps.map paD).length<=sizeLine:=by rw[List.length_map];exact qcn (by omega)
 have cs:(pg.kk (k+1)).cs=pg.cs:=rfl;have f:=JZ rs ps;simp![qne,qnf]at s;rw[List.map_nil,List.nil_append]at i;rw[r_Book_lifted];generalize bkI rs ps=x at *;simp?![j9,cs,f,ZZ,List.getD_cons_succ,List.getD_cons_zero,hs,i,s,lift]
def qg2(a:List D)(x:D):atI (a++[x]) (((a++[x]).length:Int) - 1)=some x:=by rw[show(((a++[x]).length:Int) - 1)=((a.length:Nat):Int) by simp];exact qhp (by rw[List.getElem?_append_right (Nat.le_refl _),Nat.sub_self];rfl)
def qg3(a:List D)(x:D):ixN (a++[x]).length (((a++[x]).length:Int) - 1)=some a.length:=by
 unfold ixN;rw[List.length_append,List.length_singleton,if_pos (by omega),if_pos (by omega)]
 congr 1
 omega
theorem YD:∀l:List (Int×Int),QS (l.map pD)=true/\Qu (l.map pD)<=1
 |[]=>by simp[QS,Qu]
 | p::l=>by let(a,b):=YD l;rw[List.map_cons,jQ];refine{by simp[QS,okD,a],?_};simp![Qu,dpD];omega
theorem Jv(cl:Cl)(v0 v1:Sl):∀(ps acc:List (Int×Int)) (s2 s3:Sl),acc.length+ps.length < 10000->∃s2' s3',JS cl 1000 (.many [3,4]) zo (ps.map pD) [v0,v1,.own (acc.map pD),s2,s3]=.ok (.next [v0,v1,.own ((ps.foldl stp acc).map pD),s2',s3'])
 |[],acc,s2,s3,_=>⟨s2,s3,rfl⟩
 | p::ps,acc,s2,s3,hl=>by
  rw[List.length_cons]at hl
  have:=Zp acc p
  let(s2',s3',ih):=Jv cl v0 v1 ps (stp acc p) (.val (.int p.1)) (.val (.int p.2)) (by omega);refine{s2',s3',?_};have hs:acc.length < sizeLine:=zp (by omega);have two:0+1+1<=sizeLine:=(3:)
  have zero:0<=sizeLine:=(3:)
  let(o1,o2):=YD acc;have en:=qgJ o1 (by omega);rw[List.foldl_cons];rcases Zn acc with rfl|⟨a,l,rfl⟩
  ·rw[Zm]at ih ⊢;simp![List.map_cons,List.map_nil,jQ]at ih;have en:eqD (.lst []) (.lst [])=some true:=en;simp?[qT,jQ,en,Bool.not_true,two,zero,show(0:Nat) < sizeLine by decide+kernel,ih]
  ·have en:eqD (.lst (a.map pD++[.tup [.int l.1,.int l.2]])) (.lst [])=some false:=by
    rw[List.map_append]at en;exact en.trans (5:)
   have al:=qg2 (a.map pD) (.tup [.int l.1,.int l.2]);have il:=qg3 (a.map pD) (.tup [.int l.1,.int l.2]);have b0:atI [D.int l.1,D.int l.2] 0=some (.int l.1):=by rfl
   have b1:atI [D.int l.1,D.int l.2] 1=some (.int l.2):=by rfl
   rw[Yy]at ih ⊢
   by_cases hc:p.1<=l.2+1
   ·rw[if_pos hc]at ih ⊢;simp![List.map_append,List.map_cons,List.map_nil,jQ]at ih;simp?[qT,jQ,List.map_append,en,al,il,b0,b1,Bool.not_false,hc,two,zero,ih]
   ·rw[if_neg hc]at ih ⊢;simp![List.map_append,List.map_cons,List.map_nil,jQ]at ih;have hs':(a.map pD++[D.tup [.int l.1,.int l.2]]).length < sizeLine:=(-hs:)
    simp?[qT,jQ,List.map_append,en,al,b1,Bool.not_false,hc,two,zero,hs',ih]
theorem jT(cl:Cl)(n:Int):∀(ps:List Pa) (acc:List (Int×Int)) (s0:Sl),acc.length+ps.length < 10000->jc cl zn (.one 0) (.test (.cmp .Eq (.idx (.var 0) (.con (.int 0))) (.var 1))) (ps.map paD) [s0,.val (.int n)] (acc.map pD)=.ok ((acc++ofN n ps).map pD)
 |[],acc,s0,_=>by simp[ofN,j7]
 | p::ps,acc,s0,hl=>by
  rw[List.length_cons]at hl;have two:0+1+1<=sizeLine:=(3:)
  have hs:(acc.map pD).length < sizeLine:=by rw[List.length_map];exact zp (by omega)
  have a0:atI [D.int p.1,D.int p.2.1,D.int p.2.2] 0=some (.int p.1):=by rfl
  have a1:atI [D.int p.1,D.int p.2.1,D.int p.2.2] 1=some (.int p.2.1):=by rfl
  have a2:atI [D.int p.1,D.int p.2.1,D.int p.2.2] 2=some (.int p.2.2):=by rfl
  cases hc:(p.1 == n) with
  |true=>
   have ih:=jT cl n ps (acc++[(p.2.1,p.2.2)]) (.val (paD p)) (by simp;omega);have e:ofN n (p::ps)=(p.2.1,p.2.2)::ofN n ps:=by simp[ofN,hc]
   rw[e];simp![List.map_append,List.map_cons,List.map_nil,jQ,yd,List.append_assoc,List.cons_append,List.nil_append]at ih ⊢;simp?[zO,yd,qF,a0,a1,a2,hc,two,hs,ih]
  |false=>
   have ih:=jT cl n ps acc (.val (paD p)) (by omega);have e:ofN n (p::ps)=ofN n ps:=by simp[ofN,hc]
   rw[e];simp![yd]at ih;rw[List.map_cons];simp?[zO,yd,qF,a0,a1,a2,hc,two,hs,ih]
def qcC(k:Nat)(b:Bool)(ps:List Pa)(n:Int)(hl:ps.length < 64):clK pg (k+1) "_law_joined" [aL b (ps.map paD),.val (.int n)]=.ok (.tmp ((lift n ps).map pD)):=by
 have i:=jT (pg.kk k) n ps [] .no (by simp;omega);rw[List.map_nil,List.nil_append]at i;have hs:(ps.map paD).length<=sizeLine:=by rw[List.length_map];exact qcn (by omega)
 have hn:=Zq n ps;have hl':(jz (ofN n ps)).length < 10000:=by unfold jz;rw[List.length_mergeSort];omega
 let(s2,s3,e):=Jv (pg.kk k) (pS b (ps.map paD)) (.val (.int n)) (jz (ofN n ps)) [] .no .no (-hl':);rw[List.map_nil]at e;have h4:(ofN n ps).length < 4000:=by omega
 rw[Yw];simp?![ya,show(0:Nat)<=sizeLine by decide+kernel,ZZ,List.getD_cons_succ,List.getD_cons_zero,hs,i,Ji,Zo,h4,e,lift,spr]
def qlH(r:Ru):List Ar:=match r.kd with
 |.ro=>[.val (.lst (r.lands.map lnD)),.val (.int r.most)]
 |_=>[.val (.lst (r.lands.map lnD)),.val (.int r.most),.val (.int r.days)]
theorem qlI(j:Nat)(r:Ru)(hr:R12 r):qcf aR aP (j+12) r.kd.cls (qlH r)=.ok (.val (ruI r)):=by
 have h1:DG.btw r.most 0 1000000000=true:=by have a:=hr.most.lo;have b:=hr.most.hi;unfold btw;rw[decide_eq_true a,decide_eq_true b];rfl
 have h2:DG.btw r.days 1 1000000000=true:=by have a:=hr.d1;have b:=hr.days.hi;unfold btw;rw[decide_eq_true a,decide_eq_true b];rfl
 have hl:=hr.lands;have hrow:=hr.row;let(kd,l,m,d):=r;have hl:qy (l.map lnD)=true:=hl;have h1:DG.btw m 0 1000000000=true:=h1;have h2:DG.btw d 1 1000000000=true:=h2;unfold qcf;rw[if_neg (by omega)]
 cases kd with
 |wi=>show Yt "Within" (if (qy (l.map lnD)&&DG.btw m 0 1000000000&&DG.btw d 1 1000000000)=true then _ else none)=_;rw[if_pos (by rw[hl,h1,h2];rfl)];rfl
 |si=>show Yt "Since" (if (qy (l.map lnD)&&DG.btw m 0 1000000000&&DG.btw d 1 1000000000)=true then _ else none)=_;rw[if_pos (by rw[hl,h1,h2];rfl)];rfl
 |ro=>show Yt "InRow" (if (qy (l.map lnD)&&DG.btw m 0 1000000000)=true then _ else none)=_;rw[if_pos (by rw[hl,h1];rfl)];have e:d=1:=hrow rfl;subst e;rfl
theorem qjU(k:Nat)(r:Ru)(hr:R12 r):clK pg (k+13) "_law_made" [.val (ruD r)]=.ok (.val (ruI r)):=by
 have nw:=qlI k r hr;have wn:(pg.kk (k+12)).nw=qcf aR aP (k+12):=rfl;have q1:eqD (.str "within") (.str "within")=some true:=(3:)
 have q2:eqD (.str "since") (.str "within")=some false:=(3:)
 have q3:eqD (.str "since") (.str "since")=some true:=(3:)
 have q4:eqD (.str "row") (.str "within")=some false:=(3:)
 have q5:eqD (.str "row") (.str "since")=some false:=(3:)
 let(kd,l,m,d):=r;rw[r__law_made]
 cases kd with
 |wi=>have nw:qcf aR aP (k+12) "Within" [.val (.lst (l.map lnD)),.val (.int m),.val (.int d)]=.ok (.val (ruI ⟨.wi,l,m,d⟩)):=nw;show runD _ _ _ [.val (.tup [.str "within",.lst (l.map lnD),.int m,.int d])]=.ok (.val (ruI ⟨.wi,l,m,d⟩));generalize ruI ⟨.wi,l,m,d⟩=X at *;simp?![zY,q1,wn,nw]
 |si=>have nw:qcf aR aP (k+12) "Since" [.val (.lst (l.map lnD)),.val (.int m),.val (.int d)]=.ok (.val (ruI ⟨.si,l,m,d⟩)):=nw;show runD _ _ _ [.val (.tup [.str "since",.lst (l.map lnD),.int m,.int d])]=.ok (.val (ruI ⟨.si,l,m,d⟩));generalize ruI ⟨.si,l,m,d⟩=X at *;simp?![zY,q2,q3,wn,nw]
 |ro=>have nw:qcf aR aP (k+12) "InRow" [.val (.lst (l.map lnD)),.val (.int m)]=.ok (.val (ruI ⟨.ro,l,m,d⟩)):=nw;show runD _ _ _ [.val (.tup [.str "row",.lst (l.map lnD),.int m,.int d])]=.ok (.val (ruI ⟨.ro,l,m,d⟩));generalize ruI ⟨.ro,l,m,d⟩=X at *;simp?![zY,q4,q5,wn,nw]
def at_mem{l:List D}{i:Int}(h0:0<=i)(h1:i < l.length):∃d∈l,atI l i=some d:=by
 let(n,rfl):=Int.eq_ofNat_of_zero_le h0;have hn:n < l.length:=by omega
 exact{l[n],List.getElem_mem hn,qhp (List.getElem?_eq_getElem hn)}
theorem qd5(k:Nat)(c m:Int)(hm:0 < m):∃p:Pa,PaOk m p/\clK pg (k+1) "_law_paper" [.val (.int c),.val (.int m)]=.ok (.val (paD p)):=by
 have mul:Q9 c 1099087573=true:=QB (2:) (2:);have hn:0<=c * 1099087573 % 10000000000037:=Int.emod_nonneg _ (2:);generalize hN:c * 1099087573 % 10000000000037=n at hn;have o0:0<=n % m:=Int.emod_nonneg _ (by omega);have o1:n % m < m:=Int.emod_lt_of_pos _ hm;have p9:(10:Int) ^ (9:Int).toNat=1000000000:=by decide
 have c9:(0:Int)<=9/\(9:Int)<=1000000/\(10:Int).natAbs < 2 ^ 64:=by decide
 have z4:0+1+1+1+1<=sizeLine:=(3:)
 have z3:0+1+1+1<=sizeLine:=(3:)
 let(w,hw,aw):∃w:Int,0 < w/\atI [D.int 1,D.int 4,D.int 20,D.int 1000000000] (n / 64 % 4)=some (.int w):=by
  let(d,hd,e):=at_mem (l:=[D.int 1,D.int 4,D.int 20,D.int 1000000000]) (i:=n / 64 % 4) (by omega) (by show _ < (4:Int);omega);simp![List.mem_cons,List.not_mem_nil,or_false]at hd;rcases hd with rfl|rfl|rfl|rfl
  ·exact{1,by decide,e}
  ·exact{4,by decide,e}
  ·exact{20,by decide,e}
  ·exact{1000000000,by decide,e}
 have l0:0<=n / 2400 % w:=Int.emod_nonneg _ (by omega);let(u,hu):∃u,n / 2400 % w=u:={_,rfl};rw[hu]at l0;rw[QE]
 have fin:∀f:Int,0<=f->f<=1000000000->PaOk m (n % m,f,if f+u < 1000000000 then f+u else 1000000000):=λf h0 h1=>by
  have g:∃v:Int,(if f+u < 1000000000 then f+u else 1000000000)=v/\f<=v/\v<=1000000000:=by
   by_cases c:f+u < 1000000000
   ·exact{f+u,if_pos c,by omega,by omega}
   ·exact{1000000000,if_neg c,h1,by omega}
  let(v,e,g1,g2):=g;rw[e];exact⟨o0,o1,h0,g1,g2⟩
 cases hb:(n / 480 % 5 == 0) with
 |true=>refine{_,fin (n / 2400 % 1000000001) (Int.emod_nonneg _ (2:)) (by have:=Int.emod_lt_of_pos (n / 2400) (show(0:Int) < 1000000001 by decide);omega),?_};simp![yd];simp?![jm,mul,hN,hm,hw,qF,hb,p9,c9,Int.reduceAdd,z4,z3,aw,hu]
 |false=>refine{_,fin (n / 8 % 60) (Int.emod_nonneg _ (2:)) (by omega),?_};simp![yd];simp?![jm,mul,hN,hm,hw,qF,hb,p9,c9,z4,z3,aw,hu]
def qe2(k:Nat)(c m:Int)(hm:1<=m):∃d,qE m d=false/\jl d=true/\clK pg (k+1) "_law_bad" [.val (.int c),.val (.int m)]=.ok (.val d):=by
 have p9:(10:Int) ^ (9:Int).toNat=1000000000:=by decide
 have c9:(0:Int)<=9/\(9:Int)<=1000000/\(10:Int).natAbs < 2 ^ 64:=by decide
 have f0:0<=c / 16 % 1000000000:=Int.emod_nonneg _ (2:);let(f,hf):∃f,c / 16 % 1000000000=f:={_,rfl};rw[hf]at f0;let(d,hd,e):=at_mem (l:=[.non,.tup [.int 0,.int 1],.tup [.int 0,.int 1,.int 2,.int 3],.lst [.int 0,.int 1,.int 2],.tup [.int m,.int 1,.int 2],.tup [.int (-1),.int 1,.int 2],.tup [.int 0,.int 2,.int 1],.tup [.int 0,.int (-1 - f),.int 2]]++[.tup [.int 0,.int 1,.int (1000000000+1+f)],.tup [.bl true,.int 1,.int 2],.tup [.int 0,.bl true,.int 2],.tup [.int 0,.int 1,.non],.tup [.str "0",.int 1,.int 2],.tup [.int 0,.int 1,.str "2"],.int 7]) (i:=c % 15) (Int.emod_nonneg _ (2:)) (by show _ < (15:Int);exact Int.emod_lt_of_pos _ (2:));refine{d,?_,?_,?_}
 ·cases q:qE m d with
  |false=>rfl
  |true=>exfalso;let(o,a,b,rfl,h1,h2,h3,h4,h5):=Jp q;clear e q;simp![List.mem_append,List.mem_cons,List.not_mem_nil,or_false]at hd;rcases hd with (h|h|h|h|h|h|h|h)|h|h|h|h|h|h|h<;>cases h<;>omega
 ·clear e;simp![List.mem_append,List.mem_cons,List.not_mem_nil,or_false]at hd;rcases hd with (rfl|rfl|rfl|rfl|rfl|rfl|rfl|rfl)|rfl|rfl|rfl|rfl|rfl|rfl|rfl<;>rfl
 ·have z:∀n,n<=100->n<=sizeLine:=λn h=>qu (by omega);simp![List.cons_append,List.nil_append]at e;rw[qaU];simp?![JW,p9,c9,hf,z,Nat.reduceLeDiff,List.length_cons,List.length_nil,List.cons_append,List.nil_append,Int.reduceNeg,e]
def qai(d:D):D:=.tup [.str "paper",d]
def arg?:Ar->Prop
 |.scr _=>False
 |_=>True
def qcD(k:Nat)(a b:Ar)(ha:arg? a)(hb:arg? b){C:Addr}{x:List (Str×D)}(h:nwB aR aP [a,b]=.exc C x){V:D}(hC:(C=aR/\x=[]/\V=.str "rule")\/(C=aP/\∃d,x=([("number",d)]:List (Str×D))/\V=qai d)):clK pg (k+13) "_law_refusal" [a,b]=.ok (.val V):=by
 have cs:(pg.kk (k+12)).cs=pg.cs:=rfl;have yy:(pg.kk (k+12)).y=true:=(decide_eq_true (show 12<=k+12 by omega):decide (12<=k+12)=true);have nw:(pg.kk (k+12)).nw "Book" [a,b]=.exc C x:=(Zs k a b).trans h;have z2:0+1+1<=sizeLine:=(3:)
 rw[JF];rcases hC with ⟨rfl,rfl,rfl⟩|⟨rfl,d,rfl,rfl⟩
 ·have ca:jC pg.cs 4 aR [] [("NoRule",3,2),("NoPaper",3,2)]=.ok (.next [.no,.no,.val (.exc aR [] []),.no]):=by rfl
  have i1:YK pg.cs (.val (.exc aR [] [])) "DayError" = some true:=by rfl
  have i2:YK pg.cs (.val (.exc aR [] [])) "ValueError" = some true:=by rfl
  have i3:YK pg.cs (.val (.exc aR [] [])) "NoRule" = some true:=by rfl
  have i4:YK pg.cs (.val (.exc aR [] [])) "NoPaper" = some false:=by rfl
  have a1:atI [D.str "both",D.str "rule"] 1=some (.str "rule"):=by rfl
  cases a with
  |scr l=>exact ha.elim
  |val d=>cases b with
   |scr l=>exact hb.elim
   |val e=>simp?![qp,yy,nw,cs,ca,i1,i2,i3,i4,z2,Bool.not_true,Bool.not_false,a1]
   |bor e=>simp?![qp,yy,nw,cs,ca,i1,i2,i3,i4,z2,Bool.not_true,Bool.not_false,a1]
  |bor l=>cases b with
   |scr l=>exact hb.elim
   |val e=>simp?![qp,yy,nw,cs,ca,i1,i2,i3,i4,z2,Bool.not_true,Bool.not_false,a1]
   |bor e=>simp?![qp,yy,nw,cs,ca,i1,i2,i3,i4,z2,Bool.not_true,Bool.not_false,a1]
 ·have ca:jC pg.cs 4 aP [("number",d)] [("NoRule",3,2),("NoPaper",3,2)]=.ok (.next [.no,.no,.val (.exc aP ["number"] [d]),.no]):=by rfl
  have i1:YK pg.cs (.val (.exc aP ["number"] [d])) "DayError" = some true:=by rfl
  have i2:YK pg.cs (.val (.exc aP ["number"] [d])) "ValueError" = some true:=by rfl
  have i3:YK pg.cs (.val (.exc aP ["number"] [d])) "NoRule" = some false:=by rfl
  have f1:qaK pg.cs (.val (.exc aP ["number"] [d])) "number" = some d:=by rfl
  cases a with
  |scr l=>exact ha.elim
  |val e=>cases b with
   |scr l=>exact hb.elim
   |val g=>simp?![qp,yy,nw,cs,ca,i1,i2,i3,f1,z2,Bool.not_true,Bool.not_false,qai]
   |bor g=>simp?![qp,yy,nw,cs,ca,i1,i2,i3,f1,z2,Bool.not_true,Bool.not_false,qai]
  |bor l=>cases b with
   |scr l=>exact hb.elim
   |val g=>simp?![qp,yy,nw,cs,ca,i1,i2,i3,f1,z2,Bool.not_true,Bool.not_false,qai]
   |bor g=>simp?![qp,yy,nw,cs,ca,i1,i2,i3,f1,z2,Bool.not_true,Bool.not_false,qai]
def YE(k:Nat)(a b:Ar)(ha:arg? a)(hb:arg? b)(h:qG a=some false):clK pg (k+13) "_law_refusal" [a,b]=.ok (.val (.str "rule")):=qcD k a b ha hb (qg1 a b h) (.inl ⟨rfl,rfl,rfl⟩)
def qjV(b:Bool)(l:List D):arg? (aL b l):=by cases b<;>trivial
def Jw(k:Nat)(b:Bool)(rs:List Ru)(hr:rs.length<=8)(c:Ar)(hc:arg? c)(d:D)(h:qm aP rs.length c=.exc aP [("number",d)]):clK pg (k+13) "_law_refusal" [aL b (rs.map ruI),c]=.ok (.val (qai d)):=qcD k _ c (qjV b _) hc (qjT b rs c hr h) (.inr ⟨rfl,d,rfl,rfl⟩)
def qU(r:Ru):D:=.str (yK (Yz r) r)
theorem jy{e:E}(he:∀{M:Type} (cl:Cl) (N:DE.Env) (K:D×DE.Env->R M),(zU e (iR cl e) N).th K=(zU (E.met (E.var 0) "line" Es.nil) (iR cl (E.met (E.var 0) "line" Es.nil)) N).th K)(k:Nat):∀(rs:List Ru) (acc:List D) (s0:Sl),(∀r∈rs,R12 r)->acc.length+rs.length < 1000->jc (pg.kk (k+2)) e (.one 0) .yes (rs.map ruI) [s0] acc=.ok (acc++rs.map qU)
 |[],acc,s0,_,_=>by simp[j7]
 | r::rs,acc,s0,h,hl=>by have hr:=h r (5:);rw[List.length_cons]at hl;have ih:=jy he k rs (acc++[qU r]) (.val (ruI r)) (λq hq=>h q (by simp[hq])) (by simp;omega);rw[List.append_assoc]at ih;have ln:=qgW k r hr;have mt:=qgV r;have cs:(pg.kk (k+2)).cs=pg.cs:=rfl;have sz:acc.length < sizeLine:=zp (by omega);rw[List.map_cons,List.map_cons];unfold qU at ih ⊢;generalize ruI r=x at *;generalize yK (Yz r) r=L at *;generalize qlE r=C at *;simp?[he,cs,mt,ln,sz,ih,List.singleton_append]
theorem qcE:∀l:List D,(∀d∈l,∃z,d=.str z/\PyData.strOk z=true)->QS l=true/\Qu l=0
 |[],_=>by simp[QS,Qu]
 | d::l,h=>by let(z,rfl,hz):=h d (5:);let(a,b):=qcE l λe he=>h e (by simp[he]);exact{by simp[QS,okD,hz,a],by simp[Qu,dpD,b]}
def qd6{rs:List Ru}(h:∀r∈rs,R12 r):eqD (.lst (rs.map qU)) (.lst (rs.map qU))=some true:=by
 let(a,b):=qcE (rs.map qU) λd hd=>by let(r,hr,rfl):=List.mem_map.mp hd;exact{_,rfl,qgY (h r hr)}
 exact yR (by rw[okD];exact a) (by rw[dpD];omega)
theorem qe3:∀ps:List Pa,QS (ps.map paD)=true/\Qu (ps.map paD)<=1
 |[]=>by simp[QS,Qu]
 | p::l=>by let(a,b):=qe3 l;rw[List.map_cons,yd];refine{by simp[QS,okD,a],?_};simp![Qu,dpD];omega
def qjW(ps:List Pa):eqD (.lst (ps.map paD)) (.lst (ps.map paD))=some true:=by let(a,b):=qe3 ps;exact yR (by rw[okD];exact a) (by rw[dpD];omega)
def qlJ(ps:List (Int×Int)):eqD (.lst (ps.map pD)) (.lst (ps.map pD))=some true:=by let(a,b):=YD ps;exact yR (by rw[okD];exact a) (by rw[dpD];omega)
def qmm(rs:List Ru)(ps:List Pa):mtD pg.cs (.val (bkI rs ps)) "rules" = some ("Book.rules" : Str)/\mtD pg.cs (.val (bkI rs ps)) "papers" = some ("Book.papers" : Str)/\mtD pg.cs (.val (bkI rs ps)) "lifted" = some ("Book.lifted" : Str):=⟨rfl,rfl,rfl⟩
theorem qaj:∀(l acc:List (Int×Int)),(l.foldl stp acc).length<=acc.length+l.length
 |[],acc=>Nat.le_refl _
 | p::l,acc=>by have h1:=Zp acc p;have h2:=qaj l (stp acc p);rw[List.foldl_cons,List.length_cons];omega
def qd7(n:Int)(ps:List Pa):((lift n ps).map pD).length<=ps.length:=by
 have h1:=qaj (jz (ofN n ps)) [];have h2:=Zq n ps;have h3:(jz (ofN n ps)).length=(ofN n ps).length:=by unfold jz;rw[List.length_mergeSort]
 rw[List.length_map];show((jz (ofN n ps)).foldl stp []).length<=_;simp![List.length_nil]at h1;omega
theorem J0(k:Nat)(rs:List Ru)(ps:List Pa)(hl:ps.length < 64)(s1 s3 s4 s5:Sl):∀(m i:Nat) (s6 s7:Sl),i+m < 1000->
  ∃s6' s7',JS (pg.kk (k+2)) 1000 (.one 6) qW (rgF (i:Int) m) [.val (bkI rs ps),s1,.val (.lst (ps.map paD)),s3,s4,s5,s6,s7]=.ok (.next [.val (bkI rs ps),s1,.val (.lst (ps.map paD)),s3,s4,s5,s6',s7'])
 |0,i,s6,s7,_=>⟨s6,s7,rfl⟩
 | m+1,i,s6,s7,h=>by let(_,_,mt):=qmm rs ps;have lf:=YC k rs ps (i:Int) hl;have jn:clK pg (k+2) "_law_joined" [.val (.lst (ps.map paD)),.val (.int (i:Int))]=_:=qcC (k+1) false ps (i:Int) hl;have cs:(pg.kk (k+2)).cs=pg.cs:=rfl;have q:=qlJ (lift (i:Int) ps);have sz:((lift (i:Int) ps).map pD).length < sizeLine:=zp (by have:=qd7 (i:Int) ps;omega);let(s6',s7',ih):=J0 k rs ps hl s1 s3 s4 s5 m (i+1) (.val (.int (i:Int))) (.own ((lift (i:Int) ps).map pD++[.non])) (by omega);refine{s6',s7',?_};rw[show((i+1:Nat):Int)=(i:Int)+1 by omega]at ih;generalize bkI rs ps=x at *;generalize (lift (i:Int) ps).map pD=L at *;rw[rgF];simp?[yI,cs,mt,lf,jn,q,Bool.not_true,sz,ih]
def qak(k:Nat)(rs:List Ru)(ps:List Pa)(hr:∀r∈rs,R12 r)(hn:rs.length < 900)(hl:ps.length < 64)(m:Nat)(hm:m < 900):clK pg (k+3) "_law_alike" [.val (bkI rs ps),.val (.lst (rs.map qU)),.val (.lst (ps.map paD)),.val (.int (m:Int))]=.ok (.val (.bl true)):=by
 let(m1,m2,_):=qmm rs ps;have cs:(pg.kk (k+2)).cs=pg.cs:=rfl;have c0:=jy yH k rs [] .no hr (by simp;omega);have c1:=jy yJ k rs [] .no hr (by simp;omega);rw[List.nil_append]at c0 c1;have br:clK pg (k+2) "Book.rules" [.val (bkI rs ps)]=_:=QM (k+1) rs ps;have bp:clK pg (k+2) "Book.papers" [.val (bkI rs ps)]=_:=YB (k+1) rs ps;have q1:=qd6 hr;have q2:=qjW ps;have z1:(rs.map ruI).length<=sizeLine:=qu (by rw[List.length_map];omega);have z2:(ps.map paD).length < sizeLine:=zp (by rw[List.length_map];omega)
 have sm:qR (m:Int)=true:=by unfold qR;simp;omega
 let(s6,s7,lp):=J0 k rs ps hl (.val (.lst (rs.map qU))) (.val (.int (m:Int))) (.own []) (.own (ps.map paD++[.non])) m 0 .no .no (by omega);have lp:JS (pg.kk (k+2)) 1000 (.one 6) qW (rgF 0 m) [.val (bkI rs ps),.val (.lst (rs.map qU)),.val (.lst (ps.map paD)),.val (.int (m:Int)),.own [],.own (ps.map paD++[.non]),.no,.no]=_:=lp;rw[QF];generalize bkI rs ps=x at *;simp?![yx,cs,m1,m2,br,bp,z1,z2,c0,c1,q1,q2,ZZ,Bool.not_true,sm,zI,Int.sub_zero,Int.toNat_natCast,lp]
def qcF:Nat->Ss->Ss
 | n+1,.cons s l=>.cons s (qcF n l)
 |_,_=>.nil
def qcG:Nat->Ss->Ss
 | n+1,.cons _ l=>qcG n l
 |_,l=>l
def qkw:Ss:=qcF 5 qdU.2.2
def qd8:Ss:=qcG 10 qdU.2.2
def qe4(ns:List Int)(a b:Nat):∃ms:List Int,ZY (ns.map D.int) (some (a:Int)) (some (b:Int))=ms.map D.int/\ms.length<=b - a:=by
 refine{(ns.drop (min a ns.length)).take (min b ns.length - min a ns.length),?_,?_}
 ·unfold ZY;rw[HT.J5,HT.J5,List.length_map,List.map_take,List.map_drop]
 ·refine Nat.le_trans (List.length_take_le ..) ?_;rcases Nat.le_total a ns.length with h|h
  ·rw[Nat.min_eq_left h];exact Nat.sub_le_sub_right (Nat.min_le_left ..) a
  ·rw[Nat.min_eq_right h,Nat.sub_eq_zero_of_le (Nat.min_le_right ..)];exact Nat.zero_le _
def yU(l:List D)(i:Nat):ZY l none (some (i:Int))=l.take i:=by
 unfold ZY;rw[HT.ZG,HT.J5];simp![List.drop_zero,Nat.sub_zero]
 by_cases h:i<=l.length
 ·rw[Nat.min_eq_left h]
 ·rw[Nat.min_eq_right (by omega),List.take_length,List.take_of_length_le (by omega)]
def qd9(l:List D)(i:Nat)(h:i<=l.length):ZY l (some (i:Int)) none=l.drop i:=by unfold ZY;rw[HT.ZG,HT.J5,Nat.min_eq_left h,List.take_of_length_le (by rw[List.length_drop];omega)]
theorem J1(k:Nat)(zs:List Str)(hz:N6 zs):∀(cs:List Int) (acc:List Ru) (s0:Sl),(∀r∈acc,R12 r)->acc.length+cs.length < 1000->
  ∃rs:List Ru,(∀r∈rs,R12 r)/\rs.length=acc.length+cs.length/\jc (pg.kk (k+13)) Zk (.one 0) .yes (cs.map D.int) [s0,.bor (zs.map D.str)] (acc.map ruI)=.ok (rs.map ruI)
 |[],acc,s0,h,_=>⟨acc,h,rfl,rfl⟩
 | c::cs,acc,s0,h,hl=>by
  rw[List.length_cons]at hl;let(r,hr,e):=qd1 (k+11) c zs hz;have e:clK pg (k+13) "_law_rule" [.val (.int c),.bor (zs.map D.str)]=.ok (.val (ruD r)):=e;have mk:=qjU k r hr
  let(rs,h1,h2,h3):=J1 k zs hz cs (acc++[r]) (.val (.int c)) (λq hq=>by
   rcases List.mem_append.mp hq with q'|q'
   ·exact h q q'
   ·rw[List.mem_singleton.mp q'];exact hr) (by simp;omega)
  refine{rs,h1,by rw[h2];simp;omega,?_};rw[List.map_append,List.map_cons,List.map_nil]at h3;have sz:(acc.map ruI).length < sizeLine:=zp (by rw[List.length_map];omega);generalize ruD r=A at *;generalize ruI r=B at *;rw[List.map_cons];simp?[qci,e,mk,sz,h3]
theorem Jx(k:Nat)(m:Int)(hm:0 < m):∀(cs:List Int) (acc:List Pa) (s0:Sl),(∀p∈acc,PaOk m p)->acc.length+cs.length < 1000->
  ∃ps:List Pa,(∀p∈ps,PaOk m p)/\ps.length=acc.length+cs.length/\jc (pg.kk (k+1)) Zl (.one 0) .yes (cs.map D.int) [s0,.val (.int m)] (acc.map paD)=.ok (ps.map paD)
 |[],acc,s0,h,_=>⟨acc,h,rfl,rfl⟩
 | c::cs,acc,s0,h,hl=>by
  rw[List.length_cons]at hl;let(p,hp,e):=qd5 k c m hm
  let(ps,h1,h2,h3):=Jx k m hm cs (acc++[p]) (.val (.int c)) (λq hq=>by
   rcases List.mem_append.mp hq with q'|q'
   ·exact h q q'
   ·rw[List.mem_singleton.mp q'];exact hp) (by simp;omega)
  refine{ps,h1,by rw[h2];simp;omega,?_};rw[List.map_append,List.map_cons,List.map_nil]at h3;have sz:(acc.map paD).length < sizeLine:=zp (by rw[List.length_map];omega);generalize paD p=A at *;rw[List.map_cons];simp?[qcj,e,sz,h3]
def qjX(ns:List Int):∃(zs:List Str) (rs:List Ru) (ps:List Pa),zs.length=6/\N6 zs/\(∀r∈rs,R12 r)/\1<=rs.length/\rs.length<=8/\(∀p∈ps,PaOk rs.length p)/\ps.length<=12/\
  iSs (pg.kk 19) 1000 qkw [.scr (ns.map D.int),.no,.no,.no,.no,.no,.no,.no,.no,.no,.no,.no,.no,.no]=.ok (.next [.scr (ns.map D.int),.own (zs.map D.str),.no,.val (.lst (rs.map ruI)),.val (.int rs.length),.own (ps.map paD),.own (rs.map qU),.no,.no,.no,.no,.no,.no,.no]):=by
 have c0:clK pg 19 "_law_cell_at" [.scr (ns.map D.int),.val (.int 0)]=.ok (.val (.int (zN ns 0))):=Zh 18 ns 0;have c1:clK pg 19 "_law_cell_at" [.scr (ns.map D.int),.val (.int 1)]=.ok (.val (.int (zN ns 1))):=Zh 18 ns 1;let(zs,ez,lz,hz):=qjR 18 (zN ns 0);have ez:clK pg 19 "_law_lands" [.val (.int (zN ns 0)),.val (.int 6)]=.ok (.tmp (zs.map D.str)):=ez;let(ms,em,lm):=qe4 ns 2 9;have em:ZY (ns.map D.int) (some 2) (some 9)=ms.map D.int:=em;let(qs,eq,lq):=qe4 ns 9 21;have eq:ZY (ns.map D.int) (some 9) (some 21)=qs.map D.int:=eq;let(rs,r1,r2,r3):=J1 6 zs hz (zN ns 1::ms) [] .no (λr h=>by cases h) (by simp;omega);rw[List.map_nil,List.map_cons]at r3;simp![List.length_nil,List.length_cons]at r2;have hm:(0:Int) < (rs.length:Int):=by omega
 let(ps,p1,p2,p3):=Jx 18 rs.length hm qs [] .no (λr h=>by cases h) (by simp;omega);rw[List.map_nil]at p3;simp![List.length_nil]at p2;have lc:=jy qcl 17 rs [] .no r1 (by simp;omega);rw[List.nil_append]at lc;refine{zs,rs,ps,lz,hz,r1,by omega,by omega,p1,by omega,?_};have o1:0+1<=sizeLine:=(3:)
 have b1:0+1+(ms.map D.int).length<=sizeLine:=qu (by rw[List.length_map];omega);have b2:(ms.map D.int).length+1<=sizeLine:=qu (by rw[List.length_map];omega);have b3:(qs.map D.int).length<=sizeLine:=qu (by rw[List.length_map];omega);have b4:(rs.map ruI).length<=sizeLine:=qu (by rw[List.length_map];omega);have lr:((rs.map ruI).length:Int)=(rs.length:Int):=by rw[List.length_map]
 simp?[qkw,qdU,qcF,c0,c1,ez,em,eq,o1,b1,b2,b3,b4,List.singleton_append,ZZ,qkm,List.getD_cons_succ,List.getD_cons_zero,r3,lr,p3,lc]
theorem qe5(d:D)(h:Jq d=some false):∀rs:List Ru,ruT (rs.map ruI++[d])=some false
 |[]=>by show(match Jq d with |some true=>_ |o=>o)=_;rw[h]
 | r::rs=>by rw[List.map_cons,List.cons_append];unfold ruT;rw[qjS];exact qe5 d h rs
def qcH(b:Bool)(d:D)(h:Jq d=some false)(rs:List Ru):qG (aL b (rs.map ruI++[d]))=some false:=by
 unfold qG;rw[JG];dsimp only;split
 ·rfl
 ·exact qe5 d h rs
def Zu(b:Bool)(l:List D)(h:8 < l.length):qG (aL b l)=some false:=by unfold qG;rw[JG];exact if_pos h
theorem QN(x:D):∀n:Nat,(List.replicate n [x]).flatten=List.replicate n x
 |0=>rfl
 | n+1=>by rw[List.replicate_succ,List.flatten_cons,QN x n];rfl
def Zv(x:D)(n:Nat)(h:n < 1000):YJ .Mult (.tmp [x]) (.val (.int (n:Int)))=.ok (.tmp (List.replicate n x)):=by show(if (0<=(n:Int)/\(n:Int) < 1000)/\[x].length * (n:Int).toNat<=sizeLine then R.ok (Rv.tmp (List.replicate (n:Int).toNat [x]).flatten) else .no)=_;rw[if_pos ⟨⟨by omega,by omega⟩,by rw[List.length_singleton,Int.toNat_natCast,Nat.one_mul];exact qu (by omega)⟩,Int.toNat_natCast,QN]
def qe6(d:D)(h:okD d=true)(hd:dpD d<=9):eqD (qai d) (qai d)=some true:=yR (by
 have s:PyData.strOk "paper" = true:=(3:)
 simp[qai,okD,QS,s,h]) (by simp![qai,dpD,Qu];omega)
def qg4:eqD (.str "rule") (.str "rule")=some true:=(3:)
def zg(rs:List Ru)(r:Ru):List Ru:=rs++List.replicate (8 - rs.length) r
def qjY{α:Type}(l:List α)(x:α)(n:Nat)(h:l.length<=8)(hn:8<=l.length+n):(l++List.replicate n x).take 8=l++List.replicate (8 - l.length) x:=by rw[List.take_append,List.take_of_length_le h,List.take_replicate,Nat.min_eq_left (by omega)]
structure Odd(rs:List Ru)(d:D):Prop where
 one:Jq d=some false
 all:qG (.val d)=some false
def qea(rs:List Ru)(r:Ru)(zs:List Str)(hz:zs.length=6)(z:Str):∀d∈([.non,.int 3,.str z,.ins "Rule" ["lands","most"] [.tup [.tup [.str "a",.int 1]],.int 3],.lst (zs.map D.str),.tup [ruI r]]:List D),Odd rs d:=by
 intro d hd;simp![List.mem_cons,List.not_mem_nil,or_false]at hd;rcases hd with rfl|rfl|rfl|rfl|rfl|rfl
 ·exact⟨rfl,rfl⟩
 ·exact⟨rfl,rfl⟩
 ·exact⟨rfl,rfl⟩
 ·exact{by decide+kernel,(3:)}
 ·refine{rfl,?_};show(if 8 < (zs.map D.str).length then some false else ruT (zs.map D.str))=_;rw[if_neg (by rw[List.length_map];omega)]
  cases zs with
  |nil=>simp at hz
  |cons a l=>rfl
 ·exact⟨rfl,rfl⟩
def qg5(ns:List Int)(zs:List Str)(lz:zs.length=6)(rs:List Ru)(hr:∀r∈rs,R12 r)(l1:1<=rs.length)(l8:rs.length<=8)(ps:List Pa)(hp:∀p∈ps,PaOk rs.length p)(l12:ps.length<=12) :
  iSs (pg.kk 19) 1000 qd8 [.scr (ns.map D.int),.own (zs.map D.str),.no,.val (.lst (rs.map ruI)),.val (.int rs.length),.own (ps.map paD),.own (rs.map qU),.no,.val (bkI rs ps),.no,.no,.no,.no,.no]=.ok (.ret (.val (.bl true))):=by
 let(r0,rr,rfl):∃r0 rr,rs=r0::rr:=by
  cases rs with
  |nil=>simp at l1
  |cons a b=>exact⟨a,b,rfl⟩
 generalize hrs:r0::rr=rs at *;have c0:clK pg 19 "_law_cell_at" [.scr (ns.map D.int),.val (.int 0)]=.ok (.val (.int (zN ns 0))):=Zh 18 ns 0;have cs:(pg.kk 19).cs=pg.cs:=rfl;have yy:(pg.kk 19).y=true:=rfl;have mul:Q9 (zN ns 0) 48271=true:=QB (2:) (2:);have al:clK pg 19 "_law_alike" [.val (bkI rs ps),.val (.lst (rs.map qU)),.val (.lst (ps.map paD)),.val (.int (rs.length:Int))]=.ok (.val (.bl true)):=qak 16 rs ps hr (by omega) (by omega) rs.length (by omega);let(v,hv):∃v,zN ns 0 * 48271 % 2147483647+(rs.length:Int)=v:={_,rfl};have hq:(0:Int) < ((ps.map paD).length:Int)+1:=by omega
 let(a,ea):∃a:Nat,v % (((ps.map paD).length:Int)+1)=(a:Int):={(v % (((ps.map paD).length:Int)+1)).toNat,by have:=Int.emod_nonneg v (show((ps.map paD).length:Int)+1≠0 by omega);omega}
 have ha:a<=ps.length:=by
  have:=Int.emod_lt_of_pos v hq
  rw[ea,List.length_map]at this;omega
 let(b1,q1,g1,e1):=qe2 18 (v / 13) rs.length (by omega);let(b2,q2,g2,e2):=qe2 18 (v / 195) rs.length (by omega);have e1:clK pg 19 "_law_bad" [.val (.int (v / 13)),.val (.int rs.length)]=.ok (.val b1):=e1;have e2:clK pg 19 "_law_bad" [.val (.int (v / 195)),.val (.int rs.length)]=.ok (.val b2):=e2;have t1:=yU (ps.map paD) a;have t2:=qd9 (ps.map paD) a (by rw[List.length_map];exact ha);have hpt:∀p∈ps.take a,PaOk rs.length p:=λp h=>hp p (List.mem_of_mem_take h);have lt:(ps.take a).length=a:=by rw[List.length_take];omega
 have sm:qm aP rs.length (.bor ((ps.map paD).take a++[b1]++(ps.map paD).drop a++[b2]))=.exc aP [("number",.int (a:Int))]:=by
  have:=qaY (m:=rs.length) true (ps.take a) hpt b1 ((ps.drop a).map paD++[b2]) q1 (by rw[List.all_cons,g1,List.all_append,qkv,List.all_cons,g2];rfl) (by simp;omega)
  rw[lt,List.map_take,List.map_drop]at this;show qm aP rs.length (aL true _)=_
  simpa using this
 let(SM,hSM):∃L,(ps.map paD).take a++[b1]++(ps.map paD).drop a++[b2]=L:={_,rfl};rw[hSM]at sm;have R1:clK pg 19 "_law_refusal" [.val (.lst (rs.map ruI)),.bor SM]=.ok (.val (qai (.int (a:Int)))):=Jw 6 false rs l8 (.bor SM) trivial (.int (a:Int)) sm;have n9:(9:Int) - (rs.length:Int)=((9 - rs.length:Nat):Int):=by omega
 let(fu,hfu):∃L,rs.map ruI++List.replicate (9 - rs.length) (ruI r0)=L:={_,rfl};have lfu:fu.length=9:=by rw[<-hfu,List.length_append,List.length_map,List.length_replicate];omega
 have mf:=Zv (ruI r0) (9 - rs.length) (by omega);let(fr,hfr):∃L,List.replicate (9 - rs.length) (ruI r0)=L:={_,rfl};have lfr:fr.length<=9:=by rw[<-hfr,List.length_replicate];omega
 have tf:ZY fu none (some 8)=(zg rs r0).map ruI:=by rw[show(8:Int)=((8:Nat):Int) from rfl,yU,<-hfu,qjY _ _ _ (by rw[List.length_map];exact l8) (by rw[List.length_map];omega),zg,List.map_append,List.map_replicate,List.length_map]
 rw[hfr]at mf hfu;have R2:clK pg 19 "_law_refusal" [.bor fu,.bor SM]=.ok (.val (.str "rule")):=YE 6 (.bor fu) (.bor SM) trivial trivial (Zu true fu (by omega));have o6:(0:Int) < 6:=by decide
 let(d,hd,ad):=at_mem (l:=[.non,.int 3,qU r0,.ins "Rule" ["lands","most"] [.tup [.tup [.str "a",.int 1]],.int 3],.lst (zs.map D.str),.tup [ruI r0]]) (i:=v / 64 % 6) (Int.emod_nonneg _ (2:)) (by show _ < (6:Int);exact Int.emod_lt_of_pos _ o6);have od:=qea rs r0 zs lz _ d hd;have nwR:(pg.kk 19).nw "Rule" [.val (.lst [.tup [.str "a",.int 1]]),.val (.int 3)]=.ok (.val (.ins "Rule" ["lands","most"] [.tup [.tup [.str "a",.int 1]],.int 3])):=(4:)
 have R3:clK pg 19 "_law_refusal" [.val (.lst (rs.map ruI++[d])),.val (.lst (ps.map paD))]=.ok (.val (.str "rule")):=YE 6 (.val (.lst _)) (.val (.lst _)) trivial trivial (qcH false d od.one rs);have R4:clK pg 19 "_law_refusal" [.val d,.bor SM]=.ok (.val (.str "rule")):=YE 6 (.val d) (.bor SM) trivial trivial od.all;have n13:(13:Int) - ((ps.map paD).length:Int)=((13 - ps.length:Nat):Int):=by rw[List.length_map];omega
 have mp:=Zv (.tup [.int 0,.int 1,.int 2]) (13 - ps.length) (by omega);let(pr,hpr):∃L,List.replicate (13 - ps.length) (D.tup [.int 0,.int 1,.int 2])=L:={_,rfl};have lpr:pr.length<=13:=by rw[<-hpr,List.length_replicate];omega
 have many:qm aP rs.length (.val (.lst (ps.map paD++pr)))=.exc aP [("number",.non)]:=by
  have:=Zt (m:=rs.length) false (ps++List.replicate (13 - ps.length) ((0,1,2):Pa)) (λp h=>by
   rcases List.mem_append.mp h with h|h
   ·exact hp p h
   ·rw[List.eq_of_mem_replicate h];exact{by show(0:Int)<=0;decide,by show(0:Int) < _;omega,by show(0:Int)<=1;decide,by show(1:Int)<=2;decide,by show(2:Int)<=1000000000;decide}) (by simp;omega) (by simp;omega)
  rw[List.map_append,List.map_replicate]at this;rw[<-hpr];exact this
 rw[hpr]at mp;have R5:clK pg 19 "_law_refusal" [.val (.lst (rs.map ruI)),.val (.lst (ps.map paD++pr))]=.ok (.val (qai .non)):=Jw 6 false rs l8 (.val (.lst _)) trivial .non many;have m8:YJ .Mult (.tmp [qU r0]) (.val (.int 8))=.ok (.tmp (List.replicate 8 (qU r0))):=Zv (qU r0) 8 (2:);let(lr,hlr):∃L,List.replicate 8 (qU r0)=L:={_,rfl};have llr:lr.length=8:=by rw[<-hlr,List.length_replicate]
 have t1':ZY (rs.map qU) none (some 1)=[qU r0]:=by rw[show(1:Int)=((1:Nat):Int) from rfl,yU,<-hrs];rfl
 have tl:ZY (rs.map qU++lr) none (some 8)=(zg rs r0).map qU:=by rw[show(8:Int)=((8:Nat):Int) from rfl,yU,<-hlr,qjY _ _ _ (by rw[List.length_map];exact l8) (by rw[List.length_map];omega),zg,List.map_append,List.map_replicate,List.length_map]
 rw[hlr]at m8;let(o,ho,ao):=at_mem (l:=[.non,.tup [],.tup (ps.map paD)]) (i:=v / 64 % 3) (Int.emod_nonneg _ (2:)) (by show _ < (3:Int);exact Int.emod_lt_of_pos _ (2:))
 have no:qm aP rs.length (.val o)=.exc aP [("number",.non)]:=by simp![List.mem_cons,List.not_mem_nil,or_false]at ho;rcases ho with rfl|rfl|rfl<;>rfl
 have R6:clK pg 19 "_law_refusal" [.val (.lst (rs.map ruI)),.val o]=.ok (.val (qai .non)):=Jw 6 false rs l8 (.val o) trivial .non no;have l8':(zg rs r0).length=8:=by rw[zg,List.length_append,List.length_replicate];omega
 have hr8:∀r∈zg rs r0,R12 r:=λr h=>by
  rcases List.mem_append.mp h with h|h
  ·exact hr r h
  ·rw[List.eq_of_mem_replicate h];exact hr r0 (by rw[<-hrs];simp)
 have nwB8:(pg.kk 19).nw "Book" [.val (.lst ((zg rs r0).map ruI)),.val (.lst [])]=.ok (.val (bkI (zg rs r0) [])):=(Zs 7 _ _).trans (qcA false false (zg rs r0) [] (by omega) (λp h=>by cases h) (2:));have al8:clK pg 19 "_law_alike" [.val (bkI (zg rs r0) []),.val (.lst ((zg rs r0).map qU)),.val (.lst []),.val (.int 8)]=.ok (.val (.bl true)):=qak 16 (zg rs r0) [] hr8 (by omega) (2:) 8 (2:);have q1':=qe6 (.int (a:Int)) (by rw[okD]) (by rw[dpD];decide);have q2':=qe6 .non (by rw[okD]) (by rw[dpD];decide);unfold qai at R1 R5 R6 q1' q2';have qr:=qg4;have at0r:atI (rs.map ruI) 0=some (ruI r0):=qhp (j:=0) (by rw[<-hrs];rfl);have at0l:atI (rs.map qU) 0=some (qU r0):=qhp (j:=0) (by rw[<-hrs];rfl);have z1:1<=sizeLine:=(3:)
 have z2:2<=sizeLine:=(3:)
 have z3:3<=sizeLine:=(3:)
 have z6:6<=sizeLine:=(3:)
 have z0:0<=sizeLine:=(3:)
 have y1:((ps.map paD).take a).length+1<=sizeLine:=qu (by rw[List.length_take];omega);have y2:((ps.map paD).take a++[b1]).length+((ps.map paD).drop a).length<=sizeLine:=qu (by simp;omega);have y3:((ps.map paD).take a++[b1]++(ps.map paD).drop a).length+1<=sizeLine:=qu (by simp;omega);have y4:(rs.map ruI).length+fr.length<=sizeLine:=qu (by rw[List.length_map];omega);have y5:(rs.map ruI).length+1<=sizeLine:=qu (by rw[List.length_map];omega);have y6:(ps.map paD).length+pr.length<=sizeLine:=qu (by rw[List.length_map];omega);have y7:(rs.map qU).length+lr.length<=sizeLine:=qu (by rw[List.length_map];omega);generalize (zg rs r0).map ruI=F8 at *;generalize (zg rs r0).map qU=L8 at *;generalize bkI (zg rs r0) []=B8 at *;simp?[qd8,qdU,qcG,c0,cs,yy,al,Bool.not_true,mul,hv,hq,ea,e1,e2,t1,t2,hSM,R1,R2,R3,R4,R5,R6,n9,mf,hfu,tf,ad,nwR,n13,mp,m8,t1',tl,ao,nwB8,al8,q1',q2',qr,at0r,at0l,z0,z1,z2,z3,z6,y1,y2,y3,y4,y5,y6,y7,Nat.reduceAdd]
end K14
namespace DE
open PySem PySem.Spec PyProof.Rows L2
def jU(G G' H:Hp):Prop:=∀a o,G' a=some o->(∃o',G a=some o')\/H a=none
def But(p:Addr)(H H':Hp):Prop:=∀a o,a≠p->H a=some o->H' a=some o
def Zw(U:KC)(K:Frag)(ok:Str->Bool)(go:List Ar->Option (List (Str×D))):Sp:=λvs H Q _=>∃(G:Hp) (c:Str) (C p dx:Addr) (us:List V) (args:List Ar) (fs:List (Str×D)),vs=.ref p::us/\ok c=true/\U c=some C/\
 H p=some (.ins C dx [])/\G p=none/\qj G H/\jW U K G H args us/\go args=some fs/\
 ∀G' H' xs,qj G G'->qj G' H'->G' p=none->But p H H'->jU G G' H->H' p=some (.ins C dx ((fs.map (·.1)).zip xs))->xs.length=fs.length->ql U G' (fs.map (·.2)) xs->Q .non H'
noncomputable abbrev spQ(U:KC)(K:Frag)(cl:Str->List Ar->R Rv)(f:Str):Sp:=λvs H Q _=>spF U K cl f vs H Q E0
def JR.q{P:Program}{wd:World}{U:KC}{K:Frag}{mg:PR}{base:Heap}{pg:Pg}{k:Nat}(h:JR P wd U K mg base pg k)(f:Str)(st:Stmt)(e:pg.defs.lookup f=some st):∃fa fd,FnOk P wd K mg base CX0 k fa fd (Jk st) (spQ U K (clK pg k) f)/\mg f=some (.ref fa)/\PySem.W.keepIn K (.ref fa)=true/\qM K fd (Jk st) []:=
 let ⟨fa,fd,F,h⟩:=h.1 f st e
 ⟨fa,fd,Z9 F λ_ _ _ _ z=>z,h⟩
section
variable{U:KC}{K:Frag}{G H G' H':Hp}
def Jy{cl:Str->List Ar->R Rv}{f:Str}{args:List Ar}{vs:List V}{r:Rv}{Q:VK}{E:XK}(sub:qj G H)(ha:jW U K G H args vs)(e:cl f args=.ok r)
  (h:∀v G' H',qj H H'->qj G G'->qj G' H'->jU G G' H->ReR U G' H' H r v->Q v H'):spF U K cl f vs H Q E:={G,args,sub,ha,by rw[e];exact h}
theorem ArR.low{a:Ar}{v:V}(h:ArR U K G H a v)(gs:qj G G')(hs:∀b o,H b=some o->(∀C dx fs,o≠.ins C dx fs)->H' b=some o):(∀l,a≠.scr l)->ArR U K G' H' a v:=λhn=>by
 cases a with
 |val d=>exact Rep.same gs h
 |bor l=>let(b,xs,e,h1,h2):=h;exact{b,xs,e,hs _ _ h1 (by intros;intro z;cases z),h2.same gs}
 |scr l=>exact absurd rfl (hn l)
theorem Jz{nw:Str->List Ar->R Rv}{f c:Str}{C:Addr}{ok:Str->Bool}{go:List Ar->Option (List (Str×D))}(hC:U c=some C)(hok:ok c=true)
  (hX:∀args c l,nw f args≠.exc c l) (hgo:∀args r,nw f args=.ok r->(∀a∈args,∀l,a≠.scr l)/\∃fs,go args=some fs/\r=.val (.ins c (fs.map (·.1)) (fs.map (·.2)))) :
  ∀vs H Q E,spF U K nw f vs H Q E->∀x dx,H x=none->H dx=none->dx≠x->Zw U K ok go (.ref x::vs) (upd (upd H dx (.own x)) x (.ins C dx [])) (λv H2=>v=.non/\Q (.ref x) H2) E:=by
 rintro vs H Q E ⟨G,args,sub,ha,hw⟩ x dx hx hdx ne
 cases e:nw f args with
 |no=>rw[e]at hw;exact hw.elim
 |exc c l=>exact(hX _ _ _ e).elim
 |ok r=>
  rw[e]at hw;let(hs,fs,hg,rfl):=hgo args r e;have gx:G x=none:=qj.none sub hx;have gd:G dx=none:=qj.none sub hdx
  have up:qj H (upd (upd H dx (.own x)) x (.ins C dx [])):=λb o hb=>by
   have nb:b≠x:=λz=>by rw[z,hx]at hb;cases hb
   have nd:b≠dx:=λz=>by rw[z,hdx]at hb;cases hb
   rw[qc nb,qc nd];exact hb
  have ha':∀{args:List Ar} {vs:List V},(∀a∈args,∀l,a≠.scr l)->jW U K G H args vs->jW U K G (upd (upd H dx (.own x)) x (.ins C dx [])) args vs:=by
   intro args
   induction args with
   |nil=>intro vs _ h;simp![jW]at h ⊢;exact h
   |cons a l ih=>intro vs hn h;simp![jW]at h ⊢;let(v,r,e,h1,h2):=h;exact{v,r,e,h1.low (λ_ _ z=>z) (λb o hb _=>up b o hb) (hn a (List.mem_cons_self ..)),ih (λb hb=>hn b (List.mem_cons_of_mem _ hb)) h2}
  refine{G,c,C,x,dx,vs,args,fs,rfl,hok,hC,qf,gx,λb o hb=>up b o (sub b o hb),ha' hs ha,hg,λG' H' xs gs sub' gx' but fr hp hl rp=>{rfl,?_}};refine hw (.ref x) (upd G' x (.ins C dx ((fs.map (·.1)).zip xs))) H' (λb o hb=>?_) (λb o hb=>?_) (λb o hb=>?_) (λb o hb=>?_) ?_
  ·exact but b o (λz=>by rw[z,hx]at hb;cases hb) (up b o hb)
  ·exact qj.upd gx' b o (gs b o hb)
  ·by_cases z:b=x
   ·subst z;rw[qf]at hb;cases hb;exact hp
   ·rw[qc z]at hb;exact sub' b o hb
  ·by_cases z:b=x
   ·subst z;exact .inr hx
   ·rw[qc z]at hb;rcases fr b o hb with q|q
    ·exact .inl q
    ·refine .inr ?_
     cases w:H b with
     |none=>rfl
     | some o'=>rw[up b o' w]at q;cases q
  ·simp![ReR,Rep];exact{x,dx,C,xs,hC,rfl,qf,by rw[hl,List.length_map],rp.same (qj.upd gx')}
end
end DE
namespace DG
open PySem PySem.Spec PyProof.Rows L2 DE
theorem zP{G G' H:Hp}{p:Addr}{o:L2.HO}(fr:jU G G' H)(g:G p=none)(h:H p=some o):G' p=none:=by
 cases e:G' p with
 |none=>rfl
 | some o'=>
  rcases fr p o' e with ⟨o'',z⟩|z
  ·rw[g]at z;cases z
  ·rw[h]at z;cases z
def jU.trans{G G1 G2 H H1:Hp}(a:jU G G1 H)(s:qj H H1)(b:jU G1 G2 H1):jU G G2 H:=λx o h=>by
 rcases b x o h with ⟨o',z⟩|z
 ·exact a x o' z
 ·exact .inr (qj.none s z)
def jU.transB{G G1 G2 H H1:Hp}{p:Addr}{o:L2.HO}(a:jU G G1 H)(s:But p H H1)(hp:H1 p=some o)(b:jU G1 G2 H1):jU G G2 H:=λx o h=>by
 rcases b x o h with ⟨o',z⟩|z
 ·exact a x o' z
 ·refine .inr ?_;have nx:x≠p:=λq=>by rw[q,hp]at z;cases z
  cases w:H x with
  |none=>rfl
  | some o'=>rw[s x o' nx w]at z;cases z
def aA(b:Bool)(l:List D):Ar:=match b with
 |true=>.bor l
 |false=>.val (.lst l)
def QO{a:Ar}{l:List D}(e:arL a=some l):∃b,a=aA b l:=by
 unfold arL at e
 split at e
 ·cases e;exact⟨false,rfl⟩
 ·cases e;exact⟨true,rfl⟩
 ·cases e
def qal{a:Ar}{n:Int}(e:arI a=some n):a=.val (.int n):=by
 unfold arI at e
 split at e
 ·cases e;rfl
 ·cases e
theorem YF{U:KC}{K:Frag}{G H:Hp}{b:Bool}{l:List D}{v:V}(sub:qj G H)(h:ArR U K G H (aA b l) v):∃p xs,v=.ref p/\H p=some (.lst xs)/\ql U G l xs:=by
 cases b with
 |false=>simp![aA,ArR,Rep]at h;let(a,xs,e,h1,h2):=h;exact{a,xs,e,sub _ _ h1,h2}
 |true=>exact h
def qjZ{U:KC}{K:Frag}{G H G' H':Hp}{b:Bool}{l:List D}{v:V}(h:ArR U K G H (aA b l) v)(gs:qj G G')(hs:qj H H'):ArR U K G' H' (aA b l) v:=h.low gs (λb o e _=>hs b o e) (λl'=>by cases b<;>(intro z;cases z))
def JA{args:List Ar}{fs:List (Str×D)}(h:yr args=some fs):∃b l m,args=[aA b l,.val (.int m)]/\qy l=true/\btw m 0 1000000000=true/\fs=([("lands",.tup l),("most",.int m)]:List (Str×D)):=by
 unfold yr at h
 split at h
 ·split at h
  ·rename_i e1 e2
   split at h
   ·rename_i hc;cases h;rw[Bool.and_eq_true]at hc;let(b,rfl):=QO e1;cases qal e2;exact{b,_,_,rfl,hc.1,hc.2,rfl}
   ·cases h
  ·cases h
 ·cases h
def ye{x:Str}{args:List Ar}{fs:List (Str×D)}(h:zJ x args=some fs):∃b l m s,args=[aA b l,.val (.int m),.val (.int s)]/\qy l=true/\btw m 0 1000000000=true/\btw s 1 1000000000=true/\fs=([("lands",.tup l),("most",.int m),(x,.int s)]:List (Str×D)):=by
 unfold zJ at h
 split at h
 ·split at h
  ·rename_i e1 e2 e3
   split at h
   ·rename_i hc;cases h;rw[Bool.and_eq_true,Bool.and_eq_true]at hc;let(b,rfl):=QO e1;cases qal e2;cases qal e3;exact{b,_,_,_,rfl,hc.1.1,hc.1.2,hc.2,rfl}
   ·cases h
  ·cases h
 ·cases h
def YG{args:List Ar}{fs:List (Str×D)}(h:Zg args=some fs):∃b l m,args=[aA b l,.val (.int m)]/\qy l=true/\btw m 0 1000000000=true/\fs=([("lands",.tup l),("most",.int m),("leave",.int 1)]:List (Str×D)):=by
 unfold Zg at h
 split at h
 ·split at h
  ·rename_i e1 e2
   split at h
   ·rename_i hc;cases h;rw[Bool.and_eq_true]at hc;let(b,rfl):=QO e1;cases qal e2;exact{b,_,_,rfl,hc.1,hc.2,rfl}
   ·cases h
  ·cases h
 ·cases h
def QP{args:List Ar}{fs:List (Str×D)}(h:JU args=some fs):∃b c l ps,args=[aA b l,aA c ps]/\(decide (l.length<=8)&&l.all qaS)=true/\(decide (ps.length<=12)&&ps.all (qE l.length))=true/\fs=([("kept_rules",.lst l),("kept_papers",.lst ps)]:List (Str×D)):=by
 unfold JU at h
 split at h
 ·split at h
  ·rename_i e1 e2
   split at h
   ·rename_i hc;cases h;rw[Bool.and_eq_true]at hc;let(b,rfl):=QO e1;let(c,rfl):=QO e2;exact{b,c,_,_,rfl,hc.1,hc.2,rfl}
   ·cases h
  ·cases h
 ·cases h
def qcI{b:Bool}{l:List D}{m:Int}(ol:qy l=true)(om:btw m 0 1000000000=true):yr [aA b l,.val (.int m)]=some ([("lands",.tup l),("most",.int m)]:List (Str×D)):=by cases b<;>(show(if (qy l&&btw m 0 1000000000)=true then _ else none)=_;rw[if_pos (by rw[ol,om];rfl)])
def qcJ{x:Str}{b:Bool}{l:List D}{m s:Int}(ol:qy l=true)(om:btw m 0 1000000000=true)(os:btw s 1 1000000000=true):zJ x [aA b l,.val (.int m),.val (.int s)]=some ([("lands",.tup l),("most",.int m),(x,.int s)]:List (Str×D)):=by cases b<;>(show(if (qy l&&btw m 0 1000000000&&btw s 1 1000000000)=true then _ else none)=_;rw[if_pos (by rw[ol,om,os];rfl)])
structure Tx(U:KC)(K:Frag)(mg:PR):Prop where
 tup:mg "tuple" = none
 lst:mg "list" = none
 len:mg "len" = none
 gG:∃t,mg "GREATEST" = some (.int 1000000000 t)
 cls:∀c C,U c=some C->Cls K C
 nA:∀c x C,(pcs {}).fld c x=true->U c=some C->zj K C x
structure Ck(pg:Pg)(j:Nat):Prop where
 lands:∀b l,qy l=true->clK pg j "are_lands" [aA b l]=.ok (.val (.bl true))
 rules:∀b l,(decide (l.length<=8)&&l.all qaS)=true->clK pg j "are_rules" [aA b l]=.ok (.val (.bl true))
 papers:∀b (ps:List D) (n:Int),(decide (ps.length<=12)&&ps.all (qE n))=true->clK pg j "check_papers" [aA b ps,.val (.int n)]=.ok (.val .non)
 btw:∀n a b,btw n a b=true->clK pg j "is_between" [.val (.int n),.val (.int a),.val (.int b)]=.ok (.val (.bl true))
def qam{c:Str}(h:rk c=true):(pcs {}).fld c "lands" = true/\(pcs {}).fld c "most" = true:=by
 constructor
 ·show((rk c&&(true||_||_||_))||_)=true;rw[h];rfl
 ·show((rk c&&(false||true||_||_))||_)=true;rw[h];rfl
def okW(c:Str):Bool:=c == "Within"
def okS(c:Str):Bool:=c == "Since" || c == "InRow"
def okI(c:Str):Bool:=c == "InRow"
def okB(c:Str):Bool:=c == "Book"
def qj0{c:Str}(h:okW c=true):rk c=true:=by unfold okW at h;unfold rk;rw[h];rfl
def qj1{c:Str}(h:okS c=true):rk c=true:=by unfold okS at h;unfold rk;rw[Bool.or_assoc,h,Bool.or_true]
def qg6{c:Str}(h:okI c=true):okS c=true:=by unfold okI at h;unfold okS;rw[h,Bool.or_true]
def qg7{c:Str}(h:okW c=true):(pcs {}).fld c "span" = true:=by
 have e:c = "Within":=by simpa [okW] using h
 subst e;decide
def qeb{c:Str}(h:okS c=true):(pcs {}).fld c "leave" = true:=by
 have e:c = "Since"\/c = "InRow":=by simpa [okS] using h
 rcases e with e|e<;>subst e<;>decide
def qcK{c:Str}(h:okB c=true):(pcs {}).fld c "kept_rules" = true/\(pcs {}).fld c "kept_papers" = true:=by
 have e:c = "Book":=by simpa [okB] using h
 subst e;decide
end DG
namespace K14
open PySem PySem.Spec PyProof.Rows L2 DE DG
section
variable{P:Program}{wd:World}{U:KC}{K:Frag}{mg:PR}{base:Heap}{j:Nat}{f:Addr}{fd:FuncData}
def qg8:FnScope ["self","lands","most"] ["self","lands","most"] (qe (mem 20 0)):={rfl,rfl,rfl,(3:),rfl,(3:),(3:)}
def naR(tx:Tx U K mg):∀c C,rk c=true->U c=some C->zj K C "lands"/\zj K C "most":=λc C h hc=>{tx.nA c _ C (qam h).1 hc,tx.nA c _ C (qam h).2 hc}
def qan(tx:Tx U K mg)(F:Fun K "__init__" "Rule.__init__" (mem 20 0) f fd)(at_:JR P wd U K mg base pg j)(ck:Ck pg j){okr:Str->Bool}(na:∀c C,okr c=true->U c=some C->zj K C "lands"/\zj K C "most"):FnOk P wd K mg base CX0 (j+1) f fd ["self","lands","most"] (Zw U K okr yr):=by
 let(fA,dA,FA,mA,kA,bA):=JR.q at_ "are_lands" (top 19) (4:);let(fB,dB,FB,mB,kB,bB):=JR.q at_ "is_between" (top 5) (4:);let(t1,g1):=tx.gG;refine F.ok qg8 (λvs H Q E h=>?_) (λcdv A outer s H vs Q E hr h=>?_)
 ·let(G,c,C,p,dx,us,args,fs,rfl,_,_,_,_,_,ha,hg,_):=h;let(b,l,m,rfl,_):=JA hg
  have:=ha.len
  simp at this;simp[<-this]
 ·let(G,c,C,p,dx,us,args,fs,rfl,hrk,hC,hp,gp,sub,ha,hg,k1):=h;let(b,l,m,rfl,ol,om,rfl):=JA hg;simp![jW]at ha;let(v1,us1,rfl,r1,v2,us2,rfl,r2,rfl):=ha;simp![ArR,Rep]at r2;subst r2;let(a,xs,rfl,hxa,rl):=YF sub r1
  refine{_,qo (YN (yV (JH (zz FA hr (by rfl) mA kA bA .nil J7 (qg (pv 1) qq)))) (zd jY) zQ)
   (qo (YN (yV (JH (zz FB hr (by rfl) mB kB bB .nil J7 (qg (pv 2) (qg YL (qg (yf (v:=.int 1000000000) (by rfl) g1 {_,rfl}) qq)))))) (zd jY) zQ)
   (qo (YV (pv 0) (qX jZ (by rfl) tx.tup PyProof.Rows.boot_tuple (qg (pv 1) qq)) rfl)
   (zd (YV (pv 0) (pv 2) rfl)))),?_}
  refine{_,rfl,Jy (E:=E0) (G:=G) (args:=[aA b l]) sub {_,_,rfl,r1,rfl} (ck.lands b l ol) λv G1 H1 hs1 gs1 sub1 fr1 rr=>?_};simp![ReR,Rep]at rr;subst rr;refine{_,rfl,?_};refine{_,rfl,Jy (E:=E0) (G:=G1) (args:=[.val (.int m),.val (.int 0),.val (.int 1000000000)]) sub1 {_,_,rfl,by simp![ArR,Rep],_,_,rfl,by simp![ArR,Rep],_,_,rfl,by simp![ArR,Rep],rfl} (ck.btw m 0 1000000000 om) λv G2 H2 hs2 gs2 sub2 fr2 rr=>?_};simp![ReR,Rep]at rr;subst rr;refine{_,rfl,?_};have hp2:H2 p=some (.ins C dx []):=hs2 _ _ (hs1 _ _ hp);have ga2:H2 a=some (.lst xs):=hs2 _ _ (hs1 _ _ hxa);have gp1:G1 p=none:=zP fr1 gp hp;have gp2:G2 p=none:=zP fr2 gp1 (hs1 _ _ hp);refine{_,rfl,a,xs,rfl,.inl {SqL.of ga2,λt ht=>?_}};have ntp:t≠p:=λz=>by rw[z,hp2]at ht;cases ht
  have gt:G2 t=none:=qj.none sub2 ht;refine{_,rfl,p,C,dx,_,rfl,by rw[qc ntp.symm];exact hp2,tx.cls c C hC,(na c C hrk hC).1,by decide,?_};refine{_,rfl,_,rfl,p,C,dx,_,rfl,qf,tx.cls c C hC,(na c C hrk hC).2,(by show 1 < 1000;decide),?_};refine k1 (upd G2 t (.tup xs)) _ [.ref t,.int m] ?_ ?_ ?_ ?_ ?_ ?_ rfl ?_
  ·exactλb o e=>qj.upd gt b o (gs2 b o (gs1 b o e))
  ·intro b o e
   by_cases z:b=t
   ·subst z;rw[qf]at e;cases e;rw[qc ntp,qc ntp,qf]
   ·rw[qc z]at e;have nb:b≠p:=λq=>by rw[q,gp2]at e;cases e
    rw[qc nb,qc nb,qc z];exact sub2 b o e
  ·rw[qc ntp.symm];exact gp2
  ·intro b o nb e;have e2:=hs2 b o (hs1 b o e);have nt:b≠t:=λq=>by rw[q,ht]at e2;cases e2
   rw[qc nb,qc nb,qc nt];exact e2
  ·intro b o e
   by_cases z:b=t
   ·subst z;exact .inr (qj.none hs1 (qj.none hs2 ht))
   ·rw[qc z]at e;exact(jU.trans fr1 hs1 fr2) b o e
  ·rw[qf];rfl
  ·simp![List.map_cons,List.map_nil,ql,Rep];exact{_,_,rfl,{t,xs,rfl,qf,(rl.same gs1 |>.same gs2).same (qj.upd gt)},_,_,rfl,rfl,rfl}
def qcL:FnScope ["self","lands","most","span"] ["self","lands","most","span"] (qe (mem 21 0)):={rfl,rfl,rfl,(3:),rfl,(3:),(3:)}
def qec:FnScope ["self","lands","most","leave"] ["self","lands","most","leave"] (qe (mem 22 0)):={rfl,rfl,rfl,(3:),rfl,(3:),(3:)}
def YH{fR cR:Addr}{dR:FuncData}(tx:Tx U K mg)(FR:Fun K "__init__" "Rule.__init__" (mem 20 0) fR dR)(bR:qM K dR ["self","lands","most"] [])(mR:mg "Rule" = some (.ref cR))(cf:ClsFn K cR "__init__" fR)
  (at0:JR P wd U K mg base pg j) (at1:JR P wd U K mg base pg (j+1)) (ck0:Ck pg j) (ck1:Ck pg (j+1)):(Fun K "__init__" "Within.__init__" (mem 21 0) f fd->FnOk P wd K mg base CX0 (j+2) f fd ["self","lands","most","span"] (Zw U K okW (zJ "span")))/\(Fun K "__init__" "Since.__init__" (mem 22 0) f fd->FnOk P wd K mg base CX0 (j+2) f fd ["self","lands","most","leave"] (Zw U K okS (zJ "leave"))):=by
 constructor<;>(
  intro F;let(fB,dB,FB,mB,kB,bB):=JR.q at1 "is_between" (top 5) (4:);let(t1,g1):=tx.gG;refine F.ok (by first|exact qcL |exact qec) (λvs H Q E h=>?_) (λcdv A outer s H vs Q E hr h=>?_)
  ·let(G,c,C,p,dx,us,args,fs,rfl,_,_,_,_,_,ha,hg,_):=h;let(b,l,m,z,rfl,_):=ye hg
   have:=ha.len
   simp at this;simp[<-this]
  ·let(G,c,C,p,dx,us,args,fs,rfl,hrk,hC,hp,gp,sub,ha,hg,k1):=h;let(b,l,m,z,rfl,ol,om,oz,rfl):=ye hg;simp![jW]at ha;let(v1,us1,rfl,r1,v2,us2,rfl,r2,v3,us3,rfl,r3,rfl):=ha;simp![ArR,Rep]at r2 r3;subst r2 r3
   refine{_,qo (zx (ZR cf (qan tx FR at0 ck0 (naR tx)) hr (by rfl) mR bR .nil J7 (qg (pv 0) (qg (pv 1) (qg (pv 2) qq)))))
    (qo (YN (yV (JH (zz FB hr (by rfl) mB kB bB .nil J7 (qg (pv 3) (qg YL (qg (yf (v:=.int 1000000000) (by rfl) g1 {_,rfl}) qq)))))) (zd jY) zQ)
    (zd (YV (pv 0) (pv 3) rfl))),?_}
   refine{_,rfl,_,rfl,_,rfl,G,c,C,p,dx,[v1,.int m],[aA b l,.val (.int m)],_,rfl,(by first|exact qj0 hrk|exact qj1 hrk),hC,hp,gp,sub,{_,_,rfl,r1,_,_,rfl,by simp![ArR,Rep],rfl},qcI ol om,λG1 H1 xs gs1 sub1 gp1 but1 fr1 hp1 hl1 rp1=>?_};simp![List.map_cons,List.map_nil,ql]at rp1;let(x1,w1,rfl,q1,x2,w2,rfl,q2,rfl):=rp1;refine{_,rfl,Jy (E:=E0) (G:=G1) (args:=[.val (.int z),.val (.int 1),.val (.int 1000000000)]) sub1 {_,_,rfl,by simp![ArR,Rep],_,_,rfl,by simp![ArR,Rep],_,_,rfl,by simp![ArR,Rep],rfl} (ck1.btw z 1 1000000000 oz) λv G2 H2 hs2 gs2 sub2 fr2 rr=>?_};simp![ReR,Rep]at rr;subst rr;refine{_,rfl,?_};have hp2:=hs2 _ _ hp1;have gp2:G2 p=none:=zP fr2 gp1 hp1;refine{_,rfl,_,rfl,p,C,dx,_,rfl,hp2,tx.cls c C hC,tx.nA c _ C (by first|exact qg7 hrk|exact qeb hrk) hC,(by show 2 < 1000;decide),?_};refine k1 G2 _ [x1,x2,.int z] (λb o e=>gs2 b o (gs1 b o e)) (λb o e=>?_) gp2 (λb o nb e=>?_) (λb o e=>?_) ?_ rfl ?_
   ·rw[qc (λq=>by rw[q,gp2]at e;cases e)];exact sub2 b o e
   ·rw[qc nb];exact hs2 b o (but1 b o nb e)
   ·exact(jU.transB fr1 but1 hp1 fr2) b o e
   ·rw[qf];rfl
   ·simp![List.map_cons,List.map_nil,ql];exact{_,_,rfl,q1.same gs2,_,_,rfl,q2.same gs2,_,_,rfl,by simp![Rep],rfl})
def qed:FnScope ["self","lands","most"] ["self","lands","most"] (qe (mem 23 0)):={rfl,rfl,rfl,(3:),rfl,(3:),(3:)}
def qcM{fR cR fS cS:Addr}{dR dS:FuncData}(tx:Tx U K mg)(F:Fun K "__init__" "InRow.__init__" (mem 23 0) f fd)(FS:Fun K "__init__" "Since.__init__" (mem 22 0) fS dS)(bS:qM K dS ["self","lands","most","leave"] [])(mS:mg "Since" = some (.ref cS))(cfS:ClsFn K cS "__init__" fS)
  (FR:Fun K "__init__" "Rule.__init__" (mem 20 0) fR dR) (bR:qM K dR ["self","lands","most"] []) (mR:mg "Rule" = some (.ref cR)) (cf:ClsFn K cR "__init__" fR)
  (at0:JR P wd U K mg base pg j) (at1:JR P wd U K mg base pg (j+1)) (ck0:Ck pg j) (ck1:Ck pg (j+1)):FnOk P wd K mg base CX0 (j+3) f fd ["self","lands","most"] (Zw U K okI Zg):=by
 refine F.ok qed (λvs H Q E h=>?_) (λcdv A outer s H vs Q E hr h=>?_)
 ·let(G,c,C,p,dx,us,args,fs,rfl,_,_,_,_,_,ha,hg,_):=h;let(b,l,m,rfl,_):=YG hg
  have:=ha.len
  simp at this;simp[<-this]
 ·let(G,c,C,p,dx,us,args,fs,rfl,hrk,hC,hp,gp,sub,ha,hg,k1):=h;let(b,l,m,rfl,ol,om,rfl):=YG hg;simp![jW]at ha;let(v1,us1,rfl,r1,v2,us2,rfl,r2,rfl):=ha;simp![ArR,Rep]at r2;subst r2;refine{_,zd (zx (ZR cfS ((YH tx FR bR mR cf at0 at1 ck0 ck1).2 FS) hr (by rfl) mS bS .nil J7 (qg (pv 0) (qg (pv 1) (qg (pv 2) (qg YL qq)))))),?_}
  exact{_,rfl,_,rfl,_,rfl,G,c,C,p,dx,[v1,.int m,.int 1],[aA b l,.val (.int m),.val (.int 1)],_,rfl,qg6 hrk,hC,hp,gp,sub,{_,_,rfl,r1,_,_,rfl,by simp![ArR,Rep],_,_,rfl,by simp![ArR,Rep],rfl},
   qcJ ol om (2:),λG1 H1 xs gs1 sub1 gp1 but1 fr1 hp1 hl1 rp1=>k1 G1 H1 xs gs1 sub1 gp1 but1 fr1 hp1 hl1 rp1}
def qcN:FnScope ["self","rules","papers"] ["self","rules","papers"] (qe (mem 31 0)):={rfl,rfl,rfl,(3:),rfl,(3:),(3:)}
def qee(tx:Tx U K mg)(F:Fun K "__init__" "Book.__init__" (mem 31 0) f fd)(at_:JR P wd U K mg base pg j)(ck:Ck pg j):FnOk P wd K mg base CX0 (j+1) f fd ["self","rules","papers"] (Zw U K okB JU):=by
 let(fA,dA,FA,mA,kA,bA):=JR.q at_ "are_rules" (top 28) (4:);let(fB,dB,FB,mB,kB,bB):=JR.q at_ "check_papers" (top 30) (4:);refine F.ok qcN (λvs H Q E h=>?_) (λcdv A outer s H vs Q E hr h=>?_)
 ·let(G,c,C,p,dx,us,args,fs,rfl,_,_,_,_,_,ha,hg,_):=h;let(b0,c0,l,ps,rfl,_):=QP hg
  have:=ha.len
  simp at this;simp[<-this]
 ·let(G,c,C,p,dx,us,args,fs,rfl,hrk,hC,hp,gp,sub,ha,hg,k1):=h;let(b0,c0,l,ps,rfl,ol,op,rfl):=QP hg;simp![jW]at ha;let(v1,us1,rfl,r1,v2,us2,rfl,r2,rfl):=ha;let(a,xs,rfl,hxa,rl):=YF sub r1;let(b,ys,rfl,hb,rp):=YF sub r2
  refine{_,qo (YN (yV (JH (zz FA hr (by rfl) mA kA bA .nil J7 (qg (pv 1) qq)))) (zd jY) zQ)
   (qo (zx (zz FB hr (by rfl) mB kB bB .nil J7 (qg (pv 2) (qg (qN zt (by rfl) tx.len PySem.boot_len (qg (pv 1) qq)) qq))))
   (qo (YV (pv 0) (qX qY (by rfl) tx.lst PyProof.Rows.boot_list (qg (pv 1) qq)) rfl)
   (zd (YV (pv 0) (qX qY (by rfl) tx.lst PyProof.Rows.boot_list (qg (pv 2) qq)) rfl)))),?_}
  refine{_,rfl,Jy (E:=E0) (G:=G) (args:=[aA b0 l]) sub {_,_,rfl,r1,rfl} (ck.rules b0 l ol) λv G1 H1 hs1 gs1 sub1 fr1 rr=>?_};simp![ReR,Rep]at rr;subst rr;refine{_,rfl,?_};have ga1:H1 a=some (.lst xs):=hs1 _ _ hxa;refine{_,rfl,_,rfl,a,xs,rfl,.inl (SqL.of ga1),?_};refine Jy (E:=E0) (G:=G1) (args:=[aA c0 ps,.val (.int l.length)]) sub1 ⟨_,_,rfl,qjZ r2 gs1 hs1,_,_,rfl,by simp![ArR,Rep];rw[rl.len],rfl⟩ (ck.papers c0 ps l.length op) λv G2 H2 hs2 gs2 sub2 fr2 rr=>?_;have hp2:H2 p=some (.ins C dx []):=hs2 _ _ (hs1 _ _ hp);have gp1:G1 p=none:=zP fr1 gp hp;have gp2:G2 p=none:=zP fr2 gp1 (hs1 _ _ hp);have ga2:H2 a=some (.lst xs):=hs2 _ _ ga1;have hb2:H2 b=some (.lst ys):=hs2 _ _ (hs1 _ _ hb);refine{_,rfl,a,xs,rfl,.inl (SqL.of ga2),λt ht=>?_};have ntp:t≠p:=λz=>by rw[z,hp2]at ht;cases ht
  have gt:G2 t=none:=qj.none sub2 ht;refine{_,rfl,p,C,dx,_,rfl,by rw[qc ntp.symm];exact hp2,tx.cls c C hC,tx.nA c _ C (qcK hrk).1 hC,by decide,?_};have nbt:b≠t:=λz=>by rw[z,ht]at hb2;cases hb2
  have nbp:b≠p:=λz=>by rw[z,hp2]at hb2;cases hb2
  refine{_,rfl,b,ys,rfl,.inl (SqL.of (by rw[qc nbp,qc nbt];exact hb2)),λu hu=>?_};have nup:u≠p:=λz=>by rw[z,qf]at hu;cases hu
  have nut:u≠t:=λz=>by rw[z,qc ntp,qf]at hu;cases hu
  have hu2:H2 u=none:=by rw[qc nup,qc nut]at hu;exact hu
  have gu:G2 u=none:=qj.none sub2 hu2;refine{_,rfl,p,C,dx,_,rfl,by rw[qc nup.symm,qf],tx.cls c C hC,tx.nA c _ C (qcK hrk).2 hC,(by show 1 < 1000;decide),?_};have gut:upd G2 t (.lst xs) u=none:=by rw[qc nut];exact gu
  refine k1 (upd (upd G2 t (.lst xs)) u (.lst ys)) _ [.ref t,.ref u] ?_ ?_ ?_ ?_ ?_ ?_ rfl ?_
  ·exactλb o e=>qj.upd gut b o (qj.upd gt b o (gs2 b o (gs1 b o e)))
  ·intro q o e
   by_cases z:q=u
   ·subst z;rw[qf]at e;cases e;rw[qc nup,qf]
   ·rw[qc z]at e
    by_cases z2:q=t
    ·subst z2;rw[qf]at e;cases e;rw[qc ntp,qc z,qc ntp,qf]
    ·rw[qc z2]at e;have nq:q≠p:=λw=>by rw[w,gp2]at e;cases e
     rw[qc nq,qc z,qc nq,qc z2];exact sub2 q o e
  ·rw[qc nup.symm,qc ntp.symm];exact gp2
  ·intro q o nq e;have e2:=hs2 q o (hs1 q o e);have n1:q≠t:=λw=>by rw[w,ht]at e2;cases e2
   have n2:q≠u:=λw=>by rw[w,hu2]at e2;cases e2
   rw[qc nq,qc n2,qc nq,qc n1];exact e2
  ·intro q o e
   by_cases z:q=u
   ·subst z;exact .inr (qj.none hs1 (qj.none hs2 hu2))
   ·rw[qc z]at e
    by_cases z2:q=t
    ·subst z2;exact .inr (qj.none hs1 (qj.none hs2 ht))
    ·rw[qc z2]at e;exact(jU.trans fr1 hs1 fr2) q o e
  ·rw[qf];rfl
  ·simp![List.map_cons,List.map_nil,ql,Rep];exact{_,_,rfl,{t,xs,rfl,by rw[qc nut.symm];exact qf,((rl.same gs1 |>.same gs2).same (qj.upd gt)).same (qj.upd gut)},_,_,rfl,{u,ys,rfl,qf,((rp.same gs1 |>.same gs2).same (qj.upd gt)).same (qj.upd gut)},rfl}
def qmn(U:KC)(K:Frag)(X Y:Addr):Sp:=λvs H Q E=>∃(G:Hp) (c:Str) (C p dx:Addr) (us:List V) (a b:Ar),vs=.ref p::us/\okB c=true/\U c=some C/\
 H p=some (.ins C dx [])/\G p=none/\qj G H/\jW U K G H [a,b] us/\
 ((qG a=some false/\∀H',But p H H'->E (.ref X) none H')\/(qG a=some true/\∃(l:List D) (C':Addr) (x:List (Str×D)),arL a=some l/\qm Y l.length b=.exc C' x/\XP U G H E C' x))
theorem qg9{a:Ar}{l:List D}(h:arL a=some l):∃b,a=aA b l:=by
 cases a with
 |val d=>cases d with
  | lst l'=>cases h;exact⟨false,rfl⟩
  |_=>cases h
 | bor l'=>cases h;exact⟨true,rfl⟩
 | scr l'=>cases h
theorem qj2{G H G1 H1:Hp}{b:Ar}{v:V}(hb:arg? b)(g:qj G G1)(h:qj H H1)(r:ArR U K G H b v):ArR U K G1 H1 b v:=by
 cases b with
 |val d=>exact Rep.same g r
 |bor l=>let(a,xs,rfl,h1,h2):=r;exact{a,xs,rfl,h _ _ h1,h2.same g}
 |scr l=>exact hb.elim
def qef{X Y:Addr}(tx:Tx U K mg)(F:Fun K "__init__" "Book.__init__" (mem 31 0) f fd)(at_:JR P wd U K mg base pg j)(ckR:∀a x,qG a=some x->clK pg j "are_rules" [a]=.ok (.val (.bl x)))(ckP:∀n b C x,qm Y n b=.exc C x->clK pg j "check_papers" [b,.val (.int n)]=.exc C x)
  (hX:mg "NoRule" = some (.ref X)) (okX:PySem.W.excIn K X bV "ValueError.__new__" = true):FnOk P wd K mg base (CX1 P wd) (j+1) f fd ["self","rules","papers"] (qmn U K X Y):=by
 let(fA,dA,FA,mA,kA,bA):=JR.q at_ "are_rules" (top 28) (4:);let(fB,dB,FB,mB,kB,bB):=at_.1 "check_papers" (top 30) (4:);refine F.okx qcN (λvs H Q E h=>?_) (λcdv A outer s H vs Q E hr h=>?_)
 ·let(G,c,C,p,dx,us,a,b,rfl,_,_,_,_,_,ha,_):=h
  have:=ha.len
  simp at this;simp[<-this]
 ·let(G,c,C,p,dx,us,a,b,rfl,hrk,hC,hp,gp,sub,ha,hb):=h;simp![jW]at ha;let(v1,us1,rfl,r1,v2,us2,rfl,r2,rfl):=ha;rcases hb with ⟨hr0,k1⟩|⟨hr1,l,C',x,el,hx,k1⟩
  ·refine{_,qo (YN (yV (JH (zz FA hr (by rfl) mA kA bA .nil J7 (qg (pv 1) qq)))) (zd (ZQ qdf rfl (by rfl) hX okX PySem.F.excBase_ValueError (qg ZA qq))) zQ) YO,?_};refine{_,rfl,Jy (E:=E0) (G:=G) (args:=[a]) sub {_,_,rfl,r1,rfl} (ckR a false hr0) λv G1 H1 hs1 gs1 sub1 fr1 rr=>?_};simp![ReR,Rep]at rr;subst rr;exact{_,rfl,by show 1<=sizeLine;decide+kernel,k1 H1 λa o _ e=>hs1 a o e}
  ·let(b0,rfl):=qg9 el
   have nb:arg? b:=by
    cases b with
    |scr l=>cases hx
    |_=>trivial
   refine{_,qo (YN (yV (JH (zz FA hr (by rfl) mA kA bA .nil J7 (qg (pv 1) qq)))) (zd jY) zQ)
    (qo (zx (zz FB hr (by rfl) mB kB bB .nil (qbJ λ_ _ _ q=>q) (qg (pv 2) (qg (qN zt (by rfl) tx.len PySem.boot_len (qg (pv 1) qq)) qq)))) YO),?_}
   refine{_,rfl,Jy (E:=E0) (G:=G) (args:=[aA b0 l]) sub {_,_,rfl,r1,rfl} (ckR _ true hr1) λv G1 H1 hs1 gs1 sub1 fr1 rr=>?_};simp![ReR,Rep]at rr;subst rr;refine{_,rfl,?_};let(a1,xs,rfl,hxa,rl):=YF sub r1;refine{_,rfl,_,rfl,a1,xs,rfl,.inl (SqL.of (hs1 _ _ hxa)),?_};refine{G1,[b,.val (.int l.length)],sub1,{_,_,rfl,qj2 nb gs1 hs1 r2,_,_,rfl,by simp![ArR,Rep];rw[rl.len],rfl},?_};rw[ckP _ b C' x hx];exactλod G' H' q1 q2 q3 q4 q5=>k1 od G' H' (λa o e=>q1 a o (hs1 a o e)) (λa o e=>q2 a o (gs1 a o e)) q3 (jU.trans fr1 hs1 q4) q5
def FnOk.or{CX:CXT}{k:Nat}{ps:List Str}{sp sp':Sp}(F:FnOk P wd K mg base CX k f fd ps sp)(F':FnOk P wd K mg base CX k f fd ps sp'):FnOk P wd K mg base CX k f fd ps (λvs H Q E=>sp vs H Q E\/sp' vs H Q E):=
 ⟨λvs H Q E h=>h.elim (F.len vs H Q E) (F'.len vs H Q E),λA outer s H args us vs Q E hr he hb hv h=>h.elim (F.run A outer s H args us vs Q E hr he hb hv) (F'.run A outer s H args us vs Q E hr he hb hv)⟩
end
end K14
namespace DG
open PySem PySem.Spec PyProof.Rows L2 DE
def qha(b:Bool)(l:List D):aA b l=aL b l:=by cases b<;>rfl
def qeg{c:Str}(h:rk c=true):c = "Within"\/c = "Since"\/c = "InRow":=by
 unfold rk at h
 simpa [or_assoc] using h
theorem YI{c:Str}{o:Option (List (Str×D))}{r:Rv}(h:Yt c o=.ok r):∃fs,o=some fs/\r=.val (.ins c (fs.map (·.1)) (fs.map (·.2))):=by
 cases o with
 |none=>cases h
 |some fs=>cases h;exact⟨fs,rfl,rfl⟩
def J2(b:Bool)(l l':List D):aA b l≠.scr l':=by cases b<;>(intro z;cases z)
def qhb{k:Nat}{f:Str}{args:List Ar}{c:Addr}{l:List (Str×D)}:pnw k f args≠.exc c l:=by
 have o:∀{n:Str} {x:Option (List (Str×D))},Yt n x≠.exc c l:=λ{n x}=>by cases x<;>exact nofun
 unfold pnw
 repeat' first|exact o|(intro h;cases h)|split
def qni{j:Nat}{args:List Ar}{r:Rv}(h:pnw (j+12) "Within" args=.ok r):(∀a∈args,∀l,a≠.scr l)/\∃fs,zJ "span" args=some fs/\r=.val (.ins "Within" (fs.map (·.1)) (fs.map (·.2))):=by
 have h:(if j+12 < 12 then R.no else Yt "Within" (zJ "span" args))=.ok r:=h;rw[if_neg (1:)]at h;let(fs,e,er):=YI h;let(b,l,m,s,rfl,_):=ye e;refine{λa ha=>?_,fs,e,er};simp![List.mem_cons,List.not_mem_nil,or_false]at ha;rcases ha with rfl|rfl|rfl
 ·exactλl'=>J2 b l l'
 ·exactλl' z=>by cases z
 ·exactλl' z=>by cases z
def qnj{j:Nat}{args:List Ar}{r:Rv}(h:pnw (j+12) "Since" args=.ok r):(∀a∈args,∀l,a≠.scr l)/\∃fs,zJ "leave" args=some fs/\r=.val (.ins "Since" (fs.map (·.1)) (fs.map (·.2))):=by
 have h:(if j+12 < 12 then R.no else Yt "Since" (zJ "leave" args))=.ok r:=h;rw[if_neg (1:)]at h;let(fs,e,er):=YI h;let(b,l,m,s,rfl,_):=ye e;refine{λa ha=>?_,fs,e,er};simp![List.mem_cons,List.not_mem_nil,or_false]at ha;rcases ha with rfl|rfl|rfl
 ·exactλl'=>J2 b l l'
 ·exactλl' z=>by cases z
 ·exactλl' z=>by cases z
def qnk{j:Nat}{args:List Ar}{r:Rv}(h:pnw (j+12) "InRow" args=.ok r):(∀a∈args,∀l,a≠.scr l)/\∃fs,Zg args=some fs/\r=.val (.ins "InRow" (fs.map (·.1)) (fs.map (·.2))):=by
 have h:(if j+12 < 12 then R.no else Yt "InRow" (Zg args))=.ok r:=h;rw[if_neg (1:)]at h;let(fs,e,er):=YI h;let(b,l,m,rfl,_):=YG e;refine{λa ha=>?_,fs,e,er};simp![List.mem_cons,List.not_mem_nil,or_false]at ha;rcases ha with rfl|rfl
 ·exactλl'=>J2 b l l'
 ·exactλl' z=>by cases z
structure Kl(K:Frag)(C:Addr):Prop where
 cls:Cls K C
 tc:PySem.W.findIn K (.ref C) "__class__" = some (some (.builtin "object.__class__"))
 mo:PySem.W.mroIn K C (.type "object")=some true
def JB(K:Frag)(f:Addr)(n q:Str)(st:Stmt):Prop:=∃oc od kV dc pm an cd ct sl,K.lookup f=some ⟨oc,od,.func (PySem.W.fnOf n q (ze st) (qt st) (qe st) .none kV dc pm an cd ct),sl⟩/\PySem.W.codeIn K cd q=true/\PySem.W.keepIn K (.ref f)=true
noncomputable abbrev FG(K:Frag)(f:Addr)(n:Str)(st:Stmt):Prop:=PySem.W.nsIn K mainGlobals n=some (some (.ref f))/\JB K f n n st
section
variable{K:Frag}{f:Addr}{n q:Str}{st:Stmt}{mg:PR}{h:Heap}
def JB.fn(i:JB K f n q st):∃fd,Fun K n q st f fd:=by let(oc,od,kV,dc,pm,an,cd,ct,sl,l,c,k):=i;exact{_,qer l c k}
def JB.kp(i:JB K f n q st):PySem.W.keepIn K (.ref f)=true:=by let(oc,od,kV,dc,pm,an,cd,ct,sl,l,c,k):=i;exact k
theorem un1{us:List Value}{a:Str}{l:List Str}(h:us.length=(a::l).length):∃u vs,us=u::vs/\vs.length=l.length:=by
 cases us with
 |nil=>cases h
 |cons u vs=>exact{u,vs,rfl,Nat.succ.inj h}
def Bd(n q:Str)(st:Stmt)(ps:List Str):Prop:=∀(kV doc pm:Value) (an:Option Addr) (cdv ct:Value) (us:List Value),us.length=ps.length->bindArgs (PySem.W.fnOf n q (ze st) (qt st) (qe st) .none kV doc pm an cdv ct) ⟨us,[]⟩=pure (ps.zip us)
def qj3(X:K.In h)(G:h.Ns mainGlobals mg)(a:PySem.W.nsIn K mainGlobals n=some (some (.ref f)))(i:JB K f n n st){ps:List Str}(hp:Jk st=ps)(hb:Bd n n st ps):FnF K mg n st:=by let(fd,F):=i.fn;exact{f,fd,F,PySem.W.mg_of X G a,hp▸F.binds hb}
def jb(i:JB K f n q st){ps:List Str}(hb:Bd n q st ps):∃fd,Fun K n q st f fd/\qM K fd ps []:=by let(fd,F):=i.fn;exact{fd,F,F.binds hb}
def qj4(i:JB K f n n st)(hb:Bd n n st ["_law_script"]):∃fd,Fun K n n st f fd/\∀(s:Shared) (v:Value),BindsTo s fd ⟨[v],[]⟩ [("_law_script",v)]:=by let(oc,od,kV,dc,pm,an,cd,ct,sl,l,c,k):=i;exact{_,qer l c k,λs v=>.of_eq (hb _ _ _ _ _ _ [v] rfl)}
end
section
variable{n q:Str}{st:Stmt}{a b c d e:Str}
def bd1(h:∀(kV doc pm:Value) (an:Option Addr) (cdv ct x:Value),bindArgs (PySem.W.fnOf n q (ze st) (qt st) (qe st) .none kV doc pm an cdv ct) ⟨[x],[]⟩=pure [(a,x)]):Bd n q st [a]:=λ_ _ _ _ _ _ us k0=>by
 let(_,us,rfl,k1):=un1 k0
 cases List.length_eq_zero_iff.mp k1;exact h ..
def bd2(h:∀(kV doc pm:Value) (an:Option Addr) (cdv ct x y:Value),bindArgs (PySem.W.fnOf n q (ze st) (qt st) (qe st) .none kV doc pm an cdv ct) ⟨[x,y],[]⟩=pure [(a,x),(b,y)]):Bd n q st [a,b]:=λ_ _ _ _ _ _ us k0=>by
 let(_,us,rfl,k1):=un1 k0;let(_,us,rfl,k2):=un1 k1
 cases List.length_eq_zero_iff.mp k2;exact h ..
def bd3(h:∀(kV doc pm:Value) (an:Option Addr) (cdv ct x y z:Value),bindArgs (PySem.W.fnOf n q (ze st) (qt st) (qe st) .none kV doc pm an cdv ct) ⟨[x,y,z],[]⟩=pure [(a,x),(b,y),(c,z)]):Bd n q st [a,b,c]:=λ_ _ _ _ _ _ us k0=>by
 let(_,us,rfl,k1):=un1 k0;let(_,us,rfl,k2):=un1 k1;let(_,us,rfl,k3):=un1 k2
 cases List.length_eq_zero_iff.mp k3;exact h ..
def bd4(h:∀(kV doc pm:Value) (an:Option Addr) (cdv ct x y z u:Value),bindArgs (PySem.W.fnOf n q (ze st) (qt st) (qe st) .none kV doc pm an cdv ct) ⟨[x,y,z,u],[]⟩=pure [(a,x),(b,y),(c,z),(d,u)]):Bd n q st [a,b,c,d]:=λ_ _ _ _ _ _ us k0=>by
 let(_,us,rfl,k1):=un1 k0;let(_,us,rfl,k2):=un1 k1;let(_,us,rfl,k3):=un1 k2;let(_,us,rfl,k4):=un1 k3
 cases List.length_eq_zero_iff.mp k4;exact h ..
end
end DG
namespace K14
open PySem L2 DE DG FA
theorem qcO:∀l:List D,ruT l=some true->l.all qaS=true
 |[],_=>rfl
 | d::l,h=>by
  unfold ruT at h
  cases e:Jq d with
  |none=>rw[e]at h;cases h
  |some b=>
   rw[e]at h
   cases b with
   |false=>cases h
   |true=>let(c,ns,ds,rfl,hk):=qcx e;rw[List.all_cons,qcO l h,Bool.and_true];exact hk
theorem qcP{m:Int}:∀(l:List D) (i:Nat),jO m i l=none->l.all (qE m)=true
 |[],_,_=>rfl
 | d::l,i,h=>by
  unfold jO at h
  by_cases c:qE m d=true
  ·rw[if_pos c]at h;rw[List.all_cons,c,qcP l (i+1) h];rfl
  ·rw[if_neg c]at h;cases h
def Zx{a:Ar}{l:List D}(h:arL a=some l)(e:qG a=some true):(decide (l.length<=8)&&l.all qaS)=true:=by
 unfold qG at e;rw[h]at e;have e:(if 8 < l.length then some false else ruT l)=some true:=e
 by_cases c:8 < l.length
 ·rw[if_pos c]at e;cases e
 ·rw[if_neg c]at e;rw[decide_eq_true (by omega),qcO l e];rfl
theorem QQ{m:Int}{b:Ar}{ps:List D}(e:qm aP m b=.ok ps):arL b=some ps/\(decide (ps.length<=12)&&ps.all (qE m))=true:=by
 unfold qm at e
 cases h:arL b with
 |none=>
  rw[h]at e;dsimp only at e
  split at e
  ·split at e<;>cases e
  ·cases e
 |some l=>
  rw[h]at e
  have e:(if (l.all jl&&decide (l.length<=1000))=true then (match jO m 0 l with
   |some i=>(R.exc aP [("number",.int i)]:R (List D))
   |none=>if 12 < l.length then .exc aP [("number",.non)] else .ok l) else .no)=.ok ps:=e
  by_cases c:(l.all jl&&decide (l.length<=1000))=true
  ·rw[if_pos c]at e
   cases q:jO m 0 l with
   |some i=>rw[q]at e;cases e
   |none=>
    rw[q]at e;dsimp only at e
    by_cases c2:12 < l.length
    ·rw[if_pos c2]at e;cases e
    ·rw[if_neg c2]at e;cases e;refine{rfl,?_};rw[decide_eq_true (by omega),qcP ps 0 q];rfl
  ·rw[if_neg c]at e;cases e
theorem QR{args:List Ar}:(∃a b,args=[a,b])\/nwB aR aP args=.no:=by
 match args with
 |[a,b]=>exact .inl ⟨a,b,rfl⟩
 |[]=>exact .inr rfl
 |[_]=>exact .inr rfl
 | _::_::_::_=>exact .inr rfl
theorem qe7{a:Ar}(h:qG a=some true):∃l,arL a=some l:=by
 cases e:arL a with
 |some l=>exact⟨l,rfl⟩
 |none=>
  unfold qG at h;rw[e]at h;dsimp only at h
  split at h
  ·split at h<;>cases h
  ·cases h
def qnl(args:List Ar):Prop:=∀a∈args,∀l,a≠.scr l
theorem qj5{args:List Ar}{r:Rv}(h:nwB aR aP args=.ok r):qnl args/\∃fs,JU args=some fs/\r=.val (.ins "Book" (fs.map (·.1)) (fs.map (·.2))):=by
 rcases QR (args:=args) with ⟨a,b,rfl⟩|e
 case inr=>rw[e]at h;cases h
 unfold nwB at h;dsimp only at h
 cases ea:qG a with
 |none=>rw[ea]at h;cases h
 |some x=>
  rw[ea]at h
  cases x with
  |false=>cases h
  |true=>
   let(l,el):=qe7 ea;dsimp only at h;rw[el]at h;simp![of_some,th_ok]at h
   cases ep:qm aP l.length b with
   |no=>rw[ep]at h;cases h
   |exc c x=>rw[ep]at h;cases h
   |ok ps=>
    rw[ep]at h;cases h;let(eb,hp):=QQ ep;have hl:=Zx el ea;let(b0,rfl):=qg9 el;let(b1,rfl):=qg9 eb;refine{λx hx=>?_,[("kept_rules",.lst l),("kept_papers",.lst ps)],?_,rfl}
    ·simp![List.mem_cons,List.not_mem_nil,or_false]at hx;rcases hx with rfl|rfl
     ·exactλl'=>J2 b0 l l'
     ·exactλl'=>J2 b1 ps l'
    ·show(match arL (aA b0 l),arL (aA b1 ps) with |some l,some ps=>_ |_,_=>none)=_;rw[el,eb];dsimp only;rw[if_pos (by rw[hl,hp];rfl)]
theorem qlK{args:List Ar}{C:Addr}{x:List (Str×D)}(h:nwB aR aP args=.exc C x):∃a b,args=[a,b]/\((qG a=some false/\C=aR/\x=[])\/(qG a=some true/\∃l,arL a=some l/\qm aP l.length b=.exc C x)):=by
 rcases QR (args:=args) with ⟨a,b,rfl⟩|e
 case inr=>rw[e]at h;cases h
 refine{a,b,rfl,?_};unfold nwB at h;dsimp only at h
 cases ea:qG a with
 |none=>rw[ea]at h;cases h
 |some y=>
  rw[ea]at h
  cases y with
  |false=>cases h;exact .inl ⟨rfl,rfl,rfl⟩
  |true=>
   let(l,el):=qe7 ea;dsimp only at h;rw[el]at h;simp![of_some,th_ok]at h;refine .inr ⟨rfl,l,el,?_⟩
   cases ep:qm aP l.length b with
   |no=>rw[ep]at h;cases h
   |exc c y=>rw[ep]at h;have h2:(R.exc c y:R Rv)=.exc C x:=h;cases h2;rfl
   |ok ps=>rw[ep]at h;cases h
theorem qj6{U:KC}{K:Frag}{G H H1:Hp}(h:qj H H1):∀{b:Ar} {v:V},ArR U K G H b v->ArR U K G H1 b v
 |.val d,v,r=>r
 |.bor l,v,r=>by let(a,xs,rfl,h1,h2):=r;exact{a,xs,rfl,h _ _ h1,h2}
 |.scr l,v,r=>by let(a,xs,rfl,h1,h2):=r;exact{a,xs,rfl,h.seq h1,h2}
theorem qeh{U:KC}{K:Frag}{C:Addr}{j:Nat}(hC:U "Book" = some C) :
  ∀vs H Q E,spF U K (qcf aR aP (j+12)) "Book" vs H Q E->∀x dx,H x=none->H dx=none->dx≠x->(Zw U K okB JU (.ref x::vs) (upd (upd H dx (.own x)) x (.ins C dx [])) (λv H2=>v=.non/\Q (.ref x) H2) E\/qmn U K aR aP (.ref x::vs) (upd (upd H dx (.own x)) x (.ins C dx [])) (λv H2=>v=.non/\Q (.ref x) H2) E):=by
 intro vs H Q E h x dx hx hdx ne;let(G,args,sub,ha,hw):=h;have nw:qcf aR aP (j+12) "Book" args=nwB aR aP args:=if_neg (by omega);rw[nw]at hw
 cases e:nwB aR aP args with
 |no=>rw[e]at hw;exact hw.elim
 |ok r=>
  refine .inl (Jz (nw:=λ_ a=>match nwB aR aP a with |.exc _ _=>.no |r=>r) (f:="Book") (c:="Book") hC rfl (λa c l z=>?_) (λa r z=>qj5 (r:=r) ?_) vs H Q E ⟨G,args,sub,ha,?_⟩ x dx hx hdx ne)
  ·cases q:nwB aR aP a with
   |ok r=>rw[q]at z;cases z
   | exc c' l'=>rw[q]at z;cases z
   |no=>rw[q]at z;cases z
  ·cases q:nwB aR aP a with
   | ok r'=>rw[q]at z;exact z
   | exc c' l'=>rw[q]at z;cases z
   |no=>rw[q]at z;cases z
  ·show Wx _ (match nwB aR aP args with |.exc _ _=>.no |r=>r) _;rw[e]at hw ⊢;exact hw
 | exc C' l'=>
  rw[e]at hw;let(a,b,rfl,hb):=qlK e;have gx:G x=none:=qj.none sub hx
  have up:qj H (upd (upd H dx (.own x)) x (.ins C dx [])):=λb o hb=>by
   have nb:b≠x:=λz=>by rw[z,hx]at hb;cases hb
   have nd:b≠dx:=λz=>by rw[z,hdx]at hb;cases hb
   rw[qc nb,qc nd];exact hb
  simp![jW]at ha;let(v1,us1,rfl,r1,v2,us2,rfl,r2,rfl):=ha;refine .inr ⟨G,"Book",C,x,dx,[v1,v2],a,b,rfl,rfl,hC,qf,gx,λb o q=>up b o (sub b o q),⟨_,_,rfl,qj6 up r1,_,_,rfl,qj6 up r2,rfl⟩,?_⟩;rcases hb with ⟨h1,rfl,rfl⟩|⟨h1,l,el,hp⟩
  ·refine .inl ⟨h1,λH' but=>?_⟩;have sm:qj H H':=λb o q=>but b o (λz=>by rw[z,hx]at q;cases q) (up b o q);exact hw none G H' sm (λ_ _ q=>q) (λb o q=>sm b o (sub b o q)) (λa o q=>.inl ⟨o,q⟩) (.inl ⟨rfl,rfl⟩)
  ·exact .inr ⟨h1,l,C',l',el,hp,λod G' H' q1 q2 q3 q4 q5=>hw od G' H' (λb o q=>q1 b o (up b o q)) q2 q3 (λb o q=>(q4 b o q).imp id (qj.none up)) q5⟩
open PySem.Spec PyProof.Rows Dy
open LC LN LM CH BO SP
section
variable{U:KC}{ε:XK}{K:Frag}{Gv Hv G H:Hp}{N:DE.Env}{Z:L2.St}{k w:Nat}{X:Cx}{L:Ct}
theorem qe8(gs:Gs U K ε k X L){rest:List Stmt}{u:TS}(hr:PSs X rest u):∀(m:Nat) (l:List Stmt) (x:Ss),cSs m L l=some x->PSs X (l++rest) (λD Z H=>tS U K Gv Hv ε (iSs L.k w x) { D with nx:=u D } Z H)
 |0,_,_,h=>nomatch h
 | m+1,[],_,h=>by cases h;exact PSs.imp hr λD Z H ⟨N,G,er,h⟩=>h Z G H er λ_ _ e=>e
 | m+1,st::l,_,h=>by
  let(s',l',h1,h2,rfl):=qk h;refine PSs.imp (qo ((qi7 (w:=w) m _ _ _ gs).s Gv Hv _ _ h1) (qe8 gs hr m l _ h2)) λD Z H hq1=>?_;let(N,G,er,h):=hq1;refine{N,G,er,Wx.mono (Wx.th (x:=iS L.k w s' N) h) λf hf=>?_}
  cases f with
  |next N1=>exactλZ1 G1 H1 er1 g1=>{N1,G1,er1,Wx.mono hf λf hf=>hf.back g1}
  |ret r=>exact hf
def qlL{i:Nat}{x:Option V}(h:ER U K Gv Hv G H N Z)(e:N[i]?=some .no):ER U K Gv Hv G H N (Z.set i x):=by
 have f:∀{j:Nat} {m:List D},N[j]?=some (.own m)->i≠j:=λ{j m} q z=>by subst z;rw[e]at q;cases q
 refine{by rw[List.length_set];exact h.len,h.sub,h.base,h.g0,h.fresh,λj s q=>?_,λj k b m n q1 q2 q3 q4=>?_}
 ·by_cases hj:i=j
  ·subst hj;rw[e]at q;cases q;trivial
  ·rw[List.getElem?_set_ne hj];exact h.sl j s q
 ·rw[List.getElem?_set_ne (f q1)]at q3;rw[List.getElem?_set_ne (f q2)]at q4;exact h.ap j k b m n q1 q2 q3 q4
def qcQ{a:Addr}{o:HO}(h:ER U K Gv Hv G H N Z)(h1:G a=none)(h2:Hv a=none)(h3:¬ Qg N Z a):ER U K Gv Hv G (upd H a o) N Z:=by
 refine{h.len,λb u q=>?_,λb u q=>?_,h.g0,h.fresh,λj s q=>?_,h.ap}
 ·have hb:b≠a:=λz=>by rw[z,h1]at q;cases q
  rw[qc hb];exact h.sub b u q
 ·have hb:b≠a:=λz=>by rw[z,h2]at q;cases q
  rw[qc hb];exact h.base b u q
 ·have z:=h.sl j s q
  cases s with
  |no=>trivial
  |val d=>exact z
  |own ds=>let(b,xs,e,z1,z2,z3,z4):=z;have hb:b≠a:=λy=>h3 ⟨j,ds,q,by rw[<-y];exact e⟩;exact{b,xs,e,by rw[qc hb];exact z1,z2,z3,z4}
  |bor ds=>exact z
  |scr ds=>exact z
def m5:Stmt:=.Assign [.Name "_law_handed" ⟨237,4,237,15⟩] (.List [.Call (.Name "list" ⟨237,19,237,23⟩) [.Name "_law_rules" ⟨237,24,237,34⟩] [] ⟨237,19,237,35⟩,.Call (.Name "list" ⟨237,37,237,41⟩) [.Name "_law_papers" ⟨237,42,237,53⟩] [] ⟨237,37,237,54⟩] ⟨237,18,237,55⟩) ⟨237,4,237,55⟩
def m6:Stmt:=.Assign [.Name "_law_book" ⟨238,4,238,13⟩] (.Call (.Name "Book" ⟨238,16,238,20⟩) [.Subscript (.Name "_law_handed" ⟨238,21,238,32⟩) (.Constant (.int 0) 0 ⟨238,33,238,34⟩) ⟨238,21,238,35⟩,.Subscript (.Name "_law_handed" ⟨238,37,238,48⟩) (.Constant (.int 1) 0 ⟨238,49,238,50⟩) ⟨238,37,238,51⟩] [] ⟨238,16,238,52⟩) ⟨238,4,238,52⟩
def m7:Stmt:=.If (.BoolOp .Or [.Compare (.Subscript (.Name "_law_handed" ⟨239,7,239,18⟩) (.Constant (.int 1) 0 ⟨239,19,239,20⟩) ⟨239,7,239,21⟩) [.NotEq] [.Name "_law_papers" ⟨239,25,239,36⟩] ⟨239,7,239,36⟩,
 .Compare (.Call (.Name "len" ⟨239,40,239,43⟩) [.Subscript (.Name "_law_handed" ⟨239,44,239,55⟩) (.Constant (.int 0) 0 ⟨239,56,239,57⟩) ⟨239,44,239,58⟩] [] ⟨239,40,239,59⟩) [.NotEq] [.Name "_law_many" ⟨239,63,239,72⟩] ⟨239,40,239,72⟩] ⟨239,7,239,72⟩)
 [.Return (some (.Constant (.bool false) 0 ⟨240,15,240,20⟩)) ⟨240,8,240,20⟩] [] ⟨239,4,240,20⟩
def m8:Stmt:=.Expr (.Call (.Attribute (.Subscript (.Name "_law_handed" ⟨241,4,241,15⟩) (.Constant (.int 0) 0 ⟨241,16,241,17⟩) ⟨241,4,241,18⟩) "clear" ⟨241,4,241,24⟩) [] [] ⟨241,4,241,26⟩) ⟨241,4,241,26⟩
def m9:Stmt:=.Expr (.Call (.Attribute (.Subscript (.Name "_law_handed" ⟨242,4,242,15⟩) (.Constant (.int 1) 0 ⟨242,16,242,17⟩) ⟨242,4,242,18⟩) "append" ⟨242,4,242,25⟩) [.Constant .none 0 ⟨242,26,242,30⟩] [] ⟨242,4,242,31⟩) ⟨242,4,242,31⟩
def qhc:qt (top 43)=(qt (top 43)).take 5++(m5::m6::m7::m8::m9::(qt (top 43)).drop 10):=(4:)
def qlM(j:Nat)(cl:Str->List Ar->R Rv):cSs pg.m (pg.ct j cl (top 43)) ((qt (top 43)).take 5)=some qkw:=(4:)
def qj7(j:Nat)(cl:Str->List Ar->R Rv):cSs pg.m (pg.ct j cl (top 43)) ((qt (top 43)).drop 10)=some qd8:=(4:)
def n3:(fnN (top 43))[3]?=some ("_law_rules" : Str)/\qa3 (qe (top 43)) "_law_rules" = true:={by kernel_rfl,(4:)}
def n4:(fnN (top 43))[4]?=some ("_law_many" : Str)/\qa3 (qe (top 43)) "_law_many" = true:={by kernel_rfl,(4:)}
def n5:(fnN (top 43))[5]?=some ("_law_papers" : Str)/\qa3 (qe (top 43)) "_law_papers" = true:={by kernel_rfl,(4:)}
def n7:(fnN (top 43))[7]?=some ("_law_handed" : Str)/\qa3 (qe (top 43)) "_law_handed" = true:={by kernel_rfl,(4:)}
def n8:(fnN (top 43))[8]?=some ("_law_book" : Str)/\qa3 (qe (top 43)) "_law_book" = true:={by kernel_rfl,(4:)}
def l7:qf8 (qe (top 43)) "_law_handed" = true/\qf8 (qe (top 43)) "_law_book" = true:={by kernel_rfl,(4:)}
def g7:glB (qe (top 43)) "list" = true/\glB (qe (top 43)) "len" = true/\glB (qe (top 43)) "Book" = true:={by kernel_rfl,(4:),(4:)}
def pvL{j:Nat}{cl:Str->List Ar->R Rv}(gs:Gs U K ε k X (pg.ct j cl (top 43))){i:Nat}{x:Str}{pos:Pos}(h:(fnN (top 43))[i]?=some x/\qa3 (qe (top 43)) x=true)(d1:(x == ("__debug__" : Str))=false:=by decide)(d2:(x == ("__classdict__" : Str))=false:=by decide):PE X (.Name x pos) (qaZ i):=
 jA (by rw[gs.hN];exact h.1) (gs.vis x h.2) d1 d2
noncomputable abbrev sl5(ns:List Int)(zs:List Str)(rs:List Ru)(ps:List Pa)(b:Sl):DE.Env:=[.scr (ns.map D.int),.own (zs.map D.str),.no,.val (.lst (rs.map ruI)),.val (.int rs.length),.own (ps.map paD),.own (rs.map qU),.no,b,.no,.no,.no,.no,.no]
def qj8{cl:Str->List Ar->R Rv}(gs:Gs U K ε 19 X (pg.ct 19 cl (top 43))){rest:List Stmt}{u:TS}(hr:PSs X rest u){ns:List Int}{zs:List Str}{rs:List Ru}{ps:List Pa}(l8:rs.length<=8)(hp:∀p∈ps,PaOk rs.length p)(l12:ps.length<=12) :
  PSs X (m5::m6::m7::m8::m9::rest) (λD Z H=>∃G,ER U K Gv Hv G H (sl5 ns zs rs ps .no) Z/\∀Z' G' H',ER U K Gv Hv G' H' (sl5 ns zs rs ps (.val (bkI rs ps))) Z'->u D Z' H'):=by
 have pv:∀{i:Nat} {x:Str} {pos:Pos},(fnN (top 43))[i]?=some x/\qa3 (qe (top 43)) x=true->(x == ("__debug__" : Str))=false->(x == ("__classdict__" : Str))=false->PE X (.Name x pos) (qaZ i):=λh d1 d2=>pvL gs h d1 d2;let(C,fa,fd,pp,sp,M,F,hm,hb,hk,hsp):=(gs.mks "Book" (show qhq.tab.contains ("Book" : Str)=true from by decide)).resolve_left λz=>absurd (show decide (12<=19)=false from z.1) (2:);have rm:Room (19 - 1+1) X.A:=gs.room;have st (i:Nat) (z:Int) {p1 p2 p3:Pos}:PE X (.Subscript (.Name "_law_handed" p1) (.Constant (.int z) 0 p2) p3) (tOp (qkj X.K) (qaZ 7) (tC (.int z))):=qhO qbl (pv n7 (2:) (2:)) YL (λ_ _=>rfl);have nd:X.N.Nodup:=by rw[gs.hN];exact gs.nd
 refine PSs.imp (qo (YQ nd (by rw[gs.hN];exact n7.1) (gs.loc _ l7.1).1 (qen (qg (qX qY (gs.glo _ g7.1) (gs.blt _ (2:)) PyProof.Rows.boot_list (qg (pv n3 (2:) (2:)) qq)) (qg (qX qY (gs.glo _ g7.1) (gs.blt _ (2:)) PyProof.Rows.boot_list (qg (pv n5 (2:) (2:)) qq)) qq))) rfl (gs.loc _ l7.1).2)
  (qo (YQ nd (by rw[gs.hN];exact n8.1) (gs.loc _ l7.2).1 (qbh M F rm (gs.glo _ g7.2.2) hm hb .nil gs.ps (qg (st 0 0) (qg (st 0 1) qq))) rfl (gs.loc _ l7.2).2)
  (qo (YN (PW.pt (qkx (QU (Z2 (Gv:=Gv) (Hv:=Hv) gs.toGd .NotEq) (st 0 1) (pv n5 (2:) (2:)) rfl) (qek (QU (Z2 (Gv:=Gv) (Hv:=Hv) gs.toGd .NotEq) (qN zt (gs.glo _ g7.2.1) (gs.blt _ (2:)) PySem.boot_len (qg (st 0 0) qq)) (pv n4 (2:) (2:)) rfl)))) (zd (ZB qhw)) zQ)
  (qo (zx (qeq PySem.F.plainAttrs_list PySem.F.slot_list_clear PySem.F.type_list_clear ZH (st 0 0)))
  (qo (zx (qft PySem.F.plainAttrs_list PySem.F.slot_list_append PySem.F.type_list_append Y6 (st 0 1) (qg qej qq))) hr))))) λD Z H hq=>?_
 let(G,er,hu):=hq;let(v3,e3,r3):=er.sl 3 _ rfl;let(v4,e4,r4):=er.sl 4 _ rfl;let(a5,ys,e5,h5,_,_,r5):=er.sl 5 _ rfl;simp![Rep]at r3;let(p3,xs,rfl,h3,r3):=r3;simp![Rep]at r4;subst r4;have h3:H p3=some (.lst xs):=er.sub _ _ h3;have lx:xs.length=rs.length:=by rw[<-r3.len,List.length_map]
 have ly:ys.length=ps.length:=by rw[<-r5.len,List.length_map]
 have ls:Z.length=14:=er.len.symm;refine{_,e3,p3,xs,rfl,.inl (SqL.of h3),λl1 n1=>?_};have s1:qj H (upd H l1 (.lst xs)):=qj.upd n1;refine{_,e5,a5,ys,rfl,.inl (SqL.of (s1 _ _ h5)),λl2 n2=>?_};have s2:qj H (upd (upd H l1 (.lst xs)) l2 (.lst ys)):=λb o e=>qj.upd n2 b o (s1 b o e);refine{(by decide+kernel:2<=sizeLine),λl3 n3'=>?_};have k12:l1≠l2:=λz=>by rw[<-z,qf]at n2;cases n2
 have k13:l3≠l1:=λz=>by rw[z,qc k12,qf]at n3';cases n3'
 have nl2:H l2=none:=qj.none s1 n2;have nl3:H l3=none:=qj.none s2 n3';have s3:qj H (upd (upd (upd H l1 (.lst xs)) l2 (.lst ys)) l3 (.lst [.ref l1,.ref l2])):=λb o e=>qj.upd n3' b o (s2 b o e);have q1:upd (upd (upd H l1 (.lst xs)) l2 (.lst ys)) l3 (.lst [.ref l1,.ref l2]) l1=some (.lst xs):=qj.upd n3' _ _ (by rw[qc k12];exact qf);have q2:upd (upd (upd H l1 (.lst xs)) l2 (.lst ys)) l3 (.lst [.ref l1,.ref l2]) l2=some (.lst ys):=qj.upd n3' _ _ qf;have q3:upd (upd (upd H l1 (.lst xs)) l2 (.lst ys)) l3 (.lst [.ref l1,.ref l2]) l3=some (.lst [.ref l1,.ref l2]):=qf;generalize upd (upd (upd H l1 (.lst xs)) l2 (.lst ys)) l3 (.lst [.ref l1,.ref l2])=H3 at s3 q1 q2 q3 ⊢;have er3:=qlL (i:=7) (x:=some (.ref l3)) (Po.room er s3).er rfl;have e7:(Z.set 7 (some (.ref l3)))[7]?=some (some (.ref l3)):=List.getElem?_set_self (by omega)
 have key:∀Q:VK,(∀v G' H',qj H3 H'->qj G G'->qj G' H'->(∀a o,G' a=some o->(∃o',G a=some o')\/H3 a=none)->Rep U G' (bkI rs ps) v->Q v H')->qc4 C sp [] ε (qaz (tOp (qkj X.K) (qaZ 7) (L2.tC (.int 0))) (qaz (tOp (qkj X.K) (qaZ 7) (L2.tC (.int 1))) qfm)) (Z.set 7 (some (.ref l3))) H3 Q:=λQ hQ=>by refine{_,e7,l3,_,0,.ref l1,rfl,rfl,SqL.of q3,rfl,_,e7,l3,_,1,.ref l2,rfl,rfl,SqL.of q3,rfl,λx dx hx hdx ne=>?_};refine hsp [.ref l1,.ref l2] H3 Q ε ⟨G,[.bor (rs.map ruI),.bor (ps.map paD)],er3.sub,⟨_,_,rfl,⟨l1,xs,rfl,q1,r3⟩,_,_,rfl,⟨l2,ys,rfl,q2,r5⟩,rfl⟩,?_⟩ x dx hx hdx ne;rw[show(pg.ct 19 cl (top 43)).nw "Book" [.bor (rs.map ruI),.bor (ps.map paD)]=.ok (.val (bkI rs ps)) from(Zs 7 _ _).trans (qcA true true rs ps l8 hp l12)];exact hQ
 dsimp only[qa7,qlU,qkf];refine key _ λv G5 H5 hs gs5 sub new rr=>?_;have p5:=Po.more er3 hs gs5 sub new;have er5:ER U K Gv Hv G5 H5 (sl5 ns zs rs ps (.val (bkI rs ps))) ((Z.set 7 (some (.ref l3))).set 8 (some v)):=p5.er.setVal (i:=8) rr
 have g1:G5 l1=none:=by
  cases q:G5 l1 with
  |none=>rfl
  |some o=>
   rcases new l1 o q with ⟨o',z⟩|z
   ·rw[er.sub _ _ z]at n1;cases n1
   ·rw[q1]at z;cases z
 have g2:G5 l2=none:=by
  cases q:G5 l2 with
  |none=>rfl
  |some o=>
   rcases new l2 o q with ⟨o',z⟩|z
   ·rw[er.sub _ _ z]at nl2;cases nl2
   ·rw[q2]at z;cases z
 have w7:((Z.set 7 (some (.ref l3))).set 8 (some v))[7]?=some (some (.ref l3)):=by rw[List.getElem?_set_ne (2:)];exact e7
 have w5:((Z.set 7 (some (.ref l3))).set 8 (some v))[5]?=some (some (.ref a5)):=by rw[List.getElem?_set_ne (2:),List.getElem?_set_ne (2:)];exact e5
 have w4:((Z.set 7 (some (.ref l3))).set 8 (some v))[4]?=some (some (.int rs.length)):=by rw[List.getElem?_set_ne (2:),List.getElem?_set_ne (2:)];exact e4
 have ow:∀l,H l=none->¬ Qg (sl5 ns zs rs ps (.val (bkI rs ps))) ((Z.set 7 (some (.ref l3))).set 8 (some v)) l:=λl hl ⟨i,m,z1,z2⟩=>by
  have hi:i≠7:=λz=>by rw[z]at z1;cases z1
  have hj:i≠8:=λz=>by rw[z]at z1;cases z1
  have z1':(sl5 ns zs rs ps .no)[i]?=some (.own m):=by
   have:(sl5 ns zs rs ps (.val (bkI rs ps)))=(sl5 ns zs rs ps .no).set 8 (.val (bkI rs ps)):=rfl
   rw[this,List.getElem?_set_ne (Ne.symm hj)]at z1;exact z1
  rw[List.getElem?_set_ne (Ne.symm hj),List.getElem?_set_ne (Ne.symm hi)]at z2;exact er.notOwn hl ⟨i,m,z1',z2⟩
 generalize (Z.set 7 (some (.ref l3))).set 8 (some v)=Z2 at er5 w7 w5 w4 ow ⊢;have q1:=hs _ _ q1;have q2:=hs _ _ q2;have q3:=hs _ _ q3;have x5:H5 a5=some (.lst ys):=hs _ _ (s3 _ _ h5);have r3:=r3.same gs5;have r5:=r5.same gs5
 have z1:JD .NotEq (.cell (ps.map paD)) (.cell (ps.map paD))=some false:=by show(eqD (.lst (ps.map paD)) (.lst (ps.map paD))).map (!·)=_;rw[qjW];rfl
 have z2:JD .NotEq (.val (.int (xs.length:Int))) (.val (.int (rs.length:Int)))=some false:=by show(eqD (.int (xs.length:Int)) (.int (rs.length:Int))).map (!·)=_;rw[qF,lx,show(((rs.length:Int)) == (rs.length:Int))=true from by simp];rfl
 refine{_,w7,l3,_,1,.ref l2,rfl,rfl,SqL.of q3,rfl,_,w5,_,Z2,G5,H5,H5,.cell (ps.map paD),.cell (ps.map paD),false,er5,⟨l2,ys,rfl,q2,r5⟩,⟨a5,ys,rfl,x5,r5⟩,z1,false,rfl,?_};refine{_,w7,l3,_,0,.ref l1,rfl,rfl,SqL.of q3,rfl,l1,xs,rfl,.inl (SqL.of q1),_,w4,_,Z2,G5,H5,H5,.val (.int (xs.length:Int)),.val (.int (rs.length:Int)),false,er5,by simp![RvR,Rep],by simp![RvR,Rep],z2,false,rfl,?_};refine{_,w7,l3,_,0,.ref l1,rfl,rfl,SqL.of q3,rfl,.inl {rfl,xs,SqL.of q1},l1,xs,rfl,rfl,q1,?_};have er6:=qcQ (o:=.lst []) er5 g1 (qj.none er.base n1) (ow l1 n1);have q3:upd H5 l1 (.lst []) l3=some (.lst [.ref l1,.ref l2]):=by rw[qc k13];exact q3
 have q2:upd H5 l1 (.lst []) l2=some (.lst ys):=by rw[qc (Ne.symm k12)];exact q2
 refine{_,w7,l3,_,1,.ref l2,rfl,rfl,SqL.of q3,rfl,.inl {rfl,ys,SqL.of q2},l2,ys,.non,rfl,rfl,q2,zp (by omega),?_};exact hu Z2 G5 _ (qcQ er6 g2 (qj.none er.base nl2) (ow l2 nl2))
end
section
variable{P:Program}{wd:World}{U:KC}{K:Frag}{mg:PR}{base:Heap}
def spW(K:Frag):Sp:=λvs H Q _=>∃(a:Addr) (ns:List Int),vs=[.ref a]/\SqL K H a (ns.map V.int)/\∀H',Q (.bl true) H'
def qei(ok:PgOk U K mg pg){fa:Addr}{fd:FuncData}(F:Fun K "law" "law" (top 43) fa fd):FnOk P wd K mg base CX0 20 fa fd (["_law_script"]:List Str) (spW K):=by
 have hc:jg (top 43)=true:=(4:)
 have hp:Jk (top 43)=(["_law_script"]:List Str):=(4:)
 have ih:=qi9 (P:=P) (wd:=wd) (base:=base) ok 19
 have:FnOk P wd K mg base (CX1 P wd) 20 fa fd (Jk (top 43)) (spW K):=by
  refine F.okx (zH hc) (λvs H Q E z=>?_) (λcdv A outer s H vs Q E hr z=>?_)
  ·let(a,ns,rfl,_,_):=z;rw[hp];rfl
  ·let(a,ns,rfl,hq,z):=z;have gs:Gs U K E 19 (JC (CX1 P wd) P wd K mg base (fnN (top 43)) "law" (qe (top 43)) fa cdv A outer s H E) (pg.ct 19 (clK pg 19) (top 43)):=qi8 ok ih (zH hc) hr;let(zs,rs,ps,lz,hz,r1,r2,r3,p1,p2,e):=qjX ns;have hrest:=(qi7 (w:=1000) pg.m _ _ _ gs).ss (λ_=>none) H _ _ (qj7 19 (clK pg 19));have hb:=qe8 (w:=1000) (Gv:=λ_=>none) (Hv:=H) gs (qj8 (Gv:=λ_=>none) (Hv:=H) gs hrest (ns:=ns) (zs:=zs) r3 p1 p2) pg.m _ _ (qlM 19 (clK pg 19));rw[<-qhc]at hb;refine{_,hb,zV (fnN (top 43)) [.scr (ns.map D.int)],λ_=>none,Z8 (λ_ _ e=>(by cases e)) ⟨_,_,rfl,⟨a,_,rfl,hq,Qt _ ns⟩,rfl⟩,?_};have e:iSs (pg.ct 19 (clK pg 19) (top 43)).k 1000 qkw (zV (fnN (top 43)) [.scr (ns.map D.int)])=_:=e;rw[e];intro Z' G' H' er' g';refine{G',er',λZ2 G2 H2 er2=>{_,G2,er2,?_}};have e2:iSs (pg.ct 19 (clK pg 19) (top 43)).k 1000 qd8 (sl5 ns zs rs ps (.val (bkI rs ps)))=_:=qg5 ns zs lz rs r1 r2 r3 ps p1 p2;rw[e2];intro v G3 H3 _ _ _ _ rr;have rr:v=.bl true:=by simpa only[ReR,Rep] using rr
   rw[rr];exact z H3
 rw[hp]at this;exact Z9 this λ_ _ _ _ ⟨a,ns,e,h1,h2⟩=>⟨a,ns,e,h1,h2⟩
end
open PySem.W HD
abbrev HP:Program:=PySem.Challenge.rw_daysgate_k14_a_book.row.toRowW.prog
def Hq:Program:=view HP [1,2,3,4,5,6,7,8,10,12,13,14,16,17,18,19,20,21,22,23,24,26,27,28,29,30,31,33,34,35,36,37,38,39,40,41,42,43]
def Hx(s:Shared):Bool:=xlAt Hq [] s&&recOk (RowW.records PySem.Challenge.rw_daysgate_k14_a_book.row.toRowW) s
def Has:List Addr:=[nat_lit 2,nat_lit 3,nat_lit 20,nat_lit 21,nat_lit 27,nat_lit 28,nat_lit 34,nat_lit 35,nat_lit 41,nat_lit 42,nat_lit 48,nat_lit 49,nat_lit 55,nat_lit 56,nat_lit 65,nat_lit 66,nat_lit 67,nat_lit 78,nat_lit 79,nat_lit 94,nat_lit 95,nat_lit 97,nat_lit 98,nat_lit 106,nat_lit 107,nat_lit 113,nat_lit 114,nat_lit 127,nat_lit 128,nat_lit 134,nat_lit 135,nat_lit 137,nat_lit 138,nat_lit 139,nat_lit 140,nat_lit 155,nat_lit 156,nat_lit 162,nat_lit 163,nat_lit 165,nat_lit 166,nat_lit 181,nat_lit 182,nat_lit 188,nat_lit 189,nat_lit 191,nat_lit 192,nat_lit 207,nat_lit 208,nat_lit 214,nat_lit 215,nat_lit 217,nat_lit 218,nat_lit 224,nat_lit 225,nat_lit 231,nat_lit 232,nat_lit 238,nat_lit 239,nat_lit 245,nat_lit 246,nat_lit 259,nat_lit 260,nat_lit 266,nat_lit 267,nat_lit 273,nat_lit 274,nat_lit 278,nat_lit 279,nat_lit 281,nat_lit 282,nat_lit 283,nat_lit 284,nat_lit 292,nat_lit 293,nat_lit 299,nat_lit 300,nat_lit 306,nat_lit 307,nat_lit 313,nat_lit 314,nat_lit 320,nat_lit 321,nat_lit 327,nat_lit 328,nat_lit 332,nat_lit 333,nat_lit 339,nat_lit 340,nat_lit 346,nat_lit 347,nat_lit 351,nat_lit 352,nat_lit 356,nat_lit 357]
def t0(i:Nat):=fB (top i) "daysgate.checks" 187
def t1(i:Nat):=fB (top i) "daysgate.days" 235
def m2(i j:Nat):=fM (mem i j) "daysgate.errors" 247
def k2(w:String)(P:Params):=kC P "daysgate.errors" 247 w
def t3(i:Nat):=fB (top i) "daysgate.rules" 308
def m3(i j:Nat):=fM (mem i j) "daysgate.rules" 308
def k3(w:String)(P:Params):=kC P "daysgate.rules" 308 w
def t4(i:Nat):=fB (top i) "daysgate.books" 479
def m4(i j:Nat):=fM (mem i j) "daysgate.books" 479
def k4(w:String)(P:Params):=kC P "daysgate.books" 479 w
def t5(i:Nat):=fB (top i) "law_daysgate_k14_a_book" 562
def HK(P:Params):Frag:=by
 refine(?f:∀K,K=(co (nat_lit 2) ⟨.none,none,.dict #[] 0,#[]⟩ <| co (nat_lit 3) ⟨.type "dict",none,.dict ⟨List.cons (dE P "__name__" 165 (.str "law_daysgate_k14_a_book" 562)) <| List.cons (dE P "__doc__" 166 .none) <| List.cons (dE P "__package__" 167 .none) <| List.cons (dE P "__loader__" 168 (.builtin "__main__.__loader__#opaque")) <| List.cons (dE P "__spec__" 169 .none) <| dRs P [("__annotations__",170,6),("__builtins__",171,4)] <| List.cons (dE P "__file__" 173 (.str "/claim/cut.py" 172)) <| List.cons (dE P "__cached__" 174 .none) <| List.cons (dE P "GREATEST" 190 (.int (1000000000) 189)) <| List.cons (dE P "LETTERS" 192 (.str "abcdefghijklmnopqrstuvwxyz" 191)) <| List.cons (dE P "LONGEST_NAME" 194 (.int (8) 193)) <| dRs P [("is_whole",201,21),("is_between",210,28),("are_days",218,35),("is_made_of",227,42),("is_name",234,49),("spread",246,56),("DayError",266,66),("NoRule",282,79),("NoPaper",307,98)] <| List.cons (dE P "MOST_LANDS" 311 (.int (6) 310)) <| List.cons (dE P "GREATEST_WEIGHT" 313 (.int (9) 312)) <| dRs P [("is_land",320,107),("are_lands",329,114),("Rule",370,138),("Within",405,166),("Since",440,192),("InRow",472,218),("line_of",478,225)] <| List.cons (dE P "MOST_RULES" 482 (.int (8) 481)) <| List.cons (dE P "MOST_PAPERS" 484 (.int (12) 483)) <| dRs P [("are_rules",492,232),("is_paper",500,239),("check_papers",510,246),("Book",561,282),("_law_cell_at",571,293),("_law_lands",587,300),("_law_number",595,307),("_law_rule",609,314),("_law_made",620,321),("_law_paper",631,328),("_law_joined",637,333),("_law_refusal",647,340),("_law_bad",657,347),("_law_alike",663,352),("law",669,357)] <| []⟩ 47,#[]⟩ <| t0 4 (20:) (21:) "is_whole" 195 5 1 199 <| t0 5 (27:) (28:) "is_between" 202 7 3 208 <| t0 6 (34:) (35:) "are_days" 211 9 2 216 <| t0 7 (41:) (42:) "is_made_of" 219 11 2 225 <| t0 8 (48:) (49:) "is_name" 228 16 1 232 <| t1 10 (55:) (56:) "spread" 237 21 1 244 <| k2 "ValueError.__new__" P (65:) (66:) "DayError" 249 30 3 [("__static_attributes__",261,64),("__weakref__",263,67)] 264 (.type "ValueError") [(.type "ValueError"),(.type "Exception"),(.type "BaseException"),(.type "object")] [(.ref 79),(.ref 98)] (some (.ref 57)) <| co (67:) ⟨(.type "getset_descriptor"),none,.fields #[(.str "__weakref__" 262),(.ref 66),(.builtin "ExceptionGroup.__weakref__"),.none],#[]⟩ <| k2 "ValueError.__new__" P (78:) (79:) "NoRule" 267 32 2 [("__static_attributes__",279,77)] 280 (.ref 66) [(.ref 66),(.type "ValueError"),(.type "Exception"),(.type "BaseException"),(.type "object")] [] (some (.ref 70)) <| m2 14 0 (94:) (95:) "__init__" "NoPaper.__init__" 295 36 2 300 <| k2 "ValueError.__new__" P (97:) (98:) "NoPaper" 283 34 2 [("__init__",302,95),("__static_attributes__",304,96)] 305 (.ref 66) [(.ref 66),(.type "ValueError"),(.type "Exception"),(.type "BaseException"),(.type "object")] [] (some (.ref 82)) <| t3 18 (106:) (107:) "is_land" 314 42 1 318 <| t3 19 (113:) (114:) "are_lands" 321 46 1 327 <| m3 20 0 (127:) (128:) "__init__" "Rule.__init__" 342 57 3 348 <| m3 20 1 (134:) (135:) "weight" "Rule.weight" 351 65 2 358 <| k3 "object.__new__" P (137:) (138:) "Rule" 330 55 4 [("__init__",350,128),("weight",360,135),("__static_attributes__",363,136),("__dict__",365,139),("__weakref__",367,140)] 368 (.type "object") [(.type "object")] [(.ref 166),(.ref 192)] (none) <| co (139:) ⟨(.type "getset_descriptor"),none,.fields #[(.str "__dict__" 364),(.ref 138),(.builtin "function.__dict__"),(.builtin "function.__dict__#set")],#[]⟩ <| co (140:) ⟨(.type "getset_descriptor"),none,.fields #[(.str "__weakref__" 366),(.ref 138),(.builtin "ExceptionGroup.__weakref__"),.none],#[]⟩ <| m3 21 0 (155:) (156:) "__init__" "Within.__init__" 383 72 4 390 <| m3 21 1 (162:) (163:) "line" "Within.line" 393 78 1 398 <| k3 "object.__new__" P (165:) (166:) "Within" 371 70 2 [("__init__",392,156),("line",400,163),("__static_attributes__",402,164)] 403 (.ref 138) [(.ref 138),(.type "object")] [] (some (.ref 143)) <| m3 22 0 (181:) (182:) "__init__" "Since.__init__" 418 83 4 425 <| m3 22 1 (188:) (189:) "line" "Since.line" 428 89 1 433 <| k3 "object.__new__" P (191:) (192:) "Since" 406 81 2 [("__init__",427,182),("line",435,189),("__static_attributes__",437,190)] 438 (.ref 138) [(.ref 138),(.type "object")] [(.ref 218)] (some (.ref 169)) <| m3 23 0 (207:) (208:) "__init__" "InRow.__init__" 453 94 3 459 <| m3 23 1 (214:) (215:) "line" "InRow.line" 462 97 1 466 <| k3 "object.__new__" P (217:) (218:) "InRow" 441 92 2 [("__init__",461,208),("line",468,215),("__static_attributes__",469,216)] 470 (.ref 192) [(.ref 192),(.ref 138),(.type "object")] [] (some (.ref 195)) <| co (224:) (oC "line_of" 473 "line_of" 474 475 99 2 221 222 .none .none 223 476 477) <| co (225:) (oG (top 24) "line_of" "daysgate.rules" 308 224) <| t4 28 (231:) (232:) "are_rules" 485 106 1 490 <| t4 29 (238:) (239:) "is_paper" 493 113 2 498 <| t4 30 (245:) (246:) "check_papers" 501 117 2 508 <| m4 31 0 (259:) (260:) "__init__" "Book.__init__" 523 127 3 529 <| m4 31 1 (266:) (267:) "rules" "Book.rules" 532 134 1 536 <| m4 31 2 (273:) (274:) "papers" "Book.papers" 539 137 1 543 <| co (278:) (oC "lifted" 546 "Book.lifted" 547 548 140 2 275 276 .none .none 277 549 550) <| co (279:) (oFn none (mem 31 3) "lifted" "Book.lifted" .none .none .none (.str "daysgate.books" 479) none (.ref 278) .none) <| k4 "object.__new__" P (281:) (282:) "Book" 511 125 4 [("__init__",531,260),("rules",538,267),("papers",545,274),("lifted",551,279),("__static_attributes__",554,280),("__dict__",556,283),("__weakref__",558,284)] 559 (.type "object") [(.type "object")] [] (none) <| co (283:) ⟨(.type "getset_descriptor"),none,.fields #[(.str "__dict__" 555),(.ref 282),(.builtin "function.__dict__"),(.builtin "function.__dict__#set")],#[]⟩ <| co (284:) ⟨(.type "getset_descriptor"),none,.fields #[(.str "__weakref__" 557),(.ref 282),(.builtin "ExceptionGroup.__weakref__"),.none],#[]⟩ <| t5 33 (292:) (293:) "_law_cell_at" 564 143 2 569 <| t5 34 (299:) (300:) "_law_lands" 572 147 2 585 <| t5 35 (306:) (307:) "_law_number" 588 159 2 593 <| t5 36 (313:) (314:) "_law_rule" 596 163 2 607 <| t5 37 (320:) (321:) "_law_made" 610 176 1 618 <| t5 38 (327:) (328:) "_law_paper" 621 183 2 629 <| co (332:) (oC "_law_joined" 632 "_law_joined" 633 634 190 2 329 330 .none .none 331 635 636) <| co (333:) (oG (top 39) "_law_joined" "law_daysgate_k14_a_book" 562 332) <| t5 40 (339:) (340:) "_law_refusal" 638 198 2 645 <| t5 41 (346:) (347:) "_law_bad" 648 211 2 655 <| co (351:) (oC "_law_alike" 658 "_law_alike" 659 660 216 4 348 349 .none .none 350 661 662) <| co (352:) (oG (top 42) "_law_alike" "law_daysgate_k14_a_book" 562 351) <| co (356:) (oC "law" 664 "law" 665 666 231 1 353 354 .none .none 355 667 668) <| co (357:) (oG (top 43) "law" "law_daysgate_k14_a_book" 562 356) <| [])->Frag) ?_ ?h
 case f=>exactλK _=>K
 case h=>delta t0 t1 k2 m2 t3 m3 k3 t4 m4 k4 t5 co fB fM kC;rfl
def HKe(P:Params):Has=(HK P).map (·.1):=(4:)
def qj9(p q:Program)(rc:Shared->Bool)(w:World)(H0:Heap)(s0:SharedT):=(Jc treeTable p w 11 (some (.ref 6)) 6492 s0 (topStub p)).map (λs=>qfz p q [] (λs=>xlAt q [] s&&rc s) (λs=>Has.map s.heap.get?) true H0 s.abs)
def Hlk(w:World)(H0:Heap)(s0:SharedT):=qj9 HP Hq (recOk (RowW.records PySem.Challenge.rw_daysgate_k14_a_book.row.toRowW)) w H0 s0
def qka(q:Program):=openGood q []
def Hgd:=qka Hq
def qcR:qj9=qj9:=rfl
def qcS:qka=qka:=rfl
end K14
lay_quick K14.qj9 K14.qka
name_quick hlkQ for K14.qj9 by K14.qcR
name_quick hgdQ for K14.qka by K14.qcS
namespace K14
open PySem PySem.W HD DG
def qkb(w:World)(os:OsState):Hlk w (boot_heap w.params) (qfy w.params os)=some (true,Hgd,(HK w.params).map λp=>some p.2):=by
 unfold Hlk Hgd;rw[PySem.W.Fast.hlkQ_eq,PySem.W.Fast.hgdQ_eq]
 kernel_rfl
def qlN:LeftO HP Hq [] Hx (λs=>Has.map s.heap.get?) (λw=>(HK w.params).map λp=>some p.2) 6492 true:=
 qfA (boot_open (4:) (2:) (λ_=>(4:))) qbs qkb
end K14
namespace DG
open PySem PySem.Spec PyProof.Rows L2 DE
inductive BDs:List (Str×Stmt)->Prop
 | nil:BDs []
 | cons {n st l ps}:Jk st=ps->Bd n n st ps->BDs l->BDs ((n,st)::l)
inductive FGs(K:Frag):List (Str×Stmt)->Prop
 | nil:FGs K []
 | cons {f n st l}:FG K f n st->FGs K l->FGs K ((n,st)::l)
inductive ZNs(K:Frag):List Str->Prop
 | nil:ZNs K []
 | cons {n l}:PySem.W.nsIn K mainGlobals n=some none->ZNs K l->ZNs K (n::l)
section
variable{K:Frag}{mg:PR}{h:Heap}
theorem FGs.all(X:K.In h)(G:h.Ns mainGlobals mg){l:List (Str×Stmt)}(a:FGs K l)(p:BDs l):AllF K mg l:=by
 induction a with
 |nil=>exact .nil
 |cons i _ ih=>
  cases p with
  |cons e b p=>exact .cons (qj3 X G i.1 i.2 e b) (ih p)
theorem ZNs.all(X:K.In h)(G:h.Ns mainGlobals mg){l:List Str}(a:ZNs K l):∀f∈l,mg f=none:=by
 induction a with
 |nil=>exact nofun
 |cons i _ ih=>
  intro f hf;rcases List.mem_cons.mp hf with rfl|hf
  ·exact PySem.W.mg_none_of X G i
  ·exact ih f hf
end
end DG
namespace DE
open PySem PySem.W L2 DG
inductive Kt(K:Frag)(a:Addr):List Bool->List (Str×Addr)->Prop
 | nil:Kt K a [] []
 | cons {t:Str} {c:Addr} {b:Bool} {bs:List Bool} {r:List (Str×Addr)} (h:kitOne K (.ref a) (.ref c)=some b) (h':exmOne K (.ref a) (.ref c)=some b) (q:Kt K a bs r):Kt K a (b::bs) ((t,c)::r)
theorem Kt.at{K:Frag}{a c:Addr}{n t:Str}:∀{bs:List Bool} {r:List (Str×Addr)},Kt K a bs r->bs=r.map (λt=>isX n t.1)->r.lookup t=some c->kitOne K (.ref a) (.ref c)=some (isX n t)/\exmOne K (.ref a) (.ref c)=some (isX n t)
 |_,_,.nil,_,h=>by cases h
 | _,_,.cons (t:=t') (r:=r) h h' q,e,hl=>by
  rw[List.map_cons,List.cons.injEq]at e;rw[List.lookup_cons]at hl
  cases q':(t == t') with
  |true=>
   rw[q']at hl;cases hl
   have:t=t':=(-q':)
   subst this;rw[<-e.1];exact⟨h,h'⟩
  |false=>rw[q']at hl;exact q.at e.2 hl
structure XE(K:Frag)(mg:PR)(er:List (Str×Addr))(e:Str×Addr×List Str):Prop where
 m:mg e.1=some (.ref e.2.1)
 kv:kitOne K (.ref e.2.1) (.type "ValueError")=some true
 is_:ExcIs K e.2.1
 kt:∃bs,Kt K e.2.1 bs er/\bs=er.map λt=>isX e.1 t.1
 g:∀x∈e.2.2,XcG K e.2.1 x
 n0:e.2.2=[]->excIn K e.2.1 bV "ValueError.__new__" = true
 n1:e.2.2≠[]->∀P wd base j,∃fI fd,XcC K e.2.1 fI/\FnOk P wd K mg base CX0 (j+1) fI fd ("self" :: e.2.2) (qiX e.2.1 e.2.2)/\qM K fd ("self" :: e.2.2) []
section
variable{K:Frag}{mg:PR}{l:List (Str×Addr×List Str)}{er:List (Str×Addr)}
theorem qhd{n:Str}{ns:List Str}:∀{l:List (Str×Addr×List Str)},(l.lookup n).map (·.2)=some ns->∃e∈l,e.1=n/\e.2.2=ns/\((l.lookup n).map (·.1)).getD 0=e.2.1
 |[],h=>by cases h
 | e::l,h=>by
  let(m,a,f):=e;rw[List.lookup_cons]at h ⊢
  cases q:(n == m) with
  |true=>rw[q]at h;cases h;exact{_,List.mem_cons_self ..,(by simpa using q:n=m).symm,rfl,rfl}
  |false=>rw[q]at h;let(e,h1,h2,h3,h4):=qhd h;exact{e,List.mem_cons_of_mem _ h1,h2,h3,h4}
theorem qkc{C:Addr}{t:Str}{b:Bool}(h:(qac l er).xs C t=some b):∃e∈l,e.2.1=C/\((t = "ValueError"/\b=true)\/∃c,er.lookup t=some c/\b=isX e.1 t):=by
 have h:((l.find? λe=>e.2.1 == C).bind λe=>if t == "ValueError" then some true else (er.lookup t).map λ_=>isX e.1 t)=some b:=h
 cases q:l.find? λe=>e.2.1 == C with
 |none=>rw[q]at h;cases h
 |some e=>
  rw[q]at h;refine{e,List.mem_of_find?_eq_some q,by simpa using List.find?_some q,?_};have h:(if t == "ValueError" then some true else (er.lookup t).map λ_=>isX e.1 t)=some b:=h
  split at h
  ·rename_i hv;cases h;exact .inl ⟨by simpa using hv,rfl⟩
  ·let(c,h1,h2):=Option.map_eq_some_iff.mp h;exact .inr ⟨c,h1,h2.symm⟩
variable(A:∀e∈l,XE K mg er e)(er_:∀t c,er.lookup t=some c->mg t=some (.ref c))(mV:mg "ValueError" = none)
include A er_ mV in
theorem qhe(C:Addr)(t:Str)(b:Bool)(h:(qac l er).xs C t=some b):ExcIs K C/\((∃T,mg t=some (.ref T)/\kitOne K (.ref C) (.ref T)=some b)\/(mg t=none/\t = "ValueError"/\kitOne K (.ref C) (.type "ValueError")=some b)):=by
 obtain⟨e,he,rfl,⟨rfl,rfl⟩|⟨c,hc,rfl⟩⟩:=qkc h
 ·exact{(A e he).is_,.inr {mV,rfl,(A e he).kv}}
 ·let(bs,k1,k2):=(A e he).kt;exact{(A e he).is_,.inl {c,er_ t c hc,(k1.at k2 hc).1}}
include A er_ in
theorem qlO(C:Addr)(t:Str)(b:Bool)(hn:t≠("ValueError" : Str))(h:(qac l er).xs C t=some b):∃D,mg t=some (.ref D)/\exmOne K (.ref C) (.ref D)=some b:=by
 obtain⟨e,he,rfl,⟨rfl,rfl⟩|⟨c,hc,rfl⟩⟩:=qkc h
 ·exact absurd rfl hn
 ·let(bs,k1,k2):=(A e he).kt;exact{c,er_ t c hc,(k1.at k2 hc).2}
include A in
theorem qnm(C:Addr)(x:Str)(h:(qac l er).xg C x=true):XcG K C x:=by
 let(e,he,h):=List.any_eq_true.mp h;rw[Bool.and_eq_true]at h;have hc:e.2.1=C:=(-h.1:)
 subst hc;exact(A e he).g x (-h.2:)
include A in
theorem qlP(n:Str)(h:(qac l er).xn n=some []):mg n=some (.ref ((qac l er).xa n))/\excIn K ((qac l er).xa n) bV "ValueError.__new__" = true:=by let(e,he,rfl,h3,h4):=qhd (l:=l) h;rw[show(qac l er).xa e.1=e.2.1 from h4];exact{(A e he).m,(A e he).n0 h3}
include A in
theorem qlQ(n:Str)(ns:List Str)(h:(qac l er).xn n=some ns)(hne:ns≠[])(P:Program)(wd:World)(base:Heap)(j:Nat):∃fI fd,mg n=some (.ref ((qac l er).xa n))/\XcC K ((qac l er).xa n) fI/\FnOk P wd K mg base CX0 (j+1) fI fd ("self" :: ns) (qiX ((qac l er).xa n) ns)/\qM K fd ("self" :: ns) []:=by let(e,he,rfl,rfl,h4):=qhd (l:=l) h;rw[show(qac l er).xa e.1=e.2.1 from h4];let(fI,fd,q1,q2,q3):=(A e he).n1 hne P wd base j;exact{fI,fd,(A e he).m,q1,q2,q3}
end
inductive ENs(K:Frag):List (Str×Addr)->Prop
 | nil:ENs K []
 | cons {n:Str} {a:Addr} {l:List (Str×Addr)}:nsIn K mainGlobals n=some (some (.ref a))->ENs K l->ENs K ((n,a)::l)
theorem ENs.all{K:Frag}{mg:PR}{h:Heap}(X:K.In h)(G:h.Ns mainGlobals mg):∀{l:List (Str×Addr)},ENs K l->∀t c,l.lookup t=some c->mg t=some (.ref c)
 |_,.nil,t,c,q=>by cases q
 | _,.cons (n:=n) h e,t,c,q=>by
  rw[List.lookup_cons]at q
  cases z:(t == n) with
  |true=>rw[z]at q;cases q;rw[show t=n by simpa using z];exact mg_of X G h
  |false=>rw[z]at q;exact e.all X G t c q
end DE
namespace K14
open PySem PySem.W L2 DE DG
def qhf(cR cW cS cI cB:Addr):KC:=λc=>if c = "Within" then some cW else if c = "Since" then some cS else if c = "InRow" then some cI else if c = "Rule" then some cR else if c = "Book" then some cB else none
def qhg{cR cW cS cI cB C:Addr}{c:Str}(h:qhf cR cW cS cI cB c=some C):(c = "Within"/\C=cW)\/(c = "Since"/\C=cS)\/(c = "InRow"/\C=cI)\/(c = "Rule"/\C=cR)\/(c = "Book"/\C=cB):=by
 unfold qhf at h
 split at h
 ·cases h;exact .inl ⟨‹_›,rfl⟩
 split at h
 ·cases h;exact .inr (.inl ⟨‹_›,rfl⟩)
 split at h
 ·cases h;exact .inr (.inr (.inl ⟨‹_›,rfl⟩))
 split at h
 ·cases h;exact .inr (.inr (.inr (.inl ⟨‹_›,rfl⟩)))
 split at h
 ·cases h;exact .inr (.inr (.inr (.inr ⟨‹_›,rfl⟩)))
 cases h
theorem qao:∀l:List D,l.all qaS=true->ruT l=some true
 |[],_=>rfl
 | d::l,h=>by
  rw[List.all_cons,Bool.and_eq_true]at h;unfold ruT
  have e:Jq d=some true:=by
   cases d with
   |ins c ns ds=>exact if_pos h.1
   |_=>cases h.1
  rw[e];exact qao l h.2
def qhh{m:Int}{d:D}(h:qE m d=true):jl d=true:=by let(a,b,c,rfl,_):=Jp h;rfl
theorem qap{m:Int}:∀(l:List D) (i:Nat),l.all (qE m)=true->l.all jl=true/\jO m i l=none
 |[],_,_=>⟨rfl,rfl⟩
 | d::l,i,h=>by rw[List.all_cons,Bool.and_eq_true]at h;let(h1,h2):=qap l (i+1) h.2;exact{by rw[List.all_cons,qhh h.1,h1];rfl,(if_pos h.1).trans h2}
def qe9(j:Nat):Ck pg (j+5) where
 lands:=λb l h=>by rw[qha];exact K14.Zr (j+1) b l h
 rules:=λb l h=>yB (j+4) (aA b l) true (by simp![Bool.and_eq_true,decide_eq_true_eq]at h;rw[qha];unfold qG;rw[JG];dsimp only;rw[if_neg (by omega),qao l h.2])
 papers:=λb ps n h=>(ju j n (aA b ps)).1 ps (by simp![Bool.and_eq_true,decide_eq_true_eq]at h;let(h1,h2):=qap ps 0 h.2;rw[qha];unfold qm;rw[JG];dsimp only;rw[h1,decide_eq_true (by omega:ps.length<=1000),h2];exact(if_pos rfl).trans (if_neg (by omega)))
 btw:=λn a b h=>by have h:(decide (a<=n)&&decide (n<=b))=true:=h;simp![Bool.and_eq_true,decide_eq_true_eq]at h;exact DG.JV (j+3) n a b h.1 h.2
def qnn{j:Nat}{args:List Ar}{r:Rv}(h:qcf aR aP (j+12) "Rule" args=.ok r):(∀a∈args,∀l,a≠.scr l)/\∃fs,yr args=some fs/\r=.val (.ins "Rule" (fs.map (·.1)) (fs.map (·.2))):=by
 have h:(if j+12 < 12 then R.no else Yt "Rule" (yr args))=.ok r:=h;rw[if_neg (by omega)]at h;let(fs,e,er):=YI h;let(b,l,m,rfl,_):=JA e;refine{λa ha=>?_,fs,e,er};simp![List.mem_cons,List.not_mem_nil,or_false]at ha;rcases ha with rfl|rfl
 ·exactλl'=>J2 b l l'
 ·exactλl' z=>by cases z
def qkd{n:Str}{x:Option (List (Str×D))}{c:Addr}{l:List (Str×D)}:Yt n x≠.exc c l:=by cases x<;>exact nofun
def qlR{j:Nat}{args:List Ar}{c:Addr}{l:List (Str×D)}:qcf aR aP (j+12) "Rule" args≠.exc c l:=by intro h;have h:(if j+12 < 12 then R.no else Yt "Rule" (yr args))=.exc c l:=h;rw[if_neg (by omega)]at h;exact qkd h
def qlS{c x:Str}(h:qhq.fld c x=true):((rk c=true/\(x = "lands"\/x = "most"))\/(c = "Within"/\x = "span")\/((c = "Since"\/c = "InRow")/\x = "leave"))\/(c = "Book"/\(x = "kept_rules"\/x = "kept_papers")):=by
 have h:((rk c&&(x == "lands" || x == "most" || (x == "span" && c == "Within")||(x == "leave" && c != "Within")))||(c == "Book" && (x == "kept_rules" || x == "kept_papers")))=true:=h;simp![Bool.or_eq_true,Bool.and_eq_true,beq_iff_eq,bne_iff_ne]at h;rcases h with ⟨h1,((h2|h2)|h2)|h2⟩|h
 ·exact .inl (.inl ⟨h1,.inl h2⟩)
 ·exact .inl (.inl ⟨h1,.inr h2⟩)
 ·exact .inl (.inr (.inl ⟨h2.2,h2.1⟩))
 ·refine .inl (.inr (.inr ⟨?_,h2.1⟩));rcases qeg h1 with q|q
  ·exact absurd q h2.2
  ·exact q
 ·exact .inr h
def qno{c x f:Str}(h:qhq.mt c x=some f):(c = "Within"/\x = "line"/\f = "Within.line")\/(c = "Since"/\x = "line"/\f = "Since.line")\/(c = "InRow"/\x = "line"/\f = "InRow.line")\/(c = "Book"/\x = "rules"/\f = "Book.rules")\/(c = "Book"/\x = "papers"/\f = "Book.papers")\/(c = "Book"/\x = "lifted"/\f = "Book.lifted"):=by
 have h:(if (c == "Within" && x == "line")=true then some ("Within.line" : Str) else if (c == "Since" && x == "line")=true then some ("Since.line" : Str) else if (c == "InRow" && x == "line")=true then some ("InRow.line" : Str) else if (c == "Book" && x == "rules")=true then some ("Book.rules" : Str) else if (c == "Book" && x == "papers")=true then some ("Book.papers" : Str) else if (c == "Book" && x == "lifted")=true then some ("Book.lifted" : Str) else none)=some f:=h
 split at h
 ·rename_i q;simp![Bool.and_eq_true,beq_iff_eq]at q;cases h;exact .inl ⟨q.1,q.2,rfl⟩
 split at h
 ·rename_i q;simp![Bool.and_eq_true,beq_iff_eq]at q;cases h;exact .inr (.inl ⟨q.1,q.2,rfl⟩)
 split at h
 ·rename_i q;simp![Bool.and_eq_true,beq_iff_eq]at q;cases h;exact .inr (.inr (.inl ⟨q.1,q.2,rfl⟩))
 split at h
 ·rename_i q;simp![Bool.and_eq_true,beq_iff_eq]at q;cases h;exact .inr (.inr (.inr (.inl ⟨q.1,q.2,rfl⟩)))
 split at h
 ·rename_i q;simp![Bool.and_eq_true,beq_iff_eq]at q;cases h;exact .inr (.inr (.inr (.inr (.inl ⟨q.1,q.2,rfl⟩))))
 split at h
 ·rename_i q;simp![Bool.and_eq_true,beq_iff_eq]at q;cases h;exact .inr (.inr (.inr (.inr (.inr ⟨q.1,q.2,rfl⟩))))
 cases h
def rk5{c:Str}(h:rk' c=true):c = "Within"\/c = "Since"\/c = "InRow"\/c = "Rule":=by
 have h:(rk c||c == "Rule")=true:=h;simp![Bool.or_eq_true,beq_iff_eq]at h;rcases h with h|h
 ·rcases qeg h with q|q|q
  ·exact .inl q
  ·exact .inr (.inl q)
  ·exact .inr (.inr (.inl q))
 ·exact .inr (.inr (.inr h))
def qlT{c t:Str}{b:Bool}(h:qhq.sub c t=some b):rk' c=true/\((t = "Within"/\b=(c == "Within"))\/(t = "Since"/\b=(c != "Within" && c != "Rule"))):=by
 have h:(if (rk' c&&t == "Within")=true then some (c == "Within") else if (rk' c&&t == "Since")=true then some (c != "Within" && c != "Rule") else none)=some b:=h
 split at h
 ·rename_i q;simp![Bool.and_eq_true,beq_iff_eq]at q;cases h;exact{q.1,.inl ⟨q.2,rfl⟩}
 split at h
 ·rename_i q;simp![Bool.and_eq_true,beq_iff_eq]at q;cases h;exact{q.1,.inr ⟨q.2,rfl⟩}
 cases h
def ty5{K:Frag}{C:Addr}(k:Kl K C)(n:PySem.W.specialIn K (.builtin "object.__class__") "__get__" = some (some (.builtin "getset_descriptor.__get__")))(tk:PySem.W.takesIn K (.builtin "object.__class__")=some true) :
  ∀(H:Hp) (p dx:Addr) (fs:List (Str×V)),H p=some (L2.HO.ins C dx fs)->TyOf K H (.ref p) (.ref C):=λH p dx fs hp=>.ins hp k.cls k.tc n tk k.mo
def qke{l:OpenLaw}{w:World}{K:Frag}{h:Heap}{mg:PR}{fa cR cW cS cI cB fL fiR fiW fiS fiI fiB flW flS flI fmr fmp fml:Addr}{t0 t1 t2 t3 t4 t5 t6:Tok}(X:K.In h)(G:h.Ns mainGlobals mg)(hfa:mg "law" = some (.ref fa))
  (aL:FG K fL "law" (top 43))
  (a:FGs K pg.defs)
  (z:ZNs K qbZ)
  (v0:nsIn K mainGlobals "GREATEST" = some (some (.int 1000000000 t0)))
  (v1:nsIn K mainGlobals "LETTERS" = some (some (.str "abcdefghijklmnopqrstuvwxyz" t1)))
  (v2:nsIn K mainGlobals "LONGEST_NAME" = some (some (.int 8 t2)))
  (v3:nsIn K mainGlobals "MOST_LANDS" = some (some (.int 6 t3)))
  (v4:nsIn K mainGlobals "GREATEST_WEIGHT" = some (some (.int 9 t4)))
  (v5:nsIn K mainGlobals "MOST_RULES" = some (some (.int 8 t5)))
  (v6:nsIn K mainGlobals "MOST_PAPERS" = some (some (.int 12 t6)))
  (ncR:nsIn K mainGlobals "Rule" = some (some (.ref cR)))
  (ncW:nsIn K mainGlobals "Within" = some (some (.ref cW)))
  (ncS:nsIn K mainGlobals "Since" = some (some (.ref cS)))
  (ncI:nsIn K mainGlobals "InRow" = some (some (.ref cI)))
  (ncB:nsIn K mainGlobals "Book" = some (some (.ref cB)))
  (inR:findIn K (.ref cR) "__init__" = some (some (.ref fiR)))
  (inW:findIn K (.ref cW) "__init__" = some (some (.ref fiW)))
  (inS:findIn K (.ref cS) "__init__" = some (some (.ref fiS)))
  (inI:findIn K (.ref cI) "__init__" = some (some (.ref fiI)))
  (inB:findIn K (.ref cB) "__init__" = some (some (.ref fiB)))
  (tlW:findIn K (.ref cW) "line" = some (some (.ref flW)))
  (tlS:findIn K (.ref cS) "line" = some (some (.ref flS)))
  (tlI:findIn K (.ref cI) "line" = some (some (.ref flI)))
  (tmr:findIn K (.ref cB) "rules" = some (some (.ref fmr)))
  (tmp:findIn K (.ref cB) "papers" = some (some (.ref fmp)))
  (tml:findIn K (.ref cB) "lifted" = some (some (.ref fml)))
  (hiR:JB K fiR "__init__" "Rule.__init__" (mem 20 0))
  (niR:isFn K (.ref fiR)=true)
  (hiW:JB K fiW "__init__" "Within.__init__" (mem 21 0))
  (niW:isFn K (.ref fiW)=true)
  (hiS:JB K fiS "__init__" "Since.__init__" (mem 22 0))
  (niS:isFn K (.ref fiS)=true)
  (hiI:JB K fiI "__init__" "InRow.__init__" (mem 23 0))
  (niI:isFn K (.ref fiI)=true)
  (hiB:JB K fiB "__init__" "Book.__init__" (mem 31 0))
  (niB:isFn K (.ref fiB)=true)
  (hlW:JB K flW "line" "Within.line" (mem 21 1))
  (nlW:isFn K (.ref flW)=true)
  (hlS:JB K flS "line" "Since.line" (mem 22 1))
  (nlS:isFn K (.ref flS)=true)
  (hlI:JB K flI "line" "InRow.line" (mem 23 1))
  (nlI:isFn K (.ref flI)=true)
  (hmr:JB K fmr "rules" "Book.rules" (mem 31 1))
  (nmr:isFn K (.ref fmr)=true)
  (hmp:JB K fmp "papers" "Book.papers" (mem 31 2))
  (nmp:isFn K (.ref fmp)=true)
  (hml:JB K fml "lifted" "Book.lifted" (mem 31 3))
  (nml:isFn K (.ref fml)=true)
  (mkR:makesIn K cR=true)
  (kcR:keepIn K (.ref cR)=true)
  (LR:Kl K cR)
  (na_landsR:findIn K (.ref cR) "lands" = some none)
  (na_mostR:findIn K (.ref cR) "most" = some none)
  (kwR:kitOne K (.ref cR) (.ref cW)=some false)
  (ksR:kitOne K (.ref cR) (.ref cS)=some false)
  (kpR0:kitOne K (.ref cR) (.type "NoneType")=some false)
  (kpR1:kitOne K (.ref cR) (.type "bool")=some false)
  (kpR2:kitOne K (.ref cR) (.type "int")=some false)
  (kpR3:kitOne K (.ref cR) (.type "str")=some false)
  (kpR4:kitOne K (.ref cR) (.type "list")=some false)
  (kpR5:kitOne K (.ref cR) (.type "tuple")=some false)
  (mkW:makesIn K cW=true)
  (kcW:keepIn K (.ref cW)=true)
  (LW:Kl K cW)
  (na_landsW:findIn K (.ref cW) "lands" = some none)
  (na_mostW:findIn K (.ref cW) "most" = some none)
  (na_spanW:findIn K (.ref cW) "span" = some none)
  (kwW:kitOne K (.ref cW) (.ref cW)=some true)
  (ksW:kitOne K (.ref cW) (.ref cS)=some false)
  (kpW0:kitOne K (.ref cW) (.type "NoneType")=some false)
  (kpW1:kitOne K (.ref cW) (.type "bool")=some false)
  (kpW2:kitOne K (.ref cW) (.type "int")=some false)
  (kpW3:kitOne K (.ref cW) (.type "str")=some false)
  (kpW4:kitOne K (.ref cW) (.type "list")=some false)
  (kpW5:kitOne K (.ref cW) (.type "tuple")=some false)
  (ktW0:kitOne K (.type "NoneType") (.ref cW)=some false)
  (ktW1:kitOne K (.type "bool") (.ref cW)=some false)
  (ktW2:kitOne K (.type "int") (.ref cW)=some false)
  (ktW3:kitOne K (.type "str") (.ref cW)=some false)
  (ktW4:kitOne K (.type "list") (.ref cW)=some false)
  (ktW5:kitOne K (.type "tuple") (.ref cW)=some false)
  (mkS:makesIn K cS=true)
  (kcS:keepIn K (.ref cS)=true)
  (LS:Kl K cS)
  (na_landsS:findIn K (.ref cS) "lands" = some none)
  (na_mostS:findIn K (.ref cS) "most" = some none)
  (na_leaveS:findIn K (.ref cS) "leave" = some none)
  (kwS:kitOne K (.ref cS) (.ref cW)=some false)
  (ksS:kitOne K (.ref cS) (.ref cS)=some true)
  (kpS0:kitOne K (.ref cS) (.type "NoneType")=some false)
  (kpS1:kitOne K (.ref cS) (.type "bool")=some false)
  (kpS2:kitOne K (.ref cS) (.type "int")=some false)
  (kpS3:kitOne K (.ref cS) (.type "str")=some false)
  (kpS4:kitOne K (.ref cS) (.type "list")=some false)
  (kpS5:kitOne K (.ref cS) (.type "tuple")=some false)
  (ktS0:kitOne K (.type "NoneType") (.ref cS)=some false)
  (ktS1:kitOne K (.type "bool") (.ref cS)=some false)
  (ktS2:kitOne K (.type "int") (.ref cS)=some false)
  (ktS3:kitOne K (.type "str") (.ref cS)=some false)
  (ktS4:kitOne K (.type "list") (.ref cS)=some false)
  (ktS5:kitOne K (.type "tuple") (.ref cS)=some false)
  (mkI:makesIn K cI=true)
  (kcI:keepIn K (.ref cI)=true)
  (LI:Kl K cI)
  (na_landsI:findIn K (.ref cI) "lands" = some none)
  (na_mostI:findIn K (.ref cI) "most" = some none)
  (na_leaveI:findIn K (.ref cI) "leave" = some none)
  (kwI:kitOne K (.ref cI) (.ref cW)=some false)
  (ksI:kitOne K (.ref cI) (.ref cS)=some true)
  (kpI0:kitOne K (.ref cI) (.type "NoneType")=some false)
  (kpI1:kitOne K (.ref cI) (.type "bool")=some false)
  (kpI2:kitOne K (.ref cI) (.type "int")=some false)
  (kpI3:kitOne K (.ref cI) (.type "str")=some false)
  (kpI4:kitOne K (.ref cI) (.type "list")=some false)
  (kpI5:kitOne K (.ref cI) (.type "tuple")=some false)
  (mkB:makesIn K cB=true)
  (kcB:keepIn K (.ref cB)=true)
  (LB:Kl K cB)
  (na_kept_rulesB:findIn K (.ref cB) "kept_rules" = some none)
  (na_kept_papersB:findIn K (.ref cB) "kept_papers" = some none)
  (rdR:readsIn K cR (.type "type")=true)
  (gsR:specialIn K (.ref cR) "__getattribute__" = some (some (.builtin "type.__getattribute__")))
  (fcR:findCls K (.ref cR) (.type "type") "__init__" = some (.val (.ref fiR)))
  (rdS:readsIn K cS (.type "type")=true)
  (gsS:specialIn K (.ref cS) "__getattribute__" = some (some (.builtin "type.__getattribute__")))
  (fcS:findCls K (.ref cS) (.type "type") "__init__" = some (.val (.ref fiS)))
  (og:specialIn K (.builtin "object.__class__") "__get__" = some (some (.builtin "getset_descriptor.__get__")))
  (ot:takesIn K (.builtin "object.__class__")=some true)
  (ens:ENs K xR)
  (ncV:nsIn K mainGlobals "ValueError" = some none)
  (ci:ClsIni K 66)
  (xv0:kitOne K (.ref 79) (.type "ValueError")=some true)
  (xk0:Kt K 79 [true,true,false] xR)
  (xi0:ExcIs K 79)
  (xn0:excIn K 79 bV "ValueError.__new__" = true)
  (xv1:kitOne K (.ref 98) (.type "ValueError")=some true)
  (xk1:Kt K 98 [true,false,true] xR)
  (hI1:JB K 95 "__init__" "NoPaper.__init__" (mem 14 0))
  (xc1:XcC K 98 95)
  (xs1_0:XcS K 98 "number")
  (xg1_0:XcG K 98 "number")
  :
  ∃fd:FuncData,(∀(s:Shared) (v:Value),BindsTo s fd ⟨[v],[]⟩ [("_law_script",v)])/\∀base:Heap,K.In base->base.Ns mainGlobals mg->FnOk l.prog w K mg base CX0 20 fa fd ["_law_script"] (spW K):=by
 have e:=hfa.symm.trans (mg_of X G aL.1);cases e;let(dL,FL,bL):=qj4 aL.2 ((bd1 λ_ _ _ _ _ _ _ =>rfl));have z:=z.all X G;let(diR,FiR,biR):=jb hiR (ps:=["self","lands","most"]) ((bd3 λ_ _ _ _ _ _ _ _ _ =>rfl));let(diW,FiW,biW):=jb hiW (ps:=["self","lands","most","span"]) ((bd4 λ_ _ _ _ _ _ _ _ _ _ =>rfl));let(diS,FiS,biS):=jb hiS (ps:=["self","lands","most","leave"]) ((bd4 λ_ _ _ _ _ _ _ _ _ _ =>rfl));let(diI,FiI,biI):=jb hiI (ps:=["self","lands","most"]) ((bd3 λ_ _ _ _ _ _ _ _ _ =>rfl));let(diB,FiB,biB):=jb hiB (ps:=["self","rules","papers"]) ((bd3 λ_ _ _ _ _ _ _ _ _ =>rfl));let(dlW,FlW,blW):=jb hlW (ps:=["self"]) ((bd1 λ_ _ _ _ _ _ _ =>rfl));let(dlS,FlS,blS):=jb hlS (ps:=["self"]) ((bd1 λ_ _ _ _ _ _ _ =>rfl));let(dlI,FlI,blI):=jb hlI (ps:=["self"]) ((bd1 λ_ _ _ _ _ _ _ =>rfl));let(dmr,Fmr,bmr):=jb hmr (ps:=["self"]) ((bd1 λ_ _ _ _ _ _ _ =>rfl));let(dmp,Fmp,bmp):=jb hmp (ps:=["self"]) ((bd1 λ_ _ _ _ _ _ _ =>rfl));let(dml,Fml,bml):=jb hml (ps:=["self","number"]) ((bd2 λ_ _ _ _ _ _ _ _ =>rfl));have mcR:=mg_of X G ncR;have mcW:=mg_of X G ncW;have mcS:=mg_of X G ncS;have mcI:=mg_of X G ncI;have mcB:=mg_of X G ncB
 have clsA:∀c C,qhf cR cW cS cI cB c=some C->Cls K C:=λc C hc=>by
  rcases qhg hc with ⟨_,rfl⟩|⟨_,rfl⟩|⟨_,rfl⟩|⟨_,rfl⟩|⟨_,rfl⟩
  ·exact LW.cls
  ·exact LS.cls
  ·exact LI.cls
  ·exact LR.cls
  ·exact LB.cls
 have fldA:∀c x C,qhq.fld c x=true->qhf cR cW cS cI cB c=some C->zj K C x:=λc x C hf hc=>by
  rcases qlS hf with (⟨hr,rfl|rfl⟩|⟨rfl,rfl⟩|⟨rfl|rfl,rfl⟩)|⟨rfl,rfl|rfl⟩
  ·rcases qeg hr with rfl|rfl|rfl
   ·cases hc;exact na_landsW
   ·cases hc;exact na_landsS
   ·cases hc;exact na_landsI
  ·rcases qeg hr with rfl|rfl|rfl
   ·cases hc;exact na_mostW
   ·cases hc;exact na_mostS
   ·cases hc;exact na_mostI
  ·cases hc;exact na_spanW
  ·cases hc;exact na_leaveS
  ·cases hc;exact na_leaveI
  ·cases hc;exact na_kept_rulesB
  ·cases hc;exact na_kept_papersB
 have fldB:∀c x C,(pcs {}).fld c x=true->qhf cR cW cS cI cB c=some C->zj K C x:=λc x C hf hc=>fldA c x C hf hc;have tx:Tx (qhf cR cW cS cI cB) K mg:={z "tuple" (3:),z "list" (3:),z "len" (3:),{_,mg_of X G v0},clsA,fldB};have cfR:ClsFn K cR "__init__" fiR:=⟨rdR,gsR,fcR,hiR.kp⟩;have cfS:ClsFn K cS "__init__" fiS:=⟨rdS,gsS,fcS,hiS.kp⟩;have mV:=mg_none_of X G ncV;have er_:=ens.all X G;let(dI1,FI1,bI1):=jb hI1 (ps:=["self","number"]) (bd2 λ_ _ _ _ _ _ _ _ =>rfl)
 have A:∀e∈xE,XE K mg xR e:=by
  intro e he;simp![xE,List.mem_cons,List.not_mem_nil,or_false]at he;rcases he with rfl|rfl
  ·exact{er_ _ _ (3:),xv0,xi0,{_,xk0,(3:)},λ_ h=>(by cases h),λ_=>xn0,λh=>absurd rfl h}
  ·refine{er_ _ _ (3:),xv1,xg1_0.is_,{_,xk1,(3:)},(λn hn=>by simp![List.mem_cons,List.not_mem_nil,or_false]at hn;subst hn;exact xg1_0),λh=>(by cases h),λ_ P wd base j=>{_,dI1,xc1,qjN (D:="DayError") (4:) (λh=>by cases h) FI1 ci (er_ _ _ (3:)) xc1.ok ((λn hn=>by simp![List.mem_cons,List.not_mem_nil,or_false]at hn;subst hn;exact xs1_0)) j,bI1}}
 refine{dL,bL,λbase _ _=>qei (U:=qhf cR cW cS cI cB) ?ok FL}
 case ok=>
 refine { fn:=a.all X G ?q,blt:=z,gl:=?g,cls:=clsA,flds:=fldA,mts:=?m,mks:=?k,subs:=?s,pts:=?t,pls:=?p,xsubs:=qhe A er_ mV,xgs:=qnm A,xn0:=qlP A,xn1:=qlQ A,xhs:=qlO A er_ }
 case q=>repeat first|exact .nil |refine .cons (4:) (bd2 λ_ _ _ _ _ _ _ _ =>rfl) ?_ |refine .cons (4:) (bd3 λ_ _ _ _ _ _ _ _ _ =>rfl) ?_ |refine .cons (4:) (bd1 λ_ _ _ _ _ _ _ =>rfl) ?_ |refine .cons (4:) (bd4 λ_ _ _ _ _ _ _ _ _ _ =>rfl) ?_ |refine .cons (4:) (bd5 λ_ _ _ _ _ _ _ _ _ _ _ =>rfl) ?_ |refine .cons (4:) (bd6 λ_ _ _ _ _ _ _ _ _ _ _ _ =>rfl) ?_
 case g=>
  intro x d hd;unfold pg at hd;dsimp only at hd
  by_cases h0:x = "GREATEST"
  ·rw[if_pos h0]at hd;cases hd;exact{.int 1000000000,_,h0▸mg_of X G v0,{_,rfl},λ_=>by simp![Rep]}
  rw[if_neg h0]at hd
  by_cases h1:x = "LETTERS"
  ·rw[if_pos h1]at hd;cases hd;exact{.str "abcdefghijklmnopqrstuvwxyz",_,h1▸mg_of X G v1,{_,rfl},λ_=>by simp![Rep]}
  rw[if_neg h1]at hd
  by_cases h2:x = "LONGEST_NAME"
  ·rw[if_pos h2]at hd;cases hd;exact{.int 8,_,h2▸mg_of X G v2,{_,rfl},λ_=>by simp![Rep]}
  rw[if_neg h2]at hd
  by_cases h3:x = "MOST_LANDS"
  ·rw[if_pos h3]at hd;cases hd;exact{.int 6,_,h3▸mg_of X G v3,{_,rfl},λ_=>by simp![Rep]}
  rw[if_neg h3]at hd
  by_cases h4:x = "GREATEST_WEIGHT"
  ·rw[if_pos h4]at hd;cases hd;exact{.int 9,_,h4▸mg_of X G v4,{_,rfl},λ_=>by simp![Rep]}
  rw[if_neg h4]at hd
  by_cases h5:x = "MOST_RULES"
  ·rw[if_pos h5]at hd;cases hd;exact{.int 8,_,h5▸mg_of X G v5,{_,rfl},λ_=>by simp![Rep]}
  rw[if_neg h5]at hd
  by_cases h6:x = "MOST_PAPERS"
  ·rw[if_pos h6]at hd;cases hd;exact{.int 12,_,h6▸mg_of X G v6,{_,rfl},λ_=>by simp![Rep]}
  rw[if_neg h6]at hd;cases hd
 case m=>
  intro c x f hm;rcases qno hm with ⟨rfl,rfl,rfl⟩|⟨rfl,rfl,rfl⟩|⟨rfl,rfl,rfl⟩|⟨rfl,rfl,rfl⟩|⟨rfl,rfl,rfl⟩|⟨rfl,rfl,rfl⟩
  ·exact{cW,flW,_,mem 21 1,"line",rfl,⟨tlW,nlW,hlW.kp⟩,(4:),(4:),FlW,blW}
  ·exact{cS,flS,_,mem 22 1,"line",rfl,⟨tlS,nlS,hlS.kp⟩,(4:),(4:),FlS,blS}
  ·exact{cI,flI,_,mem 23 1,"line",rfl,⟨tlI,nlI,hlI.kp⟩,(4:),(4:),FlI,blI}
  ·exact{cB,fmr,_,mem 31 1,"rules",rfl,⟨tmr,nmr,hmr.kp⟩,(4:),(4:),Fmr,bmr}
  ·exact{cB,fmp,_,mem 31 2,"papers",rfl,⟨tmp,nmp,hmp.kp⟩,(4:),(4:),Fmp,bmp}
  ·exact{cB,fml,_,mem 31 3,"lifted",rfl,⟨tml,nml,hml.kp⟩,(4:),(4:),Fml,bml}
 case k=>
  intro P wd base k ih f hf
  by_cases hk:k < 12
  ·exact .inl ⟨by omega,λargs=>if_pos hk⟩
  let(j,rfl):∃j,k=j+12:={k - 12,by omega};right;have mX:=er_ "NoRule" 79 (3:)
  have hf:f = "Rule"\/f = "Within"\/f = "Since"\/f = "InRow"\/f = "Book":=by
   have hf:((["Rule","Within","Since","InRow","Book"]:List Str).contains f)=true:=hf
   simpa using hf
  rcases hf with rfl|rfl|rfl|rfl|rfl
  ·exact{cR,fiR,_,_,_,⟨mkR,inR,niR,kcR⟩,FnOk.lift (qan (j:=j+10) tx FiR (ih (j+10) (by omega)) (qe9 (j+5)) (okr:=λc=>c == "Rule") (λc C hr hc=>by
    obtain rfl:c = "Rule":=(-hr:)
    cases hc;exact⟨na_landsR,na_mostR⟩)),mcR,biR,by omega,Jz (c:="Rule") rfl rfl (λa _ _=>qlR (j:=j)) λa r=>qnn (j:=j)}
  ·exact{cW,fiW,_,_,_,⟨mkW,inW,niW,kcW⟩,FnOk.lift ((YH (j:=j+9) tx FiR biR mcR cfR (ih (j+9) (by omega)) (ih (j+10) (by omega)) (qe9 (j+4)) (qe9 (j+5))).1 FiW),mcW,biW,by omega,Jz (c:="Within") rfl rfl (λa _ _=>qhb (k:=j+12) (f:="Within") (args:=a)) λargs r=>qni (j:=j)}
  ·exact{cS,fiS,_,_,_,⟨mkS,inS,niS,kcS⟩,FnOk.lift ((YH (j:=j+9) tx FiR biR mcR cfR (ih (j+9) (by omega)) (ih (j+10) (by omega)) (qe9 (j+4)) (qe9 (j+5))).2 FiS),mcS,biS,by omega,Jz (c:="Since") rfl rfl (λa _ _=>qhb (k:=j+12) (f:="Since") (args:=a)) λargs r=>qnj (j:=j)}
  ·exact{cI,fiI,_,_,_,⟨mkI,inI,niI,kcI⟩,FnOk.lift (qcM (j:=j+8) tx FiI FiS biS mcS cfS FiR biR mcR cfR (ih (j+8) (by omega)) (ih (j+9) (by omega)) (qe9 (j+3)) (qe9 (j+4))),mcI,biI,by omega,Jz (c:="InRow") rfl rfl (λa _ _=>qhb (k:=j+12) (f:="InRow") (args:=a)) λargs r=>qnk (j:=j)}
  ·exact{cB,fiB,_,_,_,⟨mkB,inB,niB,kcB⟩,FnOk.or (FnOk.lift (qee (j:=j+10) tx FiB (ih (j+10) (by omega)) (qe9 (j+5)))) (qef (X:=aR) (Y:=aP) (j:=j+10) tx FiB (ih (j+10) (by omega)) (λa x h=>yB (j+9) a x h) (λn b C x h=>(ju (j+5) n b).2 C x h) mX xn0),mcB,biB,by omega,qeh (j:=j) rfl}
 case t=>
  intro c hc;rcases rk5 hc with rfl|rfl|rfl|rfl
  ·exact{cW,rfl,ty5 LW og ot,(λn hn=>by simp![plN,List.mem_cons,List.not_mem_nil,or_false]at hn;rcases hn with rfl|rfl|rfl|rfl|rfl|rfl<;>first|exact kpW0|exact kpW1|exact kpW2|exact kpW3|exact kpW4|exact kpW5)}
  ·exact{cS,rfl,ty5 LS og ot,(λn hn=>by simp![plN,List.mem_cons,List.not_mem_nil,or_false]at hn;rcases hn with rfl|rfl|rfl|rfl|rfl|rfl<;>first|exact kpS0|exact kpS1|exact kpS2|exact kpS3|exact kpS4|exact kpS5)}
  ·exact{cI,rfl,ty5 LI og ot,(λn hn=>by simp![plN,List.mem_cons,List.not_mem_nil,or_false]at hn;rcases hn with rfl|rfl|rfl|rfl|rfl|rfl<;>first|exact kpI0|exact kpI1|exact kpI2|exact kpI3|exact kpI4|exact kpI5)}
  ·exact{cR,rfl,ty5 LR og ot,(λn hn=>by simp![plN,List.mem_cons,List.not_mem_nil,or_false]at hn;rcases hn with rfl|rfl|rfl|rfl|rfl|rfl<;>first|exact kpR0|exact kpR1|exact kpR2|exact kpR3|exact kpR4|exact kpR5)}
 case p=>
  intro t ht;have ht:(t == "Within" || t == "Since")=true:=ht;simp![Bool.or_eq_true,beq_iff_eq]at ht;rcases ht with rfl|rfl
  ·exact{cW,mcW,(λn hn=>by simp![plN,List.mem_cons,List.not_mem_nil,or_false]at hn;rcases hn with rfl|rfl|rfl|rfl|rfl|rfl<;>first|exact ktW0|exact ktW1|exact ktW2|exact ktW3|exact ktW4|exact ktW5)}
  ·exact{cS,mcS,(λn hn=>by simp![plN,List.mem_cons,List.not_mem_nil,or_false]at hn;rcases hn with rfl|rfl|rfl|rfl|rfl|rfl<;>first|exact ktS0|exact ktS1|exact ktS2|exact ktS3|exact ktS4|exact ktS5)}
 case s=>
  intro c t b hs;obtain⟨hr,⟨rfl,rfl⟩|⟨rfl,rfl⟩⟩:=qlT hs
  ·rcases rk5 hr with rfl|rfl|rfl|rfl
   ·exact{cW,cW,rfl,ty5 LW og ot,mcW,kwW}
   ·exact{cS,cW,rfl,ty5 LS og ot,mcW,kwS}
   ·exact{cI,cW,rfl,ty5 LI og ot,mcW,kwI}
   ·exact{cR,cW,rfl,ty5 LR og ot,mcW,kwR}
  ·rcases rk5 hr with rfl|rfl|rfl|rfl
   ·exact{cW,cS,rfl,ty5 LW og ot,mcS,ksW}
   ·exact{cS,cS,rfl,ty5 LS og ot,mcS,ksS}
   ·exact{cI,cS,rfl,ty5 LI og ot,mcS,ksI}
   ·exact{cR,cS,rfl,ty5 LR og ot,mcS,ksR}
def qnp{l:PySem.W.OpenLaw}{q:Program}{loose:List Str}{XP:(Str->Option Value)->Heap->Prop}{YP:World->Heap->Prop}{d:DefRec}{K:Params->Frag}(hn:l.most=some 63)(hdf:d.params.defaults=[])
  (hY:∀(w:World) (h:Heap),YP w h->(K w.params).In h)
  (F:∀(w:World) (mg:PR) (fa:Addr) (h:Heap),(K w.params).In h->h.Ns mainGlobals mg->mg d.name=some (.ref fa)->
   ∃fd:FuncData,(∀(s:Shared) (u:Value),BindsTo s fd ⟨[u],[]⟩ [("_law_script",u)])/\∀base:Heap,(K w.params).In base->base.Ns mainGlobals mg->FnOk l.prog w (K w.params) mg base CX0 20 fa fd ["_law_script"] (spW (K w.params))) :
  PySem.W.WalkO q loose XP YP l.row.toRowW d [] (λf vs=>PySem.call f vs):=
 L2.qfw (n:=63) (k:=20) (x:="_law_script") (CX:=λ_=>CX0) (sp:=λw=>spW (K w.params)) hn (2:) hdf ⟨rfl,by decide,by decide⟩ hY F (λ_ _ a ns hl _ hS=>{a,ns,rfl,hS,λ_=>rfl}) λ_ _ _ _ _ z=>z
end K14
open PySem PySem.W PyProof.Rows
set_option maxHeartbeats 0 in
theorem PySem.Challenge.cw_daysgate_k14_a_book_holds : PySem.Challenge.rw_daysgate_k14_a_book.Holds := by
 w_on;refine holds_law saidX λsaid=>?_
 refine holds_open (q:=K14.Hq) (loose:=[]) (Xt:=K14.Hx) (XP:=XL K14.Hq []) (Yf:=λs=>K14.Has.map s.heap.get?) (Ya:=λw=>(K14.HK w.params).map λp=>some p.2) (YP:=InK K14.HK) (N:=6492) K14.qlN (InK.of K14.HKe) InK.keeps (λs e=>xl_of s (Bool.and_eq_true_iff.mp e).1) XL.keeps (by rfl) (by rfl) (by rfl) (λs e=>recFacts_of (Bool.and_eq_true_iff.mp e).2) (by rfl) (by first|assumption|decide+kernel) (3:) ⟨rfl,rfl,rfl,rfl,rfl,(3:)⟩ ?hw ?hc
 (case hw=>w_witness2)
 k_fill
 refine K14.qnp (l:=PySem.Challenge.rw_daysgate_k14_a_book) rfl rfl (λw h Y=>Y) ?F
 case F=>
  intro w mg fa h KX G hmg
  refine' K14.qke KX G hmg ?_ ?_ ?_ ?_ ?_ ?_ ?_ ?_ ?_ ?_ ?_ ?_ ?_ ?_ ?_ ?_ ?_ ?_ ?_ ?_ ?_ ?_ ?_ ?_ ?_ ?_ ?_ ?_ ?_ ?_ ?_ ?_ ?_ ?_ ?_ ?_ ?_ ?_ ?_ ?_ ?_ ?_ ?_ ?_ ?_ ?_ ?_ ?_ ?_ ?_ ?_ ?_ ?_ ?_ ?_ ?_ ?_ ?_ ?_ ?_ ?_ ?_ ?_ ?_ ?_ ?_ ?_ ?_ ?_ ?_ ?_ ?_ ?_ ?_ ?_ ?_ ?_ ?_ ?_ ?_ ?_ ?_ ?_ ?_ ?_ ?_ ?_ ?_ ?_ ?_ ?_ ?_ ?_ ?_ ?_ ?_ ?_ ?_ ?_ ?_ ?_ ?_ ?_ ?_ ?_ ?_ ?_ ?_ ?_ ?_ ?_ ?_ ?_ ?_ ?_ ?_ ?_ ?_ ?_ ?_ ?_ ?_ ?_ ?_ ?_ ?_ ?_ ?_ ?_ ?_ ?_ ?_ ?_ ?_ ?_ ?_ ?_ ?_ ?_ ?_ ?_
  all_goals try first|k_is|exact{by k_is,by unfold DG.JB;exact{_,_,_,_,_,_,_,_,_,by k_is,by k_is,by k_is}}|(unfold DG.JB;exact{_,_,_,_,_,_,_,_,_,by k_is,by k_is,by k_is})|(refine{{?_,?_,?_,?_},?_,?_}<;>k_is)|kit_is|(repeat first|exact .nil|refine .cons ⟨by k_is,by unfold DG.JB;exact{_,_,_,_,_,_,_,_,_,by k_is,by k_is,by k_is}⟩ ?_|refine .cons (by k_is) ?_)
  all_goals try first|kernel_rfl|(refine{?_,?_,?_}<;>first|k_is|kernel_rfl)|(refine{{?_,?_,?_,?_,?_,?_,?_,?_},?_,?_}<;>first|k_is|kernel_rfl)|(refine{?_,?_,?_,?_,?_,?_,?_,?_}<;>first|k_is|kernel_rfl)|(repeat first|exact .nil|refine .cons (by k_is) ?_|refine .cons (by kit_is) (by kit_is) ?_|refine .cons (4:) (4:) ?_)
