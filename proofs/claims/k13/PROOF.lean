import PyProof.Rows.All
import Wide.All
import OpenK.AllK
import PySem.Challenge.RW_daysgate_k13_texts_that_are_none
set_option Elab.async false
set_option linter.all false
set_option maxRecDepth 100000
set_option compiler.extract_closed false
set_option bootstrap.genMatcherCode false
set_option genSizeOf false
set_option genInjectivity false
set_option backward.eqns.nonrecursive false
noncomputable section
abbrev PP:=List (PySem.Addr×PySem.Obj)
abbrev PQ:=PySem.Value->PySem.Shared->Prop
abbrev PR:=PySem.Str->Option PySem.Value
open PySem.W (Frag)
set_option hygiene false
local macro_rules
| `(%[$n:num|0])=>`(.cons (.var $n) .nil)
| `(%[$a|0])=>`(.cons $a .nil)
| `(%[$n:num,$b,*|0])=>`(.cons (.var $n) %[$b,*|0])
| `(%[$a,$b,*|0])=>`(.cons $a %[$b,*|0])
| `(%[$n:num|1])=>`(qF (pg:=pg) (st:=top $n) (4:) λk cl=>(4:))
def saidX:PySem.Challenge.rw_daysgate_k13_texts_that_are_none.wellSaid=true:=by kernel_rfl
local macro_rules|`(($n:num :))=>`(nat_lit $n)
local macro_rules|`((1:))=>`(by lia)|`((5:))=>`(by simp)|`((-$e :))=>`(by simpa using $e)|`((3:))=>`(by decide+kernel)|`((4:))=>`(by kernel_rfl)|`((2:))=>`(by decide)
local macro_rules|`(tactic| simp?![$ls,*])=>do
  let f (s:String) (k:Lean.Name):=(s.splitOn " ").toArray.map λn=>Lean.mkIdent (k++n.toName)
  let b<-(f "Rv.list? Rv.plain? Rv.data Rv.int? Rv.str? Rv.bl? Rv.tup? int2 seqD Rv.non? idxD sliceD truthD rprD lenD listD intD strD tupD maxD minD B1.go B2.go Ty.of Ty.go toAr toSl flR slN runD th_ok of_some slR_s slR_v slR_o slR_b slR_c slX_s slX_v slX_o ownI_s ownI_o kk_f kk_x2 kk_cs xR_var xR_con xR_bin xR_not xR_one xR_and xR_or xR_cmp xR_idx xR_sli xR_lst xR_tup xR_call xR_b1 xR_b2 xR_isc xR_fld xR_met xR_fst xR_new xR_isi xR_comp n_ok n_R n_Es ix_tt n_As yRet yBl yTmp yB1 yB2 yNot yAnd yOr yC1 yC2 yI1 yI2 yS1 yS2 yS3 yLst yTup yCall yF1 yG1 yG2 yIsc yDat yFld yMt3 yMt2 yMt1 yMtO yMtN yMtI yStr yFst bm_s yMts sm_split sm_part yNew yIsi yComp xT_not xT_one xT_and xT_or xT_cmp xT_val yBo yTn yTa yTo yD1 yD2 yTv xF_yes xEs_nil xEs_cons yE1 yE2 xAs_nil xAs_cons yA1 yA2 xO_none xO_some yO xI_seq xI_rng ySeq yRng yVal yValLt yValLm yX yAv yAx yAxt yCons xE_s xE_v xE_o xL_s xL_l xL_z oGo_some xS_app yApp yApp2 xS_ret yRt xS_set ySet xS_setT yST yNx xS_ite yIte xS_for yFor xS_rai yRai xS_try yTry_ok yTry_exc th_exc xSs_nil xSs_cons yNext yNextr xFo_cons yFo1 yFo2 yFo2r xP_cons yP1 yP2 yP3 vc_bin vc_and vc_or vc_cmp vc_idx vc_lst vc_fst vc_tup vc_call vc_b1 vc_fld vc_met vc_new vc_comp eE_g eL_g eX_g eA_g eE_var eE_con eL_var eX_var eX_con eA_var eA_con bAdd bAdds bAddct bSub bMult bDiv bMod bPow cEq cNe cLt cLe cGt cIs cIn cNi mIn rgoV rgoT setIs_nil setIs_cons g_mapc g_mapn g_lenc g_lenn g_rep0 g_reps g_appc g_appn g_set0 g_sets g_nott g_notf g_omap g_fe g_and g_dt g_df" `DE++f "Int.reduceLT Int.reduceLE Nat.reduceAdd Nat.reduceSub" .anonymous).mapM λn=>`(Lean.Parser.Tactic.simpLemma| $n:ident)
  let d<-(f "n_var sA_p sA_R sA_L rA_l rA_s rA_t rA_y" `DE++f "reduceIte" .anonymous).mapM λn=>`(Lean.Parser.Tactic.simpLemma| ↓ $n:ident)
  let c:Array (Lean.TSyntax [`Lean.Parser.Tactic.simpStar, `Lean.Parser.Tactic.simpErase, `Lean.Parser.Tactic.simpLemma]):=(b++d).map (⟨·.raw⟩)++ls.getElems
  `(tactic| simp only[$c,*])
local macro_rules|`({$xs:term,*})=>`(⟨$xs,*⟩)
local macro_rules|`(tactic|simp?[$ls,*])=>`(tactic|(refine(qG _).symm.trans ?_;simp?![$ls,*]))
local macro_rules|`(tactic|simp![$ls,*]$[$l:location]?)=>`(tactic|simp only[$ls,*]$[$l]?)
open Lean Parser.Tactic in
local macro_rules|`(tactic|let$d:letDecl)=>do
 let s:=d.raw[0]
 unless s[0].isOfKind ``Parser.Term.tuple do Macro.throwUnsupported
 let N k (a:Array Syntax):Syntax:=.node .none k a
 let M x:=N ``rcasesPatMed #[mkNullNode #[x]]
 let q:=s[0].rewriteBottomUp λs=>if s.isIdent then N ``rcasesPat.one #[s] else if s.isOfKind ``Parser.Term.hole then N ``rcasesPat.ignore #[mkAtom "_"] else if s.isOfKind ``Parser.Term.tuple then N ``rcasesPat.tuple #[mkAtom "⟨",mkSepArray ((#[s[1][0]]++s[1][2].getSepArgs).map λx=>N ``rcasesPatLo #[M x,mkNullNode]) (mkAtom ",")|>mkNullNode,mkAtom "⟩"] else s
 return N ``obtain #[mkAtom "obtain",mkNullNode #[M q],mkNullNode s[2][0].getArgs,mkNullNode #[mkAtom ":=",mkNullNode #[s[4]]]]
local macro_rules|`(command|$d:definition)=>`(command|noncomputable $d:definition)
namespace L2
open PySem PySem.Spec PyProof.Rows
abbrev Key:=Sum Int Str
def qev:Key->Value->Bool
 |.inl k,v=>Value.isInt k v
 |.inr x,v=>Value.isStrOf x v
def qiO(w:World):Key->Int
 |.inl k=>hashInt k
 |.inr x=>hashStr w x
theorem qB:∀{k:Key} {v:Value},qev k v=true->(∃i t,k=Sum.inl i/\v=Value.int i t)\/(∃x t,k=Sum.inr x/\v=Value.str x t)
 |.inl i,v,h=>by let(t,e):=Value.isInt_shape (k:=i) (v:=v) h;exact .inl ⟨i,t,rfl,e⟩
 |.inr x,v,h=>by let(t,e):=Value.isStrOf_shape (x:=x) (v:=v) h;exact .inr ⟨x,t,rfl,e⟩
def qew(a b:Int):decide ((Sum.inl a:Key)=Sum.inl b)=(a == b):=by
 by_cases e:a=b
 ·subst e;simp
 ·have h:¬ (Sum.inl a:Key)=Sum.inl b:=λq=>e (Sum.inl.inj q);rw[decide_eq_false h];exact(beq_eq_false_iff_ne.mpr e).symm
def qex(a b:Str):decide ((Sum.inr a:Key)=Sum.inr b)=decide (a=b):=by
 by_cases e:a=b
 ·subst e;simp
 ·have h:¬ (Sum.inr a:Key)=Sum.inr b:=λq=>e (Sum.inr.inj q);rw[decide_eq_false h,decide_eq_false e]
def qey(a:Int)(b:Str):decide ((Sum.inl a:Key)=Sum.inr b)=false:=decide_eq_false (λq=>nomatch q)
def qez(a:Str)(b:Int):decide ((Sum.inr a:Key)=Sum.inl b)=false:=decide_eq_false (λq=>nomatch q)
def YM(prog:Program)(w:World):PySem.KeyKind prog w Key where
 is:=qev
 hash:=qiO w
 inj:=λv a b ha hb=>by
  rcases qB ha with ⟨i,t,rfl,rfl⟩|⟨x,t,rfl,rfl⟩
  ·rcases qB hb with ⟨j,u,rfl,e⟩|⟨y,u,rfl,e⟩
   ·injection e with e1 _;rw[e1]
   ·exact nomatch e
  ·rcases qB hb with ⟨j,u,rfl,e⟩|⟨y,u,rfl,e⟩
   ·exact nomatch e
   ·injection e with e1 _;rw[e1]
 byValue:=λk v h=>by rcases qB h with ⟨i,t,rfl,rfl⟩|⟨x,t,rfl,rfl⟩<;>rfl
 pyHash:=λhv h=>by
  rcases qB hv with ⟨i,t,rfl,rfl⟩|⟨x,t,rfl,rfl⟩
  ·exact wpAny_pyHash_int h
  ·exact wpAny_pyHash_str h
 eqBool:=λhu hv h=>by
  rcases qB hu with ⟨i,t,rfl,rfl⟩|⟨x,t,rfl,rfl⟩
  ·rcases qB hv with ⟨j,u,rfl,rfl⟩|⟨y,u,rfl,rfl⟩
   ·rw[qew]at h;exact wpAny_eqBool_int h
   ·rw[qey]at h;exact SeqAt.EqAt.int_str i t y u _ _ _ _ h
  ·rcases qB hv with ⟨j,u,rfl,rfl⟩|⟨y,u,rfl,rfl⟩
   ·rw[qez]at h;exact SeqAt.EqAt.str_int x t j u _ _ _ _ h
   ·rw[qex]at h;exact wpAny_eqBool_str h
 «strs»:=λk x t v h=>by
  rcases qB h with ⟨i,u,rfl,e⟩|⟨y,u,rfl,e⟩
  ·exact nomatch e
  ·injection e with e1 _;subst e1;cases v<;>rfl
inductive V where
 | non|bl (b:Bool)|int (i:Int)|str (x:Str)|byt (b:Array UInt8)|flt (b:UInt64)|ref (a:Addr)|ty (n:String)
 deriving DecidableEq
def qQ:V->Value->Prop
 |.non,u=>u=Value.none
 |.bl b,u=>u=Value.bool b
 |.int i,u=>∃t,u=Value.int i t
 |.str x,u=>∃t,u=Value.str x t
 |.byt b,u=>∃t,u=Value.bytes b t
 |.flt b,u=>∃t,u=Value.float b t
 |.ref a,u=>u=Value.ref a
 |.ty n,u=>u=Value.type n
abbrev qS:List V->List Value->Prop:=Paired qQ
def qS.length{xs:List V}{us:List Value}(r:qS xs us):xs.length=us.length:=Paired.length r
theorem qS.get:∀{xs:List V} {us:List Value} {i:Nat} {x:V},qS xs us->xs[i]?=some x->∃u,us[i]?=some u/\qQ x u
 |_,_,_,_,.nil,e=>by simp at e
 |_,_,0,_,.cons r _,e=>by simp at e;subst e;exact{_,rfl,r}
 | _,_,i+1,x,.cons _ t,e=>by let(u,h1,h2):=qS.get (i:=i) (x:=x) t (-e:);exact{u,(-h1:),h2}
theorem qS.append{xs ys:List V}{us ws:List Value}(h:qS xs us)(s:qS ys ws):qS (xs++ys) (us++ws):=by
 induction h with
 |nil=>exact s
 |cons r t ih=>exact .cons r ih
def Zn:Option V->Option Value->Prop
 |some v,some u=>qQ v u
 |none,none=>True
 |_,_=>False
def KV{U:Type}:List (U×V)->List (U×Value)->Prop:=Paired λ(p:U×V) (q:U×Value)=>p.1=q.1/\qQ p.2 q.2
def kV:Key->V
 |.inl i=>.int i
 |.inr x=>.str x
inductive HO where
 | lst (xs:List V)
 | tup (xs:List V)
 | dK (kvs:List (Key×V))|dT (kvs:List (List Key×V))
 | set (S:Int->Bool) (n:Nat)
 | ins (C dx:Addr) (fs:List (Str×V))
 | own (x:Addr)
 | xd (fs:List (Str×V))
 | met (f x:Addr)
 | rng (lo hi:Int)
 | frz (o:Obj) (u:HO)
 | tbl (ps:Array Value)
 | ext (φ:Heap->Prop)
abbrev Hp:=Addr->Option HO
def upd(H:Hp)(a:Addr)(o:HO):Hp:=λb=>if b=a then some o else H b
def qm{H:Hp}{a:Addr}{o:HO}:upd H a o a=some o:=by unfold upd;rw[if_pos rfl]
def qh{H:Hp}{a b:Addr}{o:HO}(h:b≠a):upd H a o b=H b:=by unfold upd;rw[if_neg h]
def qT{H:Hp}{a b:Addr}{o:HO}(h:H a=some o)(h':H b=none):a≠b:=by intro e;subst e;rw[h]at h';cases h'
section
variable(P:Program)(w:World)
def za(H:Hp)(h:Heap)(a:Addr):HO->Prop
 |.lst xs=>xs.length<=sizeLine/\∃(its:List Value) (n:Nat),qS xs its/\h.get? a=some { cls:=.type "list",data:=.seq its.toArray n }
 |.tup xs=>xs.length<=sizeLine/\∃its:List Value,qS xs its/\IsTup h a its.toArray
 |.dK kvs=>kvs.length<=sizeLine/\(a == sysModules)=false/\∃vs,KV kvs vs/\h.DictOf (YM P w) a vs
 |.dT kvs=>kvs.length<=sizeLine/\(a == sysModules)=false/\∃xs:List (List Key×Addr×Value),
   Paired (λ(p:List Key×V) (q:List Key×Addr×Value)=>p.1=q.1/\H q.2.1=some (.tup (p.1.map kV))/\qQ p.2 q.2.2) kvs xs/\
   ∃o es ep,h.get? a=some o/\o.ExactDict/\o.data=.dict es ep/\es.toList=xs.map (entryOfKey (tupleKind (YM P w)))/\(xs.map (·.1)).Nodup
 |.set S n=>h.SetOf (intKind P w) a S n
 |.ins C dx fs=>H dx=some (.own a)/\fs.length<=1000/\dx≠a/\h.get? a=some (PySem.W.instObj C dx)/\
   ∃mA,h.Ns1 dx mA/\(∀f,Zn (fs.lookup f) (mA f))/\PySem.Within mA (fs.map (·.1))
 |.own _=>∃o,h.get? a=some o
 |.xd fs=>∃mA,h.Ns1 a mA/\∀f,Zn (fs.lookup f) (mA f)
 |.rng lo hi=>∃t u v,h.get? a=some { cls:=.type "range",data:=.fields #[.int lo t,.int hi u,.int 1 v] }
 |.frz o u=>h.get? a=some o/\za H h a u
 |.tbl ps=>h.get? a=some { cls:=.none,data:=.fields ps }
 |.met f x=>h.get? a=some (PySem.W.methodObj (.ref f) (.ref x))
 |.ext φ=>φ h/\(∃o,h.get? a=some o)/\∀h1 h2:Heap,φ h1->(∀o,h1.get? a=some o->h2.get? a=some o)->φ h2
def HOk(H:Hp)(h:Heap):Prop:=∀a o,H a=some o->za P w H h a o
end
section
variable{P:Program}{w:World}{H H':Hp}{h h':Heap}{a:Addr}{o:HO}
theorem za.lt(x:za P w H h a o):a < h.objs.size:=by
 cases o with
 |lst xs=>let(_,_,_,_,e):=x;exact Heap.lt_size e
 |tup xs=>let(_,_,_,p):=x;exact p.lt
 |dK kvs=>let(_,_,_,_,o,_,_,e,_):=x;exact Heap.lt_size e
 |dT kvs=>let(_,_,_,_,o,_,_,e,_):=x;exact Heap.lt_size e
 |set S n=>let(o,_,_,_,e,_):=x;exact Heap.lt_size e
 |ins C dx fs=>let(_,_,_,e,_):=x;exact Heap.lt_size e
 |own y=>let(_,e):=x;exact Heap.lt_size e
 |xd fs=>let(_,(_,_,_,e,_),_):=x;exact Heap.lt_size e
 |rng lo hi=>let(_,_,_,e):=x;exact Heap.lt_size e
 |frz ob u=>let(e,_):=x;exact Heap.lt_size e
 |tbl ps=>exact Heap.lt_size (show h.get? a=some _ from x)
 |met f y=>exact Heap.lt_size (show h.get? a=some _ from x)
 |ext φ=>let(_,(_,e),_):=x;exact Heap.lt_size e
theorem Paired.mapP{α M:Type}{F G:α->M->Prop}{l₁:List α}{l₂:List M}(h:Paired F l₁ l₂)(f:∀a b,F a b->G a b):Paired G l₁ l₂:=by
 induction h with
 |nil=>exact .nil
 |cons r t ih=>exact .cons (f _ _ r) ih
theorem za.stay(x:za P w H h a o)(k:∀b u,(b=a\/H b=some (.own a))->h.get? b=some u->h'.get? b=some u)
  (ho:∀b,H b=some (.own a)->H' b=some (.own a)) (ht:∀b xs,H b=some (.tup xs)->H' b=some (.tup xs)):za P w H' h' a o:=by
 induction o with
 |lst xs=>let(z,its,n,r,e):=x;exact{z,its,n,r,k _ _ (.inl rfl) e}
 |tup xs=>let(z,its,r,ob,e,c):=x;exact{z,its,r,ob,k _ _ (.inl rfl) e,c}
 |dK kvs=>let(z,y,vs,r,ob,es,ep,e,c):=x;exact{z,y,vs,r,ob,es,ep,k _ _ (.inl rfl) e,c}
 |dT kvs=>let(z,y,xs,r,ob,es,ep,e,c):=x;exact{z,y,xs,Paired.mapP r λp q z=>{z.1,ht _ _ z.2.1,z.2.2},ob,es,ep,k _ _ (.inl rfl) e,c}
 |set S n=>let(ob,es,ep,t,e,c):=x;exact{ob,es,ep,t,k _ _ (.inl rfl) e,c}
 |ins C dx fs=>let(d,z,ne,e,mA,(od,es,ep,e2,c),r):=x;exact{ho _ d,z,ne,k _ _ (.inl rfl) e,mA,{od,es,ep,k _ _ (.inr d) e2,c},r}
 |own y=>let(ob,e):=x;exact{ob,k _ _ (.inl rfl) e}
 |xd fs=>let(mA,(od,es,ep,e,c),r):=x;exact{mA,{od,es,ep,k _ _ (.inl rfl) e,c},r}
 |rng lo hi=>let(t,u,v,e):=x;exact{t,u,v,k _ _ (.inl rfl) e}
 |frz ob u ih=>let(e,q):=x;exact{k _ _ (.inl rfl) e,ih q}
 |tbl ps=>have e:h.get? a=some { cls:=.none,data:=.fields ps }:=x;show h'.get? a=some { cls:=.none,data:=.fields ps };exact k a _ (.inl rfl) e
 |met f y=>have e:h.get? a=some (PySem.W.methodObj (.ref f) (.ref y)):=x;show h'.get? a=some (PySem.W.methodObj (.ref f) (.ref y));exact k a _ (.inl rfl) e
 |ext φ=>let(p,(o,e),st):=x;exact{st _ _ p λo q=>k _ _ (.inl rfl) q,{o,k _ _ (.inl rfl) e},st}
def HOk.lt(x:HOk P w H h)(e:H a=some o):a < h.objs.size:=(x a o e).lt
theorem HOk.fresh(x:HOk P w H h)(e:h.objs.size<=a):H a=none:=by
 cases q:H a with
 |none=>rfl
 |some u=>exact absurd (Nat.lt_of_lt_of_le (x.lt q) e) (Nat.lt_irrefl _)
def HOk.kept(x:HOk P w H h)(k:∀b u,h.get? b=some u->h'.get? b=some u):HOk P w H h':=λa o e=>(x a o e).stay (λb u _ q=>k b u q) (λ_ q=>q) λ_ _ q=>q
def HOk.laid(x:HOk P w H h)(k:∀b u,h.get? b=some u->h'.get? b=some u)(hp:h.objs.size<=a)(new:za P w (upd H a o) h' a o):HOk P w (upd H a o) h':=λb u e=>by
 have hn:=x.fresh hp
 by_cases hb:b=a
 ·subst hb;rw[qm]at e;cases e;exact new
 ·rw[qh hb]at e;exact(x b u e).stay (λc v _ q=>k c v q) (λc q=>by rw[qh (qT q hn)];exact q) λc xs q=>by rw[qh (qT q hn)];exact q
end
def Rd(H:Hp)(a:Addr)(u:HO):Prop:=H a=some u\/∃o,H a=some (.frz o u)
def Rd.ok{P:Program}{w:World}{H:Hp}{h:Heap}{a:Addr}{u:HO}(r:Rd H a u)(x:HOk P w H h):za P w H h a u:=by
 rcases r with r|⟨o,r⟩
 ·exact x a u r
 ·let(_,q):=x a _ r;exact q
def Mut:Option HO->Prop
 |some (.lst _)=>True
 |some (.dK _)=>True
 |some (.dT _)=>True
 |some (.set _ _)=>True
 |some (.ins _ _ _)=>True
 |some (.ext _)=>True
 |_=>False
section
variable{P:Program}{w:World}{H:Hp}{h h':Heap}{x e:Addr}{o':HO}
def HOk.write(ok:HOk P w H h)(mu:Mut (H x))(he:e=x\/H e=some (.own x))(k:∀b u,b≠e->h.get? b=some u->h'.get? b=some u)(heo:∃u,h'.get? e=some u)
  (new:za P w (upd H x o') h' x o'):HOk P w (upd H x o') h':=λb u q=>by
 have nown:∀c y,H c=some (.own y)->c≠x:=λc y r z=>by subst z;rw[r]at mu;exact mu
 have ntup:∀c xs,H c=some (.tup xs)->c≠x:=λc xs r z=>by subst z;rw[r]at mu;exact mu
 by_cases hb:b=x
 ·subst hb;rw[qm]at q;cases q;exact new
 ·rw[qh hb]at q
  by_cases hbe:b=e
  ·have q':H b=some (.own x):=by
    rcases he with z|z
    ·exact absurd (hbe.trans z) hb
    ·rw[hbe];exact z
   rw[q]at q';cases q';let(v,hv):=heo;exact{v,by rw[hbe];exact hv}
  ·refine(ok b u q).stay (λc v hc r=>k c v ?_ r) (λc r=>by rw[qh (nown c b r)];exact r) λc xs r=>by rw[qh (ntup c xs r)];exact r
   rcases hc with rfl|hc
   ·exact hbe
   ·rintro rfl;rcases he with z|z
    ·exact nown c b hc z
    ·rw[hc]at z;cases z;exact hb rfl
end
structure Un(fs ex:List Addr)(H H':Hp)(h h':Heap):Prop where
 keep:∀b o,h.get? b=some o->H b=none->b∉fs->b∉ex->h'.get? b=some o
 slot:∀b o,h.get? b=some o->H b=none->b∈fs->b∉ex->∃sl,h'.get? b=some { o with slots:=sl }
 free:∀b o,h.get? b=some o->H b=none->b∉ex->H' b=none
 there:∀b o,h.get? b=some o->b∉ex->∃o',h'.get? b=some o'
 tups:∀b xs,H b=some (.tup xs)->H' b=some (.tup xs)
 frzs:∀b o u,H b=some (.frz o u)->H' b=some (.frz o u)
 tbls:∀b ps,H b=some (.tbl ps)->∃more,H' b=some (.tbl (ps++more))
section
variable{fs fs' ex ex':List Addr}{H H1 H2:Hp}{h h1 h2 h':Heap}{a x e:Addr}{o:HO}
def Un.any(u:Un fs ex H H1 h h1){b:Addr}{ob:Obj}(q:h.get? b=some ob)(n:H b=none)(hx:b∉ex):∃sl,h1.get? b=some { ob with slots:=sl }:=by
 by_cases hb:b∈fs
 ·exact u.slot b ob q n hb hx
 ·exact{ob.slots,u.keep b ob q n hb hx}
def Un.kept(k:∀b u,h.get? b=some u->h'.get? b=some u):Un fs ex H H h h':=
 ⟨λb ob q _ _ _=>k b ob q,λb ob q _ _ _=>{ob.slots,k b ob q},λ_ _ _ n _=>n,λb ob q _=>{ob,k b ob q},λ_ _ q=>q,λ_ _ _ q=>q,λ_ ps q=>{#[],by rw[q];simp}⟩
def Un.refl:Un fs ex H H h h:=Un.kept λ_ _ q=>q
def Un.laid(k:∀b u,h.get? b=some u->h'.get? b=some u)(hp:h.objs.size<=a)(hn:H a=none):Un fs ex H (upd H a o) h h' where
 keep:=λb u q _ _ _=>k b u q
 slot:=λb u q _ _ _=>{u.slots,k b u q}
 free:=λb u q n _=>by rw[qh (Nat.ne_of_lt (Nat.lt_of_lt_of_le (Heap.lt_size q) hp))];exact n
 there:=λb u q _=>{u,k b u q}
 tups:=λb xs q=>by rw[qh (qT q hn)];exact q
 frzs:=λb u xs q=>by rw[qh (qT q hn)];exact q
 tbls:=λb ps q=>{#[],by rw[qh (qT q hn),q];simp}
def Un.write(mu:Mut (H x))(he:e=x\/H e=some (.own x))(k:∀b u,b≠e->h.get? b=some u->h'.get? b=some u)(heo:∃u,h'.get? e=some u):Un fs ex H (upd H x o) h h':=by
 have hx:∀b,H b=none->b≠x:=λb n z=>by subst z;rw[n]at mu;exact mu
 have hb:∀b,H b=none->b≠e:=λb n z=>by
  subst z;rcases he with r|r
  ·exact hx b n r
  ·rw[n]at r;cases r
 have hm:∀b u,H b=some u->¬ Mut (some u)->b≠x:=λb u q nm z=>by subst z;rw[q]at mu;exact nm mu
 refine{λb u q n _ _=>k b u (hb b n) q,λb u q n _ _=>{u.slots,k b u (hb b n) q},λb u q n _=>by rw[qh (hx b n)];exact n,λb u q _=>?_,
  λb xs q=>by rw[qh (hm b _ q λz=>z)];exact q,λb u xs q=>by rw[qh (hm b _ q λz=>z)];exact q,λb ps q=>{#[],by rw[qh (hm b _ q λz=>z),q];simp}}
 by_cases hbe:b=e
 ·subst hbe;exact heo
 ·exact{u,k b u hbe q}
end
def trk(h:Heap)(H:Hp):List Addr:=(List.range h.objs.size).filter λa=>(H a).isSome
def qaX(h:Heap)(H:Hp):Heap:=PySem.W.hideAll h (trk h H)
def Zo(h:Heap)(H:Hp):(qaX h H).objs.size=h.objs.size:=PySem.W.hideAll_size _ _
def qaY{h:Heap}{H:Hp}{b:Addr}{o:Obj}(e:h.get? b=some o)(n:H b=none):(qaX h H).get? b=some o:=
 PySem.W.hideAll_get _ e λhm=>by have q:(H b).isSome=true:=(List.mem_filter.mp hm).2;rw[n]at q;simp at q
theorem qcJ{h:Heap}{H:Hp}{b:Addr}{o:Obj}(e:(qaX h H).get? b=some o):h.get? b=some o/\H b=none:=by
 have e':h.get? b=some o:=PySem.W.of_hideAll (trk h H) e;refine{e',?_}
 cases q:H b with
 |none=>rfl
 |some x=>have hm:b∈trk h H:=List.mem_filter.mpr ⟨List.mem_range.mpr (Heap.lt_size e'),by simp[q]⟩;have z:(qaX h H).get? b=none:=PySem.W.hideAll_none (trk h H) hm;rw[z]at e;cases e
structure Mod(K:Frag)(mg:PR)(base:Heap):Prop where
 kin:K.In base
 glob:base.Ns mainGlobals mg
 blt:∃mb,base.Ns builtinsNs mb/\∀x:Str,x≠"__name__"->mb x=bootBuiltins x
 nolimit:base.NoLimit
structure Cx where
 prog:Program
 w:World
 K:Frag
 mg:PR
 base:Heap
 A:Around
 N:List Str
 s₀:Shared
 Hv:Hp
 env:Env
 outer:List Env
 stack:List Env
 ex:List Addr
 fn:Str->Bool
 calm:Bool
 pn:PP
 xe:PQ
def frs(l:List Env):List Addr:=l.filterMap (·.frame)
abbrev Cx.fs(X:Cx):List Addr:=frs X.outer
def Vis(sc:Scope)(x:Str):Prop:=sc.names.lookup x=some .local\/sc.names.lookup x=some .cell\/sc.names.lookup x=some .free
def Loc(sc:Scope)(x:Str):Prop:=sc.names.lookup x=some .local\/sc.names.lookup x=some .cell
def qiP(env:Env)(h:Heap)(m:PR)(x:Str)(u:Value):Prop:=
 (env.kindOf x=some .local/\m x=some u)\/((env.kindOf x=some .cell\/env.kindOf x=some .free)/\∃c,env.cells.lookup x=some c/\h.IsCell c (some u))
structure Cx.Ok(X:Cx):Prop where
 mod:Mod X.K X.mg X.base
 kind:X.env.scope.kind=.function
 glob:X.env.globals=mainGlobals
 blt:X.env.builtins=builtinsNs
 above:X.s₀.heap.objs.size<=X.env.locals
 inj:∀x y c,X.env.cells.lookup x=some c->X.env.cells.lookup y=some c->x=y
 has:∀x,(X.env.kindOf x=some .cell\/X.env.kindOf x=some .free)->∃c,X.env.cells.lookup x=some c
 cab:∀x c,X.fn x=true->X.env.cells.lookup x=some c->X.s₀.heap.objs.size<=c
 hd:X.calm=true->X.A.handled=none
 frames:X.A.frames=some X.stack
 stk:X.stack=X.outer\/(X.stack=X.env::X.outer/\X.env.frame=some X.env.locals)
 exf:∀b∈X.ex,b≠X.env.locals/\∀x c,X.env.cells.lookup x=some c->c≠b
 bs:∀b o,X.base.get? b=some o->X.s₀.heap.get? b=some o/\X.Hv b=none
 bsz:X.base.objs.size<=X.s₀.heap.objs.size
 noex:∀b o,X.base.get? b=some o->b∉X.ex
 exfs:∀b∈X.ex,b∉X.fs
 funs:X.s₀.heap.FunFrames X.base X.outer
 frf:∀b∈X.fs,X.Hv b=none
structure Inv(X:Cx)(pins:PP)(Z:List (Option V))(H:Hp)(s:Shared):Prop where
 ok:X.Ok
 os:s.os=X.s₀.os
 bare:AllBare s.gens
 base:Un X.fs X.ex X.Hv H X.s₀.heap s.heap
 loc:∃m,s.heap.Ns X.env.locals m/\∀(i:Nat) (x:Str) (v:V),X.N[i]?=some x->Z[i]?=some (some v)->Vis X.env.scope x->∃u,qQ v u/\qiP X.env s.heap m x u
 cell:∀x c,X.env.cells.lookup x=some c->∃v,s.heap.IsCell c v
 free:H X.env.locals=none
 freeC:∀x c,X.env.cells.lookup x=some c->H c=none
 pin:∀p∈X.pn++pins,s.heap.get? p.1=some p.2/\H p.1=none/\p.1≠X.env.locals/\p.1∉X.fs/\∀v,p.2.data≠.cell v
 hok:HOk X.prog X.w H s.heap
 len:Z.length=X.N.length
section
variable{X:Cx}{pins:PP}{Z:List (Option V)}{H H':Hp}{s:Shared}{h':Heap}
def Cx.Ok.nofr(ok:X.Ok){b:Addr}{o:Obj}(e:X.base.get? b=some o):b∉X.fs:=λhb=>by
 have:=(ok.funs.mem hb).1
 rw[e]at this;cases this
def Inv.bs(I:Inv X pins Z H s):∀b o,X.base.get? b=some o->s.heap.get? b=some o/\H b=none:=λb o e=>{I.base.keep b o (I.ok.bs b o e).1 (I.ok.bs b o e).2 (I.ok.nofr e) (I.ok.noex b o e),I.base.free b o (I.ok.bs b o e).1 (I.ok.bs b o e).2 (I.ok.noex b o e)}
def Inv.bk(I:Inv X pins Z H s):∀b o,X.base.get? b=some o->s.heap.get? b=some o:=λb o e=>(I.bs b o e).1
def Inv.mod(I:Inv X pins Z H s):Mod X.K X.mg X.base:=I.ok.mod
def Inv.kIn(I:Inv X pins Z H s):X.K.In s.heap:=I.ok.mod.kin.keeps I.bk
def Inv.lt(I:Inv X pins Z H s):X.env.locals < s.heap.objs.size:=let ⟨_,hn,_⟩:=I.loc;hn.lt
def Inv.sz(I:Inv X pins Z H s):X.s₀.heap.objs.size<=s.heap.objs.size:=Nat.le_trans I.ok.above (Nat.le_of_lt I.lt)
def Inv.nofs(I:Inv X pins Z H s){a:Addr}(h:s.heap.objs.size<=a):a∉X.fs:=λhb=>by let(_,o,ho,_):=I.ok.funs.mem hb;exact absurd (Nat.lt_of_lt_of_le (Heap.lt_size ho) (Nat.le_trans I.sz h)) (Nat.lt_irrefl _)
def Inv.cne(I:Inv X pins Z H s):∀x c,X.env.cells.lookup x=some c->c≠X.env.locals:=λx c e z=>by let(v,o,ho,hd):=I.cell x c e;let(m,(o',es,ep,ho',hd',_),_):=I.loc;rw[z,ho']at ho;cases ho;rw[hd']at hd;cases hd
def Inv.funs(I:Inv X pins Z H s):s.heap.FunFrames X.base X.outer:=by
 have all:∀(l:List Env),(∀b∈frs l,b∈X.fs)->X.s₀.heap.FunFrames X.base l->s.heap.FunFrames X.base l:=by
  intro l
  induction l with
  |nil=>intro _ _;trivial
  |cons env r ih=>intro hs hl;let(hk,(L,o,hf,hn,ho,hd),hr):=hl;have hL:L∈X.fs:=hs L (by unfold frs;rw[List.filterMap_cons,hf];exact List.mem_cons_self);let(sl,e):=I.base.slot L o ho (I.ok.frf L hL) hL λz=>I.ok.exfs L z hL;exact{hk,{L,_,hf,hn,e,hd},ih (λb hb=>hs b (by unfold frs;rw[List.filterMap_cons,hf];exact List.mem_cons_of_mem _ hb)) hr}
 exact all X.outer (λ_ hb=>hb) I.ok.funs
def Inv.stack(I:Inv X pins Z H s):s.heap.FunFrames X.base X.stack:=by
 rcases I.ok.stk with e|⟨e,hf⟩
 ·rw[e];exact I.funs
 ·rw[e];let(m,hn,_):=I.loc;refine .cons (by rw[I.ok.kind];decide) hf hn ?_ I.funs;exact Heap.get?_none_of_le (Nat.le_trans I.ok.bsz I.ok.above)
def Inv.stkSub(I:Inv X pins Z H s):∀b∈frs X.stack,b∈X.env.locals::X.fs:=λb hb=>by
 rcases I.ok.stk with e|⟨e,hf⟩
 ·rw[e]at hb;exact List.mem_cons_of_mem _ hb
 ·rw[e]at hb;unfold frs at hb;rw[List.filterMap_cons,hf]at hb;exact hb
def Inv.stkFree(I:Inv X pins Z H s):∀b∈frs X.stack,H b=none:=λb hb=>by
 rcases List.mem_cons.mp (I.stkSub b hb) with e|hb
 ·rw[e];exact I.free
 ·let(_,o,ho,_):=I.ok.funs.mem hb;exact I.base.free b o ho (I.ok.frf b hb) λz=>I.ok.exfs b z hb
def Inv.step{g':Array GenState}{t':Nat}{d':Drawn}{ch:List Addr}(I:Inv X pins Z H s)
  (hch:∀b∈ch,(b∈X.ex\/X.s₀.heap.objs.size<=b)/\b≠X.env.locals/\(∀x c,X.env.cells.lookup x=some c->c≠b)/\∀p∈X.pn++pins,p.1≠b)
  (keep:∀b o,b≠X.env.locals->b∉X.fs->b∉ch->s.heap.get? b=some o->H b=none->h'.get? b=some o)
  (slot:∀b o,b≠X.env.locals->b∈X.fs->b∉ch->s.heap.get? b=some o->H b=none->∃sl,h'.get? b=some { o with slots:=sl }) (free:∀b o,b∉ch->s.heap.get? b=some o->H b=none->H' b=none)
  (there:∀b o,b∉ch->s.heap.get? b=some o->∃o',h'.get? b=some o')
  (tups:∀b xs,H b=some (.tup xs)->H' b=some (.tup xs)) (frzs:∀b o u,H b=some (.frz o u)->H' b=some (.frz o u)) (tbls:∀b ps,H b=some (.tbl ps)->∃more,H' b=some (.tbl (ps++more)))
  (ns:∀m,s.heap.Ns X.env.locals m->h'.Ns X.env.locals m) (hok:HOk X.prog X.w H' h') (hg:AllBare g') :
  Inv X pins Z H' { s with heap:=h',gens:=g',drawn:=d',toks:=t' }:=by
 have neL:∀b o,X.s₀.heap.get? b=some o->b≠X.env.locals:=λb o e=>Nat.ne_of_lt (Nat.lt_of_lt_of_le (Heap.lt_size e) I.ok.above)
 have neC:∀b o,X.s₀.heap.get? b=some o->b∉X.ex->b∉ch:=λb o e hx hb=>by
  rcases (hch b hb).1 with z|z
  ·exact hx z
  ·exact absurd (Nat.lt_of_lt_of_le (Heap.lt_size e) z) (Nat.lt_irrefl _)
 have cellK:∀x c,X.env.cells.lookup x=some c->∀v,s.heap.IsCell c v->h'.IsCell c v:=λx c e v ⟨o,ho,hd⟩=>by
  have nch:c∉ch:=λz=>(hch c z).2.2.1 x c e rfl
  by_cases hc:c∈X.fs
  ·let(sl,q):=slot c o (I.cne x c e) hc nch ho (I.freeC x c e);exact{_,q,hd}
  ·exact{o,keep c o (I.cne x c e) hc nch ho (I.freeC x c e),hd}
 refine{I.ok,I.os,hg,{λb o e n hb hx=>?_,λb o e n hb hx=>?_,λb o e n hx=>?_,λb o e hx=>?_,λb xs e=>tups b xs (I.base.tups b xs e),λb o xs e=>frzs b o xs (I.base.frzs b o xs e),λb ps e=>?_},?_,λx c e=>?_,?_,λx c e=>?_,λp hp=>?_,hok,I.len}
 ·exact keep b o (neL b o e) hb (neC b o e hx) (I.base.keep b o e n hb hx) (I.base.free b o e n hx)
 ·let(sl,e1):=I.base.slot b o e n hb hx;let(sl',e2):=slot b _ (neL b o e) hb (neC b o e hx) e1 (I.base.free b o e n hx);exact⟨sl',e2⟩
 ·let(o',e1):=I.base.there b o e hx;exact free b o' (neC b o e hx) e1 (I.base.free b o e n hx)
 ·let(o',e1):=I.base.there b o e hx;exact there b o' (neC b o e hx) e1
 ·let(m1,e1):=I.base.tbls b ps e;let(m2,e2):=tbls b _ e1;exact{m1++m2,by rw[e2,Array.append_assoc]}
 ·let(m,hn,hl):=I.loc;refine{m,ns m hn,λi x v e1 e2 e3=>?_};let(u,r,l):=hl i x v e1 e2 e3;refine{u,r,?_};rcases l with l|⟨k,c,e,z⟩
  ·exact .inl l
  ·exact .inr ⟨k,c,e,cellK x c e _ z⟩
 ·let(v,z):=I.cell x c e;exact{v,cellK x c e v z}
 ·let(m,(o,_,_,ho,_),_):=I.loc;exact free _ o (λz=>(hch _ z).2.1 rfl) ho I.free
 ·let(v,o,ho,hd):=I.cell x c e;exact free c o (λz=>(hch c z).2.2.1 x c e rfl) ho (I.freeC x c e)
 ·let(e,n,ne,nf,d):=I.pin p hp;have nch:p.1∉ch:=λz=>(hch p.1 z).2.2.2 p hp rfl;exact{keep p.1 p.2 ne nf nch e n,free p.1 p.2 nch e n,ne,nf,d}
def Inv.un{t':Nat}(I:Inv X pins Z H s)(u:Un X.fs [] H H' s.heap h')(hok:HOk X.prog X.w H' h'):Inv X pins Z H' { s with heap:=h',toks:=t' }:=by
 let(m,(o,es,ep,ho,r),_):=id I.loc;let(sl,hL):=u.any ho I.free (5:)
 exact I.step (g':=s.gens) (d':=s.drawn) (ch:=[]) (λ_ z=>nomatch z) (λb o _ hb _ e n=>u.keep b o e n hb (5:)) (λb o _ hb _ e n=>u.slot b o e n hb (5:)) (λb o _ e n=>u.free b o e n (5:)) (λb o _ e=>u.there b o e (5:)) u.tups u.frzs u.tbls (λm' hm=>by let(o',es',ep',ho',r'):=hm;rw[ho]at ho';cases ho';exact{_,es',ep',hL,r'}) hok I.bare
def Inv.call{g':Array GenState}{t':Nat}{d':Drawn}{ch:List Addr}(I:Inv X pins Z H s)(u:Un (frs X.stack) ch H H' s.heap h')(hok:HOk X.prog X.w H' h')(hg:AllBare g')
  (hch:∀b∈ch,(b∈X.ex\/X.s₀.heap.objs.size<=b)/\b≠X.env.locals/\(∀x c,X.env.cells.lookup x=some c->c≠b)/\∀p∈X.pn++pins,p.1≠b) :
  Inv X pins Z H' { s with heap:=h',gens:=g',drawn:=d',toks:=t' }:=by
 let(m,(o,es,ep,ho,r),_):=id I.loc;let(sl,hL):=u.any ho I.free λz=>(hch _ z).2.1 rfl
 exact I.step (ch:=ch) hch (λb o hL hb hc e n=>u.keep b o e n (λz=>(List.mem_cons.mp (I.stkSub b z)).elim hL hb) hc) (λb o _ _ hc e n=>u.any e n hc) (λb o hc e n=>u.free b o e n hc) (λb o hc e=>u.there b o e hc) u.tups u.frzs u.tbls (λm' hm=>by let(o',es',ep',ho',r'):=hm;rw[ho]at ho';cases ho';exact{_,es',ep',hL,r'}) hok hg
def Inv.turned{t':Nat}{it:Addr}(I:Inv X pins Z H s)(k:∀b o,b≠it->s.heap.get? b=some o->h'.get? b=some o)(hn:H it=none)(hL:it≠X.env.locals)
  (h1:it∈X.ex\/X.s₀.heap.objs.size<=it) (h2:∀x c,X.env.cells.lookup x=some c->c≠it) (h3:∀p∈X.pn++pins,p.1≠it):Inv X pins Z H { s with heap:=h',toks:=t' }:=by
 have nit:∀b u,H b=some u->b≠it:=λb u e z=>by rw[z,hn]at e;cases e
 refine I.step (g':=s.gens) (d':=s.drawn) (ch:=[it]) (λb hb=>?_) (λb o _ _ hc e _=>k b o (λz=>hc (by simp[z])) e) (λb o _ _ hc e _=>{o.slots,k b o (λz=>hc (by simp[z])) e}) (λ_ _ _ _ n=>n)
  (λb o hc e=>{o,k b o (λz=>hc (by simp[z])) e}) (λ_ _ e=>e) (λ_ _ _ e=>e) (λb ps e=>{#[],by rw[e];simp}) (λm hm=>?_) (λb u e=>?_) I.bare
 ·have e:b=it:=(-hb:)
  subst e;exact⟨h1,hL,h2,h3⟩
 ·let(o,es,ep,ho,r):=hm;exact{o,es,ep,k _ o (Ne.symm hL) ho,r}
 ·refine(I.hok b u e).stay (λc v hc q=>k c v ?_ q) (λ_ q=>q) λ_ _ q=>q;rcases hc with z|z
  ·rw[z];exact nit b u e
  ·exact nit c _ z
def Inv.tok(I:Inv X pins Z H s)(t:Nat):Inv X pins Z H { s with toks:=t }:=I.un (h':=s.heap) (t':=t) Un.refl I.hok
def Inv.kept{t':Nat}(I:Inv X pins Z H s)(k:∀b u,s.heap.get? b=some u->h'.get? b=some u):Inv X pins Z H { s with heap:=h',toks:=t' }:=I.un (Un.kept k) (I.hok.kept k)
def Inv.laid{a:Addr}{o:HO}{t':Nat}(I:Inv X pins Z H s)(k:∀b u,s.heap.get? b=some u->h'.get? b=some u)(hp:s.heap.objs.size<=a)(new:za X.prog X.w (upd H a o) h' a o) :
  Inv X pins Z (upd H a o) { s with heap:=h',toks:=t' }:=I.un (Un.laid k hp (I.hok.fresh hp)) (I.hok.laid k hp new)
def Inv.write{x e:Addr}{o:HO}{t':Nat}(I:Inv X pins Z H s)(mu:Mut (H x))(he:e=x\/H e=some (.own x))(k:∀b u,b≠e->s.heap.get? b=some u->h'.get? b=some u)(heo:∃u,h'.get? e=some u)
  (new:za X.prog X.w (upd H x o) h' x o):Inv X pins Z (upd H x o) { s with heap:=h',toks:=t' }:=I.un (Un.write mu he k heo) (I.hok.write mu he k heo new)
def Inv.pins_of{pins':PP}(I:Inv X pins Z H s)(h:∀p∈pins',s.heap.get? p.1=some p.2/\H p.1=none/\p.1≠X.env.locals/\p.1∉X.fs/\∀v,p.2.data≠.cell v):Inv X pins' Z H s:=
 ⟨I.ok,I.os,I.bare,I.base,I.loc,I.cell,I.free,I.freeC,λp hp=>(List.mem_append.mp hp).elim (λz=>I.pin p (List.mem_append_left _ z)) (h p),I.hok,I.len⟩
def Jd{N:List Str}(hN:N.Nodup){i j:Nat}{x:Str}(a:N[i]?=some x)(b:N[j]?=some x):i=j:=by let(h1,e1):=List.getElem?_eq_some_iff.mp a;let(h2,e2):=List.getElem?_eq_some_iff.mp b;exact(List.getElem_inj hN).mp (e1.trans e2.symm)
def ji{M:Model}{A:Around}{E:PQ}{i:Nat}{x:Str}{v:V}{u:Value}{Q:Unit->Shared->Prop}(I:Inv X pins Z H s)(hN:X.N.Nodup)(hi:X.N[i]?=some x)(hx:Loc X.env.scope x)(r:qQ v u)
  (h:∀s',Inv X pins (Z.set i (some v)) H s'->(∃a,Heap.SameBut a s.heap s'.heap/\(a=X.env.locals\/X.env.cells.lookup x=some a))->Q () s') (hf:X.fn x=true\/X.env.scope.names.lookup x=some .local:=by first|exact .inl rfl|exact .inr rfl|assumption):wpAny M A (storeName X.env x u) Q E s:=by
 let(m,hn,hl):=id I.loc;have hcls:(X.env.scope.kind == .class||(X.env.scope.kind == .module&&X.env.locals != X.env.globals))=false:=by rw[I.ok.kind];rfl
 have hiσ:i < Z.length:=by rw[I.len];exact(List.getElem?_eq_some_iff.mp hi).1
 have cne:=I.cne
 have tracked:∀{a:Addr} {h':Heap},(∃o,s.heap.get? a=some o/\H a=none)->Heap.SameBut a s.heap h'->HOk X.prog X.w H h':=λ{a h'} ha hs b ob e=>by
  let(_,_,hfree):=ha;refine(I.hok b ob e).stay (λc w' hc q=>(hs.2 c ?_).trans q) (λ_ q=>q) λ_ _ q=>q;rintro rfl;rcases hc with rfl|hc
  ·rw[hfree]at e;cases e
  ·rw[hfree]at hc;cases hc
 rcases hx with hk|hk
 ·refine wpAny_storeName_local hk hn (λh' hn' hs=>?_) hcls;let(oL,_,_,hoL,_):=id hn;refine h _ ⟨I.ok,I.os,I.bare,⟨λb o e n hb hx=>?_,λb o e n hb hx=>?_,I.base.free,λb o e hx=>?_,I.base.tups,I.base.frzs,I.base.tbls⟩,⟨_,hn',λj y v' e1 e2 e3=>?_⟩,λy c e=>?_,I.free,I.freeC,λp hp=>?_,tracked ⟨oL,hoL,I.free⟩ hs,(-I.len:)⟩ ⟨_,hs,.inl rfl⟩
  ·exact(hs.2 b (Nat.ne_of_lt (Nat.lt_of_lt_of_le (Heap.lt_size e) I.ok.above))).trans (I.base.keep b o e n hb hx)
  ·let(sl,e1):=I.base.slot b o e n hb hx;exact{sl,(hs.2 b (Nat.ne_of_lt (Nat.lt_of_lt_of_le (Heap.lt_size e) I.ok.above))).trans e1}
  ·let(o',e1):=I.base.there b o e hx;exact{o',(hs.2 b (Nat.ne_of_lt (Nat.lt_of_lt_of_le (Heap.lt_size e) I.ok.above))).trans e1}
  ·by_cases hj:j=i
   ·subst hj;rw[hi]at e1;cases e1;rw[List.getElem?_set_self hiσ]at e2;cases e2;exact{u,r,.inl {hk,by simp}}
   ·rw[List.getElem?_set_ne (Ne.symm hj)]at e2;let(u',r',q):=hl j y v' e1 e2 e3;refine{u',r',?_};rcases q with ⟨k,e⟩|⟨k,c,e,z⟩
    ·refine .inl ⟨k,?_⟩
     have:y≠x:=λe=>hj (Jd hN e1 (e▸hi))
     simp[this,e]
    ·exact .inr ⟨k,c,e,z.sameBut hs (cne y c e)⟩
  ·let(w',z):=I.cell y c e;exact{w',z.sameBut hs (cne y c e)}
  ·let(e,n,ne,nf,d):=I.pin p hp;exact{(hs.2 p.1 ne).trans e,n,ne,nf,d}
 ·have hfn:X.fn x=true:=by
   rcases hf with z|z
   ·exact z
   ·rw[z]at hk;cases hk
  let(c,hc):=I.ok.has x (.inl hk);let(w',z):=I.cell x c hc;refine wpAny_storeName_cell I.ok.kind hk hc z (λh' hc' hs=>?_);let(oc,hoc,hocd):=id z;refine h { s with heap:=h' } ⟨I.ok,I.os,I.bare,⟨λb o e n hb hx=>?_,λb o e n hb hx=>?_,I.base.free,λb o e hx=>?_,I.base.tups,I.base.frzs,I.base.tbls⟩,⟨m,hn.sameBut hs (Ne.symm (cne x c hc)),λj y v' e1 e2 e3=>?_⟩,λy c' e=>?_,I.free,I.freeC,λp hp=>?_,tracked ⟨oc,hoc,I.freeC x c hc⟩ hs,(-I.len:)⟩ ⟨c,hs,.inr hc⟩
  ·exact(hs.2 b (Nat.ne_of_lt (Nat.lt_of_lt_of_le (Heap.lt_size e) (I.ok.cab x c hfn hc)))).trans (I.base.keep b o e n hb hx)
  ·let(sl,e1):=I.base.slot b o e n hb hx;exact{sl,(hs.2 b (Nat.ne_of_lt (Nat.lt_of_lt_of_le (Heap.lt_size e) (I.ok.cab x c hfn hc)))).trans e1}
  ·let(o',e1):=I.base.there b o e hx;exact{o',(hs.2 b (Nat.ne_of_lt (Nat.lt_of_lt_of_le (Heap.lt_size e) (I.ok.cab x c hfn hc)))).trans e1}
  ·by_cases hj:j=i
   ·subst hj;rw[hi]at e1;cases e1;rw[List.getElem?_set_self hiσ]at e2;cases e2;exact{u,r,.inr {.inl hk,c,hc,hc'}}
   ·rw[List.getElem?_set_ne (Ne.symm hj)]at e2;let(u',r',q):=hl j y v' e1 e2 e3;refine{u',r',?_};rcases q with q|⟨k,c',e,z'⟩
    ·exact .inl q
    ·refine .inr ⟨k,c',e,z'.sameBut hs ?_⟩;rintro rfl;exact hj (Jd hN e1 (I.ok.inj _ _ _ e hc▸hi))
  ·by_cases hcc:c'=c
   ·subst hcc;exact{_,hc'}
   ·let(w2,z2):=I.cell y c' e;exact{w2,z2.sameBut hs hcc}
  ·let(e,n,ne,nf,d):=I.pin p hp;refine{(hs.2 p.1 ?_).trans e,n,ne,nf,d};intro q;rw[q,hoc]at e;have q':oc=p.2:=Option.some.inj e;exact d w' (by rw[<-q'];exact hocd)
def Qb{M:Model}{A:Around}{E:PQ}{i:Nat}{x:Str}{v:V}{u:Value}{Q:Unit->Shared->Prop}(I:Inv X pins Z H s)(hN:X.N.Nodup)(hi:X.N[i]?=some x)(hx:Loc X.env.scope x)(r:qQ v u)
  (h:∀s',Inv X pins (Z.set i (some v)) H s'->Q () s') (hf:X.fn x=true\/X.env.scope.names.lookup x=some .local:=by first|exact .inl rfl|exact .inr rfl|assumption):wpAny M A (storeName X.env x u) Q E s:=
 ji I hN hi hx r (λs' I' _=>h s' I') hf
def Inv.call'{s':Shared}{ch:List Addr}(I:Inv X pins Z H s)(ho:s'.os=s.os)(u:Un (frs X.stack) ch H H' s.heap s'.heap)(hok:HOk X.prog X.w H' s'.heap)(hg:AllBare s'.gens)
  (hch:∀b∈ch,(b∈X.ex\/X.s₀.heap.objs.size<=b)/\b≠X.env.locals/\(∀x c,X.env.cells.lookup x=some c->c≠b)/\∀p∈X.pn++pins,p.1≠b):Inv X pins Z H' s':=by
 let(h',g',d',t',o'):=s';have e:o'=s.os:=ho;subst e;exact I.call (g':=g') (t':=t') (d':=d') u hok hg hch
end
abbrev XK:=Value->Option Addr->Hp->Prop
abbrev St:=List (Option V)
abbrev VK:=V->Hp->Prop
abbrev TE:=St->Hp->VK->Prop
abbrev TT:=St->Hp->(Bool->Hp->Prop)->Prop
abbrev TA:=St->Hp->(List V->Hp->Prop)->Prop
structure Ends where
 nx:St->Hp->Prop
 rt:VK
 bk:St->Hp->Prop:=λ_ _=>False
 ct:St->Hp->Prop:=λ_ _=>False
abbrev TS:=Ends->St->Hp->Prop
def EP(X:Cx)(pins:PP)(Z:St)(Q:VK)(u:Value)(s':Shared):Prop:=∃v H',Inv X pins Z H' s'/\qQ v u/\Q v H'
def TP(X:Cx)(pins:PP)(Z:St)(Q:Bool->Hp->Prop)(b:Bool)(s':Shared):Prop:=∃H',Inv X pins Z H' s'/\Q b H'
def AP(X:Cx)(pins:PP)(Z:St)(Q:List V->Hp->Prop)(us:List Value)(s':Shared):Prop:=∃vs H',Inv X pins Z H' s'/\qS vs us/\Q vs H'
def SP(X:Cx)(pins:PP)(D:Ends)(f:Flow)(s':Shared):Prop:=
 match f with
 |.next=>∃Z' H',Inv X pins Z' H' s'/\D.nx Z' H'
 |.brk=>∃Z' H',Inv X pins Z' H' s'/\D.bk Z' H'
 |.cont=>∃Z' H',Inv X pins Z' H' s'/\D.ct Z' H'
 |.ret u=>∃v Z' H',Inv X pins Z' H' s'/\qQ v u/\D.rt v H'
def PE(X:Cx)(e:Expr)(t:TE):Prop:=
 ∀(pins:PP) (s:Shared) (Z:St) (H:Hp) (Q:VK),Inv X pins Z H s->t Z H Q->wpAny (model X.prog X.w) X.A (eval e X.env) (EP X pins Z Q) X.xe s
def PT(X:Cx)(e:Expr)(t:TT):Prop:=
 ∀(pins:PP) (s:Shared) (Z:St) (H:Hp) (Q:Bool->Hp->Prop),Inv X pins Z H s->t Z H Q->wpAny (model X.prog X.w) X.A (isTrue e X.env (eval e X.env)) (TP X pins Z Q) X.xe s
def PW(X:Cx)(e:Expr)(t:TT):Prop:=
 ∀(whole:Sem Value) (pins:PP) (s:Shared) (Z:St) (H:Hp) (Q:Bool->Hp->Prop),Inv X pins Z H s->t Z H Q->wpAny (model X.prog X.w) X.A (isTrue e X.env whole) (TP X pins Z Q) X.xe s
def PW.pt{X:Cx}{e:Expr}{t:TT}(h:PW X e t):PT X e t:=h _
def PA(X:Cx)(es:List Expr)(t:TA):Prop:=
 ∀(pos:Pos) (pins:PP) (s:Shared) (Z:St) (H:Hp) (Q:List V->Hp->Prop),Inv X pins Z H s->t Z H Q->wpAny (model X.prog X.w) X.A (spliced (backTo pos (starEach es X.env))) (AP X pins Z Q) X.xe s
def PS(X:Cx)(st:Stmt)(t:TS):Prop:=
 ∀(pins:PP) (s:Shared) (Z:St) (H:Hp) (D:Ends),Inv X pins Z H s->t D Z H->wpAny (model X.prog X.w) X.A (exec st X.env) (SP X pins D) X.xe s
def PSs(X:Cx)(st:List Stmt)(t:TS):Prop:=
 ∀(pins:PP) (s:Shared) (Z:St) (H:Hp) (D:Ends),Inv X pins Z H s->t D Z H->wpAny (model X.prog X.w) X.A (execs st X.env) (SP X pins D) X.xe s
def thn{α:Type}{t:Sem α}{Q Q':α->Shared->Prop}{M:Model}{A:Around}{E:PQ}{s:Shared}(h:wpAny M A t Q E s)(hQ:∀a s,Q a s->Q' a s):wpAny M A t Q' E s:=wpAny_mono h hQ λ_ _ x=>x
section
variable{X:Cx}
def bin{a b:Expr}{ta tb:TE}(ha:PE X a ta)(hb:PE X b tb){pins:PP}{s:Shared}{Z:St}{H:Hp}{R:V->V->Hp->Prop}(I:Inv X pins Z H s)(h:ta Z H λx H1=>tb Z H1 λy H2=>R x y H2)
  {α:Type} {Q:α->Shared->Prop} {f:Value->Value->Sem α}
  (hf:∀v u s2 x y H2,Inv X pins Z H2 s2->qQ x v->qQ y u->R x y H2->wpAny (model X.prog X.w) X.A (f v u) Q X.xe s2) :
  wpAny (model X.prog X.w) X.A (eval a X.env) (λv s₁=>wpAny (model X.prog X.w) X.A (eval b X.env) (λu s₂=>wpAny (model X.prog X.w) X.A (f v u) Q X.xe s₂) X.xe s₁) X.xe s:=by
 refine thn (ha pins s Z H _ I h) λv s1 hq1=>?_;let(x,H1,I1,r1,q1):=hq1;refine thn (hb pins s1 Z H1 _ I1 q1) λu s2 hq1=>?_;let(y,H2,I2,r2,q2):=hq1;exact hf v u s2 x y H2 I2 r1 r2 q2
def qgU(i:Nat):TE:=λZ H Q=>∃v,Z[i]?=some (some v)/\Q v H
def tC(v:V):TE:=λ_ H Q=>Q v H
def Qc{i:Nat}{x:Str}{pos:Pos}(hN:X.N[i]?=some x)(hv:Vis X.env.scope x)(hd:(x == ("__debug__" : Str))=false:=by decide)(hcd:(x == ("__classdict__" : Str))=false:=by decide):PE X (.Name x pos) (qgU i):=by
 intro pins s Z H Q I h;let(v,e,h):=h;let(m,hn,hl):=I.loc;let(u,r,l):=hl i x v hN e hv;have fin:EP X pins Z Q u s:=⟨v,H,I,r,h⟩;rcases l with ⟨hk,hm⟩|⟨hk,c,hc,hcell⟩
 ·exact wpAny_Name (wpAny_loadName_local I.ok.kind hk hn hm fin) hd
 ·rcases hk with hk|hk
  ·exact wpAny_Name (wpAny_loadName_cell I.ok.kind hk hc hcell fin) hd
  ·exact wpAny_Name (wpAny_loadName_free I.ok.kind hk hc hcell fin hcd) hd
def yd{i j pos}:PE X (.Constant (.int i) j pos) (tC (.int i)):=λ_ _ _ H _ I h=>wpAny_Constant_int ⟨.int i,H,I.tok _,⟨_,rfl⟩,h⟩
def qg8{b j pos}:PE X (.Constant (.bool b) j pos) (tC (.bl b)):=λ_ _ _ H _ I h=>Constant_bool ⟨.bl b,H,I,rfl,h⟩
def qeA{j pos}:PE X (.Constant .none j pos) (tC .non):=λ_ _ _ H _ I h=>Constant_none ⟨.non,H,I,rfl,h⟩
def JO{x j pos}:PE X (.Constant (.str x) j pos) (tC (.str x)):=λ_ _ _ H _ I h=>Calls.Constant_str ⟨.str x,H,I.tok _,⟨_,rfl⟩,h⟩
def Gl(X:Cx)(x:Str):Prop:=X.env.kindOf x=some .globalImplicit
def qW{E:PQ}{pins:PP}{s:Shared}{Z:St}{H:Hp}{x:Str}{u:Value}{pos:Pos}{Q:PQ}(I:Inv X pins Z H s)(hg:Gl X x)(hm:X.mg x=some u)(h:Q u s)
  (hd:(x == ("__debug__" : Str))=false:=by decide):wpAny (model X.prog X.w) X.A (eval (.Name x pos) X.env) Q E s:=
 Calls.Name_function_global I.ok.kind hg (Calls.loadGlobal_global (by rw[I.ok.glob];exact I.mod.glob.keeps I.bk) hm h) hd
def Qd{E:PQ}{pins:PP}{s:Shared}{Z:St}{H:Hp}{x:Str}{u:Value}{pos:Pos}{Q:PQ}(I:Inv X pins Z H s)(hg:Gl X x)(hm:X.mg x=none)(hv:bootBuiltins x=some u)(h:Q u s)
  (hn:x≠"__name__":=by decide) (hd:(x == ("__debug__" : Str))=false:=by decide):wpAny (model X.prog X.w) X.A (eval (.Name x pos) X.env) Q E s:=by
 let(mb,h1,h2):=I.mod.blt;exact Calls.Name_function_global I.ok.kind hg (Calls.loadGlobal_builtin (by rw[I.ok.glob];exact I.mod.glob.keeps I.bk) hm (by rw[I.ok.blt];exact h1.keeps I.bk) ((h2 x hn).trans hv) h) hd
def z8{x:Str}{v:V}{u:Value}{pos:Pos}(hg:Gl X x)(hm:X.mg x=some u)(r:qQ v u)(hd:(x == ("__debug__" : Str))=false:=by decide):PE X (.Name x pos) (tC v):=
 λ_ _ _ H _ I h=>qW I hg hm ⟨v,H,I,r,h⟩ hd
def jF{x:Str}{v:V}{u:Value}{pos:Pos}(hg:Gl X x)(hm:X.mg x=none)(hv:bootBuiltins x=some u)(r:qQ v u)(hn:x≠"__name__":=by decide)(hd:(x == ("__debug__" : Str))=false:=by decide):PE X (.Name x pos) (tC v):=
 λ_ _ _ H _ I h=>Qd I hg hm hv ⟨v,H,I,r,h⟩ hn hd
variable{a b:Expr}{ta tb:TE}{pos:Pos}
def tB(t:TE):TT:=λZ H Q=>t Z H λx H1=>∃c,x=.bl c/\Q c H1
def ye{e:Expr}{t:TE}(h:PE X e t)(he:∀whole,isTrue e X.env whole=(do let v<-whole;standAt e.pos;holding [v] (truthy v)):=by intro _;rfl):PT X e (tB t):=by intro pins s Z H Q I hw;refine isTrue_plain (thn (h pins s Z H _ I hw) λv s1 hz10=>?_) (he _);let(x,H1,I1,r1,q1):=hz10;let(d,rfl,q):=q1;cases r1;exact wpAny_truthy_bool ⟨H1,I1,q⟩
variable{tA tB':TT}{rest:List Expr}
def qiQ(t:TT):TT:=λZ H Q=>t Z H λc H1=>Q (!c) H1
theorem qcK(ha:PT X a tA):PW X (.BoolOp .And [a] pos) tA:=by
 intro wh pins s Z H Q I h;refine isTrue_and (thn (ha pins s Z H Q I h) λc s1 e=>?_)
 cases c with
 |true=>exact isTrue_and_nil e
 |false=>exact e
theorem qeB(ha:PT X a tA):PW X (.BoolOp .Or [a] pos) tA:=by
 intro wh pins s Z H Q I h;refine isTrue_or (thn (ha pins s Z H Q I h) λc s1 e=>?_)
 cases c with
 |false=>exact isTrue_or_nil e
 |true=>exact e
def jM(ha:PT X a tA):PT X (.UnaryOp .Not a pos) (qiQ tA):=by intro pins s Z H Q I h;exact isTrue_not (ha pins s Z H (λc H1=>Q (!c) H1) I h)
def qg9(ta tb:TE):TE:=λZ H Q=>ta Z H λx H1=>∃c,x=.bl c/\if c=true then tb Z H1 Q else Q (.bl false) H1
def qiR(ta tb:TE):TE:=λZ H Q=>ta Z H λx H1=>∃c,x=.bl c/\if c=true then Q (.bl true) H1 else tb Z H1 Q
def qha(ta:TE):TE:=λZ H Q=>ta Z H λx H1=>∃c,x=.bl c/\Q (.bl (!c)) H1
def qeC{op}{t:TE}(h:PE X a t):PE X (.BoolOp op [a] pos) t:=λpins s Z H Q I hw=>BoolOp_one (h pins s Z H Q I hw)
theorem qeD(ha:PE X a ta)(hb:PE X (.BoolOp .And (b::rest) pos) tb):PE X (.BoolOp .And (a::b::rest) pos) (qg9 ta tb):=by
 intro pins s Z H Q I h;refine BoolOp_and (thn (ha pins s Z H _ I h) λv s1 hq1=>?_);let(x,H1,I1,r1,q1):=hq1;let(c,rfl,q1):=q1;cases r1;refine wpAny_truthy_bool ?_
 cases c with
 |true=>exact hb pins s1 Z H1 Q I1 q1
 |false=>exact{.bl false,H1,I1,rfl,q1}
theorem qhb(ha:PE X a ta)(hb:PE X (.BoolOp .Or (b::rest) pos) tb):PE X (.BoolOp .Or (a::b::rest) pos) (qiR ta tb):=by
 intro pins s Z H Q I h;refine BoolOp_or (thn (ha pins s Z H _ I h) λv s1 hq1=>?_);let(x,H1,I1,r1,q1):=hq1;let(c,rfl,q1):=q1;cases r1;refine wpAny_truthy_bool ?_
 cases c with
 |false=>exact hb pins s1 Z H1 Q I1 q1
 |true=>exact{.bl true,H1,I1,rfl,q1}
def qeE(ha:PE X a ta):PE X (.UnaryOp .Not a pos) (qha ta):=by intro pins s Z H Q I h;refine UnaryOp_ (thn (ha pins s Z H _ I h) λv s1 hq1=>?_);let(x,H1,I1,r1,q1):=hq1;let(c,rfl,q1):=q1;cases r1;exact not_of (wpAny_truthy_bool ⟨.bl (!c),H1,I1,rfl,q1⟩)
end
def SqL(K:Frag)(H:Hp)(a:Addr)(xs:List V):Prop:=
 Rd H a (.lst xs)\/
  ∃(o:Obj) (its:Array Value) (n:Nat),K.lookup a=some o/\o.cls=.type "list"/\o.dict=none/\o.data=.seq its n/\its.size<=sizeLine/\qS xs its.toList
def SqT(K:Frag)(H:Hp)(a:Addr)(xs:List V):Prop:=
 Rd H a (.tup xs)\/
  ∃(o:Obj) (its:Array Value) (n:Nat),K.lookup a=some o/\o.cls=.type "tuple"/\o.data=.seq its n/\its.size<=sizeLine/\qS xs its.toList
def qiS:Value->Option V
 |.none=>some .non
 |.bool b=>some (.bl b)
 |.int i _=>some (.int i)
 |.str x _=>some (.str x)
 |.bytes b _=>some (.byt b)
 |.float b _=>some (.flt b)
 |.ref a=>some (.ref a)
 |.type n=>some (.ty n)
 |_=>none
theorem qQ.abs{x:V}{u:Value}(r:qQ x u):qiS u=some x:=by
 cases x with
 |non=>cases r;rfl
 |bl _=>cases r;rfl
 |int _=>let(t,rfl):=r;rfl
 |str _=>let(t,rfl):=r;rfl
 |byt _=>let(t,rfl):=r;rfl
 |flt _=>let(t,rfl):=r;rfl
 |ref _=>cases r;rfl
 |ty _=>cases r;rfl
def qQ.inj{x y:V}{u:Value}(r:qQ x u)(q:qQ y u):x=y:=Option.some.inj (r.abs.symm.trans q.abs)
theorem qS.inj{xs ys:List V}{us:List Value}(h:qS xs us)(k:qS ys us):xs=ys:=by
 induction h generalizing ys with
 |nil=>cases k;rfl
 |cons r t ih=>cases k with
  | cons r' t'=>rw[r.inj r',ih t']
section
variable{X:Cx}{pins:PP}{Z:St}{H:Hp}{s:Shared}{a:Addr}{xs ys:List V}
def SqL.of{K:Frag}(h:H a=some (.lst xs)):SqL K H a xs:=.inl (.inl h)
def SqT.of{K:Frag}(h:H a=some (.tup xs)):SqT K H a xs:=.inl (.inl h)
def Inv.list(I:Inv X pins Z H s)(h:SqL X.K H a xs):∃its:List Value,qS xs its/\PlainL s.heap a its.toArray/\xs.length<=sizeLine:=by
 rcases h with h|⟨o,its,n,hk,hc,hd,hs,hz,r⟩
 ·let(z,its,n,r,e):=h.ok I.hok;exact{its,r,{_,n,e,rfl,rfl,rfl},z}
 ·refine{its.toList,r,{o,n,I.kIn a o hk,hc,hd,(-hs:)},?_};have e:=r.length;simp![Array.length_toList]at e
  lia
def Inv.tuple(I:Inv X pins Z H s)(h:SqT X.K H a xs):∃its:List Value,qS xs its/\IsTup s.heap a its.toArray/\xs.length<=sizeLine:=by
 rcases h with h|⟨o,its,n,hk,hc,hs,hz,r⟩
 ·let(z,its,r,p):=h.ok I.hok;exact⟨its,r,p,z⟩
 ·refine{its.toList,r,{o,I.kIn a o hk,hc,n,(-hs:)},?_};have e:=r.length;simp![Array.length_toList]at e
  lia
def Inv.list_inj(I:Inv X pins Z H s)(h:SqL X.K H a xs)(h':SqL X.K H a ys):xs=ys:=by
 let(its,r,(o,n,e,_,_,d),_):=I.list h;let(its',r',(o',n',e',_,_,d'),_):=I.list h';rw[e]at e';cases e';rw[d]at d';injection d' with d1 _
 have:its=its':=by simpa using congrArg Array.toList d1
 subst this;exact r.inj r'
def Inv.tuple_inj(I:Inv X pins Z H s)(h:SqT X.K H a xs)(h':SqT X.K H a ys):xs=ys:=by
 let(its,r,(o,e,_,n,d),_):=I.tuple h;let(its',r',(o',e',_,n',d'),_):=I.tuple h';rw[e]at e';cases e';rw[d]at d';injection d' with d1 _
 have:its=its':=by simpa using congrArg Array.toList d1
 subst this;exact r.inj r'
end
abbrev Cx.wish(X:Cx)(E:PQ):Cx:={ X with xe:=E }
abbrev Cx.nox(X:Cx):Cx:=X.wish λ_ _=>False
def Cx.Ok.wish{X:Cx}(ok:X.Ok)(E:PQ):(X.wish E).Ok:=
 ⟨ok.mod,ok.kind,ok.glob,ok.blt,ok.above,ok.inj,ok.has,ok.cab,ok.hd,ok.frames,ok.stk,ok.exf,ok.bs,ok.bsz,ok.noex,ok.exfs,ok.funs,ok.frf⟩
def Cx.Ok.unwish{X:Cx}{E:PQ}(ok:(X.wish E).Ok):X.Ok:=
 ⟨ok.mod,ok.kind,ok.glob,ok.blt,ok.above,ok.inj,ok.has,ok.cab,ok.hd,ok.frames,ok.stk,ok.exf,ok.bs,ok.bsz,ok.noex,ok.exfs,ok.funs,ok.frf⟩
section
variable{X:Cx}{pins:PP}{Z:St}{H:Hp}{s:Shared}{E:PQ}
def Inv.wish(I:Inv X pins Z H s)(E:PQ):Inv (X.wish E) pins Z H s:={I.ok.wish E,I.os,I.bare,I.base,I.loc,I.cell,I.free,I.freeC,I.pin,I.hok,I.len}
def Inv.unwish(I:Inv (X.wish E) pins Z H s):Inv X pins Z H s:=⟨I.ok.unwish,I.os,I.bare,I.base,I.loc,I.cell,I.free,I.freeC,I.pin,I.hok,I.len⟩
theorem SP.unwish{D:Ends}{f:Flow}{s':Shared}(h:SP (X.wish E) pins D f s'):SP X pins D f s':=by
 cases f with
 |next=>let(Z',H',I,q):=h;exact⟨Z',H',I.unwish,q⟩
 |brk=>let(Z',H',I,q):=h;exact⟨Z',H',I.unwish,q⟩
 |cont=>let(Z',H',I,q):=h;exact⟨Z',H',I.unwish,q⟩
 |ret u=>let(v,Z',H',I,r,q):=h;exact⟨v,Z',H',I.unwish,r,q⟩
def PSs.nox{st:List Stmt}{t:TS}(h:PSs X.nox st t):PSs X st t:=λpins s Z H D I hw=>wpAny_mono (h pins s Z H D (I.wish _) hw) (λ_ _ q=>q.unwish) λ_ _ z=>False.elim z
end
section
variable{X:Cx}{st:Stmt}{rest:List Stmt}{t u:TS}{e:Expr}{te:TE}{pos:Pos}
def qeF:TS:=λD Z H=>D.nx Z H
def qiT(t u:TS):TS:=λD Z H=>t { D with nx:=u D } Z H
def zL:PSs X [] qeF:=λ_ _ Z H _ I h=>wpAny_execs_nil ⟨Z,H,I,h⟩
theorem qK(h1:PS X st t)(h2:PSs X rest u):PSs X (st::rest) (qiT t u):=by
 intro pins s Z H D I h;refine wpAny_execs_cons (thn (h1 pins s Z H { D with nx:=u D } I h) λf s1 q=>?_)
 cases f with
 |next=>let(Z',H',I',q):=q;exact h2 pins s1 Z' H' D I' q
 |ret v=>exact q
 |brk=>exact q
 |cont=>exact q
theorem qX(h1:PS X st t):PSs X [st] t:=by
 intro pins s Z H D I h;refine wpAny_execs_cons (thn (h1 pins s Z H D I h) λf s1 q=>?_)
 cases f with
 |next=>exact wpAny_execs_nil q
 |ret v=>exact q
 |brk=>exact q
 |cont=>exact q
def qcL:PS X (.Pass pos) qeF:=λ_ _ Z H _ I h=>wpAny_Pass ⟨Z,H,I,h⟩
def Inv.quiet{pins:PP}{Z:St}{H:Hp}{s:Shared}(I:Inv X pins Z H s):interactive X.env=false:=by simp[interactive,I.ok.kind]
def qhc(te:TE):TS:=λD Z H=>te Z H λ_ H1=>D.nx Z H1
def z9(he:PE X e te)(hs:swapsWith e none pos.line X.env=pure false:=by rfl):PS X (.Expr e pos) (qhc te):=by intro pins s Z H D I h;refine wpAny_Expr_any (thn (he pins s Z H _ I h) λv s1 hz11=>?_) I.quiet hs;let(x,H1,I1,r1,q1):=hz11;exact⟨Z,H1,I1,q1⟩
def qiU(te:TE):TS:=λD Z H=>te Z H D.rt
def Zp(he:PE X e te):PS X (.Return (some e) pos) (qiU te):=by intro pins s Z H D I h;refine wpAny_Return_some (thn (he pins s Z H _ I h) λv s1 hz12=>?_);let(x,H1,I1,r1,q1):=hz12;exact⟨x,Z,H1,I1,r1,q1⟩
def qhd:TS:=λD _ H=>D.rt .non H
def qcM:PS X (.Return none pos) qhd:=λ_ _ Z H _ I h=>wpAny_Return_none ⟨.non,Z,H,I,rfl,h⟩
def qiV(c:TT)(t u:TS):TS:=λD Z H=>c Z H λb H1=>if b=true then t D Z H1 else u D Z H1
theorem JP{c:Expr}{a b:List Stmt}{tc:TT}(hc:PT X c tc)(ha:PSs X a t)(hb:PSs X b u):PS X (.If c a b pos) (qiV tc t u):=by
 intro pins s Z H D I h;refine wpAny_If (thn (hc pins s Z H _ I h) λd s1 hq1=>?_);let(H1,I1,q1):=hq1
 cases d with
 |true=>exact ha pins s1 Z H1 D I1 q1
 |false=>exact hb pins s1 Z H1 D I1 q1
def qcc:TS:=λ_ _ _=>False
def j3:PS X st qcc:=λ_ _ _ _ _ _ h=>h.elim
def jk{sts:List Stmt}:PSs X sts qcc:=λ_ _ _ _ _ _ h=>h.elim
end
abbrev TG:=V->St->Hp->(St->Hp->Prop)->Prop
abbrev TGs:=List V->St->Hp->(St->Hp->Prop)->Prop
def PG(X:Cx)(target:Expr)(t:TG):Prop:=
 ∀(pins:PP) (s:Shared) (Z:St) (H:Hp) (v:V) (u:Value) (Q:St->Hp->Prop),Inv X pins Z H s->qQ v u->t v Z H Q->
  wpAny (model X.prog X.w) X.A (assign target X.env u) (λ_ s'=>∃Z' H',Inv X pins Z' H' s'/\Q Z' H') X.xe s
def PGs(X:Cx)(ts:List Expr)(t:TGs):Prop:=
 ∀(pins:PP) (s:Shared) (Z:St) (H:Hp) (vs:List V) (us:List Value) (Q:St->Hp->Prop),Inv X pins Z H s->qS vs us->t vs Z H Q->
  wpAny (model X.prog X.w) X.A (assignInOrder ((assignEach ts X.env).map (·.2)) us) (λ_ s'=>∃Z' H',Inv X pins Z' H' s'/\Q Z' H') X.xe s
section
variable{X:Cx}{pos:Pos}
def qaZ(i:Nat):TG:=λv Z H Q=>Q (Z.set i (some v)) H
def qcN{i:Nat}{x:Str}(hN:X.N.Nodup)(hi:X.N[i]?=some x)(hx:Loc X.env.scope x)(hf:X.fn x=true\/X.env.scope.names.lookup x=some .local:=by first|exact .inl rfl|exact .inr rfl|assumption):PG X (.Name x pos) (qaZ i):=by intro pins s Z H v u Q I r h;exact wpAny_assign_Name (Qb I hN hi hx r (λs' I'=>{_,H,I',h}) hf)
def qiW:TGs:=λvs Z H Q=>vs=[]/\Q Z H
def qhe(t:TG)(u:TGs):TGs:=λvs Z H Q=>∃v r,vs=v::r/\t v Z H λZ' H'=>u r Z' H' Q
def qcO:PGs X [] qiW:=by intro pins s Z H vs us Q I r h;let(e,h):=h;subst e;cases r;exact assignInOrder_nil ⟨Z,H,I,h⟩
theorem qa0{e:Expr}{es:List Expr}{t:TG}{u:TGs}(h1:PG X e t)(h2:PGs X es u)
  (hs:(assignEach (e::es) X.env).map (·.2)=assign e X.env::(assignEach es X.env).map (·.2):=by rfl):PGs X (e::es) (qhe t u):=by
 intro pins s Z H vs us Q I r h;let(v,vr,e1,h):=h;subst e1
 cases r with
 |cons r rr=>rw[hs];refine assignInOrder_cons (thn (h1 pins s Z H _ _ _ I r h) λ_ s1 hq1=>?_);let(Z1,H1,I1,q1):=hq1;exact h2 pins s1 Z1 H1 _ _ Q I1 rr q1
def qiX(K:Frag)(n:Nat)(t:TGs):TG:=λv Z H Q=>∃a xs,v=.ref a/\SqT K H a xs/\xs.length=n/\t xs Z H Q
def qeG{es:List Expr}{k:Nat}{t:TGs}{n:Nat}(hc:X.calm=true)(h:PGs X es t)
  (hn:(assignEach es X.env).length=n:=by rfl) (hst:(assignEach es X.env).findIdx? (·.1)=none:=by rfl):PG X (.Tuple es k pos) (qiX X.K n t):=by
 intro pins s Z H v u Q I r hw;let(a,xs,e1,hq,hl,hw):=hw;subst e1;cases r;let(its,rv,ht,hz):=I.tuple hq;refine assign_Tuple_tuple (I.ok.hd hc) ht (by simp[hn,<-hl,rv.length]) hst λh' hx=>?_;have I1:Inv X pins Z H { s with heap:=h' }:=I.kept (t':=s.toks) λb o e=>hx b o (Nat.ne_of_lt (Heap.lt_size e)) e;exact h pins _ Z H xs _ Q I1 (-rv:) hw
def qhf(te:TE)(g:TG):TS:=λD Z H=>te Z H λx H1=>g x Z H1 D.nx
def qeH{tg e:Expr}{te:TE}{g:TG}(he:PE X e te)(hg:PG X tg g)(hs:swapsWithSole [tg] e pos.line X.env=pure false:=by rfl)(hw:swappedStores [tg] e X.env=pure none:=by rfl)
  (h1:(assignEach [tg] X.env).map (·.2)=[assign tg X.env]:=by rfl):PS X (.Assign [tg] e pos) (qhf te g):=by
 intro pins s Z H D I h;refine wpAny_Assign_stores (thn (he pins s Z H _ I h) λv s1 hz13=>?_) hs hw;let(x,H1,I1,r1,q1):=hz13;rw[h1];exact thn (hg pins s1 Z H1 x v _ I1 r1 q1) λ_ s2 q=>q
def Zq{i:Nat}{x:Str}{e:Expr}{te:TE}{pos':Pos}(hN:X.N.Nodup)(hi:X.N[i]?=some x)(hx:Loc X.env.scope x)(he:PE X e te)(hs:swapsWith e (some (.Name x pos')) pos.line X.env=pure false:=by rfl)(hf:X.fn x=true\/X.env.scope.names.lookup x=some .local:=by first|exact .inl rfl|exact .inr rfl|assumption) :
  PS X (.Assign [.Name x pos'] e pos) (qhf te (qaZ i)):=by
 intro pins s Z H D I h;refine wpAny_Assign_Name (thn (he pins s Z H _ I h) λv s1 hz14=>?_) hs;let(y,H1,I1,r1,q1):=hz14;exact Qb I1 hN hi hx r1 (λs2 I2=>{_,H1,I2,q1}) hf
end
structure It where
 go:Nat->Hp->Prop
 yld:Nat->Hp->V->Hp->Prop
 stop:Nat->Hp->Prop
def Zr(X:Cx)(pins:PP)(H:Hp)(b:Addr):Prop:=
 H b=none/\b≠X.env.locals/\b∉X.fs/\(b∈X.ex\/X.s₀.heap.objs.size<=b)/\(∀x c,X.env.cells.lookup x=some c->c≠b)/\∀p∈X.pn++pins,p.1≠b
def Inv.fpOk{X:Cx}{pins:PP}{Z:St}{H H':Hp}{s:Shared}{b:Addr}(I:Inv X pins Z H s)(hb:s.heap.objs.size<=b)(hn:H' b=none):Zr X pins H' b:=by
 refine{hn,Nat.ne_of_gt (Nat.lt_of_lt_of_le I.lt hb),I.nofs hb,.inr (Nat.le_trans I.sz hb),λx c e z=>?_,λp hp z=>?_}
 ·let(v,q):=I.cell x c e;exact absurd (Nat.lt_of_lt_of_le q.lt (by rw[z];exact hb)) (Nat.lt_irrefl _)
 ·exact absurd (Nat.lt_of_lt_of_le (Heap.lt_size (I.pin p hp).1) (by rw[z];exact hb)) (Nat.lt_irrefl _)
structure Turn(P:Program)(w:World)(K:Frag)(tg:Expr)(J:It)(fp:List Addr)(it:Addr)(tn:Nat->Heap->Prop):Prop where
 mem:it∈fp
 obj:∀i h,tn i h->∀b∈fp,∃o,h.get? b=some o/\∀v,o.data≠.cell v
 keep:∀i h h',tn i h->(∀b∈fp,∀o,h.get? b=some o->h'.get? b=some o)->tn i h'
 item:∀(X:Cx),X.prog=P->X.w=w->X.K=K->X.calm=true->∀(i:Nat) (pins:PP) (s:Shared) (Z:St) (H:Hp) (E:PQ),Inv X pins Z H s->(∀b∈fp,Zr X pins H b)->tn i s.heap->J.go i H->
  wpAny (model P w) X.A (pyNext (.ref it)) (λr s1=>∃u,r=some u/\
   wpAny (model P w) X.A (letOwnedTupleGo tg (.ref it) u) (λ_ s2=>∃x H',Inv X pins Z H' s2/\qQ x u/\J.yld i H x H'/\tn (i+1) s2.heap/\∀b∈fp,H' b=none) E s1) E s
 done:∀(X:Cx),X.prog=P->X.w=w->X.K=K->X.calm=true->∀(i:Nat) (pins:PP) (s:Shared) (Z:St) (H:Hp) (E:PQ),Inv X pins Z H s->(∀b∈fp,Zr X pins H b)->tn i s.heap->J.stop i H->
  wpAny (model P w) X.A (pyNext (.ref it)) (λr s1=>r=none/\Inv X pins Z H s1) E s
 self:∀(A:Around) (i:Nat) (s:Shared) (Q:PQ) (E:PQ),tn i s.heap->Q (.ref it) s->wpAny (model P w) A (pyIter (.ref it)) Q E s
abbrev TI:=St->Hp->(It->Hp->Prop)->Prop
def PIE(X:Cx)(pins:PP)(Z:St)(tg:Expr)(R:It->Hp->Prop)(itv:Value)(s2:Shared):Prop:=
 ∃(it:Addr) (fp:List Addr) (tn:Nat->Heap->Prop) (J:It) (H':Hp),itv=.ref it/\Inv X pins Z H' s2/\Turn X.prog X.w X.K tg J fp it tn/\tn 0 s2.heap/\(∀b∈fp,Zr X pins H' b)/\R J H'
def PI(X:Cx)(tg iter:Expr)(wi:TI):Prop:=
 ∀(pins:PP) (s:Shared) (Z:St) (H:Hp) (R:It->Hp->Prop),Inv X pins Z H s->wi Z H R->
  wpAny (model X.prog X.w) X.A (eval iter X.env) (λv s1=>wpAny (model X.prog X.w) X.A (pyIter v) (PIE X pins Z tg R) X.xe s1) X.xe s
def qa1{M:Model}{A:Around}{E:PQ}{s:Shared}{tg:Expr}{it:Addr}{u:Value}{o:Obj}{n:String}{vs:Array Value}{Q:Unit->Shared->Prop}(ho:s.heap.get? it=some o)(hc:o.cls=.type n)(hd:o.data=.fields vs)
  (hn:["enumerate","zip","dict_itemiterator","dict_reverseitemiterator","odict_iterator","itertools.zip_longest","itertools.pairwise"].contains n=false) (hQ:Q () s):wpAny M A (letOwnedTupleGo tg (.ref it) u) Q E s:=by
 unfold letOwnedTupleGo
 cases tg<;>first
  | exact wpAny_pure hQ
  | (cases u<;>first
    | exact wpAny_pure hQ
    | (refine wpAny_bind (wpAny_load ho ?_)
       rw[hc,hd];show wpAny M A (if (["enumerate","zip","dict_itemiterator","dict_reverseitemiterator","odict_iterator","itertools.zip_longest","itertools.pairwise"].contains n&&vs[0]? == some (rawInt _))=true then _ else _) Q E s;rw[if_neg (by intro h;rw[hn,Bool.false_and]at h;cases h)];exact wpAny_pure hQ))
def Itl(K:Frag)(a:Addr):It:=
 ⟨λi H=>∃xs x,SqL K H a xs/\xs[i]?=some x,λi H x H'=>H'=H/\∀xs,SqL K H a xs->xs[i]?=some x,λi H=>∃xs,SqL K H a xs/\xs.length<=i⟩
def Itt(K:Frag)(a:Addr):It:=
 ⟨λi H=>∃xs x,SqT K H a xs/\xs[i]?=some x,λi H x H'=>H'=H/\∀xs,SqT K H a xs->xs[i]?=some x,λi H=>∃xs,SqT K H a xs/\xs.length<=i⟩
def Itr(lo:Int)(n:Nat):It:={λi _=>i < n,λi H x H'=>H'=H/\x=.int (lo+i),λi _=>n<=i}
def Zs{P:Program}{w:World}{K:Frag}{tg:Expr}(a it:Addr):Turn P w K tg (Itl K a) [it] it (λi h=>h.IsListIter it a i) where
 mem:=by simp
 obj:=λi h st b hb=>by
  have e:b=it:=(-hb:)
  subst e;let(o,e,c,d):=st;exact{o,e,λv z=>by rw[d]at z;cases z}
 keep:=λi h h' st k=>st.at λo e=>k it (5:) o e
 item:=by intro X hP hw hK hc i pins s Z H E I hf st hg;subst hP hw hK;let(xs,x,hq,hx):=hg;let(its,rv,p,hz):=I.list hq;let(u,hu,ru):=rv.get hx;let(f0,f1,f2,f3,f4,f5):=hf it (5:);refine wpAny_pyNext_list_item st p.isList (x:=u) (-hu:) λh' st' sb=>?_;have I1:Inv X pins Z H { s with heap:=h' }:=I.turned (t':=s.toks) (λb o hb e=>(sb.2 b hb).trans e) f0 f1 f3 f4 f5;let(o,e,c,d):=id st';exact{u,rfl,qa1 (s:={ s with heap:=h' }) e c d (2:) ⟨x,H,I1,ru,⟨rfl,λys hy=>by rw[I.list_inj hy hq];exact hx⟩,st',λb hb=>(hf b hb).1⟩}
 done:=by intro X hP hw hK hc i pins s Z H E I hf st hg;subst hP hw hK;let(xs,hq,hx):=hg;let(its,rv,p,hz):=I.list hq;let(f0,f1,f2,f3,f4,f5):=hf it (5:);have hl:=rv.length;exact wpAny_pyNext_list_end (I.ok.hd hc) st p.isList (by simp;lia) λh' eb=>{rfl,I.turned (t':=s.toks) (λb o hb e=>eb b o hb e) f0 f1 f3 f4 f5}
 self:=λ_ _ _ _ _ st h=>wpAny_pyIter_listiter st h
def QQ{P:Program}{w:World}{K:Frag}{tg:Expr}(a it:Addr):Turn P w K tg (Itt K a) [it] it (λi h=>h.IsTupleIter it a i) where
 mem:=by simp
 obj:=λi h st b hb=>by
  have e:b=it:=(-hb:)
  subst e;let(o,e,c,d):=st;exact{o,e,λv z=>by rw[d]at z;cases z}
 keep:=λi h h' st k=>st.at λo e=>k it (5:) o e
 item:=by intro X hP hw hK hc i pins s Z H E I hf st hg;subst hP hw hK;let(xs,x,hq,hx):=hg;let(its,rv,p,hz):=I.tuple hq;let(u,hu,ru):=rv.get hx;let(f0,f1,f2,f3,f4,f5):=hf it (5:);refine wpAny_pyNext_tuple_item st (show s.heap.IsTuple a its.toArray from p) (x:=u) (-hu:) λh' st' sb=>?_;have I1:Inv X pins Z H { s with heap:=h' }:=I.turned (t':=s.toks) (λb o hb e=>(sb.2 b hb).trans e) f0 f1 f3 f4 f5;let(o,e,c,d):=id st';exact{u,rfl,qa1 (s:={ s with heap:=h' }) e c d (2:) ⟨x,H,I1,ru,⟨rfl,λys hy=>by rw[I.tuple_inj hy hq];exact hx⟩,st',λb hb=>(hf b hb).1⟩}
 done:=by intro X hP hw hK hc i pins s Z H E I hf st hg;subst hP hw hK;let(xs,hq,hx):=hg;let(its,rv,p,hz):=I.tuple hq;let(f0,f1,f2,f3,f4,f5):=hf it (5:);have hl:=rv.length;exact wpAny_pyNext_tuple_end (I.ok.hd hc) st (show s.heap.IsTuple a its.toArray from p) (by simp;lia) λh' eb=>{rfl,I.turned (t':=s.toks) (λb o hb e=>eb b o hb e) f0 f1 f3 f4 f5}
 self:=λ_ _ _ _ _ st h=>wpAny_pyIter_tupleiter st h
def QR{P:Program}{w:World}{K:Frag}{tg:Expr}(it:Addr)(lo:Int)(n:Nat):Turn P w K tg (Itr lo n) [it] it (λi h=>IsRangeIter h it (lo+(i:Nat) * 1) ((n:Int) - (i:Nat)) 1) where
 mem:=by simp
 obj:=λi h st b hb=>by
  have e:b=it:=(-hb:)
  subst e
  exact{_,st,λv z=>by have z':Data.fields _=Data.cell v:=z;cases z'}
 keep:=λi h h' st k=>k it (5:) _ st
 item:=by intro X hP hw hK hc i pins s Z H E I hf st hg;subst hP hw hK;let(f0,f1,f2,f3,f4,f5):=hf it (5:);have W:=Walks.range (prog:=X.prog) (w:=X.w) (I.ok.hd hc) it lo 1 n;refine W.item i s _ _ hg st λv h' tk hv st' kk=>?_;let(t,rfl):=hv;have I1:Inv X pins Z H { s with heap:=h',toks:=tk }:=I.turned (λb o hb e=>kk b o (-hb:) e) f0 f1 f3 f4 f5;refine{_,rfl,qa1 (s:={ s with heap:=h',toks:=tk }) (n:="range_iterator") st' rfl rfl (2:) ⟨.int (lo+i),H,I1,⟨t,?_⟩,⟨rfl,rfl⟩,st',λb hb=>(hf b hb).1⟩};rw[Int.mul_one]
 done:=by intro X hP hw hK hc i pins s Z H E I hf st hg;subst hP hw hK;let(f0,f1,f2,f3,f4,f5):=hf it (5:);exact wpAny_pyNext_range_end (I.ok.hd hc) st (by have:n<=i:=hg;lia) λh' eb=>{rfl,I.turned (t':=s.toks) (λb o hb e=>eb b o hb e) f0 f1 f3 f4 f5}
 self:=λ_ _ _ _ _ st h=>wpAny_pyIter_rangeiter st h
section
variable{X:Cx}{tg:Expr}
def qa2{pins:PP}{Z:St}{H:Hp}{s:Shared}{R:It->Hp->Prop}{E:PQ}{lo hi:Int}{t u v:Tok}{tk:Nat}(I:Inv X pins Z H s)(h1:-(2 ^ 62)<=lo)(h2:lo < 2 ^ 62)(h3:-(2 ^ 62)<=hi)(h4:hi < 2 ^ 62)
  (q:R (Itr lo (hi - lo).toNat) H):wpAny (model X.prog X.w) X.A (pyIter (.ref s.heap.objs.size)) (PIE X pins Z tg R) E { s with heap:=s.heap.push { cls:=.type "range",data:=.fields #[.int lo t,.int hi u,.int 1 v] },toks:=tk }:=by
 refine wpAny_pyIter_range (IsRange.new ..) (small_one h1 h2 h3 h4) ?_;have I1:Inv X pins Z H { s with heap:=s.heap.push { cls:=.type "range",data:=.fields #[.int lo t,.int hi u,.int 1 v] },toks:=tk }:=I.kept λb o e=>Heap.get?_push_of_some _ e
 refine{(s.heap.push { cls:=.type "range",data:=.fields #[.int lo t,.int hi u,.int 1 v] }).objs.size,[(s.heap.push { cls:=.type "range",data:=.fields #[.int lo t,.int hi u,.int 1 v] }).objs.size],_,_,H,rfl,
  I1.kept (t':=tk) λb o e=>Heap.get?_push_of_some _ e,QR _ lo (hi - lo).toNat,?_,λb hb=>?_,q}
 ·have e1:lo+((0:Nat):Int) * 1=lo:=by simp
  have e2:(((hi - lo).toNat:Nat):Int) - ((0:Nat):Int)=Builtin.Range.rangeSize lo hi 1:=by rw[rangeSize_one];split<;>lia
  show IsRangeIter _ _ (lo+((0:Nat):Int) * 1) ((((hi - lo).toNat:Nat):Int) - ((0:Nat):Int)) 1;rw[e1,e2];exact Heap.get?_push_size _ rfl
 ·have e:b=(s.heap.push { cls:=.type "range",data:=.fields #[.int lo t,.int hi u,.int 1 v] }).objs.size:=(-hb:)
  subst e;exact I1.fpOk (Nat.le_refl _) (I1.hok.fresh (Nat.le_refl _))
def qhg(ta:TA):TI:=λZ H R=>ta Z H λvs H1=>∃j:Int,vs=[.int j]/\-(2 ^ 62)<=j/\j < 2 ^ 62/\R (Itr 0 j.toNat) H1
theorem Zt{a:Expr}{ta:TA}{p pos:Pos}(hg:Gl X "range")(hm:X.mg "range" = none)(ha:PA X [a] ta)(hs:starEach [a] X.env=[(false,eval a X.env)]:=by rfl):PI X tg (.Call (.Name "range" p) [a] [] pos) (qhg ta):=by
 intro pins s Z H R I h;refine Call_ (Qd I hg hm boot_range (PyProof.Rows.callWith_type1 (thn (ha pos pins s Z H _ I h) λus s1 hz17=>?_) hs rfl));let(vs,H1,I1,r1,q1):=hz17;let(j,e,q1,q2,q):=q1;subst e
 cases r1 with
 |cons r rr=>cases rr;let(t,rfl):=r;exact call_range_1 (qa2 I1 (1:) (1:) q1 q2 (-q:))
def qiY(wi:TI)(g:TG)(tb:TS):TS:=λD Z H=>wi Z H λJ H1=>∃W:Nat->Nat->St->Hp->Prop,(∃m,W 0 m Z H1)/\∀i m Z H,W i m Z H->
 (J.stop i H/\D.nx Z H)\/(J.go i H/\∃N:St->Hp->Prop,(∀Z' H',N Z' H'->∃m',m' < m/\W (i+1) m' Z' H')/\∀x H',J.yld i H x H'->g x Z H' λZ2 H2=>tb { D with nx:=N,ct:=N,bk:=D.nx } Z2 H2)
def JQ(fp:List Addr)(h:Heap):List (Addr×Obj):=fp.filterMap λb=>(h.get? b).map λo=>(b,o)
def zY{fp:List Addr}{h:Heap}{b:Addr}{o:Obj}(hb:b∈fp)(e:h.get? b=some o):(b,o)∈JQ fp h:=List.mem_filterMap.mpr ⟨b,hb,by rw[e];rfl⟩
theorem Zu{fp:List Addr}{h:Heap}{p:Addr×Obj}(hp:p∈JQ fp h):p.1∈fp/\h.get? p.1=some p.2:=by
 let(b,hb,e):=List.mem_filterMap.mp hp
 cases q:h.get? b with
 |none=>rw[q]at e;cases e
 |some o=>rw[q]at e;have e':(b,o)=p:=Option.some.inj e;subst e';exact⟨hb,q⟩
def Inv.pinned{pins:PP}{Z:St}{H:Hp}{s:Shared}{fp:List Addr}(I:Inv X pins Z H s)(hf:∀b∈fp,Zr X pins H b)(ho:∀b∈fp,∃o,s.heap.get? b=some o/\∀v,o.data≠.cell v):Inv X (pins++JQ fp s.heap) Z H s:=
 I.pins_of λp hp=>(List.mem_append.mp hp).elim (λz=>I.pin p (List.mem_append_right _ z)) λz=>by let(hb,e):=Zu z;let(f0,f1,f2,_):=hf p.1 hb;let(o,e',d):=ho p.1 hb;rw[e]at e';cases e';exact⟨e,f0,f1,f2,d⟩
def Inv.unpinned{pins pl:PP}{Z:St}{H:Hp}{s:Shared}(I:Inv X (pins++pl) Z H s):Inv X pins Z H s:=I.pins_of λp hp=>I.pin p (List.mem_append_right _ (List.mem_append_left _ hp))
def qeI{iter:Expr}{body:List Stmt}{wi:TI}{g:TG}{tb:TS}{pos:Pos}(hp:PassesOwn (model X.prog X.w) X.A X.env X.xe)(hc:X.calm=true)(hi:PI X tg iter wi)(hg:PG X tg g)(hb:PSs X body tb)
  (hs:∀x,foldedSetIterable iter X.env x=pure x:=by intro _;rfl):PS X (.For tg iter body [] pos) (qiY wi g tb):=by
 intro pins s Z H D I h;refine wpAny_For (thn (hi pins s Z H _ I h) λv s1 h1=>thn h1 λitv s2 h2=>?_) hs;let(it,fp,tn,J,H2,e,I2,T,st2,f2,W,(m0,w0),turn):=h2;subst e;have stat:∀{H':Hp},(∀b∈fp,H' b=none)->∀b∈fp,Zr X pins H' b:=λhn b hb=>{hn b hb,(f2 b hb).2};refine codeAny_forLoop_any (λn s'=>∃i Z' H',Inv X pins Z' H' s'/\tn i s'.heap/\(∀b∈fp,H' b=none)/\W i n Z' H') ?_ m0 ⟨0,Z,H2,I2,st2,λb hb=>(f2 b hb).1,w0⟩;rintro n s3 ⟨i,Z3,H3,I3,st3,fr3,w3⟩;rcases turn i n Z3 H3 w3 with ⟨stop,qn⟩|⟨go,N,hN,step⟩
 ·refine wpAny_passesOwn hp (thn (T.done X rfl rfl rfl hc i pins s3 Z3 H3 X.xe I3 (stat fr3) st3 stop) λr s4 hq1=>?_);let(hr,I4):=hq1;subst hr;exact wpAny_execs_nil ⟨Z3,H3,I4,qn⟩
 ·refine wpAny_passesOwn hp (thn (T.item X rfl rfl rfl hc i pins s3 Z3 H3 X.xe I3 (stat fr3) st3 go) λr s4 hq1=>?_);let(u,hr,h4):=hq1;subst hr;refine wpAny_passesOwn hp (thn h4 λ_ s5 hq1=>?_);let(x,H5,I5,r5,y5,st5,fr5):=hq1;have I5':=I5.pinned (stat fr5) (T.obj _ _ st5);refine wpAny_passesOwn hp (thn (hg _ s5 Z3 H5 x u _ I5' r5 (step x H5 y5)) λ_ s6 hq1=>?_);let(Z6,H6,I6,q6):=hq1;refine wpAny_passesOwn hp (thn (hb _ s6 Z6 H6 _ I6 q6) λf s7 q7=>?_)
  have again:∀{Z7:St} {H7:Hp},Inv X (pins++JQ fp s5.heap) Z7 H7 s7->N Z7 H7->∃m,m < n/\∃i Z' H',Inv X pins Z' H' s7/\tn i s7.heap/\(∀b∈fp,H' b=none)/\W i m Z' H':=λ{Z7 H7} I7 n7=>by let(m',hm,w7):=hN Z7 H7 n7;refine{m',hm,i+1,Z7,H7,I7.unpinned,T.keep _ _ _ st5 λb hb o e=>(I7.pin (b,o) (List.mem_append_right _ (List.mem_append_right _ (zY hb e)))).1,λb hb=>?_,w7};let(o,e,d):=T.obj _ _ st5 b hb;exact(I7.pin (b,o) (List.mem_append_right _ (List.mem_append_right _ (zY hb e)))).2.1
  cases f with
  |next=>let(Z7,H7,I7,n7):=q7;exact again I7 n7
  |cont=>let(Z7,H7,I7,n7):=q7;exact again I7 n7
  |brk=>let(Z7,H7,I7,q7):=q7;exact⟨Z7,H7,I7.unpinned,q7⟩
  |ret v=>let(x7,Z7,H7,I7,r7,q7):=q7;exact⟨x7,Z7,H7,I7.unpinned,r7,q7⟩
end
abbrev R2:=V->V->Hp->VK->Prop
def OpR(X:Cx)(f:Value->Value->Sem Value)(r:R2):Prop:=
 ∀(pins:PP) (s:Shared) (Z:St) (H:Hp) (x y:V) (v u:Value) (Q:VK),Inv X pins Z H s->qQ x v->qQ y u->r x y H Q->
  wpAny (model X.prog X.w) X.A (f v u) (EP X pins Z Q) X.xe s
def ja(X:Cx)(f:Value)(r:List V->Hp->VK->Prop):Prop:=
 ∀(pins:PP) (s:Shared) (Z:St) (H:Hp) (xs:List V) (us:List Value) (Q:VK),Inv X pins Z H s->qS xs us->r xs H Q->
  wpAny (model X.prog X.w) X.A (call f us) (EP X pins Z Q) X.xe s
def qiZ(X:Cx)(r:V->Hp->(Bool->Hp->Prop)->Prop):Prop:=
 ∀(pins:PP) (s:Shared) (Z:St) (H:Hp) (x:V) (v:Value) (Q:Bool->Hp->Prop),Inv X pins Z H s->qQ x v->r x H Q->
  wpAny (model X.prog X.w) X.A (truthy v) (TP X pins Z Q) X.xe s
def tOp(r:R2)(ta tb:TE):TE:=λZ H Q=>ta Z H λx H1=>tb Z H1 λy H2=>r x y H2 Q
def rI(C:Int->Int->Prop)(g:Int->Int->V):R2:=λx y H Q=>∃i j,x=.int i/\y=.int j/\C i j/\Q (g i j) H
def rI0(g:Int->Int->V):R2:=λx y H Q=>∃i j,x=.int i/\y=.int j/\Q (g i j) H
section
variable{X:Cx}{a b c:Expr}{ta tb tc:TE}{pos:Pos}
def qhh(ha:PE X a ta)(hb:PE X b tb){pins:PP}{s:Shared}{Z:St}{H:Hp}{R:V->V->Hp->Prop}(I:Inv X pins Z H s)
  (h:ta Z H λx H1=>tb Z H1 λy H2=>R x y H2) {Q:PQ} {f:Value->Value->Sem Value}
  (hf:∀v u s2 x y H2,Inv X pins Z H2 s2->qQ x v->qQ y u->R x y H2->wpAny (model X.prog X.w) X.A (f v u) Q X.xe s2) :
  wpAny (model X.prog X.w) X.A (eval a X.env) (λv s₁=>wpAny (model X.prog X.w) X.A (eval b X.env) (λu s₂=>wpAny (model X.prog X.w) X.A (f v u) Q X.xe s₂) X.xe s₁) X.xe s:=by
 refine thn (ha pins s Z H _ I h) λv s1 hq1=>?_;let(x,H1,I1,r1,q1):=hq1;refine thn (hb pins s1 Z H1 _ I1 q1) λu s2 hq1=>?_;let(y,H2,I2,r2,q2):=hq1;exact hf v u s2 x y H2 I2 r1 r2 q2
def qhi{op:Operator}{r:R2}(ho:OpR X (binaryOp op) r)(ha:PE X a ta)(hb:PE X b tb):PE X (.BinOp a op b pos) (tOp r ta tb):=by intro pins s Z H Q I h;exact wpAny_BinOp (qhh ha hb I h λv u s2 x y H2 I2 rx ry q=>ho pins s2 Z H2 x y v u Q I2 rx ry q)
def opI{f:Value->Value->Sem Value}{C:Int->Int->Prop}{g:Int->Int->Int}
  (rule:∀(i j:Int) (t u:Tok) (s:Shared) (Q:PQ) (E:PQ),C i j->Q (.int (g i j) s.toks) { s with toks:=s.toks+1 }->wpAny (model X.prog X.w) X.A (f (.int i t) (.int j u)) Q E s) :
  OpR X f (rI C λi j=>.int (g i j)):=by
 intro pins s Z H x y v u Q I rx ry h;let(i,j,rfl,rfl,hc,q):=h;let(t,rfl):=rx;let(t',rfl):=ry;exact rule i j t t' s _ _ hc ⟨.int (g i j),H,I.tok _,⟨_,rfl⟩,q⟩
def qii{f:Value->Value->Sem Value}{g:Int->Int->Int}
  (rule:∀(i j:Int) (t u:Tok) (s:Shared) (Q:PQ) (E:PQ),Q (.int (g i j) s.toks) { s with toks:=s.toks+1 }->wpAny (model X.prog X.w) X.A (f (.int i t) (.int j u)) Q E s) :
  OpR X f (rI0 λi j=>.int (g i j)):=by
 intro pins s Z H x y v u Q I rx ry h;let(i,j,rfl,rfl,q):=h;let(t,rfl):=rx;let(t',rfl):=ry;exact rule i j t t' s _ _ ⟨.int (g i j),H,I.tok _,⟨_,rfl⟩,q⟩
def qgV{f:Value->Value->Sem Value}{g:Int->Int->Bool}
  (rule:∀(i j:Int) (t u:Tok) (s:Shared) (Q:PQ) (E:PQ),Q (.bool (g i j)) s->wpAny (model X.prog X.w) X.A (f (.int i t) (.int j u)) Q E s) :
  OpR X f (rI0 λi j=>.bl (g i j)):=by
 intro pins s Z H x y v u Q I rx ry h;let(i,j,rfl,rfl,q):=h;let(t,rfl):=rx;let(t',rfl):=ry;exact rule i j t t' s _ _ ⟨.bl (g i j),H,I,rfl,q⟩
def qhj(i j:Int):Prop:=j≠0/\j.natAbs < 1073741824
def qi0(i j:Int):Prop:=0<=j/\j<=1000000/\i.natAbs < 2 ^ 64
def qgW(i j:Int):Prop:=(-(2 ^ 64) < i/\i < 2 ^ 64)\/(-(2 ^ 64) < j/\j < 2 ^ 64)
def qgW.ok{i j:Int}(h:qgW i j):IntMulOk i j:=by
 rcases h with ⟨h1,h2⟩|⟨h1,h2⟩
 ·exact .of_left (intBits_le_64 h1 h2)
 ·exact .of_right (intBits_le_64 h1 h2)
def qeJ:OpR X (binaryOp .Add) (rI0 λi j=>.int (i+j)):=qii λ_ _ _ _ _ _ _ q=>add_int q
def qeK:OpR X (binaryOp .Sub) (rI0 λi j=>.int (i - j)):=qii λ_ _ _ _ _ _ _ q=>sub_int q
def qeL:OpR X (binaryOp .Mult) (rI qgW λi j=>.int (i * j)):=opI λ_ _ _ _ _ _ _ hc q=>mul_int q hc.ok
def qa3:OpR X (binaryOp .FloorDiv) (rI qhj λi j=>.int (i.fdiv j)):=opI λ_ _ _ _ _ _ _ hc q=>floordiv_int hc.1 q (.inl (PyProof.noPylong_small hc.2))
def qcP:OpR X (binaryOp .Mod) (rI (λ_ j=>j≠0) λi j=>.int (i.fmod j)):=opI λ_ _ _ _ _ _ _ hc q=>mod_int' hc q
def qeM:OpR X (binaryOp .Pow) (rI qi0 λi j=>.int (i ^ j.toNat)):=opI λ_ _ _ _ _ _ _ hc q=>pow_int_small hc.1 hc.2.1 hc.2.2 q
def Qe{pins:PP}{Z:St}{H:Hp}{s:Shared}{Q:VK}{k k':Bool}(I:Inv X pins Z H s)(q:Q (.bl k) H)(e:k=k'):EP X pins Z Q (.bool k') s:=by subst e;exact{.bl k,H,I,rfl,q}
def qhk:OpR X (compareOp .Lt) (rI0 λi j=>.bl (decide (i < j))):=qgV λ_ _ _ _ _ _ _ q=>lt_int q
def qhl:OpR X (compareOp .LtE) (rI0 λi j=>.bl (decide (i<=j))):=qgV λ_ _ _ _ _ _ _ q=>le_int q
def qhm:OpR X (compareOp .Gt) (rI0 λi j=>.bl (decide (j < i))):=qgV λ_ _ _ _ _ _ _ q=>gt_int q
def qhn:OpR X (compareOp .GtE) (rI0 λi j=>.bl (decide (j<=i))):=qgV λ_ _ _ _ _ _ _ q=>ge_int q
def Zv:OpR X (compareOp .In) (λx y H Q=>∃i j,x=.str i/\y=.str j/\Q (.bl (!(Builtin.Str.occurrences j i 0 j.length 1).isEmpty)) H):=by intro pins s Z H x y v u Q I rx ry h;let(i,j,rfl,rfl,q):=h;let(t,rfl):=rx;let(t',rfl):=ry;exact in_str (Qe I q rfl)
def qeN:OpR X (compareOp .Is) (λx y H Q=>y=.non/\Q (.bl (decide (x=.non))) H):=by
 intro pins s Z H x y v u Q I rx ry h;let(rfl,q):=h;cases ry;refine is_none_gen (Qe I q ?_)
 cases x<;>first
  | (cases rx;rfl)
  | (let(t,rfl):=rx;rfl)
def qcQ:OpR X (compareOp .IsNot) (λx y H Q=>y=.non/\Q (.bl (!decide (x=.non))) H):=by
 intro pins s Z H x y v u Q I rx ry h;let(rfl,q):=h;cases ry;refine isnot_none_gen (Qe I q ?_)
 cases x<;>first
  | (cases rx;rfl)
  | (let(t,rfl):=rx;rfl)
def JR:OpR X (compareOp .NotIn) (λx y H Q=>∃i j,x=.str i/\y=.str j/\Q (.bl (!(!(Builtin.Str.occurrences j i 0 j.length 1).isEmpty))) H):=by intro pins s Z H x y v u Q I rx ry h;let(i,j,rfl,rfl,q):=h;let(t,rfl):=rx;let(t',rfl):=ry;exact notIn_str (Qe I q rfl)
def qcR{op:CmpOp}{r:R2}(ho:OpR X (compareOp op) r)(ha:PE X a ta)(hb:PE X b tb)(hm:behindInMarks op b=false):PE X (.Compare a [op] [b] pos) (tOp r ta tb):=by intro pins s Z H Q I h;exact wpAny_Compare1 (qhh ha hb I h λv u s2 x y H2 I2 rx ry q=>ho pins s2 Z H2 x y v u Q I2 rx ry q) hm
def qho(t:TE):TT:=λZ H Q=>t Z H λx H'=>∃k,x=.bl k/\Q k H'
def qcS{op:CmpOp}{r:R2}(ho:OpR X (compareOp op) r)(ha:PE X a ta)(hb:PE X b tb)(hm:behindInMarks op b=false):PT X (.Compare a [op] [b] pos) (qho (tOp r ta tb)):=by intro pins s Z H Q I h;refine wpAny_isTrue_Compare1 (thn (ha pins s Z H _ I h) λv s1 hz19=>?_) hm;let(x,H1,I1,r1,q1):=hz19;refine thn (hb pins s1 Z H1 _ I1 q1) λu s2 hz20=>?_;let(y,H2,I2,r2,q2):=hz20;refine thn (ho pins s2 Z H2 x y v u _ I2 r1 r2 q2) λc s3 hz21=>?_;let(z,H3,I3,r3,k,e,q3):=hz21;subst e;cases r3;exact wpAny_truthy_bool ⟨H3,I3,q3⟩
def qgX(K:Frag)(x:V)(H:Hp)(k:Bool):Prop:=
 match x with
 |.non=>k=false
 |.bl b=>k=b
 |.int i=>k=(i != 0)
 |.str y=>y.length<=sizeLine/\k=((y.length:Int) != 0)
 |.byt y=>y.size<=sizeLine/\k=((y.size:Int) != 0)
 |.ref p=>(∃xs,SqL K H p xs/\k = !xs.isEmpty)\/(∃xs,SqT K H p xs/\k = !xs.isEmpty)\/∃kvs,H p=some (.dK kvs)/\k = !kvs.isEmpty
 |_=>False
def QS{U:Type}{kvs:List (U×V)}{vs:List (U×Value)}(r:KV kvs vs):(!vs.isEmpty) = !kvs.isEmpty:=by cases r<;>rfl
def yR{xs:List V}{its:List Value}(r:qS xs its):(!its.toArray.isEmpty) = !xs.isEmpty:=by cases r<;>simp
def yS:(sizeLine:Nat) < 2 ^ 63:=by rw[sizeLine_eq];decide
theorem qeO:qiZ X (λx H Q=>∃k,qgX X.K x H k/\Q k H):=by
 intro pins s Z H x v Q I rx h;let(k,e,q):=h;have hl:=yS;have hs:sizeLine=16777216:=sizeLine_eq
 cases x with
 |non=>cases rx;have e':k=false:=e;subst e';exact truthy_none ⟨H,I,q⟩
 |bl b=>cases rx;have e':k=b:=e;subst e';exact wpAny_truthy_bool ⟨H,I,q⟩
 |int i=>let(t,rfl):=rx;have e':k=(i != 0):=e;subst e';exact PySem.P.truthy_int ⟨H,I,q⟩
 |str y=>let(t,rfl):=rx;let(hy,e'):y.length<=sizeLine/\k=((y.length:Int) != 0):=e;subst e';exact PySem.P.truthy_str (1:) ⟨H,I.tok _,q⟩
 |byt y=>let(t,rfl):=rx;let(hy,e'):y.size<=sizeLine/\k=((y.size:Int) != 0):=e;subst e';exact PySem.W.truthy_bytes (1:) ⟨H,I.tok _,q⟩
 |ref p=>
  cases rx;have e':(∃xs,SqL X.K H p xs/\k = !xs.isEmpty)\/(∃xs,SqT X.K H p xs/\k = !xs.isEmpty)\/∃kvs,H p=some (.dK kvs)/\k = !kvs.isEmpty:=e;rcases e' with ⟨xs,hx,e'⟩|⟨xs,hx,e'⟩|⟨kvs,hx,e'⟩
  ·subst e';let(its,r,pl,hz):=I.list hx;have hlen:=r.length;exact wpAny_truthy_list pl.isList (by simp![List.size_toArray];lia) ⟨H,I.tok _,by rw[yR r];exact q⟩
  ·subst e';let(its,r,pl,hz):=I.tuple hx;have hlen:=r.length;exact truthy_tuple pl (by simp![List.size_toArray];lia) ⟨H,I.tok _,by rw[yR r];exact q⟩
  ·subst e';let(hz,hS,vs,r,m):kvs.length<=sizeLine/\(p == sysModules)=false/\∃vs,KV kvs vs/\s.heap.DictOf (YM X.prog X.w) p vs:=I.hok p _ hx;have hlen:kvs.length=vs.length:=Paired.length r;exact wpAny_truthy_dict hS m (1:) ⟨H,I.tok _,by rw[QS r];exact q⟩
 |_=>exact(show False from e).elim
def qa4(ha:PE X a ta)(he:∀whole,isTrue a X.env whole=(do let v<-whole;standAt a.pos;holding [v] (truthy v))) :
  PT X a (λZ H Q=>ta Z H λx H'=>∃k,qgX X.K x H' k/\Q k H'):=by
 intro pins s Z H Q I h;refine isTrue_plain (thn (ha pins s Z H _ I h) λv s1 hz29=>?_) (he _);let(x,H1,I1,r1,q1):=hz29;exact qeO pins s1 Z H1 x v Q I1 r1 q1
def QT:OpR X (binaryOp .Add) (λx y H Q=>∃i j,x=.str i/\y=.str j/\i.length+j.length<=sizeLine/\Q (.str (i++j)) H):=by intro pins s Z H x y v u Q I rx ry h;let(i,j,rfl,rfl,hz,q):=h;let(t,rfl):=rx;let(t',rfl):=ry;exact add_str (λt' tk=>{.str (i++j),H,I.tok _,{_,rfl},q}) hz
theorem YN{x:V}{us:List Value}(r:qS [x] us):∃u,us=[u]/\qQ x u:=by
 cases r with
 |cons r1 r2=>cases r2;exact{_,rfl,r1}
theorem qa5{x y:V}{us:List Value}(r:qS [x,y] us):∃u w',us=[u,w']/\qQ x u/\qQ y w':=by
 cases r with
 |cons r1 r2=>
  cases r2 with
  |cons r3 r4=>cases r4;exact{_,_,rfl,r1,r3}
def Zw(hc:X.calm=true):ja X (.builtin "min") (λxs H Q=>∃i j,xs=[.int i,.int j]/\Q (.int (if j < i then j else i)) H):=by
 intro pins s Z H xs us Q I r h;let(i,j,rfl,q):=h;let(u,w',rfl,(t,rfl),(t',rfl)):=qa5 r;refine min_two_ints (I.ok.hd hc) λh' tk k=>{_,H,I.kept k,?_,q}
 by_cases hj:j < i
 ·rw[if_pos hj,if_pos hj];exact{_,rfl}
 ·rw[if_neg hj,if_neg hj];exact{_,rfl}
def JS:ja X (.type "int") (λxs H Q=>(∃i,xs=[.int i]/\Q (.int i) H)\/∃k,xs=[.bl k]/\Q (.int (if k then 1 else 0)) H):=by
 intro pins s Z H xs us Q I r h;rcases h with ⟨i,rfl,q⟩|⟨k,rfl,q⟩
 ·let(u,rfl,t,rfl):=YN r;exact call_int_int ⟨.int i,H,I,⟨_,rfl⟩,q⟩
 ·let(u,rfl,r1):=YN r;cases r1;exact call_int_bool ⟨.int (if k then 1 else 0),H,I.tok _,⟨_,rfl⟩,q⟩
end
structure ObjM(h:Heap)(x dx C:Addr)(mA:PR):Prop where
 obj:h.get? x=some (PySem.W.instObj C dx)
 ns:h.Ns1 dx mA
 ne:dx≠x
def Zx{h:Heap}{dx:Addr}{mA:PR}(n:h.Ns1 dx mA):∃od,h.get? dx=some od/\∀name,PySem.W.lookIn name od=some (mA name):=by
 let(o,es,ep,ho,hd,hk,_,hm):=n;refine{o,ho,λname=>?_};have e:=hm name;unfold nsFind findBy at e;rw[<-Array.find?_toList]at e;unfold PySem.W.lookIn;rw[hd];dsimp only;split
 ·rename_i y q;rw[q]at e;exact congrArg some e
 ·rename_i q;rw[q]at e
  have a:es.toList.any (·.refKey)=false:=by rw[List.any_eq_false];intro y hy;let(z,t,hkey):=hk y (Array.mem_toList_iff.mp hy);simp[DictEntry.refKey,hkey]
  have a':¬ es.toList.any (·.refKey)=true:=by rw[a];exact Bool.false_ne_true
  rw[if_neg a'];exact congrArg some e
def ObjM.look{h:Heap}{x dx C:Addr}{mA:PR}(I:ObjM h x dx C mA):∃od,PySem.W.InstAt h x (PySem.W.instObj C dx) C (some od)/\∀name,PySem.W.lookIn name od=some (mA name):=
 let ⟨od,ho,hl⟩:=Zx I.ns
 ⟨od,⟨I.obj,rfl,rfl,ho⟩,hl⟩
section
variable{prog:Program}{w:World}{A:Around}{E:PQ}{s:Shared}{K:Frag}{x dx C f:Addr}{mA:PR}{name:Str}{v:Value}
def qcT{expr:Bool}{Q:PQ}(X:K.In s.heap)(I:ObjM s.heap x dx C mA)(hg:PySem.W.plainGet K C name=true)(hh:PySem.W.hasDictIn K C=true)
  (ha:PySem.W.findIn K (.ref C) name=some none) (hv:mA name=some v) (hv':PySem.W.handedIn v=true) (h:Q v { s with toks:=s.toks+1 }) :
  wpAny (model prog w) A (getAttr (.ref x) name expr) Q E s:=by
 let(od,J,hl):=I.look;exact PySem.W.get_value X J (PySem.W.plainGet_of hg).1 (PySem.W.findObj_own hh ha rfl (by rw[hl,hv])) hv' h
def qa6{pl:Sem Bool}{Q:Value×List Value->Shared->Prop}(X:K.In s.heap)(I:ObjM s.heap x dx C mA)(hg:PySem.W.plainGet K C name=true)
  (hf:PySem.W.findIn K (.ref C) name=some (some (.ref f))) (ht:PySem.W.isFn K (.ref f)=true) (hv:mA name=none) (h:Q (.ref f,[.ref x]) s) :
  wpAny (model prog w) A (getMethod (.ref x) name pl) Q E s:=by
 let(od,J,hl):=I.look;exact PySem.W.method_fn X J (PySem.W.plainGet_of hg).1 (PySem.W.plainGet_of hg).2 hf (beq_iff_eq.mp ht) (by show(PySem.W.lookIn name od).map (·.isSome)=some false;rw[hl,hv];rfl) h
def qcU{ns:List Str}{Q:Unit->Shared->Prop}(X:K.In s.heap)(I:ObjM s.heap x dx C mA)
  (hs:PySem.W.findIn K (.ref C) "__setattr__" = some (some (.builtin "object.__setattr__"))) (hp:PySem.W.plainOver K C=true) (ht:PySem.W.takerIn K C name=some none) (hh:PySem.W.hasDictIn K C=true)
  (hw:PySem.Within mA ns) (hsz:ns.length<=sizeLine)
  (h:∀h',ObjM h' x dx C (λy=>if y=name then some v else mA y)->Heap.SameBut dx s.heap h'->Q () { s with heap:=h',toks:=s.toks+2 }) :
  wpAny (model prog w) A (setAttr (.ref x) name v) Q E s:=by
 let(od,J,hl):=I.look;refine PySem.W.set_plain X J hs (PySem.W.osa_open (s:={ s with toks:=s.toks+1 }) (r:=none) X J hp ht λb=>?_);let(cd,hc,hd'):=PySem.W.any_some hh;have hx:s.heap.get? x=some ⟨.ref C,some dx,.plain,#[]⟩:=I.obj;refine wpAny_bind (wpAny_pure (wpAny_bind (wpAny_bind (wpAny_loadPart hx (wpAny_bind (PySem.W.Looks.here (s:={ s with toks:=s.toks+1 }) (PySem.W.looks_clsIn X hc) ?_))))));rw[hd'];refine wpAny_pure (a:=some dx) (wpAny_bind (wpAny_pure (wpAny_bind ?_)));refine wpAny_nsSet1 (s:={ s with toks:=s.toks+1 }) I.ns λh' hn2 hs2=>?_;let(oD,esD,epD,hoD,hdD,hcD):=hn2.count (PySem.Within.cons name v hw);refine wpAny_bind (wpAny_lookBehind hoD (by rw[hdD];exact pastItsLine_dict (Nat.le_trans hcD (by rw[List.length_cons];lia))) ?_);exact wpAny_pure (h _ ⟨(hs2.2 _ (Ne.symm I.ne)).trans I.obj,hn2,I.ne⟩ hs2)
def qa7{R:Result->Shared->Prop}{vs:List Value}{kw:List (Str×Value)}(X:K.In s.heap)(hm:PySem.W.makesIn K C=true)
  (hi:PySem.W.findIn K (.ref C) "__init__" = some (some (.ref f))) (hf:PySem.W.typeIn K (.ref f)=some (.type "function"))
  (h:codeAny (model prog w) (A.under (.builtin "type.__call__" ⟨.ref C::vs,kw⟩)) (.call (.ref f) ⟨.ref (s.heap.objs.size+1)::vs,kw⟩) (PySem.W.InitBack (s.heap.objs.size+1) R)
   { s with heap:=(s.heap.push PySem.W.emptyDict).push (PySem.W.instObj C s.heap.objs.size) }) :
  codeAny (model prog w) A (.call (.ref C) ⟨vs,kw⟩) R s:=by
 let(hh,g,d,t,os):=s;exact PySem.W.make_core (PySem.W.makes_of X hm) (PySem.W.looks_findIn X hi) (λself=>PySem.W.bind_fn X self hf) (.inl rfl) h
end
def YK(f:Str)(v:V):List (Str×V)->List (Str×V)
 |[]=>[(f,v)]
 | (g,x)::r=>if g=f then (g,v)::r else (g,x)::YK f v r
theorem yf(f g:Str)(v:V):∀fs:List (Str×V),(YK f v fs).lookup g=if g=f then some v else fs.lookup g
 |[]=>by
  show List.lookup g [(f,v)]=_
  by_cases h:g=f
  ·have hb:(g == f)=true:=beq_iff_eq.mpr h;simp![List.lookup,hb,if_pos h]
  ·have hb:(g == f)=false:=beq_eq_false_iff_ne.mpr h;simp![List.lookup,hb,if_neg h]
 | (k,x)::r=>by
  have ih:=yf f g v r;rw[show YK f v ((k,x)::r)=(if k=f then (k,v)::r else (k,x)::YK f v r) from rfl]
  by_cases hk:k=f
  ·rw[if_pos hk]
   by_cases h:g=k
   ·have hb:(g == k)=true:=beq_iff_eq.mpr h;simp![List.lookup,hb,if_pos (h.trans hk)]
   ·have hb:(g == k)=false:=beq_eq_false_iff_ne.mpr h;simp![List.lookup,hb,if_neg (λe:g=f=>h (e.trans hk.symm))]
  ·rw[if_neg hk]
   by_cases h:g=k
   ·have hb:(g == k)=true:=beq_iff_eq.mpr h;simp![List.lookup,hb,if_neg (λe:g=f=>hk (h.symm.trans e))]
   ·have hb:(g == k)=false:=beq_eq_false_iff_ne.mpr h;simp![List.lookup,hb];exact ih
theorem yg(f:Str)(v:V):∀fs:List (Str×V),f∈(YK f v fs).map (·.1)/\∀g,g∈fs.map (·.1)->g∈(YK f v fs).map (·.1)
 |[]=>{by simp[YK],λg h=>by simp at h}
 | (k,x)::r=>by
  let(i1,i2):=yg f v r;rw[show YK f v ((k,x)::r)=(if k=f then (k,v)::r else (k,x)::YK f v r) from rfl]
  by_cases hk:k=f
  ·rw[if_pos hk];subst hk;exact{by simp,λg h=>(-h:)}
  ·rw[if_neg hk];refine{?_,λg h=>?_}
   ·rw[List.map_cons];exact List.mem_cons_of_mem _ i1
   ·rw[List.map_cons]at h ⊢;rcases List.mem_cons.mp h with e|e
    ·exact List.mem_cons.mpr (.inl e)
    ·exact List.mem_cons_of_mem _ (i2 g e)
theorem yh(f:Str)(v:V):∀fs:List (Str×V),(YK f v fs).length<=fs.length+1
 |[]=>by simp[YK]
 | (k,x)::r=>by
  have ih:=yh f v r;rw[show YK f v ((k,x)::r)=(if k=f then (k,v)::r else (k,x)::YK f v r) from rfl]
  by_cases hk:k=f
  ·rw[if_pos hk,List.length_cons,List.length_cons];lia
  ·rw[if_neg hk,List.length_cons,List.length_cons];lia
theorem Zn.some_of{v:V}{o:Option Value}(r:Zn (some v) o):∃u,o=some u/\qQ v u:=by
 cases o with
 |none=>exact(show False from r).elim
 |some u=>exact⟨u,rfl,r⟩
theorem Zn.none_of{o:Option Value}(r:Zn none o):o=none:=by
 cases o with
 |none=>rfl
 |some u=>exact(show False from r).elim
theorem Zy{v:V}{u:Value}(r:qQ v u):PySem.W.handedIn u=true:=by
 cases v with
 |non=>cases (show u=Value.none from r);rfl
 |bl b=>cases (show u=Value.bool b from r);rfl
 |int i=>let(t,e):=(show∃t,u=Value.int i t from r);cases e;rfl
 |str x=>let(t,e):=(show∃t,u=Value.str x t from r);cases e;rfl
 |byt b=>let(t,e):=(show∃t,u=Value.bytes b t from r);cases e;rfl
 |flt b=>let(t,e):=(show∃t,u=Value.float b t from r);cases e;rfl
 |ref a=>cases (show u=Value.ref a from r);rfl
 |ty n=>cases (show u=Value.type n from r);rfl
section
variable{P:Program}{w:World}{H H':Hp}{h h':Heap}{a C dx:Addr}{fs fs':List (Str×V)}
def Je(hok:HOk P w H h)(e:H a=some (.ins C dx fs)):∃mA,ObjM h a dx C mA/\(∀f,Zn (fs.lookup f) (mA f))/\PySem.Within mA (fs.map (·.1))/\fs.length<=1000/\H dx=some (.own a):=by let(d,z,ne,ob,mA,n,r,q):=(show za P w H h a (.ins C dx fs) from hok a _ e);exact{mA,⟨ob,n,ne⟩,r,q,z,d}
end
structure Cls(K:Frag)(C:Addr):Prop where
 pg:PySem.W.plainGet K C Str.empty=true
 hd:PySem.W.hasDictIn K C=true
 po:PySem.W.plainOver K C=true
 sa:PySem.W.findIn K (.ref C) "__setattr__" = some (some (.builtin "object.__setattr__"))
def Cls.get{K:Frag}{C:Addr}(c:Cls K C)(f:Str):PySem.W.plainGet K C f=true:=c.pg
def zm(K:Frag)(C:Addr)(f:Str):Prop:=PySem.W.findIn K (.ref C) f=some none
def zm.taker{K:Frag}{C:Addr}{f:Str}(n:zm K C f):PySem.W.takerIn K C f=some none:=by unfold PySem.W.takerIn;rw[show PySem.W.findIn K (.ref C) f=some none from n];rfl
structure Meth(K:Frag)(C:Addr)(m:Str)(f:Addr):Prop where
 at_:PySem.W.findIn K (.ref C) m=some (some (.ref f))
 fn:PySem.W.isFn K (.ref f)=true
 kp:PySem.W.keepIn K (.ref f)=true
section
variable{X:Cx}{pins:PP}{Z:St}{H:Hp}{s:Shared}{a C dx:Addr}{fs:List (Str×V)}{f:Str}{v:V}{A:Around}{E:PQ}
def QU{b:Bool}{Q:PQ}(I:Inv X pins Z H s)(e:H a=some (.ins C dx fs))(c:Cls X.K C)(n:zm X.K C f)(l:fs.lookup f=some v)
  (h:∀u s',Inv X pins Z H s'->qQ v u->Q u s'):wpAny (model X.prog X.w) A (getAttr (.ref a) f b) Q E s:=by
 let(mA,O,r,_,_,_):=Je I.hok e;let(u,hu,ru):=Zn.some_of (v:=v) (o:=mA f) (by rw[<-l];exact r f);exact qcT I.kIn O (c.get f) c.hd n hu (Zy ru) (h u _ (I.tok _) ru)
def yT{m:Str}{g:Addr}{pl:Sem Bool}{Q:Value×List Value->Shared->Prop}(I:Inv X pins Z H s)(e:H a=some (.ins C dx fs))(c:Cls X.K C)(k:Meth X.K C m g)(l:fs.lookup m=none)
  (h:Q (.ref g,[.ref a]) s):wpAny (model X.prog X.w) A (getMethod (.ref a) m pl) Q E s:=by
 let(mA,O,r,_,_,_):=Je I.hok e;have hn:mA m=none:=Zn.none_of (by rw[<-l];exact r m);exact qa6 I.kIn O (c.get m) k.at_ k.fn hn h
def QV{y:V}{u:Value}{Q:Unit->Shared->Prop}(I:Inv X pins Z H s)(e:H a=some (.ins C dx fs))(c:Cls X.K C)(n:zm X.K C f)(hl:fs.length < 1000)(ry:qQ y u)
  (h:∀s',Inv X pins Z (upd H a (.ins C dx (YK f y fs))) s'->Q () s'):wpAny (model X.prog X.w) A (setAttr (.ref a) f u) Q E s:=by
 let(mA,O,r,wi,_,ho):=Je I.hok e;have hz:(fs.map (·.1)).length<=sizeLine:=by rw[List.length_map,sizeLine_eq];lia
 refine qcU I.kIn O c.sa c.po n.taker c.hd wi hz λh' O' sb=>h _ ?_;have hd:∃o,h'.get? dx=some o:=let ⟨o,_,_,e',_⟩:=O'.ns;⟨o,e'⟩;refine I.write (x:=a) (e:=dx) (by rw[e];exact True.intro) (.inr ho) (λb q hb z=>(sb.2 b hb).trans z) hd ?_;refine{by rw[qh O.ne];exact ho,?_,O.ne,O'.obj,_,O'.ns,λg=>?_,λg hg=>?_}
 ·have:=yh f y fs;lia
 ·show Zn ((YK f y fs).lookup g) (if g=f then some u else mA g);rw[yf]
  by_cases q:g=f
  ·rw[if_pos q,if_pos q];exact ry
  ·rw[if_neg q,if_neg q];exact r g
 ·by_cases q:g=f
  ·rw[q];exact(yg f y fs).1
  ·refine(yg f y fs).2 g (wi g λz=>hg ?_);show(if g=f then some u else mA g)=none;rw[if_neg q];exact z
def Inv.made(I:Inv X pins Z H s):Inv X pins Z (upd (upd H s.heap.objs.size (.own (s.heap.objs.size+1))) (s.heap.objs.size+1) (.ins C s.heap.objs.size []))
  { s with heap:=(s.heap.push PySem.W.emptyDict).push (PySem.W.instObj C s.heap.objs.size) }:=by
 have e1:(s.heap.push PySem.W.emptyDict).get? s.heap.objs.size=some PySem.W.emptyDict:=Heap.get?_push_size s.heap rfl
 have e2:((s.heap.push PySem.W.emptyDict).push (PySem.W.instObj C s.heap.objs.size)).get? (s.heap.objs.size+1)=some (PySem.W.instObj C s.heap.objs.size):=by
  have:=Heap.get?_push_size (s.heap.push PySem.W.emptyDict) (o:=PySem.W.instObj C s.heap.objs.size) rfl
  rwa[Heap.size_push]at this
 have e3:(s.heap.push PySem.W.emptyDict).Ns s.heap.objs.size (λ_=>none):={PySem.W.emptyDict,#[],_,e1,rfl,(λe he=>absurd he (5:)),λ_=>rfl};have I1:=I.laid (a:=s.heap.objs.size) (o:=.own (s.heap.objs.size+1)) (h':=s.heap.push PySem.W.emptyDict) (t':=s.toks) (λb u q=>Heap.get?_push_of_some _ q) (Nat.le_refl _) ⟨_,e1⟩;refine I1.laid (a:=s.heap.objs.size+1) (o:=.ins C s.heap.objs.size []) (t':=s.toks) (λb u q=>Heap.get?_push_of_some _ q) (Nat.le_of_eq (Heap.size_push _ _)) ?_;have ne:s.heap.objs.size≠s.heap.objs.size+1:=Nat.ne_of_lt (Nat.lt_succ_self _);refine{by rw[qh ne,qm],Nat.zero_le _,ne,e2,λ_=>none,(Heap.Ns1.of_empty e3).at λo q=>Heap.get?_push_of_some _ q,λ_=>True.intro,λy hy=>absurd rfl hy}
def qcV{prog:Program}{w:World}{env:Env}{e:Expr}{f:Str}{pos:Pos}{s:Shared}{Q:PQ}(hb:attributeBase e f env (eval e env)=eval e env)
  (h:wpAny (model prog w) A (eval e env) (λo s₁=>wpAny (model prog w) A (getAttr o f true) Q E s₁) E s):wpAny (model prog w) A (eval (.Attribute e f pos) env) Q E s:=
 Attribute_any_ h (by rw[arm_eval_Attribute,hb])
end
def qi1(K:Frag)(ta:TE)(f:Str):TE:=λZ H Q=>ta Z H λx H1=>∃a C dx fs v,x=.ref a/\H1 a=some (.ins C dx fs)/\Cls K C/\zm K C f/\fs.lookup f=some v/\Q v H1
def qi2(K:Frag)(ta tv:TE)(f:Str):TS:=λD Z H=>tv Z H λy H1=>ta Z H1 λx H2=>∃a C dx fs,x=.ref a/\H2 a=some (.ins C dx fs)/\Cls K C/\zm K C f/\fs.length < 1000/\
 D.nx Z (upd H2 a (.ins C dx (YK f y fs)))
section
variable{X:Cx}{o e value:Expr}{f:Str}{pos pos' tpos:Pos}{ta tv:TE}
def qeP(he:PE X e ta)(hb:attributeBase e f X.env (eval e X.env)=eval e X.env):PE X (.Attribute e f pos) (qi1 X.K ta f):=by intro pins s Z H Q I h;refine qcV hb (thn (he pins s Z H _ I h) λu s1 hq1=>?_);let(x,H1,I1,rx,a,C,dx,fs,v,ex,ea,c,n,l,q):=hq1;subst ex;obtain rfl:u=Value.ref a:=rx;exact QU I1 ea c n l λu' s2 I2 ru=>⟨v,H1,I2,ru,q⟩
def Zz(ha:PE X o ta)(hv:PE X value tv)(hs:swapsWith value (some (.Attribute o f pos')) pos.line X.env=pure false):PS X (.Assign [.Attribute o f pos'] value pos) (qi2 X.K ta tv f):=by intro pins s Z H D I h;refine plainObj_wpAny_Assign_Attribute (thn (hv pins s Z H _ I h) λu s1 hz30=>?_) hs;let(y,H1,I1,ry,q):=hz30;refine thn (ha pins s1 Z H1 _ I1 q) λov s2 hz31=>?_;let(x,H2,I2,rx,a,C,dx,fs,ex,ea,c,n,l,q2):=hz31;subst ex;obtain rfl:ov=Value.ref a:=rx;exact QV I2 ea c n l ry λs3 I3=>{Z,_,I3,q2}
end
section
variable{X:Cx}{pins:PP}{Z:St}{H:Hp}{s:Shared}{A:Around}{E:PQ}{Q:PQ}{c:Value}{b:Bool}
inductive TyOf(K:Frag)(H:Hp):V->Value->Prop where
 | non:TyOf K H .non (.type "NoneType")
 | bl (x:Bool):TyOf K H (.bl x) (.type "bool")
 | int (i:Int):TyOf K H (.int i) (.type "int")
 | str (x:Str):TyOf K H (.str x) (.type "str")
 | flt (x:UInt64):TyOf K H (.flt x) (.type "float")
 | lst {a:Addr} {xs:List V} (e:H a=some (.lst xs)):TyOf K H (.ref a) (.type "list")
 | frz {a:Addr} {o:Obj} {xs:List V} (e:H a=some (.frz o (.lst xs))):TyOf K H (.ref a) (.type "list")
 | tup {a:Addr} {xs:List V} (e:H a=some (.tup xs)):TyOf K H (.ref a) (.type "tuple")
 | dK {a:Addr} {kvs:List (Key×V)} (e:H a=some (.dK kvs)):TyOf K H (.ref a) (.type "dict")
 | dT {a:Addr} {kvs:List (List Key×V)} (e:H a=some (.dT kvs)):TyOf K H (.ref a) (.type "dict")
 | ins {a C dx:Addr} {fs:List (Str×V)} (e:H a=some (.ins C dx fs)) (cl:Cls K C) (ha:PySem.W.findIn K (.ref C) "__class__" = some (some (.builtin "object.__class__")))
   (hn:PySem.W.specialIn K (.builtin "object.__class__") "__get__" = some (some (.builtin "getset_descriptor.__get__"))) (htk:PySem.W.takesIn K (.builtin "object.__class__")=some true)
   (hm:PySem.W.mroIn K C (.type "object")=some true):TyOf K H (.ref a) (.ref C)
theorem JT{x:V}{u t:Value}(I:Inv X pins Z H s)(rx:qQ x u)(ty:TyOf X.K H x t)(e:PySem.W.kitOne X.K t c=some b)(h:∀tk,Q (.bool b) { s with toks:=tk }) :
  wpAny (model X.prog X.w) A (call (.builtin "isinstance") [u,c]) Q E s:=by
 cases ty with
 |non=>cases (show u=Value.none from rx);exact PySem.W.kia_one PySem.W.kitx_none I.kIn True.intro e (λz=>nomatch z) h
 |bl y=>cases (show u=Value.bool y from rx);exact PySem.W.kia_one PySem.W.kitx_bool I.kIn True.intro e (λz=>nomatch z) h
 |int i=>let(t,q):=(show∃t,u=Value.int i t from rx);cases q;exact PySem.W.kia_one PySem.W.kitx_int I.kIn True.intro e (λz=>nomatch z) h
 |str y=>let(t,q):=(show∃t,u=Value.str y t from rx);cases q;exact PySem.W.kia_one PySem.W.kitx_str I.kIn True.intro e (λz=>nomatch z) h
 |flt y=>let(t,q):=(show∃t,u=Value.float y t from rx);cases q;exact PySem.W.kia_one PySem.W.kitx_float I.kIn True.intro e (λz=>nomatch z) h
 |@lst a xs ea=>
  cases (show u=Value.ref a from rx)
  let(_,_,n,_,h1):=(show za X.prog X.w H s.heap a (.lst xs) from I.hok a _ ea);exact PySem.W.kia_one PySem.W.kitx_list I.kIn ⟨_,h1,rfl⟩ e (λz=>nomatch z) h
 |@frz a ob xs ea=>
  cases (show u=Value.ref a from rx)
  let(_,_,_,n,_,h1):=(show za X.prog X.w H s.heap a (.frz ob (.lst xs)) from I.hok a _ ea);exact PySem.W.kia_one PySem.W.kitx_list I.kIn ⟨_,h1,rfl⟩ e (λz=>nomatch z) h
 |@tup a xs ea=>
  cases (show u=Value.ref a from rx)
  let(_,_,_,p):=(show za X.prog X.w H s.heap a (.tup xs) from I.hok a _ ea);let(o,h1,h2,_):=p;exact PySem.W.kia_one PySem.W.kitx_tuple I.kIn ⟨o,h1,h2⟩ e (λz=>nomatch z) h
 |@dK a kvs ea=>
  cases (show u=Value.ref a from rx)
  let(_,_,vs,_,p):=(show za X.prog X.w H s.heap a (.dK kvs) from I.hok a _ ea);let(o,es,ep,h1,h2,_):=p;exact PySem.W.kia_one PySem.W.kitx_dict I.kIn ⟨o,h1,h2.1⟩ e (λz=>nomatch z) h
 |@dT a kvs ea=>
  cases (show u=Value.ref a from rx)
  let(_,_,xs,_,o,es,ep,h1,h2,_):=(show za X.prog X.w H s.heap a (.dT kvs) from I.hok a _ ea);exact PySem.W.kia_one PySem.W.kitx_dict I.kIn ⟨o,h1,h2.1⟩ e (λz=>nomatch z) h
 |@ins a C dx fs ea cl ha hn htk hm=>
  cases (show u=Value.ref a from rx)
  let(mA,O,_):=Je I.hok ea;let(od,J,_):=O.look;exact PySem.W.kia_one (PySem.W.kitx_own (cl.get _) cl.hd ha hn htk hm) I.kIn J e (λz=>nomatch z) h
end
structure Room(k:Nat)(A:Around):Prop where
 hd:A.handled=none
 dp:A.depth+3 * k+5 < recursionLimit
 un:A.units+16 * k+200 < cLine
def Room.deeper{k:Nat}{A:Around}(r:Room (k+1) A)(env:Env):Room k (A.deeper env):=
 ⟨r.hd,by have:=r.dp;show A.depth+1+3 * k+5 < _;lia,by have:=r.un;show A.units+3+16 * k+200 < _;lia⟩
def QW{A:Around}{C:Addr}{us:List Value}{kw:List (Str×Value)}:(A.under (.builtin "type.__call__" ⟨.ref C::us,kw⟩)).depth=A.depth+1:=by first|rfl|simp[Around.under,Code.weight,Code.isCreation,Code.isGuard,Code.isCaller,Code.frames,Code.isFrame,guardIds]
def QX{A:Around}{C:Addr}{us:List Value}{kw:List (Str×Value)}:(A.under (.builtin "type.__call__" ⟨.ref C::us,kw⟩)).units=A.units+1:=by first|rfl|simp[Around.under,Code.cUnits,Code.frames,Code.isFrame]
def Room.make{k:Nat}{A:Around}(r:Room (k+1) A)(C:Addr)(us:List Value)(kw:List (Str×Value)):Room k (A.under (.builtin "type.__call__" ⟨.ref C::us,kw⟩)):=
 ⟨r.hd,by have:=r.dp;rw[QW];lia,by have:=r.un;rw[QX];lia⟩
def Room.depth{k:Nat}{A:Around}(r:Room k A):A.depth < recursionLimit:=by have:=r.dp;lia
def qcW:TA:=λ_ H Q=>Q [] H
def ZA(ta:TE)(tr:TA):TA:=λZ H Q=>ta Z H λx H1=>tr Z H1 λxs H2=>Q (x::xs) H2
section
variable{X:Cx}{e:Expr}{es:List Expr}{te:TE}{t:TA}{pos:Pos}
def qC:PA X [] qcW:=λ_ _ _ _ H Q I h=>Calls.spliced_nil ⟨[],H,I,.nil,h⟩
def qg(ha:PE X e te)(hr:PA X es t)(hs:starEach (e::es) X.env=(false,eval e X.env)::starEach es X.env:=by rfl):PA X (e::es) (ZA te t):=by intro pos pins s Z H Q I h;rw[hs];show wpAny _ _ (spliced ((false,eval e X.env)::backTo pos (starEach es X.env))) _ _ s;refine Calls.spliced_cons (thn (ha pins s Z H _ I h) λu s1 hq1=>?_);let(x,H1,I1,r1,q1):=hq1;refine thn (hr pos pins s1 Z H1 _ I1 q1) λus s2 hz34=>?_;let(xs,H2,I2,r2,q2):=hz34;exact{x::xs,H2,I2,.cons r1 r2,q2}
def qi3(t:TA):TE:=λZ H Q=>t Z H λxs H1=>xs.length<=sizeLine/\∀p,H1 p=none->Q (.ref p) (upd H1 p (.tup xs))
def qi4(t:TA):TE:=λZ H Q=>t Z H λxs H1=>xs.length<=sizeLine/\∀p,H1 p=none->Q (.ref p) (upd H1 p (.lst xs))
def qeQ{x1}(h:PA X es t):PE X (.Tuple es x1 pos) (qi3 t):=by intro pins s Z H Q I hq;refine wpAny_Tuple_spliced (thn (h pos pins s Z H _ I hq) λus s1 ⟨xs,H1,I1,r,z,q⟩=>{by rw[<-r.length];exact z,?_});have hf:H1 s1.heap.objs.size=none:=I1.hok.fresh (Nat.le_refl _);refine{.ref s1.heap.objs.size,upd H1 s1.heap.objs.size (.tup xs),I1.laid (t':=s1.toks) (λb u e=>Heap.get?_push_of_some _ e) (Nat.le_refl _) ?_,rfl,q _ hf};exact{z,us,r,{_,Heap.get?_push_size _ rfl,rfl,_,rfl}}
def qeR(h:PA X es t):PE X (.List es pos) (qi4 t):=by intro pins s Z H Q I hq;refine wpAny_List_spliced (thn (h pos pins s Z H _ I hq) λus s1 ⟨xs,H1,I1,r,z,q⟩=>{by rw[<-r.length];exact z,?_});have hf:H1 s1.heap.objs.size=none:=I1.hok.fresh (Nat.le_refl _);refine{.ref s1.heap.objs.size,upd H1 s1.heap.objs.size (.lst xs),I1.laid (t':=s1.toks) (λb u e=>Heap.get?_push_of_some _ e) (Nat.le_refl _) ?_,rfl,q _ hf};exact{z,us,0,r,Heap.get?_push_size _ rfl}
end
abbrev Sp:=List V->Hp->VK->XK->Prop
abbrev CXT:=List Env->Hp->Shared->XK->Value->Shared->Prop
structure Env0(P:Program)(w:World)(K:Frag)(mg:PR)(base:Heap)(A:Around)(outer:List Env)(s:Shared)(H:Hp):Prop where
 frames:A.frames=some outer
 mod:Mod K mg base
 bs:∀b o,base.get? b=some o->s.heap.get? b=some o/\H b=none
 bsz:base.objs.size<=s.heap.objs.size
 funs:s.heap.FunFrames base outer
 frf:∀b∈frs outer,H b=none
 hok:HOk P w H s.heap
 bare:AllBare s.gens
def CE(outer:List Env)(P:Program)(w:World)(H:Hp)(s:Shared)(Q:VK)(u:Value)(s':Shared):Prop:=
 ∃v H',s'.os=s.os/\AllBare s'.gens/\Un (frs outer) [] H H' s.heap s'.heap/\HOk P w H' s'.heap/\qQ v u/\Q v H'
def CR(CX:CXT)(outer:List Env)(P:Program)(w:World)(H:Hp)(s:Shared)(Q:VK)(E:XK)(r:Result)(s':Shared):Prop:=
 match r with
 |.ok (.ret u)=>CE outer P w H s Q u s'
 |.ok _=>False
 |.error e=>CX outer H s E e s'
structure FnOk(P:Program)(w:World)(K:Frag)(mg:PR)(base:Heap)(CX:CXT)(k:Nat)(f:Addr)(fd:FuncData)(ps:List Str)(sp:Sp):Prop where
 len:∀vs H Q E,sp vs H Q E->vs.length=ps.length
 run:∀(A:Around) (outer:List Env) (s:Shared) (H:Hp) (args:Args) (us:List Value) (vs:List V) (Q:VK) (E:XK),Room k A->Env0 P w K mg base A outer s H->BindsTo s fd args (ps.zip us)->qS vs us->sp vs H Q E->
  codeAny (model P w) A (.call (.ref f) args) (CR CX outer P w H s Q E) s
def Env0.make{P:Program}{w:World}{K:Frag}{mg:PR}{base:Heap}{A:Around}{outer:List Env}{s:Shared}{H:Hp}(e:Env0 P w K mg base A outer s H)(C:Addr)(us:List Value)(kw:List (Str×Value)) :
  Env0 P w K mg base (A.under (.builtin "type.__call__" ⟨.ref C::us,kw⟩)) outer s H:={by first|exact e.frames|(simpa [Around.under,Code.envs,Code.isFrame,pushEnvs] using e.frames),e.mod,e.bs,e.bsz,e.funs,e.frf,e.hok,e.bare}
section
variable{X:Cx}{pins:PP}{Z:St}{H:Hp}{s s':Shared}
def Inv.env0(I:Inv X pins Z H s):Env0 X.prog X.w X.K X.mg X.base X.A X.stack s H:=
 ⟨I.ok.frames,I.ok.mod,I.bs,Nat.le_trans I.ok.bsz I.sz,I.stack,I.stkFree,I.hok,I.bare⟩
def Inv.after{Q:VK}{u:Value}(I:Inv X pins Z H s)(h:CE X.stack X.prog X.w H s Q u s'):EP X pins Z Q u s':=by let(v,H',os,bare,un,hok,r,q):=h;let(hh,g,d,t,os'):=s';obtain rfl:os'=s.os:=os;exact{v,H',I.call (h':=hh) (g':=g) (d':=d) (t':=t) (ch:=[]) un hok bare (λb z=>absurd z (5:)),r,q}
end
def ZB(sp:Sp)(dvs:List V)(E:XK)(t:TA):TE:=λZ H Q=>t Z H λvs H1=>sp (vs++dvs) H1 Q E
def qcX(C:Addr)(m:Str)(sp:Sp)(dvs:List V)(E:XK)(ta:TE)(t:TA):TE:=λZ H Q=>ta Z H λx H1=>∃a dx fs,x=.ref a/\H1 a=some (.ins C dx fs)/\fs.lookup m=none/\
 t Z H1 λvs H2=>sp (x::(vs++dvs)) H2 Q E
def qcY(C:Addr)(sp:Sp)(dvs:List V)(E:XK)(t:TA):TE:=λZ H Q=>t Z H λvs H1=>∀x dx,H1 x=none->H1 dx=none->dx≠x->
 sp (.ref x::(vs++dvs)) (upd (upd H1 dx (.own x)) x (.ins C dx [])) (λv H2=>v=.non/\Q (.ref x) H2) E
def qR(K:Frag)(fd:FuncData)(ps:List Str)(ds:List Value):Prop:=
 ∀(s:Shared) (us:List Value),K.In s.heap->(us++ds).length=ps.length->BindsTo s fd ⟨us,[]⟩ (ps.zip (us++ds))
def qR.all{K:Frag}{fd:FuncData}{ps:List Str}(h:∀us:List Value,us.length=ps.length->bindArgs fd ⟨us,[]⟩=pure (ps.zip us)):qR K fd ps []:=λs us _ hl=>by rw[List.append_nil]at hl ⊢;exact .of_eq (h us hl)
def zn(CX:CXT)(X:Cx)(E:XK):Prop:=∀(pins:PP) (Z:St) (H:Hp) (s:Shared) (e:Value) (s':Shared),Inv X pins Z H s->CX X.stack H s E e s'->X.xe e s'
section
variable{X:Cx}{CX:CXT}{k:Nat}{f C:Addr}{fd:FuncData}{ps:List Str}{sp:Sp}{dvs:List V}{ds:List Value}{E:XK}{x m:Str}{p pos apos:Pos}{e o:Expr}{es:List Expr}{ta:TE}{t:TA}
theorem JU{pins:PP}{Z:St}{H:Hp}{s:Shared}{Q:VK}{us:List Value}{vs:List V}(F:FnOk X.prog X.w X.K X.mg X.base CX k f fd ps sp)(hr:Room k X.A)(hb:qR X.K fd ps ds)(hd:qS dvs ds)(hx:zn CX X E)
  (I:Inv X pins Z H s) (r:qS vs us) (h:sp (vs++dvs) H Q E):wpAny (model X.prog X.w) X.A (call (.ref f) us) (EP X pins Z Q) X.xe s:=by
 have r2:qS (vs++dvs) (us++ds):=r.append hd;have hl:(us++ds).length=ps.length:=by rw[<-r2.length];exact F.len _ _ _ _ h
 refine wpAny_call (codeAny_mono (F.run X.A X.stack s H ⟨us,[]⟩ (us++ds) (vs++dvs) Q E hr I.env0 (hb s us I.kIn hl) r2 h) λr s' hq=>?_)
 cases r with
 |error e=>exact hx pins Z H s e s' I hq
 |ok fl=>
  cases fl with
  |ret u=>exact I.after hq
  |next=>exact False.elim hq
  |brk=>exact False.elim hq
  |cont=>exact False.elim hq
def zM(F:FnOk X.prog X.w X.K X.mg X.base CX k f fd ps sp)(hr:Room k X.A)(hg:Gl X x)(hm:X.mg x=some (.ref f))(hk:PySem.W.keepIn X.K (.ref f)=true)(hb:qR X.K fd ps ds)(hd:qS dvs ds)(hx:zn CX X E)
  (ha:PA X (e::es) t) (hdb:(x == ("__debug__" : Str))=false:=by decide) (he:starEach (e::es) X.env=(false,eval e X.env)::starEach es X.env:=by rfl) (hpl:(backTo pos (starEach es X.env)).any (·.1)=false:=by rfl) :
  PE X (.Call (.Name x p) (e::es) [] pos) (ZB sp dvs E t):=by
 intro pins s Z H Q I h;refine wpAny_Call_Name_kw (qW I hg hm ?_ hdb);refine PySem.W.callWith_K (h₀:=X.base) I.ok.mod.kin hk (thn (ha pos pins s Z H _ I h) λus s1 hz35=>?_) he hpl;let(vs,H1,I1,r,q):=hz35;refine{I1.kIn,?_};exact JU F hr hb hd hx I1 r q
def qa8(F:FnOk X.prog X.w X.K X.mg X.base CX k f fd ps sp)(hr:Room k X.A)(hg:Gl X x)(hm:X.mg x=some (.ref f))(hk:PySem.W.keepIn X.K (.ref f)=true)(hb:qR X.K fd ps ds)(hd:qS dvs ds)(hx:zn CX X E)
  (hdb:(x == ("__debug__" : Str))=false:=by decide):PE X (.Call (.Name x p) [] [] pos) (ZB sp dvs E qcW):=by
 intro pins s Z H Q I h;refine wpAny_Call_Name_kw (qW I hg hm ?_ hdb);exact PySem.W.callWith_K0 I.kIn hk (JU (us:=[]) F hr hb hd hx I .nil h)
def qcZ{pl:Sem Bool}(he:PE X o ta)(c:Cls X.K C)(hm:Meth X.K C m f)(F:FnOk X.prog X.w X.K X.mg X.base CX k f fd ps sp)(hr:Room k X.A)(hb:qR X.K fd ps ds)(hd:qS dvs ds)(hx:zn CX X E)(ha:PA X (e::es) t)
  (hst:starEach (e::es) X.env=(false,eval e X.env)::starEach es X.env:=by rfl) (hpl:(backTo pos (starEach es X.env)).any (·.1)=false:=by rfl)
  (ht:eval (.Call (.Attribute o m apos) (e::es) [] pos) X.env=(do
   let ov<-eval o X.env
   standAt apos.atName
   let (f,first)<-holding [ov] (getMethod ov m pl)
   callWith pos f first (backTo pos (starEach (e::es) X.env)) (backToKw pos (keywordEach [] X.env))):=by rfl) :
  PE X (.Call (.Attribute o m apos) (e::es) [] pos) (qcX C m sp dvs E ta t):=by
 intro pins s Z H Q I h;refine PySem.W.methodCall_KW (pl:=pl) (thn (he pins s Z H _ I h) λu s1 hz36=>?_) ht;let(x,H1,I1,rx,a,dx,fs,ex,ea,l,q):=hz36;subst ex;obtain rfl:u=Value.ref a:=rx;refine yT I1 ea c hm l ?_;refine PySem.W.callWith_K (first:=[.ref a]) (h₀:=X.base) I.ok.mod.kin hm.kp (thn (ha pos pins s1 Z H1 _ I1 q) λus s2 hz37=>?_) hst hpl;let(vs,H2,I2,r,q2):=hz37;refine{I2.kIn,?_};exact JU (us:=.ref a::us) (vs:=.ref a::vs) F hr hb hd hx I2 (.cons rfl r) q2
def qa9{pl:Sem Bool}(he:PE X o ta)(c:Cls X.K C)(hm:Meth X.K C m f)(F:FnOk X.prog X.w X.K X.mg X.base CX k f fd ps sp)(hr:Room k X.A)(hb:qR X.K fd ps ds)(hd:qS dvs ds)(hx:zn CX X E)
  (ht:eval (.Call (.Attribute o m apos) [] [] pos) X.env=(do
   let ov<-eval o X.env
   standAt apos.atName
   let (f,first)<-holding [ov] (getMethod ov m pl)
   callWith pos f first (backTo pos (starEach [] X.env)) (backToKw pos (keywordEach [] X.env))):=by rfl) :
  PE X (.Call (.Attribute o m apos) [] [] pos) (qcX C m sp dvs E ta qcW):=by
 intro pins s Z H Q I h;refine PySem.W.methodCall_KW (pl:=pl) (thn (he pins s Z H _ I h) λu s1 hz38=>?_) ht;let(x,H1,I1,rx,a,dx,fs,ex,ea,l,q):=hz38;subst ex;obtain rfl:u=Value.ref a:=rx;refine yT I1 ea c hm l ?_;exact PySem.W.callWith_K0 (first:=[.ref a]) I1.kIn hm.kp (JU (us:=[.ref a]) (vs:=[.ref a]) F hr hb hd hx I1 %[rfl|0] q)
structure Mk(K:Frag)(C f:Addr):Prop where
 makes:PySem.W.makesIn K C=true
 init:PySem.W.findIn K (.ref C) "__init__" = some (some (.ref f))
 fn:PySem.W.isFn K (.ref f)=true
 kp:PySem.W.keepIn K (.ref C)=true
theorem Qf{pins:PP}{Z:St}{H:Hp}{s:Shared}{Q:VK}{us:List Value}{vs:List V}(M:Mk X.K C f)(F:FnOk X.prog X.w X.K X.mg X.base CX k f fd ps sp)(hr:Room (k+1) X.A)(hb:qR X.K fd ps ds)(hd:qS dvs ds)
  (hx:zn CX X E) (I:Inv X pins Z H s) (r:qS vs us)
  (h:∀x dx,H x=none->H dx=none->dx≠x->sp (.ref x::(vs++dvs)) (upd (upd H dx (.own x)) x (.ins C dx [])) (λv H2=>v=.non/\Q (.ref x) H2) E) :
  wpAny (model X.prog X.w) X.A (call (.ref C) us) (EP X pins Z Q) X.xe s:=by
 have hq:=h (s.heap.objs.size+1) s.heap.objs.size (I.hok.fresh (Nat.le_succ _)) (I.hok.fresh (Nat.le_refl _)) (Nat.ne_of_lt (Nat.lt_succ_self _));have I2:=Inv.made (C:=C) I;have r2:qS (V.ref (s.heap.objs.size+1)::(vs++dvs)) (Value.ref (s.heap.objs.size+1)::(us++ds)):=.cons rfl (r.append hd)
 have hl:(Value.ref (s.heap.objs.size+1)::us++ds).length=ps.length:=by have e:=r2.length;rw[F.len _ _ _ _ hq]at e;exact e.symm
 refine wpAny_call (qa7 (f:=f) I.kIn M.makes M.init (beq_iff_eq.mp M.fn) (codeAny_mono (F.run _ X.stack _ _ ⟨Value.ref (s.heap.objs.size+1)::us,[]⟩ (Value.ref (s.heap.objs.size+1)::(us++ds)) _ _ E (hr.make C us [])
  (I2.env0.make C us []) (hb _ (Value.ref (s.heap.objs.size+1)::us) I2.kIn hl) r2 hq) λr s' hq'=>?_))
 cases r with
 |error e=>exact hx pins Z _ _ e s' I2 hq'
 |ok fl=>
  cases fl with
  |ret u=>let(v,H',I3,rv,ev,q3):=I2.after hq';subst ev;exact{rv,{V.ref (s.heap.objs.size+1),H',I3,rfl,q3}}
  |next=>exact False.elim hq'
  |brk=>exact False.elim hq'
  |cont=>exact False.elim hq'
def qc0(M:Mk X.K C f)(F:FnOk X.prog X.w X.K X.mg X.base CX k f fd ps sp)(hr:Room (k+1) X.A)(hg:Gl X x)(hm:X.mg x=some (.ref C))(hb:qR X.K fd ps ds)(hd:qS dvs ds)(hx:zn CX X E)
  (ha:PA X (e::es) t) (hdb:(x == ("__debug__" : Str))=false:=by decide) (he:starEach (e::es) X.env=(false,eval e X.env)::starEach es X.env:=by rfl) (hpl:(backTo pos (starEach es X.env)).any (·.1)=false:=by rfl) :
  PE X (.Call (.Name x p) (e::es) [] pos) (qcY C sp dvs E t):=by
 intro pins s Z H Q I h;refine wpAny_Call_Name_kw (qW I hg hm ?_ hdb);refine PySem.W.callWith_K (h₀:=X.base) I.ok.mod.kin M.kp (thn (ha pos pins s Z H _ I h) λus s1 hz39=>?_) he hpl;let(vs,H1,I1,r,q):=hz39;refine{I1.kIn,?_};exact Qf M F hr hb hd hx I1 r q
def qba(M:Mk X.K C f)(F:FnOk X.prog X.w X.K X.mg X.base CX k f fd ps sp)(hr:Room (k+1) X.A)(hg:Gl X x)(hm:X.mg x=some (.ref C))(hb:qR X.K fd ps ds)(hd:qS dvs ds)(hx:zn CX X E)
  (hdb:(x == ("__debug__" : Str))=false:=by decide):PE X (.Call (.Name x p) [] [] pos) (qcY C sp dvs E qcW):=by
 intro pins s Z H Q I h;refine wpAny_Call_Name_kw (qW I hg hm ?_ hdb);exact PySem.W.callWith_K0 I.kIn M.kp (Qf (us:=[]) M F hr hb hd hx I .nil h)
end
structure FnScope(N P:List Str)(sc:Scope):Prop where
 kind:sc.kind=.function
 co:sc.isCoroutine=false
 gen:sc.isGenerator=false
 nd:N.Nodup
 pre:N.take P.length=P
 par:∀x∈P,sc.names.lookup x=some .local\/sc.names.lookup x=some .cell
 nofree:∀y∈sc.names,y.2≠.free
theorem JV{kindOf:Str->Option NameKind}{x:Str}:∀{binds:List (Str×Value)} {m:PR},(∀v,(x,v)∉binds)->bindL kindOf binds m x=m x
 |[],_,_=>rfl
 | (n,v)::r,m,h=>by
  unfold bindL;rw[JV λw hw=>h w (List.mem_cons_of_mem _ hw)];split
  ·have:x≠n:=by rintro rfl;exact h v List.mem_cons_self
   simp[this]
  ·rfl
theorem JW{kindOf:Str->Option NameKind}{x:Str}:∀{binds:List (Str×Value)} {m:PR},(∀v,(x,v)∉binds)->bindC kindOf binds m x=m x
 |[],_,_=>rfl
 | (n,v)::r,m,h=>by
  unfold bindC;rw[JW λw hw=>h w (List.mem_cons_of_mem _ hw)];split
  ·rfl
  ·have:x≠n:=by rintro rfl;exact h v List.mem_cons_self
   simp[this]
theorem JX{kindOf:Str->Option NameKind}{x:Str}{v:Value}:∀{P:List Str} {vs:List Value} {i:Nat} {m:PR},P.Nodup->P[i]?=some x->vs[i]?=some v->kindOf x=some .local->
  bindL kindOf (P.zip vs) m x=some v
 |[],_,_,_,_,h,_,_=>by simp at h
 | _::_,[],_,_,_,_,h,_=>by simp at h
 | p::P,w::vs,0,m,nd,h1,h2,hk=>by simp at h1 h2;subst h1;subst h2;show bindL kindOf ((p,w)::P.zip vs) m p=_;unfold bindL;rw[JV λv hv=>(List.nodup_cons.mp nd).1 (List.of_mem_zip hv).1,if_pos hk];simp
 | p::P,w::vs,i+1,m,nd,h1,h2,hk=>by show bindL kindOf ((p,w)::P.zip vs) m x=_;unfold bindL;exact JX (i:=i) (List.nodup_cons.mp nd).2 (-h1:) (-h2:) hk
theorem JY{kindOf:Str->Option NameKind}{x:Str}{v:Value}:∀{P:List Str} {vs:List Value} {i:Nat} {m:PR},P.Nodup->P[i]?=some x->vs[i]?=some v->kindOf x≠some .local->
  bindC kindOf (P.zip vs) m x=some v
 |[],_,_,_,_,h,_,_=>by simp at h
 | _::_,[],_,_,_,_,h,_=>by simp at h
 | p::P,w::vs,0,m,nd,h1,h2,hk=>by simp at h1 h2;subst h1;subst h2;show bindC kindOf ((p,w)::P.zip vs) m p=_;unfold bindC;rw[JW λv hv=>(List.nodup_cons.mp nd).1 (List.of_mem_zip hv).1,if_neg hk];simp
 | p::P,w::vs,i+1,m,nd,h1,h2,hk=>by show bindC kindOf ((p,w)::P.zip vs) m x=_;unfold bindC;exact JY (i:=i) (List.nodup_cons.mp nd).2 (-h1:) (-h2:) hk
def jX(N:List Str)(vs:List V):St:=vs.map some++List.replicate (N.length - vs.length) none
def YO(CX:CXT)(P:Program)(w:World)(K:Frag)(mg:PR)(base:Heap)(N:List Str)(qual:Str)(scope:Scope)(f:Addr)(cd:Value)(A:Around)(outer:List Env)(s:Shared)(H:Hp)(E:XK):Cx where
 prog:=P
 w:=w
 K:=K
 mg:=mg
 base:=base
 A:=A.deeper (envOfC qual scope s.heap.objs.size f cd)
 N:=N
 s₀:=s
 Hv:=H
 env:=envOfC qual scope s.heap.objs.size f cd
 outer:=outer
 stack:=envOfC qual scope s.heap.objs.size f cd::outer
 ex:=[]
 calm:=true
 fn:=λ_=>true
 pn:=[]
 xe:=λe s'=>wpAny (model P w) (A.deeper (envOfC qual scope s.heap.objs.size f cd)) (leaving (envOfC qual scope s.heap.objs.size f cd) e) (λ_ s''=>CX outer H s E e s'') (λe' s''=>CX outer H s E e' s'') s'
def Qg{sc:Scope}{n:Nat}{x:Str}(h:sc.names.lookup x=some .cell):∃c,(cellsFrom n sc.names []).lookup x=some c:=by have q:=PySem.W.cellsFrom_some sc.names n [] (.inl h);exact Option.isSome_iff_exists.mp q
def ZC{CX:CXT}{P:Program}{w:World}{K:Frag}{mg:PR}{base:Heap}{N ps:List Str}{qual:Str}{scope:Scope}{f:Addr}{cd:Value}{A:Around}{outer:List Env}{s s1:Shared}{H:Hp}{E:XK}{us:List Value}{vs:List V}
  (S:FnScope N ps scope) (hd:A.handled=none) (e0:Env0 P w K mg base A outer s H) (hl:vs.length=ps.length) (r:qS vs us)
  (x:InCallC s s.heap.objs.size (bindL (envOfC qual scope s.heap.objs.size f cd).kindOf (ps.zip us) λ_=>none) (cellsFrom (s.heap.objs.size+1) scope.names []) (bindC (envOfC qual scope s.heap.objs.size f cd).kindOf (ps.zip us) λ_=>none) s1) :
  Inv (YO CX P w K mg base N qual scope f cd A outer s H E) [] (jX N vs) H s1:=by
 have hpl:ps.length<=N.length:=by have:=congrArg List.length S.pre;rw[List.length_take]at this;lia
 let(h1,tk,rfl,hk):=x.done;have noA:∀b:Addr,b∉(YO CX P w K mg base N qual scope f cd A outer s H E).ex:=λb z=>absurd (show b∈([]:List Addr) from z) (5:)
 refine{{e0.mod,S.kind,rfl,rfl,Nat.le_refl _,λy z c h1 h2=>?_,λy hy=>?_,λy c _ h=>?_,λ_=>hd,Around.frames_deeper e0.frames,.inr ⟨rfl,rfl⟩,λb z=>absurd z (noA b),e0.bs,e0.bsz,λb _ _=>noA b,λb z=>absurd z (noA b),e0.funs,e0.frf},
  rfl,e0.bare,Un.kept hk,{_,x.toInCall.ns,λi y v h1 h2 h3=>?_},λy c h=>{_,x.cell y c h},e0.hok.fresh (Nat.le_refl _),λy c h=>?_,λp hp=>absurd (show p∈([]:PP) from hp) (5:),e0.hok.kept hk,?_}
 ·exact name_of_addr x.apart (PySem.mem_of_lookup h1) (PySem.mem_of_lookup h2)
 ·have hy:scope.names.lookup y=some .cell\/scope.names.lookup y=some .free:=hy;rcases hy with hy|hy
  ·exact Qg hy
  ·exact absurd rfl (S.nofree _ (PySem.mem_of_lookup hy))
 ·exact Nat.le_of_lt (x.above y c (PySem.mem_of_lookup h))
 ·have hi:i < vs.length:=by
   unfold jX at h2
   by_cases hi:i < vs.length
   ·exact hi
   ·rw[List.getElem?_append_right (-hi:)]at h2;rw[List.getElem?_replicate]at h2
    split at h2<;>cases h2
  have ha:vs[i]?=some v:=by
   unfold jX at h2;rw[List.getElem?_append_left (-hi:),List.getElem?_map]at h2
   cases e:vs[i]? with
   |none=>rw[e]at h2;cases h2
   |some a=>rw[e]at h2;cases h2;rfl
  let(u,hu,rv):=r.get ha
  have hp:ps[i]?=some y:=by rw[<-S.pre,List.getElem?_take_of_lt (1:)];exact h1
  have ndP:ps.Nodup:=by rw[<-S.pre];exact S.nd.sublist (List.take_sublist _ _)
  refine{u,rv,?_};rcases S.par y (List.mem_of_getElem? hp) with k|k
  ·exact .inl ⟨k,JX ndP hp hu k⟩
  ·let(c,e):=Qg (n:=s.heap.objs.size+1) k;refine .inr ⟨.inl k,c,e,?_⟩;have q:=x.cell y c e;rw[JY ndP hp hu (by show scope.names.lookup y≠_;rw[k];decide)]at q;exact q
 ·exact e0.hok.fresh (Nat.le_of_lt (x.above y c (PySem.mem_of_lookup h)))
 ·unfold jX;show _=N.length;rw[List.length_append,List.length_map,List.length_replicate]
  lia
theorem qeS{CX:CXT}{P:Program}{w:World}{K:Frag}{mg:PR}{base:Heap}{k:Nat}{f:Addr}{name qual:Str}{params:Arguments}{body:List Stmt}{scope:Scope}{dV kV doc pm cdv ct oc:Value}{an od:Option Addr}
  {osl:Array (Option Value)} {N ps:List Str} {sp:Sp} (lk:K.lookup f=some ⟨oc,od,.func (PySem.W.fnOf name qual params body scope dV kV doc pm an cdv ct),osl⟩) (hcd:PySem.W.codeIn K cdv qual=true) (S:FnScope N ps scope)
  (len:∀vs H Q E,sp vs H Q E->vs.length=ps.length)
  (hbody:∀(A:Around) (outer:List Env) (s:Shared) (H:Hp) (vs:List V) (Q:VK) (E:XK),Room k (A.deeper (envOfC qual scope s.heap.objs.size f cdv))->sp vs H Q E->
   ∃t,PSs (YO CX P w K mg base N qual scope f cdv A outer s H E) body t/\t { nx:=λ_ H'=>Q .non H',rt:=Q } (jX N vs) H) :
  FnOk P w K mg base CX (k+1) f (PySem.W.fnOf name qual params body scope dV kV doc pm an cdv ct) ps sp:=by
 refine{len,λA outer s H args us vs Q E hr e0 hb r hsp=>?_};have hl:=len _ _ _ _ hsp;have KX:K.In s.heap:=e0.mod.kin.keeps λb o e=>(e0.bs b o e).1;have lim:s.heap.NoLimit:=e0.mod.nolimit.keeps λb o e=>(e0.bs b o e).1
 have hkind:∀y∈ps.zip us,scope.names.lookup y.1=some .local\/(scope.names.lookup y.1=some .cell/\((cellsFrom (s.heap.objs.size+1) scope.names []).lookup y.1).isSome=true):=λ⟨n,v⟩ hy=>by
  rcases S.par n (List.of_mem_zip hy).1 with q|q
  ·exact .inl q
  ·exact .inr ⟨q,PySem.W.cellsFrom_some _ _ _ (.inl q)⟩
 refine codeAny_call_function hr.depth (KX _ _ lk) rfl S.co S.gen rfl (PySem.W.codeRec_of KX hcd) (hb _ _ _ _ ?_);refine wpAny_newFunctionEnv_cells S.kind hkind λenv he s1 x=>?_;subst he;refine{lim.keeps x.toInCall.keep,codeAny_func ?_};let(t,ht,hq):=hbody A outer s H vs Q E (hr.deeper _) hsp;have I:Inv (YO CX P w K mg base N qual scope f cdv A outer s H E) [] (jX N vs) H s1:=ZC S hr.hd e0 hl r x;refine wpAny_mono (ht [] s1 (jX N vs) H _ I hq) (λfl s' hs=>?_) λe s' hs=>hs
 have fin:∀{Z':St} {H':Hp} {v:V} {u:Value},Inv (YO CX P w K mg base N qual scope f cdv A outer s H E) [] Z' H' s'->qQ v u->Q v H'->CE outer P w H s Q u s':=
  λ{Z' H' v u} J rv q=>⟨v,H',J.os,J.bare,J.base,J.hok,rv,q⟩
 cases fl with
 |ret u=>let(v,Z',H',J,rv,q):=hs;exact fin J rv q
 |next=>let(Z',H',J,q):=hs;exact fin (v:=V.non) (u:=Value.none) J rfl q
 |brk=>let(_,_,_,q):=hs;exact False.elim q
 |cont=>let(_,_,_,q):=hs;exact False.elim q
section
variable{X:Cx}{x:Str}{p pos:Pos}{e:Expr}{es:List Expr}{t:TA}{id T:String}{r:List V->Hp->VK->Prop}
def tCB(r:List V->Hp->VK->Prop)(t:TA):TE:=λZ H Q=>t Z H λvs H1=>r vs H1 Q
def jm(hc:ja X (.builtin id) r)(hg:Gl X x)(hm:X.mg x=none)(hv:bootBuiltins x=some (.builtin id))(ha:PA X (e::es) t)(hn:x≠"__name__":=by decide)(hdb:(x == ("__debug__" : Str))=false:=by decide)
  (he:starEach (e::es) X.env=(false,eval e X.env)::starEach es X.env:=by rfl) (hpl:(backTo pos (starEach es X.env)).any (·.1)=false:=by rfl):PE X (.Call (.Name x p) (e::es) [] pos) (tCB r t):=by
 intro pins s Z H Q I h;refine wpAny_Call_Name_kw (Qd I hg hm hv ?_ hn hdb);refine PyProof.Rows.callWith_builtin1 (thn (ha pos pins s Z H _ I h) λus s1 hz44=>?_) he hpl;let(vs,H1,I1,r1,q1):=hz44;exact hc pins s1 Z H1 vs us Q I1 r1 q1
def yi(hc:ja X (.type T) r)(hg:Gl X x)(hm:X.mg x=none)(hv:bootBuiltins x=some (.type T))(ha:PA X (e::es) t)(hn:x≠"__name__":=by decide)(hdb:(x == ("__debug__" : Str))=false:=by decide)
  (he:starEach (e::es) X.env=(false,eval e X.env)::starEach es X.env:=by rfl) (hpl:(backTo pos (starEach es X.env)).any (·.1)=false:=by rfl):PE X (.Call (.Name x p) (e::es) [] pos) (tCB r t):=by
 intro pins s Z H Q I h;refine wpAny_Call_Name_kw (Qd I hg hm hv ?_ hn hdb);refine PyProof.Rows.callWith_type1 (thn (ha pos pins s Z H _ I h) λus s1 hz45=>?_) he hpl;let(vs,H1,I1,r1,q1):=hz45;exact hc pins s1 Z H1 vs us Q I1 r1 q1
end
abbrev TO:=St->Hp->(Option Int->Hp->Prop)->Prop
def PO(X:Cx)(e:Option Expr)(t:TO):Prop:=
 ∀(pins:PP) (s:Shared) (Z:St) (H:Hp) (Q:Option Int->Hp->Prop),Inv X pins Z H s->t Z H Q->
  wpAny (model X.prog X.w) X.A (evalPart e X.env) (λu s'=>∃o H',Inv X pins Z H' s'/\IsPart u o/\Q o H') X.xe s
def qc1:TO:=λ_ H Q=>Q none H
def qhp(t:TE):TO:=λZ H Q=>t Z H λx H1=>∃i,x=.int i/\Q (some i) H1
section
variable{X:Cx}{e:Expr}{te:TE}{lo hi:Option Expr}{tl th:TO}{pos p2:Pos}
def qc2:PO X none qc1:=by intro pins s Z H Q I h;rw[evalPart_none];exact wpAny_pure ⟨none,H,I,.none,h⟩
def qc3(h:PE X e te):PO X (some e) (qhp te):=by intro pins s Z H Q I hw;rw[evalPart_some];refine thn (h pins s Z H _ I hw) λu s1 hq1=>?_;let(x,H1,I1,r1,q1):=hq1;let(i,rfl,q):=q1;let(t,rfl):=r1;exact{some i,H1,I1,.int i t,q}
def SlR(X:Cx)(r:V->Option Int->Option Int->Hp->VK->Prop):Prop:=
 ∀(pins:PP) (s:Shared) (Z:St) (H:Hp) (x:V) (v vl vu:Value) (lo hi:Option Int) (sl:Addr) (Q:VK),Inv X pins Z H s->qQ x v->s.heap.IsSliceOf sl vl vu .none->IsPart vl lo->IsPart vu hi->r x lo hi H Q->
  ∃T id,typeLookup (.type T) "__getitem__" = pure (some (.builtin id))/\s.TypeIs v T/\wpAny (model X.prog X.w) X.A (getItem v (.ref sl)) (EP X pins Z Q) X.xe s
def tSl(r:V->Option Int->Option Int->Hp->VK->Prop)(te:TE)(tl th:TO):TE:=λZ H Q=>te Z H λx H1=>tl Z H1 λl H2=>th Z H2 λu H3=>r x l u H3 Q
def qbb{r:V->Option Int->Option Int->Hp->VK->Prop}(hr:SlR X r)(he:PE X e te)(hl:PO X lo tl)(hu:PO X hi th):PE X (.Subscript e (.Slice lo hi none p2) pos) (tSl r te tl th):=by intro pins s Z H Q I h;refine Subscript_ (thn (he pins s Z H _ I h) λv s1 hq1=>?_);let(x,H1,I1,r1,q1):=hq1;refine wpAny_Slice (thn (hl pins s1 Z H1 _ I1 q1) λvl s2 hz46=>?_);let(l,H2,I2,pl,q2):=hz46;refine thn (hu pins s2 Z H2 _ I2 q2) λvu s3 hq1=>?_;let(u,H3,I3,pu,q3):=hq1;rw[evalPart_none];refine wpAny_pure ?_;have I4:Inv X pins Z H3 { s3 with heap:=s3.heap.push { cls:=.type "slice",data:=.fields #[vl,vu,.none] } }:=I3.kept (t':=s3.toks) λb ob q=>Heap.get?_push_of_some _ q;let(T,id,hT,ht,hg):=hr pins { s3 with heap:=s3.heap.push { cls:=.type "slice",data:=.fields #[vl,vu,.none] } } Z H3 x v vl vu l u s3.heap.objs.size Q I4 r1 (Heap.IsSliceOf.new ..) pl pu q3;show wpAny (model X.prog X.w) X.A (subscriptTail e (.Slice lo hi none p2) v (.ref s3.heap.objs.size)) (EP X pins Z Q) X.xe { s3 with heap:=s3.heap.push { cls:=.type "slice",data:=.fields #[vl,vu,.none] } };exact tail_any (ops:=[.ref s3.heap.objs.size,v]) ht hT hg (by with_unfolding_all rfl)
end
def ixN(n:Nat)(i:Int):Option Nat:=if 0<=i then (if i < n then some i.toNat else none) else if -(n:Int)<=i then some (i+n).toNat else none
def atI{α:Type}(xs:List α)(i:Int):Option α:=(ixN xs.length i).bind λj=>xs[j]?
def qc4{n:Nat}{i:Int}{j:Nat}(h:ixN n i=some j):seqIndex? i n=some j/\j < n/\-(n:Int)<=i/\i < n:=by
 unfold ixN at h
 by_cases h0:0<=i
 ·rw[if_pos h0]at h
  by_cases h1:i < n
  ·rw[if_pos h1]at h;have e:i.toNat=j:=Option.some.inj h;exact{by rw[seqIndex_of h0 h1,e],by lia,by lia,h1}
  ·rw[if_neg h1]at h;cases h
 ·rw[if_neg h0]at h
  by_cases h1:-(n:Int)<=i
  ·rw[if_pos h1]at h;have e:(i+n).toNat=j:=Option.some.inj h;exact{by rw[seqIndex_neg (1:) h1,e],by lia,h1,by lia}
  ·rw[if_neg h1]at h;cases h
theorem YQ{α:Type}{xs:List α}{i:Int}{v:α}(h:atI xs i=some v):∃j,seqIndex? i xs.length=some j/\xs[j]?=some v/\j < xs.length/\-(xs.length:Int)<=i/\i < xs.length:=by
 unfold atI at h
 cases e:ixN xs.length i with
 |none=>rw[e]at h;cases h
 |some j=>rw[e]at h;let(h1,h2,h3,h4):=qc4 e;exact⟨j,h1,h,h2,h3,h4⟩
def ZD(b:Expr):Prop:=∀o i,subscripted b false o i=operate [o,i] (getItem o i)
def IxR(X:Cx)(r:R2):Prop:=
 ∀(value slice:Expr) (pins:PP) (s:Shared) (Z:St) (H:Hp) (x y:V) (v u:Value) (Q:VK),Inv X pins Z H s->qQ x v->qQ y u->r x y H Q->
  subscripted slice false v u=operate [v,u] (getItem v u)->wpAny (model X.prog X.w) X.A (subscriptTail value slice v u) (EP X pins Z Q) X.xe s
def MtR(X:Cx)(id:String)(r:V->List V->Hp->VK->Prop):Prop:=
 ∀(pins:PP) (s:Shared) (Z:St) (H:Hp) (x:V) (xs:List V) (v:Value) (us:List Value) (Q:VK),Inv X pins Z H s->qQ x v->qS xs us->r x xs H Q->
  wpAny (model X.prog X.w) X.A (call (.builtin id) (v::us)) (EP X pins Z Q) X.xe s
section
variable{X:Cx}{a b:Expr}{ta tb:TE}{pos:Pos}
def qhq{r:R2}(hr:IxR X r)(ha:PE X a ta)(hb:PE X b tb)(hs:ZD b):PE X (.Subscript a b pos) (tOp r ta tb):=by intro pins s Z H Q I h;exact Subscript_ (qhh ha hb I h λv u s2 x y H2 I2 rx ry q=>hr a b pins s2 Z H2 x y v u Q I2 rx ry q (hs _ _))
def qi5(K:Frag):R2:=λx y H Q=>∃p xs i v,x=.ref p/\y=.int i/\SqL K H p xs/\atI xs i=some v/\Q v H
def qi6(K:Frag):R2:=λx y H Q=>∃p xs i v,x=.ref p/\y=.int i/\SqT K H p xs/\atI xs i=some v/\Q v H
def qi7:R2:=λx y H Q=>∃z i c,x=.str z/\y=.int i/\z.length<=sizeLine/\atI z.cps.toList i=some c/\Q (.str ⟨#[c]⟩) H
def qc5:IxR X (qi5 X.K):=by
 intro value slice pins s Z H x y v u Q I rx ry h hs;let(p,xs,i,z,rfl,rfl,hq,he,q):=h;cases rx;let(t,rfl):=ry;let(its,r,pl,hz):=I.list hq;let(j,h1,h2,h3,h4,h5):=YQ he;let(w,ew,rw'):=r.get h2;have hl:=r.length;have hn:=yS;have fin:EP X pins Z Q w s:=⟨z,H,I,rw',q⟩
 by_cases h0:0<=i
 ·have hj:i.toNat=j:=by
   rw[seqIndex_of h0 h5]at h1;exact Option.some.inj h1
  exact item_listR pl.isList h0 (1:) (by rw[hj];simpa using ew) fin hs
 ·have hj:(i+(its.toArray.size:Int)).toNat=j:=by
   rw[seqIndex_neg (1:) h4]at h1;rw[List.size_toArray,<-hl];exact Option.some.inj h1
  exact subscriptTail_builtinR (x:=w) pl.isList.typeIs slot_list_getitem.lookup
   (wpAny_getItem_list_neg (Q:=λr s'=>r=w/\EP X pins Z Q r s') pl.isList (1:) (by rw[List.size_toArray]<;>lia) (1:) (by rw[hj];simpa using ew) ⟨rfl,fin⟩) hs
def qeT:IxR X (qi6 X.K):=by
 intro value slice pins s Z H x y v u Q I rx ry h hs;let(p,xs,i,z,rfl,rfl,hq,he,q):=h;cases rx;let(t,rfl):=ry;let(its,r,pl,hz):=I.tuple hq;let(j,h1,h2,h3,h4,h5):=YQ he;let(w,ew,rw'):=r.get h2;have hl:=r.length;have hn:=yS;have fin:EP X pins Z Q w s:=⟨z,H,I,rw',q⟩
 exact subscriptTail_builtinR (x:=w) pl.typeIs slot_tuple_getitem.lookup
  (getItem_tuple (j:=j) (Q:=λr s'=>r=w/\EP X pins Z Q r s') pl (1:) (1:) (by rw[List.size_toArray,<-hl];exact h1) (-ew:) ⟨rfl,fin⟩) hs
def qeU:IxR X qi7:=by
 intro value slice pins s Z H x y v u Q I rx ry h hs;let(z,i,c,rfl,rfl,hz,he,q):=h;let(t,rfl):=rx;let(t',rfl):=ry;let(j,h1,h2,h3,h4,h5):=YQ he;have hl:z.cps.toList.length=z.length:=by simp[Str.length]
 rw[hl]at h1 h4 h5;have hn:=yS
 exact tail_any (typeIs_str s z t) slot_str_getitem.lookup (getItem_str (c:=c) (by have e1:decide (i < -(2 ^ 63:Int))=false:=decide_eq_false (1:);have e2:decide (i≥2 ^ 63)=false:=decide_eq_false (1:);rw[e1,e2,Bool.or_false]) (by rw[h1];simpa using h2) ⟨.str ⟨#[c]⟩,H,I.tok _,⟨_,rfl⟩,q⟩) hs
def yj:V->Bool
 |.non=>true
 |.bl _=>true
 |.int _=>true
 |.str _=>true
 |_=>false
def eqV:V->V->Bool
 |.non,.non=>true
 |.bl a,.bl b=>a == b
 |.bl a,.int b=>(if a then 1 else 0) == b
 |.int a,.bl b=>a == (if b then 1 else 0)
 |.int a,.int b=>a == b
 |.str a,.str b=>a == b
 |_,_=>false
theorem qeV{A:Around}{s:Shared}{y x:V}{u v:Value}(ry:qQ y u)(rx:qQ x v)(fy:yj y=true)(fx:yj x=true):SeqAt.EqAt A s u v (eqV y x):=by
 cases y with
 |non=>
  cases ry
  cases x with
  |non=>cases rx;exact SeqAt.EqAt.same _
  |bl b=>cases rx;exact SeqAt.EqAt.none_bool b
  |int b=>let(t,rfl):=rx;exact SeqAt.EqAt.none_int b t
  |str b=>let(t,rfl):=rx;exact SeqAt.EqAt.none_str b t
  |_=>exact absurd (show false=true from fx) Bool.false_ne_true
 |bl a=>
  cases ry
  cases x with
  |non=>cases rx;exact SeqAt.EqAt.bool_none a
  |bl b=>cases rx;exact SeqAt.EqAt.bool_bool a b
  |int b=>let(t,rfl):=rx;exact SeqAt.EqAt.bool_int a b t
  |str b=>let(t,rfl):=rx;exact SeqAt.EqAt.bool_str a b t
  |_=>exact absurd (show false=true from fx) Bool.false_ne_true
 |int a=>
  let(t',rfl):=ry
  cases x with
  |non=>cases rx;exact SeqAt.EqAt.int_none a t'
  |bl b=>cases rx;exact SeqAt.EqAt.int_bool a t' b
  |int b=>let(t,rfl):=rx;exact SeqAt.EqAt.int_int a t' b t
  |str b=>let(t,rfl):=rx;exact SeqAt.EqAt.int_str a t' b t
  |_=>exact absurd (show false=true from fx) Bool.false_ne_true
 |str a=>
  let(t',rfl):=ry
  cases x with
  |non=>cases rx;exact SeqAt.EqAt.str_none a t'
  |bl b=>cases rx;exact SeqAt.EqAt.str_bool a t' b
  |int b=>let(t,rfl):=rx;exact SeqAt.EqAt.str_int a t' b t
  |str b=>let(t,rfl):=rx;exact SeqAt.EqAt.str_str a t' b t
  |_=>exact absurd (show false=true from fx) Bool.false_ne_true
 |_=>exact absurd (show false=true from fy) Bool.false_ne_true
def eqU(x:V)(u:Value):Bool:=match u with
 |.none=>eqV .non x
 |.bool b=>eqV (.bl b) x
 |.int i _=>eqV (.int i) x
 |.str z _=>eqV (.str z) x
 |_=>false
theorem qcd{x y:V}{u:Value}(r:qQ y u)(f:yj y=true):eqU x u=eqV y x:=by
 cases y with
 |non=>cases r;rfl
 |bl b=>cases r;rfl
 |int i=>let(t,rfl):=r;rfl
 |str z=>let(t,rfl):=r;rfl
 |_=>exact absurd (show false=true from f) Bool.false_ne_true
theorem yk{x:V}:∀{xs:List V} {us:List Value},qS xs us->xs.all yj=true->us.any (eqU x)=xs.any λy=>eqV y x
 |_,_,.nil,_=>rfl
 | y::xs,u::us,.cons r t,f=>by rw[List.all_cons,Bool.and_eq_true]at f;rw[List.any_cons,List.any_cons,qcd r f.1,yk t f.2]
theorem j4{A:Around}{s:Shared}{x:V}{v:Value}(rx:qQ x v)(fx:yj x=true){xs:List V}{us:List Value}(h:qS xs us)(f:xs.all yj=true):∀u∈us,SeqAt.EqAt A s u v (eqU x u):=by
 induction h with
 |nil=>intro u hu;cases hu
 |cons r t ih=>
  intro u' hu;rw[List.all_cons,Bool.and_eq_true]at f;rcases List.mem_cons.mp hu with rfl|hu
  ·rw[qcd r f.1];exact qeV r rx f.1 fx
  ·exact ih f.2 u' hu
def inV(x:V)(xs:List V):Bool:=xs.any λy=>eqV y x
def rIn(K:Frag)(neg:Bool):R2:=λx y H Q=>∃p xs,y=.ref p/\(SqL K H p xs\/SqT K H p xs)/\yj x=true/\xs.all yj=true/\Q (.bl (if neg then !inV x xs else inV x xs)) H
def ZE:OpR X (compareOp .In) (rIn X.K false):=by
 intro pins s Z H x y v u Q I rx ry h;let(p,xs,rfl,hq,fx,fs,q):=h;cases ry;rcases hq with hq|hq
 ·let(its,r,pl,hz):=I.list hq;refine SeqAt.in_listAt (eqU x) pl.isList (λw hw=>j4 rx fx r fs w (-hw:)) ⟨.bl _,H,I,rfl,?_⟩;rw[show its.toArray.any (eqU x)=its.any (eqU x) by simp,yk r fs];exact q
 ·let(its,r,pl,hz):=I.tuple hq;refine SeqAt.in_tupleAt (eqU x) pl (λw hw=>j4 rx fx r fs w (-hw:)) ⟨.bl _,H,I,rfl,?_⟩;rw[show its.toArray.any (eqU x)=its.any (eqU x) by simp,yk r fs];exact q
def JZ:OpR X (compareOp .NotIn) (rIn X.K true):=by
 intro pins s Z H x y v u Q I rx ry h;let(p,xs,rfl,hq,fx,fs,q):=h;cases ry;rcases hq with hq|hq
 ·let(its,r,pl,hz):=I.list hq;refine SeqAt.notIn_listAt (eqU x) pl.isList (λw hw=>j4 rx fx r fs w (-hw:)) ⟨.bl _,H,I,rfl,?_⟩;rw[show its.toArray.any (eqU x)=its.any (eqU x) by simp,yk r fs];exact q
 ·let(its,r,pl,hz):=I.tuple hq;refine SeqAt.notIn_tupleAt (eqU x) pl (λw hw=>j4 rx fx r fs w (-hw:)) ⟨.bl _,H,I,rfl,?_⟩;rw[show its.toArray.any (eqU x)=its.any (eqU x) by simp,yk r fs];exact q
def J0:ja X (.builtin "len") (λxs H Q=>∃p ys,xs=[.ref p]/\(SqL X.K H p ys\/SqT X.K H p ys)/\Q (.int ys.length) H):=by
 intro pins s Z H xs us Q I r h;let(p,ys,rfl,hq,q):=h;let(u,rfl,rx):=YN r;cases rx;have hn:=yS;rcases hq with hq|hq
 ·let(its,r',pl,hz):=I.list hq;have hlen:=r'.length;exact Calls.call_len_list pl.isList (by simp![List.size_toArray]<;>lia) ⟨.int ys.length,H,I.tok _,⟨s.toks+1,by rw[List.size_toArray,hlen]⟩,q⟩
 ·let(its,r',pl,hz):=I.tuple hq;have hlen:=r'.length;exact len_tuple pl (by simp![List.size_toArray]<;>lia) ⟨.int ys.length,H,I.tok _,⟨s.toks+1,by rw[List.size_toArray,hlen]⟩,q⟩
def J1:ja X (.builtin "len") (λxs H Q=>∃z,xs=[.str z]/\z.length<=sizeLine/\Q (.int z.length) H):=by intro pins s Z H xs us Q I r h;let(z,rfl,hz,q):=h;let(u,rfl,t,rfl):=YN r;have hn:=yS;exact len_str (1:) ⟨.int z.length,H,I.tok _,⟨_,rfl⟩,q⟩
def Jf:ja X (.type "tuple") (λxs H Q=>∃p ys,xs=[.ref p]/\((SqL X.K H p ys/\∀l,H l=none->Q (.ref l) (upd H l (.tup ys)))\/(SqT X.K H p ys/\Q (.ref p) H))):=by
 intro pins s Z H xs us Q I r h;let(p,ys,rfl,h):=h;let(u,rfl,rx):=YN r;cases rx;rcases h with ⟨hq,q⟩|⟨hq,q⟩
 ·let(its,r',pl,hz):=I.list hq;have hlen:=r'.length;refine call_tuple_list pl.isList (λh' kp=>?_) (by simp![List.size_toArray]<;>lia);have I1:Inv X pins Z H { s with heap:=h' }:=I.kept (t':=s.toks) kp
  have I2:Inv X pins Z (upd H h'.objs.size (.tup ys)) { s with heap:=h'.push { cls:=.type "tuple",data:=.seq its.toArray } }:=
   I1.laid (t':=s.toks) (λb o e=>Heap.get?_push_of_some _ e) (Nat.le_refl _) (show za X.prog X.w _ _ _ (.tup ys) from⟨hz,its,r',IsTup.new _ _⟩)
  exact{.ref h'.objs.size,_,I2,rfl,q _ (I1.hok.fresh (Nat.le_refl _))}
 ·let(its,r',pl,hz):=I.tuple hq;exact call_tuple_same pl ⟨.ref p,H,I,rfl,q⟩
def tyV(K:Frag)(T:String)(x:V)(H:Hp):Prop:=match x with
 |.str _=>T = "str"
 |.int _=>T = "int"
 |.ref p=>(T = "list"/\∃xs,SqL K H p xs)\/(T = "tuple"/\∃o,K.lookup p=some o/\o.cls=.type "tuple"/\o.dict=none)\/
   (T = "dict"/\((∃kvs,H p=some (.dK kvs))\/∃kvs,H p=some (.dT kvs)))\/(T = "set"/\∃S n,H p=some (.set S n))
 |_=>False
theorem qeW{pins:PP}{Z:St}{H:Hp}{s:Shared}{T:String}{x:V}{v:Value}(I:Inv X pins Z H s)(r:qQ x v)(ty:tyV X.K T x H) :
  s.TypeIs v T/\∀a,v=.ref a->∃ob,s.heap.get? a=some ob/\ob.dict=none:=by
 cases x with
 |str z=>
  let(t,rfl):=r
  cases (show T = "str" from ty)
  exact{typeIs_str s z t,λ_ e=>nomatch e}
 |int i=>
  let(t,rfl):=r
  cases (show T = "int" from ty)
  exact{typeIs_int s i t,λ_ e=>nomatch e}
 |ref p=>
  cases r;rcases ty with ⟨rfl,xs,hq⟩|⟨rfl,o,hk,hc,hd⟩|⟨rfl,hk⟩|⟨rfl,S,n,hk⟩
  ·let(its,_,pl,_):=I.list hq;refine{pl.isList.typeIs,λa e=>?_};cases e;let(o,n,e,c,hd,_):=pl;exact⟨o,e,hd⟩
  ·refine{{o,I.kIn p o hk,hc},λa e=>?_};cases e;exact{o,I.kIn _ o hk,hd}
  ·have z:∃o,s.heap.get? p=some o/\o.ExactDict:=by
    rcases hk with ⟨kvs,hk⟩|⟨kvs,hk⟩
    ·let(_,_,_,_,o,_,_,e,ex,_):=I.hok p _ hk;exact⟨o,e,ex⟩
    ·let(_,_,_,_,o,_,_,e,ex,_):=I.hok p _ hk;exact⟨o,e,ex⟩
   let(o,e,ex):=z;refine{⟨o,e,ex.1⟩,λa e2=>?_};cases e2;exact⟨o,e,ex.2.1⟩
  ·let(o,_,_,_,e,ex,_):=I.hok p _ hk;refine{⟨o,e,ex.1⟩,λa e2=>?_};cases e2;exact⟨o,e,ex.2.1⟩
 |_=>exact False.elim ty
def tBM(K:Frag)(T:String)(r:V->List V->Hp->VK->Prop)(to:TE)(t:TA):TE:=λZ H Q=>to Z H λx H1=>tyV K T x H1/\t Z H1 λxs H2=>r x xs H2 Q
variable{o e:Expr}{es:List Expr}{to:TE}{t:TA}{name:Str}{apos cpos:Pos}{T id:String}{r:V->List V->Hp->VK->Prop}
def qeX(pa:PlainAttrs T)(slot:Slot T name id)(hty:typeOf (.builtin id)=pure (.type "method_descriptor"))(hm:MtR X id r)(ho:PE X o to)(ha:PA X (e::es) t)
  (hbase:attributeBase o name X.env (eval o X.env)=eval o X.env:=by rfl)
  (hfew:((backTo cpos (starEach (e::es) X.env)).all (λx=>!x.1)&&(backToKw cpos (keywordEach [] X.env)).all (λx=>x.1.isSome)
   && decide ((e::es).length+([]:List Keyword).length+(if ([]:List Keyword).isEmpty then 0 else 1) < 30))=true:=by rfl)
  (hline:(apos.endLine == cpos.line)=true:=by rfl) (hs:starEach (e::es) X.env=(false,eval e X.env)::starEach es X.env:=by rfl) (hplain:(backTo cpos (starEach es X.env)).any (·.1)=false:=by rfl) :
  PE X (.Call (.Attribute o name apos) (e::es) [] cpos) (tBM X.K T r to t):=by
 intro pins s Z H Q I h;refine wpAny_Call_method_late hbase hfew hline rfl (thn (ho pins s Z H _ I h) λv s1 hq1=>?_);let(x,H1,I1,r1,ty,q1):=hq1;let(h1,h2):=qeW I1 r1 ty;refine{T,id,pa,slot,hty,h1,h2,?_};have hA:=ha cpos pins s1 Z H1 _ I1 q1;rw[hs]at hA ⊢;refine Calls.callWith_builtin (by show(false||(backTo cpos (starEach es X.env)).any (·.1))=false;rw[hplain]<;>rfl) (Calls.evalArgs_plain ?_);refine thn hA λus s2 hz47=>?_;let(vs,H2,I2,r2,q2):=hz47;exact hm pins s2 Z H2 x vs v us Q I2 r1 r2 q2
end
def MtM(X:Cx)(id:String)(r:V->List V->Hp->VK->Prop):Prop:=
 ∀(pins:PP) (s:Shared) (Z:St) (H:Hp) (x:V) (xs:List V) (v:Value) (us:List Value) (Q:VK),Inv X pins Z H s->qQ x v->qS xs us->r x xs H Q->
  wpAny (model X.prog X.w) X.A (call (.builtin id) (v::us)) (EP X pins Z Q) X.xe s
theorem qS.one{x:V}{us:List Value}(h:qS [x] us):∃u,us=[u]/\qQ x u:=by
 cases h with
 |cons r t=>cases t;exact{_,rfl,r}
section
variable{X:Cx}{pins:PP}{Z:St}{H:Hp}{s:Shared}{l b:Addr}{xs ys zs:List V}
def Inv.lset{its its':List Value}{n:Nat}{f:Array Value->Array Value}{t':Nat}(I:Inv X pins Z H s)(hH:H l=some (.lst xs))
  (e:s.heap.get? l=some { cls:=.type "list",data:=.seq its.toArray n }) (hf:f its.toArray=its'.toArray) (hv:qS ys its') (hz:ys.length<=sizeLine) :
  Inv X pins Z (upd H l (.lst ys)) { s with heap:=s.heap.update l (Obj.mapSeq f),toks:=t' }:=by
 have q:=PySem.IsL.update e f;rw[hf]at q;refine I.write (x:=l) (e:=l) (by rw[hH];exact trivial) (.inl rfl) (λb' u hb hu=>(Heap.get?_update_other s.heap (Obj.mapSeq f) (Ne.symm hb)).trans hu) ⟨_,q⟩ ?_;exact{hz,its',_,hv,q}
def Inv.lnew{its:List Value}{t':Nat}(I:Inv X pins Z H s)(hv:qS ys its)(hz:ys.length<=sizeLine) :
  Inv X pins Z (upd H s.heap.objs.size (.lst ys)) { s with heap:=s.heap.push { cls:=.type "list",data:=.seq its.toArray },toks:=t' }:=
 I.laid (λ_ _ q=>Heap.get?_push_of_some _ q) (Nat.le_refl _) ⟨hz,its,0,hv,Heap.get?_push_size _ rfl⟩
def Inv.fresh(I:Inv X pins Z H s):H s.heap.objs.size=none:=I.hok.fresh (Nat.le_refl _)
def Inv.lstM(I:Inv X pins Z H s)(hH:H l=some (.lst xs)):xs.length<=sizeLine/\∃(its:List Value) (n:Nat),qS xs its/\xs.length=its.length/\s.heap.get? l=some { cls:=.type "list",data:=.seq its.toArray n }:=by let(z,its,n,r,e):=I.hok l _ hH;exact⟨z,its,n,r,r.length,e⟩
end
section
variable{X:Cx}
def qc6:V->List V->Hp->VK->Prop:=λx vs H Q=>∃l xs y,x=.ref l/\vs=[y]/\H l=some (.lst xs)/\xs.length < sizeLine/\Q .non (upd H l (.lst (xs++[y])))
def ZF:MtM X "list.append" qc6:=by
 intro pins s Z H x vs v us Q I rx rv h;let(l,xs,y,rfl,rfl,hH,hz,q):=h;cases rx;let(u,rfl,ru):=rv.one;let(z,its,n,r,hl,e):=I.lstM hH;refine call_meets F.slot_list_append ⟨_,e,rfl⟩ F.entry_list_append (F.args_list_append_2 _ _) (PySem.list_append l its.toArray n u (by rw[List.size_toArray];lia)) ⟨e,?_⟩;refine{.non,_,I.lset (its':=its++[u]) hH e (5:) (r.append %[ru|0]) ?_,rfl,q};rw[List.length_append,List.length_singleton]
 lia
def qi8:R2:=λx y H Q=>∃l b xs zs,x=.ref l/\y=.ref b/\H l=some (.lst xs)/\H b=some (.lst zs)/\xs.length+zs.length<=sizeLine/\∀p,H p=none->Q (.ref p) (upd H p (.lst (xs++zs)))
def qeY:OpR X (binaryOp .Add) qi8:=by
 intro pins s Z H x y v u Q I rx ry h;let(l,b,xs,zs,rfl,rfl,hH,hB,hz,q):=h;cases rx;cases ry;let(z,its,n,r,hl,e):=I.lstM hH;let(z2,its2,n2,r2,hl2,e2):=I.lstM hB;refine PySem.P.add_list e e2 ?_ (by rw[List.size_toArray,List.size_toArray];lia);have ea:its.toArray++its2.toArray=(its++its2).toArray:=by simp
 rw[ea];exact{.ref _,_,I.lnew (t':=s.toks) (r.append r2) (by rw[List.length_append];lia),rfl,q _ I.fresh}
end
end L2
namespace Att
open PySem PySem.W PySem.Calls PyProof.Rows
theorem ym{P:Params}{h:Heap}:∀(ns:List Int) (vs:List Value),WellAll P h vs (ns.map WData.int)->IntsAre vs ns:=by
 intro ns
 induction ns with
 |nil=>intro vs w;rw[List.map_nil]at w;cases w;exact .nil
 |cons n ns ih=>
  intro vs w;rw[List.map_cons]at w
  cases w with
  |cons a b=>cases a;exact .cons _ _ (ih _ b)
theorem ZG{l:OpenLaw}{n:Nat}(hn:l.most=some n){P:Params}{h:Heap}{args:List WData}{vals:List Value}
  (hpre:l.row.toRowW.claim.pre args=true) (hwl:WellAll P h vals args) :
  ∃a vs ns,vals=[Value.ref a]/\args=[WData.list (ns.map WData.int)]/\h.get? a=some { cls:=.type "list",data:=.seq vs.toArray }/\IntsAre vs ns/\ns.length<=n:=by
 have hsh:WShape.hasAll [] args [.list .int]=true:=(pre_splitW hpre).1;have hc:l.pre.holds [] { args:=args }=true:=(pre_splitW hpre).2;let(d,r,rfl,h1,h2):=hasAllW_cons hsh;cases hasAllW_nil h2;let(xs,rfl,h3):=hasW_list h1;let(ns,rfl):=items_int h3
 have hlen:ns.length<=n:=by
  unfold OpenLaw.pre at hc
  have h4:(WTm.not (.lt (.lit (.int (n:Int))) (.len (.arg 0)))).holds [] { args:=[.list (ns.map .int)] }=true:=by have h4:=(holds_andW hc).1;rw[hn]at h4;exact h4
  have h5:=condW_of h4 (w_not (w_lt w_lit (w_len_list (w_arg rfl))));rw[List.length_map]at h5;refine Nat.le_of_not_lt λq=>?_;have q':(n:Int) < ((ns.length:Nat):Int):=by lia
  first
   | (rw[decide_eq_true q']at h5;exact absurd h5 (2:))
   | (simp at h5;lia)
 cases hwl with
 |cons w1 w2=>
  cases w2
  cases w1 with
  |list ho hall=>exact{_,_,ns,rfl,rfl,ho,ym ns _ hall,hlen}
def ZH(l:OpenLaw)(args:List WData):l.row.toRowW.claim.post args (.bool true) args=true:=
 postW_of (r:=l.row.toRowW) (X:=(true == true))
  (show WShape.has [] (.bool true) .bool=true by first|rfl|decide|simp[WShape.has,WShape.arms,WShape.armsAll])
  (show(WTm.eq .res (.lit (.bool true))).value [] { args:=args,res:=some (.bool true),after:=args }=some (.bool (true == true)) from w_eq_bool (w_res rfl) w_lit) rfl
def YR{l:OpenLaw}{n:Nat}{q:Program}{loose:List Str}{XP:(Str->Option Value)->Heap->Prop}{YP:World->Heap->Prop}{d:DefRec}
  (hn:l.most=some n) (hdf:d.params.defaults=[])
  (call:∀(w:World) (s₀ s₁:Shared) (mg mb:PR) (fa:Addr) (o:Obj) (pm cd doc:Value) (a:Addr) (vs:List Value) (ns:List Int),
   Ground q loose [] XP w s₀ mg mb s₁.heap->YP w s₁.heap->
   s₁.heap.get? fa=some o->o.data=.func (docDef d.name d.params d.body d.scope pm cd doc)->s₁.heap.CodeRec cd d.name->mg d.name=some (.ref fa)->
   s₁.heap.get? a=some { cls:=.type "list",data:=.seq vs.toArray }->IntsAre vs ns->ns.length<=n->s₁.gens=#[]->
   codeAny (model l.prog w) callerA (.call (.ref fa) ⟨[.ref a],[]⟩) (λr s'=>r=.ok (.ret (.bool true))/\OldK s₁.heap s'.heap/\s'.os=s₁.os/\AllBare s'.gens) s₁) :
  WalkO q loose XP YP l.row.toRowW d [] (λf vs=>PySem.call f vs):=by
 intro w s₀ s₁ mg mb G Y fa o pm cd doc dV kV ho hd hcd hD hmg hg args vals as hpre hlay hrd hwl hlo;obtain rfl:dV=.none:=Dflts.none hD hdf;obtain rfl:kV=.none:=Dflts.noKw hD;let(a,vs,ns,rfl,rfl,hobj,hints,hlen):=ZG hn hpre hwl;refine enter_call (codeAny_mono (call w s₀ s₁ mg mb fa o pm cd doc a vs ns G Y ho (fd_plain hd) hcd hmg hobj hints hlen hg) λr s' hq=>?_);let(rfl,h2,h3,h4):=hq;exact{.inl {.bool true,.bool true,[],rfl,λ_=>rfl,.bool true,ZH l _,λ_=>{List.Pairwise.nil,λ_ hm=>(nomatch hm)}},h2,h3,h4}
end Att
namespace L2
open PySem PySem.Spec PyProof.Rows
theorem ZI{vs:List Value}{ns:List Int}(h:IntsAre vs ns):qS (ns.map V.int) vs:=by
 induction h with
 |nil=>exact .nil
 |cons n t h ih=>exact .cons ⟨t,rfl⟩ ih
def qhr(H:Hp):Prop:=∀b,H b=none\/∃o xs,H b=some (.frz o (.lst xs))
theorem qbc{P:Program}{w:World}{K:Frag}{mg mb:PR}{CX:CXT}{k:Nat}{fa a:Addr}{fd:FuncData}{x:Str}{sp:Sp}{s₁:Shared}{vs:List Value}{ns:List Int}
  (KX:K.In s₁.heap) (hns:s₁.heap.Ns mainGlobals mg) (hb:s₁.heap.Ns builtinsNs mb) (hbb:∀x:Str,x≠"__name__"->mb x=bootBuiltins x) (hlim:s₁.heap.NoLimit) (hg:s₁.gens=#[])
  (ha:s₁.heap.get? a=some { cls:=.type "list",data:=.seq vs.toArray }) (hi:IntsAre vs ns) (hl:ns.length<=sizeLine) (hr:Room k callerA)
  (F:∀base:Heap,K.In base->base.Ns mainGlobals mg->FnOk P w K mg base CX k fa fd [x] sp) (hbind:∀(s:Shared) (u:Value),BindsTo s fd ⟨[u],[]⟩ [(x,u)])
  (hsp:∀H:Hp,qhr H->SqL K H a (ns.map V.int)->sp [.ref a] H (λv _=>v=.bl true) λ_ _ _=>False)
  (hCX:∀H e s',CX [] H s₁ (λ_ _ _=>False) e s'->False) :
  codeAny (model P w) callerA (.call (.ref fa) ⟨[.ref a],[]⟩) (λr s'=>r=.ok (.ret (.bool true))/\OldK s₁.heap s'.heap/\s'.os=s₁.os/\AllBare s'.gens) s₁:=by
 have rv:=ZI hi;have lenV:=hi.length
 have core:∀H:Hp,qhr H->SqL K H a (ns.map V.int)->HOk P w H s₁.heap->(∀b,H b≠none->b=a)->(H a≠none->K.lookup a=none)->
   codeAny (model P w) callerA (.call (.ref fa) ⟨[.ref a],[]⟩) (λr s'=>r=.ok (.ret (.bool true))/\OldK s₁.heap s'.heap/\s'.os=s₁.os/\AllBare s'.gens) s₁:=by
  intro H hO hS hok hA hK;have base_of:∀{b:Addr} {o:Obj},s₁.heap.get? b=some o->H b=none->(qaX s₁.heap H).get? b=some o:=λe n=>qaY e n
  have noA:∀{b:Addr} {o:Obj} {es:Array DictEntry} {ep:Nat},s₁.heap.get? b=some o->o.data=.dict es ep->H b=none:=λ{b o es ep} e d=>by
   cases q:H b with
   |none=>rfl
   |some u=>have e':b=a:=hA b (by rw[q];simp);subst e';rw[ha]at e;cases e;have d':Data.seq vs.toArray _=Data.dict es ep:=d;cases d'
  have nsK:∀{b:Addr} {m:PR},s₁.heap.Ns b m->(qaX s₁.heap H).Ns b m:=λ{b m} ⟨o,es,ep,e,d,r⟩=>{o,es,ep,base_of e (noA e d),d,r}
  have hKb:K.In (qaX s₁.heap H):=λb o e=>base_of (KX b o e) (by
   cases q:H b with
   |none=>rfl
   |some u=>have e':b=a:=hA b (by rw[q];simp);subst e';rw[hK (by rw[q];simp)]at e;cases e)
  have hM:Mod K mg (qaX s₁.heap H):={hKb,nsK hns,{mb,nsK hb,hbb},let ⟨mc,h1,h2⟩:=hlim;⟨mc,nsK h1,h2⟩};have e0:Env0 P w K mg (qaX s₁.heap H) callerA [] s₁ H:={rfl,hM,λb o e=>qcJ e,Nat.le_of_eq (Zo _ _),trivial,λb hb=>absurd (show b∈([]:List Addr) from hb) (5:),hok,.of_eq hg};refine codeAny_mono ((F _ hKb (nsK hns)).run callerA [] s₁ H ⟨[.ref a],[]⟩ [.ref a] [.ref a] _ _ hr e0 (hbind s₁ (.ref a)) %[rfl|0] (hsp H hO hS)) λr s' h=>?_
  cases r with
  |error e=>exact(hCX H e s' h).elim
  |ok fl=>
   cases fl with
   |next=>exact False.elim h
   |brk=>exact False.elim h
   |cont=>exact False.elim h
   |ret u=>
    let(v,H',os,bare,un,hok',r',q):=h;have q':v=.bl true:=q;subst q';obtain rfl:u=Value.bool true:=r';refine{rfl,OldK.of_keep λb o e=>?_,os,bare}
    cases q:H b with
    |none=>exact un.keep b o e q (by intro z;exact absurd (show b∈([]:List Addr) from z) (5:)) (5:)
    |some u=>
     rcases hO b with z|⟨ob,xs,z⟩
     ·rw[q]at z;cases z
     ·have z2:=un.frzs b ob _ z;let(e1,_):=hok b _ z;let(e2,_):=hok' b _ z2;rw[e]at e1;cases e1;exact e2
 cases hk:K.lookup a with
 |some o=>have e:=KX a o hk;rw[ha]at e;cases e;refine core (λ_=>none) (λ_=>.inl rfl) (.inr ⟨_,vs.toArray,_,hk,rfl,rfl,rfl,by rw[List.size_toArray,lenV];exact hl,(-rv:)⟩) (λb u z=>by have z':(none:Option HO)=some u:=z;cases z') (λb z=>absurd rfl z) λz=>absurd rfl z
 |none=>
  refine core (λb=>if b=a then some (.frz { cls:=.type "list",data:=.seq vs.toArray } (.lst (ns.map V.int))) else none) (λb=>?_) (.inl (.inr ⟨{ cls:=.type "list",data:=.seq vs.toArray },if_pos rfl⟩)) (λb u z=>?_) (λb z=>?_) λ_=>hk
  ·by_cases hb:b=a
   ·exact .inr ⟨_,_,if_pos hb⟩
   ·exact .inl (if_neg hb)
  ·by_cases hb:b=a
   ·have z':=(if_pos hb).symm.trans z;cases z';subst hb;exact{ha,by rw[List.length_map];exact hl,vs,_,rv,ha}
   ·have z':=(if_neg hb).symm.trans z;cases z'
  ·by_cases hb:b=a
   ·exact hb
   ·exact absurd (if_neg hb) z
def qc7{l:PySem.W.OpenLaw}{n k:Nat}{q:Program}{loose:List Str}{XP:(Str->Option Value)->Heap->Prop}{YP:World->Heap->Prop}{d:DefRec}{K:Params->Frag}{CX:World->CXT}{sp:World->Sp}{x:Str}
  (hn:l.most=some n) (hn2:n<=sizeLine) (hdf:d.params.defaults=[]) (hr:Room k callerA)
  (hY:∀(w:World) (h:Heap),YP w h->(K w.params).In h)
  (F:∀(w:World) (mg:PR) (fa:Addr) (h:Heap),(K w.params).In h->h.Ns mainGlobals mg->mg d.name=some (.ref fa)->
   ∃fd:FuncData,(∀(s:Shared) (u:Value),BindsTo s fd ⟨[u],[]⟩ [(x,u)])/\
    ∀base:Heap,(K w.params).In base->base.Ns mainGlobals mg->FnOk l.prog w (K w.params) mg base (CX w) k fa fd [x] (sp w))
  (hsp:∀(w:World) (H:Hp) (a:Addr) (ns:List Int),ns.length<=n->qhr H->SqL (K w.params) H a (ns.map V.int)->sp w [.ref a] H (λv _=>v=.bl true) λ_ _ _=>False)
  (hCX:∀(w:World) (H:Hp) (s:Shared) (e:Value) (s':Shared),CX w [] H s (λ_ _ _=>False) e s'->False) :
  PySem.W.WalkO q loose XP YP l.row.toRowW d [] (λf vs=>PySem.call f vs):=by
 refine Att.YR hn hdf λw s₀ s₁ mg mb fa o pm cd doc a vs ns G Y ho hd hcd hmg hobj hints hlen hg=>?_;have KX:=hY w _ Y;let(fd,hb,hF):=F w mg fa _ KX G.T.g hmg;exact qbc KX G.T.g G.T.b G.T.builtins G.T.nolimit hg hobj hints (Nat.le_trans hlen hn2) hr hF hb (λH hO hS=>hsp w H a ns hlen hO hS) λH e s'=>hCX w H s₁ e s'
def qY(s:Stmt):Arguments:=match s with
 |.FunctionDef _ a _ _ _ _ _ _ _ _=>a
 |_=>{ posonlyargs:=[],args:=[],vararg:=none,kwonlyargs:=[],kw_defaults:=[],kwarg:=none,defaults:=[] }
def qD(s:Stmt):List Stmt:=match s with
 |.FunctionDef _ _ b _ _ _ _ _ _ _=>b
 |_=>[]
def qj(s:Stmt):Scope:=match s with
 |.FunctionDef _ _ _ _ _ _ sc _ _ _=>sc
 |_=>{ kind:=.function,names:=[],isGenerator:=false,isCoroutine:=false }
abbrev CX0:CXT:=λ_ _ _ _ _ _=>False
abbrev E0:XK:=λ_ _ _=>False
def yJ{X:Cx}:zn CX0 X E0:=λ_ _ _ _ _ _ _ h=>h.elim
structure Fun(K:Frag)(x qual:Str)(st:Stmt)(f:Addr)(fd:FuncData):Prop where
 ex:∃(oc:Value) (od:Option Addr) (kV doc pm:Value) (an:Option Addr) (cdv ct:Value) (osl:Array (Option Value)),
  fd=PySem.W.fnOf x qual (qY st) (qD st) (qj st) .none kV doc pm an cdv ct/\K.lookup f=some ⟨oc,od,.func fd,osl⟩/\PySem.W.codeIn K cdv qual=true
 kp:PySem.W.keepIn K (.ref f)=true
section
variable{P:Program}{w:World}{K:Frag}{mg:PR}{base:Heap}
def Fun.ok{x qual:Str}{st:Stmt}{f:Addr}{fd:FuncData}{N ps:List Str}{k:Nat}{sp:Sp}(F:Fun K x qual st f fd)(S:FnScope N ps (qj st))(len:∀vs H Q E,sp vs H Q E->vs.length=ps.length)
  (hbody:∀(cdv:Value) (A:Around) (outer:List Env) (s:Shared) (H:Hp) (vs:List V) (Q:VK) (E:XK),Room k (A.deeper (envOfC qual (qj st) s.heap.objs.size f cdv))->sp vs H Q E->
   ∃t,PSs (YO CX0 P w K mg base N qual (qj st) f cdv A outer s H E).nox (qD st) t/\t { nx:=λ_ H'=>Q .non H',rt:=Q } (jX N vs) H):FnOk P w K mg base CX0 (k+1) f fd ps sp:=by
 let(oc,od,kV,doc,pm,an,cdv,ct,osl,rfl,lk,hcd):=F.ex;refine qeS lk hcd S len λA outer s H vs Q E hr hsp=>?_;let(t,h,q):=hbody cdv A outer s H vs Q E hr hsp;exact⟨t,h.nox,q⟩
def Fun.binds{x qual:Str}{st:Stmt}{f:Addr}{fd:FuncData}{ps:List Str}(F:Fun K x qual st f fd)
  (h:∀(kV doc pm:Value) (an:Option Addr) (cdv ct:Value) (us:List Value),us.length=ps.length->bindArgs (PySem.W.fnOf x qual (qY st) (qD st) (qj st) .none kV doc pm an cdv ct) ⟨us,[]⟩=pure (ps.zip us)):qR K fd ps []:=by
 let(oc,od,kV,doc,pm,an,cdv,ct,osl,rfl,lk,hcd):=F.ex;exact .all (h kV doc pm an cdv ct)
def qce{x qual:Str}{st:Stmt}{f:Addr}{oc:Value}{od an:Option Addr}{osl:Array (Option Value)}{kV doc pm cdv ct:Value}(l:K.lookup f=some ⟨oc,od,.func (PySem.W.fnOf x qual (qY st) (qD st) (qj st) .none kV doc pm an cdv ct),osl⟩)
  (c:PySem.W.codeIn K cdv qual=true) (k:PySem.W.keepIn K (.ref f)=true):Fun K x qual st f (PySem.W.fnOf x qual (qY st) (qD st) (qj st) .none kV doc pm an cdv ct):={⟨oc,od,kV,doc,pm,an,cdv,ct,osl,rfl,l,c⟩,k}
end
section
variable{X:Cx}
def pv(i:Nat){x:Str}{pos:Pos}(hN:X.N[i]?=some x:=by rfl)(hv:Vis X.env.scope x:=by first|exact Or.inl rfl|exact Or.inr (Or.inl rfl)|exact Or.inr (Or.inr rfl))(hd:(x == ("__debug__" : Str))=false:=by decide)
  (hcd:(x == ("__classdict__" : Str))=false:=by decide):PE X (.Name x pos) (qgU i):=Qc hN hv hd hcd
end
def qv(H H':Hp):Prop:=∀b o,H b=some o->H' b=some o
def qv.seq{K:Frag}{H H':Hp}{a:Addr}{xs:List V}(e:qv H H')(h:SqL K H a xs):SqL K H' a xs:=by
 rcases h with (h|⟨o,h⟩)|h
 ·exact .inl (.inl (e _ _ h))
 ·exact .inl (.inr ⟨o,e _ _ h⟩)
 ·exact .inr h
end L2
set_option maxHeartbeats 4000000
namespace DG
open PySem
def qc8:Stmt->List Stmt
 |.ClassDef _ _ _ b _ _ _ _ _ _ _=>b
 |_=>[]
end DG
namespace HD
open PySem PySem.W
def yn(tb:String->Option Builtin)(p:Program)(w:World)(n₀:Nat)(ann:Option Value):Nat->SharedT->Thread->Option SharedT
 |0,_,_=>none
 | n+1,s,t=>match through t with
  |true=>some s
  |false=>match stepOk n₀ ann t with
   |false=>none
   |true=>match stepT (denote tb) p w s t with
    | some (s',t')=>yn tb p w n₀ ann n s' t'
    |none=>none
theorem J2{tb:String->Option Builtin}{p:Program}{w:World}{n₀:Nat}{ann:Option Value}:∀{n:Nat} {s s':SharedT} {t:Thread},yn tb p w n₀ ann n s t=some s'->topRun tb p w n₀ ann n s.abs t=some s'.abs
 |0,_,_,_,h=>by cases h
 | n+1,s,s',t,h=>by
  unfold yn at h;unfold topRun
  cases ht:through t with
  |true=>rw[ht]at h;cases h;rfl
  |false=>
   rw[ht]at h
   cases hk:stepOk n₀ ann t with
   |false=>rw[hk]at h;cases h
   |true=>
    rw[hk]at h
    cases hs:stepT (denote tb) p w s t with
    |none=>rw[hs]at h;cases h
    |some r=>let(s₂,t₂):=r;rw[hs]at h;dsimp only;rw[stepT_spec hs];exact J2 h
def ofL:List Obj->Nat->BT->BT
 |[],_,t=>t
 | o::r,n,t=>ofL r (n+1) (t.ins n o)
def qc9(P:Params)(os:OsState):SharedT:={ofL (boot_heap P).objs.toList 0 .nil,(boot_heap P).objs.toList.length,(boot_heap P).life,Array.mk [],boot_drawn,boot_toks,os}
def ZJ(P:Params)(os:OsState):(qc9 P os).abs=⟨boot_heap P,Array.mk [],boot_drawn,boot_toks,os⟩:=(4:)
def qda{α:Type}(p q:Program)(loose:List Str)(Xt:Shared->Bool)(Yf:Shared->α)(g0:Bool)(Hv:Heap)(s:Shared):=
 (staticsOk (importedModules p.main.body) Hv s.heap&&namesBound p s.heap&&gensDone s&&laidKept Hv s.heap,openSeen q loose (importedModules p.main.body) Xt g0 s,Yf s)
def qdb{p q:Program}{loose:List Str}{Xt:Shared->Bool}{α:Type}{Yf:Shared->α}{Ya:World->α}{N:Nat}{g0:Bool}{m₀:Nat}{ann:Option Value}
  (open_:∀w:World,(fencedOpening treeTable p w N).map (λs=>(s.heap,s.gens,s.drawn,s.toks))=some (boot_heap w.params,Array.mk [],boot_drawn,boot_toks))
  (size:∀w:World,((boot_heap w.params).isNs mainGlobals&&(Array.mk []:Array GenState).size == 0,(boot_heap w.params).objs.size,(boot_heap w.params).nsMap mainGlobals "__annotations__")=(true,m₀,ann))
  (h:∀w os,(yn treeTable p w m₀ ann N (qc9 w.params os) (topStub p)).map (λs=>qda p q loose Xt Yf g0 (boot_heap w.params) s.abs)=some (true,openGood q loose,Ya w)):LeftO p q loose Xt Yf Ya N g0:=λw=>by
 let((h0,gs,d,k,os),e,e'):=Option.map_eq_some_iff.mp (open_ w);let(rfl,rfl,rfl,rfl):h0=boot_heap w.params/\gs=Array.mk []/\d=boot_drawn/\k=boot_toks:=(-e':)
 let(z1,z2,z3):_/\_/\_:=by simpa only[Prod.mk.injEq] using size w
 let(s₁,r,l):=Option.map_eq_some_iff.mp (h w os);have r':=J2 r;rw[ZJ]at r';let(l1,l2,l3):_/\_/\_:=by simpa only[qda,Prod.mk.injEq] using l
 have t:topFrom treeTable p w N ⟨boot_heap w.params,Array.mk [],boot_drawn,boot_toks,os⟩=some s₁.abs:=by unfold topFrom;dsimp only;rw[z1,z2,z3,r'];show(match staticsOk (importedModules p.main.body) (boot_heap w.params) s₁.abs.heap&&namesBound p s₁.abs.heap&&gensDone s₁.abs&&laidKept (boot_heap w.params) s₁.abs.heap with |true=>_ |false=>_)=_;rw[l1]
 unfold openEnds;rw[e];show(topFrom treeTable p w N _).map _=_;rw[t];exact congrArg some (Prod.ext l2 l3)
def dE(P:Params)(k:Str)(t:Tok)(v:Value):DictEntry:={PyData.keyHash P k,.str k t,v}
def oFn(d:Option Addr)(st:Stmt)(name qual:Str)(dV kV doc pm:Value)(an:Option Addr)(cd ct:Value):Obj:={.type "function",d,.func (fnOf name qual (L2.qY st) (L2.qD st) (L2.qj st) dV kV doc pm an cd ct),#[]}
def oC(n:Str)(t1:Tok)(q:Str)(t2 t3:Tok)(l ar:Int)(a b:Addr)(x y:Value)(c:Addr)(u:Int)(v:Tok):Obj:={.type "code",none,.fields #[.str n t1,.str q t2,.str "/claim/cut.py" t3,.int l 0,.int ar 0,.int 0 0,.int 0 0,.int 3 0,.ref a,.bool true,.int 181 0,.ref b,.none,x,y,.ref c,.int u 0,.int l 0,.str "/claim/cut.py" v],#[]}
def oG(st:Stmt)(n m:Str)(t:Tok)(a:Addr):Obj:=oFn none st n n .none .none .none (.str m t) none (.ref a) .none
def oB(n:Str)(t:Tok)(l ar:Int)(a:Addr)(v:Nat):Obj:=oC n t n (t+1) (t+2) l ar a (a+1) (.ref (a+2)) (.ref (a+3)) (a+4) v (v+1)
def co(a:Addr)(o:Obj)(r:Frag):Frag:=(a,o)::r
def fB(st:Stmt)(m:Str)(mt:Tok)(a b:Addr)(n:Str)(t:Tok)(l ar:Int)(u:Nat)(r:Frag):Frag:=(a,oB n t l ar (a - 5) u)::(b,oG st n m mt a)::r
def fM(st:Stmt)(m:Str)(mt:Tok)(a b:Addr)(n q:Str)(t:Tok)(l ar:Int)(u:Nat)(r:Frag):Frag:=(a,oC n t q (t+1) (t+2) l ar (a - 5) (a - 4) (.ref (a - 3)) (.ref (a - 2)) (a - 1) u (u+1))::(b,oFn none st n q .none .none .none (.str m mt) none (.ref a) .none)::r
def dRs(P:Params)(L:List (Str×Tok×Addr))(r:List DictEntry):List DictEntry:=L.foldr (λx r=>dE P x.1 x.2.1 (.ref x.2.2)::r) r
def kD(P:Params)(m:Str)(mt t:Tok)(l:Int)(k:Nat)(L:List (Str×Tok×Addr))(d:Tok):Obj:={.type "dict",none,.dict {dE P "__module__" (t+7) (.str m mt)::dE P "__firstlineno__" (t+11) (.int l (t+10))::dRs P L [dE P "__doc__" d .none]} k,#[]}
def kO(nw:String)(a b:Addr)(n:Str)(t:Tok)(e:Value)(ms ss:List Value)(i:Option Value):Obj:={.type "type",none,.cls {n,[e],.ref b::ms,a,n,true,[],ss,false,none,false},#[i,none,some (.str n t),some (.str n (t+8)),some (.builtin nw),some (.bool true)]}
def kC(P:Params)(m:Str)(mt:Tok)(nw:String)(a b:Addr)(n:Str)(t:Tok)(l:Int)(k:Nat)(L:List (Str×Tok×Addr))(d:Tok)(e:Value)(ms ss:List Value)(i:Option Value)(r:Frag):Frag:=
 (a,kD P m mt t l k L d)::(b,kO nw a b n t e ms ss i)::r
def ZK(w:World):((boot_heap w.params).isNs mainGlobals&&(Array.mk []:Array GenState).size == 0,(boot_heap w.params).objs.size,(boot_heap w.params).nsMap mainGlobals "__annotations__")=(true,11,some (.ref 6)):=(4:)
end HD
namespace L2
open PySem PySem.Spec PyProof.Rows
def zb(env:Env)(ns:List (Str×NameKind))(acc:List (Str×Addr)):List (Str×Addr):=ns.foldl (λcs x=>if x.2 == .free then (x.1,(env.cells.lookup x.1).getD 0)::cs else cs) acc
theorem qcf{env:Env}:∀(ns:List (Str×NameKind)) (acc:List (Str×Addr)),(∀x∈ns,x.2=.free->∃c,env.cells.lookup x.1=some c)->
  (forIn ns acc λ(x:Str×NameKind) (cs:List (Str×Addr))=>(match x with |(name,kind)=>if kind == .free then (do let c<-cellOf env name;pure (ForInStep.yield ((name,c)::cs)):Sem (ForInStep (List (Str×Addr)))) else pure (ForInStep.yield cs)))=(pure (zb env ns acc):Sem (List (Str×Addr)))
 |[],acc,_=>by rw[List.forIn_nil];rfl
 | (n,k)::r,acc,h=>by
  rw[List.forIn_cons];have hr:=qcf (env:=env) r
  by_cases hk:k=.free
  ·subst hk;let(c,hc):=h (n,.free) List.mem_cons_self rfl;have e1:cellOf env n=pure c:=by unfold cellOf;rw[hc]
   simp![beq_self_eq_true,if_true,e1,pure_bind];rw[hr _ λx hx=>h x (List.mem_cons_of_mem _ hx)];unfold zb;simp[hc]
  ·have hb:(k == NameKind.free)=false:=(-hk:)
   simp![hb,Bool.false_eq_true,if_false,pure_bind];rw[hr _ λx hx=>h x (List.mem_cons_of_mem _ hx)];unfold zb;rw[List.foldl_cons];simp![hb,Bool.false_eq_true,if_false]
def qcg{env:Env}{scope:Scope}(h:∀x∈scope.names,x.2=.free->∃c,env.cells.lookup x.1=some c):closureFor scope env=pure (zb env scope.names []):=by
 unfold closureFor
 have:=qcf scope.names [] h
 simp![bind_pure_comp]at this;simp![bind_pure_comp,id_map',this];rfl
theorem ZL{env:Env}:∀(ns:List (Str×NameKind)) (acc:List (Str×Addr)),(∀x∈ns,x.2=.free->∃c,env.cells.lookup x.1=some c)->(∀x c,acc.lookup x=some c->env.cells.lookup x=some c)->
  ∀x c,(zb env ns acc).lookup x=some c->env.cells.lookup x=some c
 |[],_,_,h=>h
 | (n,k)::r,acc,hf,h=>by
  have ih:=ZL (env:=env) r (if k == .free then (n,(env.cells.lookup n).getD 0)::acc else acc) (λx hx=>hf x (List.mem_cons_of_mem _ hx)) (λx c e=>by
   by_cases hk:k=.free
   ·subst hk;simp![beq_self_eq_true,if_true]at e;let(c',hc):=hf (n,.free) List.mem_cons_self rfl;rw[List.lookup_cons]at e
    by_cases hx:x=n
    ·subst hx;simp[hc]at e;rw[hc,e]
    ·rw[show(x == n)=false by simpa using hx]at e;exact h x c e
   ·rw[show(k == NameKind.free)=false by simpa using hk]at e;exact h x c e)
  exact ih
def jo{env:Env}{ns:List (Str×NameKind)}(h:∀x∈ns,x.2=.free->∃c,env.cells.lookup x.1=some c):∀x c,(zb env ns []).lookup x=some c->env.cells.lookup x=some c:=ZL ns [] h λ_ _ e=>by cases e
theorem Jg{env:Env}:∀(ns:List (Str×NameKind)) (acc:List (Str×Addr)) (x:Str) (c:Addr),acc.lookup x=some c->∃c,(zb env ns acc).lookup x=some c
 |[],_,_,c,h=>⟨c,h⟩
 | (n,k)::r,acc,x,c,h=>by
  show∃c,(zb env r (if k == .free then (n,(env.cells.lookup n).getD 0)::acc else acc)).lookup x=some c
  by_cases hk:k=.free
  ·subst hk;simp![beq_self_eq_true,if_true]
   by_cases hx:x=n
   ·subst hx;exact Jg r _ x ((env.cells.lookup x).getD 0) (by rw[List.lookup_cons];simp)
   ·exact Jg r _ x c (by rw[List.lookup_cons,show(x == n)=false by simpa using hx];exact h)
  ·rw[show(k == NameKind.free)=false by simpa using hk];exact Jg r _ x c h
theorem YS{env:Env}:∀(ns:List (Str×NameKind)) (acc:List (Str×Addr)) (x:Str),(x,NameKind.free)∈ns->∃c,(zb env ns acc).lookup x=some c
 | (n,k)::r,acc,x,h=>by
  show∃c,(zb env r (if k == .free then (n,(env.cells.lookup n).getD 0)::acc else acc)).lookup x=some c;rcases List.mem_cons.mp h with e|h
  ·injection e with e1 e2;subst e1 e2;simp![beq_self_eq_true,if_true];exact Jg r _ x ((env.cells.lookup x).getD 0) (by rw[List.lookup_cons];simp)
  ·exact YS r _ x h
theorem j5{env:Env}:∀{names:List (Str×NameKind)} {x:Str},names.lookup x=some .free->
  (names.map λ(n,k)=>if (k == NameKind.free&&env.scope.kind == .function&&env.kindOf n == some .cell) then (n,NameKind.cell) else (n,k)).lookup x=some .cell\/
  (names.map λ(n,k)=>if (k == NameKind.free&&env.scope.kind == .function&&env.kindOf n == some .cell) then (n,NameKind.cell) else (n,k)).lookup x=some .free
 |[],_,h=>by simp at h
 | (n,k)::r,x,h=>by
  simp![List.map_cons]
  by_cases hx:x=n
  ·subst hx;simp[List.lookup_cons]at h;subst h
   by_cases hc:(NameKind.free == NameKind.free&&env.scope.kind == .function&&env.kindOf x == some .cell)=true
   ·rw[if_pos hc];left;simp[List.lookup_cons]
   ·rw[if_neg hc];right;simp[List.lookup_cons]
  ·have hb:(x == n)=false:=(-hx:)
   rw[List.lookup_cons,hb]at h;have ih:=j5 (env:=env) h
   by_cases hc:(k == NameKind.free&&env.scope.kind == .function&&env.kindOf n == some .cell)=true
   ·rw[if_pos hc];simp![List.lookup_cons,hb];exact ih
   ·rw[if_neg hc];simp![List.lookup_cons,hb];exact ih
theorem ZM{env:Env}:∀{names:List (Str×NameKind)} {x:Str} {k':NameKind},(names.map λ(n,k)=>if (k == NameKind.free&&env.scope.kind == .function&&env.kindOf n == some .cell) then (n,NameKind.cell) else (n,k)).lookup x=some k'->
  k'=.cell\/k'=.free->(x,NameKind.free)∈names\/(x,NameKind.cell)∈names
 |[],_,_,h,_=>by simp at h
 | (n,k)::r,x,k',h,hk=>by
  simp![List.map_cons]at h
  by_cases hx:x=n
  ·subst hx
   by_cases hc:(k == NameKind.free&&env.scope.kind == .function&&env.kindOf x == some .cell)=true
   ·have:k=.free:=by simp at hc;exact hc.1.1
    subst this;exact .inl List.mem_cons_self
   ·rw[if_neg hc]at h;simp[List.lookup_cons]at h;subst h;rcases hk with rfl|rfl
    ·exact .inr List.mem_cons_self
    ·exact .inl List.mem_cons_self
  ·have hb:(x == n)=false:=(-hx:)
   have ih:=ZM (env:=env) (names:=r) (x:=x) (k':=k') (by
    by_cases hc:(k == NameKind.free&&env.scope.kind == .function&&env.kindOf n == some .cell)=true
    ·rw[if_pos hc]at h;simp![List.lookup_cons,hb]at h;exact h
    ·rw[if_neg hc]at h;simp![List.lookup_cons,hb]at h;exact h) hk
   exact ih.imp (List.mem_cons_of_mem _) (List.mem_cons_of_mem _)
def blk(X:Cx)(N:List Str)(scope:Scope)(cl:List (Str×Addr))(C:Addr)(fp:List Addr)(s2:Shared)(H2:Hp):Cx:=
 { X with N:=N,s₀:=s2,Hv:=H2,env:=compEnvC scope cl C X.env,outer:=X.stack,stack:=X.stack,ex:=fp,fn:=λ_=>false,pn:=[],xe:=λ_ _=>False }
structure BlkScope(X:Cx)(own:List Str)(fr:List Nat)(scope:Scope):Prop where
 kind:scope.kind=.function
 nocell:∀x∈scope.names,x.2≠.cell
 names:∀x∈scope.names,x.2=.local->scope.names.lookup x.1=some .local
 free:∀x∈scope.names,x.2=.free->X.env.kindOf x.1=some .cell\/X.env.kindOf x.1=some .free
 look:∀i∈fr,scope.names.lookup (X.N.getD i "")=some .free
def jN(X:Cx)(own:List Str)(fr:List Nat):List Str:=own++fr.map λi=>X.N.getD i ""
def yK(own:List Str)(fr:List Nat)(Z:St):St:=(own.map λ_=>none)++fr.map λi=>(Z[i]?).join
section
variable{X:Cx}{pins:PP}{Z:St}{H:Hp}{s:Shared}{own:List Str}{fr:List Nat}{scope:Scope}
abbrev Zk(its:List Value)(n:Nat):Obj:={ cls:=.type "list",data:=.seq its.toArray n }
def qeZ{C:Addr}{fp:List Addr}(B:BlkScope X own fr scope)(I:Inv X pins Z H s)(hf:∀b∈fp,Zr X pins H b)(hfo:∀b∈fp,b < s.heap.objs.size)(hC:s.heap.objs.size<=C) :
  (blk X (jN X own fr) scope (zb X.env scope.names []) C fp s H).Ok where
 mod:=I.ok.mod
 kind:=B.kind
 glob:=I.ok.glob
 blt:=I.ok.blt
 above:=hC
 inj:=λx y c h1 h2=>I.ok.inj x y c (jo (λz hz e=>I.ok.has _ (B.free z hz e)) x c h1) (jo (λz hz e=>I.ok.has _ (B.free z hz e)) y c h2)
 has:=λx h=>by
  have h':(x,NameKind.free)∈scope.names\/(x,NameKind.cell)∈scope.names:=by
   rcases h with h|h
   ·exact ZM (env:=X.env) h (.inl rfl)
   ·exact ZM (env:=X.env) h (.inr rfl)
  rcases h' with h'|h'
  ·exact YS _ _ _ h'
  ·exact absurd rfl (B.nocell _ h')
 cab:=λx c h=>nomatch h
 hd:=I.ok.hd
 frames:=I.ok.frames
 stk:=.inl rfl
 exf:=λb hb=>{Nat.ne_of_lt (Nat.lt_of_lt_of_le (hfo b hb) hC),λx c e=>(hf b hb).2.2.2.2.1 x c (jo (λz hz e=>I.ok.has _ (B.free z hz e)) x c e)}
 bs:=I.bs
 bsz:=Nat.le_trans I.ok.bsz I.sz
 noex:=λb o e hb=>by
  rcases (hf b hb).2.2.2.1 with z|z
  ·exact I.ok.noex b o e z
  ·exact absurd (Nat.lt_of_lt_of_le (Heap.lt_size (I.ok.bs b o e).1) z) (Nat.lt_irrefl _)
 exfs:=λb hb z=>by
  rcases List.mem_cons.mp (I.stkSub b z) with e|e
  ·exact(hf b hb).2.1 e
  ·exact(hf b hb).2.2.1 e
 funs:=I.stack
 frf:=I.stkFree
def ZN{C D:Addr}{fp:List Addr}{h4:Heap}{tk:Nat}{n:Nat}(B:BlkScope X own fr scope)(I:Inv X pins Z H s)(hf:∀b∈fp,Zr X pins H b)(hfo:∀b∈fp,b < s.heap.objs.size)(hC:s.heap.objs.size<=C)(hD:s.heap.objs.size<=D)(hDC:D≠C)
  (k:∀b o,s.heap.get? b=some o->h4.get? b=some o) (hn:h4.Ns C λ_=>none) (hl:h4.get? D=some (Zk [] n)) :
  Inv (blk X (jN X own fr) scope (zb X.env scope.names []) C fp s H) [(D,Zk [] n)] (yK own fr Z) H { s with heap:=h4,toks:=tk }:=by
 have sub:=jo (env:=X.env) (ns:=scope.names) (λz hz e=>I.ok.has _ (B.free z hz e));refine{qeZ B I hf hfo hC,rfl,I.bare,Un.kept k,{_,hn,λi x v h1 h2 h3=>?_},λx c e=>?_,I.hok.fresh hC,λx c e=>I.freeC x c (sub x c e),λp hp=>?_,I.hok.kept k,?_}
 ·have h1:(jN X own fr)[i]?=some x:=h1;unfold jN at h1;unfold yK at h2
  by_cases hi:i < own.length
  ·rw[List.getElem?_append_left (-hi:),List.getElem?_map]at h2
   cases q:own[i]? with
   |none=>rw[q]at h2;cases h2
   |some a=>rw[q]at h2;cases h2
  ·rw[List.getElem?_append_right (-hi:),List.getElem?_map]at h2;rw[List.getElem?_append_right (-hi:),List.getElem?_map]at h1;rw[List.length_map]at h2
   cases q:fr[i - own.length]? with
   |none=>rw[q]at h2;cases h2
   |some j=>
    rw[q]at h1 h2;have h1:X.N.getD j "" = x:=Option.some.inj h1;have h2:(Z[j]?).join=some v:=Option.some.inj h2
    have h2':Z[j]?=some (some v):=by
     cases w:Z[j]? with
     |none=>rw[w]at h2;cases h2
     |some y=>rw[w]at h2;cases y with
      |none=>cases h2
      |some y=>cases h2;rfl
    have hjl:j < X.N.length:=by rw[<-I.len];exact(List.getElem?_eq_some_iff.mp h2').1
    have hN:X.N[j]?=some x:=by rw[<-h1,List.getElem?_eq_getElem hjl];simp[hjl]
    have hfree:scope.names.lookup x=some .free:=by rw[<-h1];exact B.look j (List.mem_of_getElem? q)
    have hk:=B.free (x,.free) (PySem.mem_of_lookup hfree) rfl;let(m,_,hloc):=I.loc
    let(u,r,l):=hloc j x v hN h2' (by
     rcases hk with z|z
     ·exact .inr (.inl z)
     ·exact .inr (.inr z))
    refine{u,r,.inr {?_,?_}}
    ·exact j5 (env:=X.env) hfree
    ·rcases l with ⟨l,_⟩|⟨_,c,hc,o,ho,hd⟩
     ·have hk:X.env.kindOf x=some .cell\/X.env.kindOf x=some .free:=hk;rw[l]at hk;rcases hk with z|z<;>cases z
     ·let(c',hc'):=YS (env:=X.env) scope.names [] x (PySem.mem_of_lookup hfree)
      have:=sub x c' hc'
      rw[hc]at this;cases this;exact{c,hc',o,k _ _ ho,hd}
 ·let(v,o,ho,hd):=I.cell x c (sub x c e);exact{v,o,k _ _ ho,hd}
 ·have hp:p∈[(D,Zk [] n)]:=by simpa [blk] using hp
  cases List.mem_singleton.mp hp;refine{hl,I.hok.fresh hD,hDC,λz=>?_,λv e=>by cases e};rcases List.mem_cons.mp (I.stkSub D z) with e|e
  ·exact Nat.ne_of_lt (Nat.lt_of_lt_of_le I.lt hD) e.symm
  ·exact I.nofs hD e
 ·show(yK own fr Z).length=(jN X own fr).length;unfold yK jN;simp
end
def PIf(X:Cx)(ifs:List Expr)(t:TT):Prop:=
 ∀(pins:PP) (s:Shared) (Z:St) (H:Hp) (Q:Bool->Hp->Prop),Inv X pins Z H s->t Z H Q->
  wpAny (model X.prog X.w) X.A (forIn ifs true λc r=>if r=true then do let ok<-isTrue c X.env (eval c X.env);pure (ForInStep.yield ok) else pure (ForInStep.yield r)) (TP X pins Z Q) X.xe s
def qi9:TT:=λ_ H Q=>Q true H
section
variable{X:Cx}{pins:PP}{Z:St}{H:Hp}{s:Shared}{own:List Str}{fr:List Nat}{scope:Scope}
def qdc:PIf X [] qi9:=λ_ _ _ H _ I h=>wpAny_tests_nil ⟨H,I,h⟩
def J3(J:It)(g:TG)(tc:TT)(te:TE)(fin:List V->Hp->Prop)(W:Nat->Nat->List V->St->Hp->Prop):Prop:=
 ∀i m ys Z' H',W i m ys Z' H'->(J.stop i H'/\fin ys H')\/
  (J.go i H'/\ys.length < sizeLine/\∃N:List V->St->Hp->Prop,(∀ys' Z2 H2,N ys' Z2 H2->∃m',m' < m/\W (i+1) m' ys' Z2 H2)/\
   ∀x H2,J.yld i H' x H2->g x Z' H2 λZ2 H3=>tc Z2 H3 λb H4=>if b=true then te Z2 H4 λy H5=>N (ys++[y]) Z2 H5 else N ys Z2 H4)
def qdd(own:List Str)(fr:List Nat)(wi:TI)(g:TG)(tc:TT)(te:TE):TE:=λZ H Q=>wi Z H λJ H1=>∃W:Nat->Nat->List V->St->Hp->Prop,(∃m,W 0 m [] (yK own fr Z) H1)/\J3 J g tc te (λys H'=>∀l,H' l=none->Q (.ref l) (upd H' l (.lst ys))) W
def qde{N:List Str}{cl:List (Str×Addr)}{C l:Addr}{fp:List Addr}{s4:Shared}{H':Hp}{Z':St}{its:List Value}{k:Nat}{ys:List V}(I:Inv X pins Z H s)(hf:∀b∈fp,Zr X pins H b)(hl:s.heap.objs.size<=l)
  (I4:Inv (blk X N scope cl C fp s H) [(l,Zk its k)] Z' H' s4) (rv:qS ys its) (hz:ys.length<=sizeLine):Inv X pins Z (upd H' l (.lst ys)) s4:=by
 have base:Un (frs X.stack) fp H H' s.heap s4.heap:=I4.base;have pin:=I4.pin (l,Zk its k) (List.mem_append_right _ List.mem_cons_self);have nl:∀b o,s.heap.get? b=some o->b≠l:=λb o e=>Nat.ne_of_lt (Nat.lt_of_lt_of_le (Heap.lt_size e) hl);have nh:∀b u,H' b=some u->b≠l:=λb u e=>qT e pin.2.1;refine I.call' (ch:=fp) I4.os ⟨base.keep,base.slot,λb o e n hx=>?_,base.there,λb xs e=>?_,λb o u e=>?_,λb ps e=>?_⟩ (λb u e=>?_) I4.bare (λb hb=>{(hf b hb).2.2.2.1,(hf b hb).2.1,(hf b hb).2.2.2.2.1,(hf b hb).2.2.2.2.2})
 ·rw[qh (nl b o e)];exact base.free b o e n hx
 ·have:=base.tups b xs e
  rw[qh (nh b _ this)];exact this
 ·have:=base.frzs b o u e
  rw[qh (nh b _ this)];exact this
 ·let(more,this):=base.tbls b ps e;exact{more,by rw[qh (nh b _ this)];exact this}
 ·by_cases hb:b=l
  ·subst hb;rw[qm]at e;cases e;exact⟨hz,its,k,rv,pin.1⟩
  ·rw[qh hb]at e;exact(I4.hok b u e).stay (λc v _ q=>q) (λc q=>by rw[qh (nh c _ q)];exact q) λc xs q=>by rw[qh (nh c _ q)];exact q
def J4{elt iter tg:Expr}{ifs:List Expr}{pos:Pos}{g:TG}{tc:TT}{te:TE}{it:Addr}{fp:List Addr}{tn:Nat->Heap->Prop}{J:It}{fin:List V->Hp->Prop}{W:Nat->Nat->List V->St->Hp->Prop}{m0:Nat}
  {RR:Value->Addr->Result->Shared->Prop} {E:PQ} (hc:X.calm=true) (B:BlkScope X own fr scope)
  (hg:∀cl C fp s2 H2,PG (blk X (jN X own fr) scope cl C fp s2 H2) tg g) (ht:∀cl C fp s2 H2,PIf (blk X (jN X own fr) scope cl C fp s2 H2) ifs tc) (he:∀cl C fp s2 H2,PE (blk X (jN X own fr) scope cl C fp s2 H2) elt te)
  (I:Inv X pins Z H s) (T:Turn X.prog X.w X.K tg J fp it tn) (st0:tn 0 s.heap) (hf:∀b∈fp,Zr X pins H b) (w0:W 0 m0 [] (yK own fr Z) H) (hW:J3 J g tc te fin W)
  (post:∀(l C:Addr) (s4:Shared) (ys:List V) (H':Hp) (m:PR),s.heap.objs.size<=C->H' C=none->H' l=none->l≠C->s4.heap.Ns C m->Inv X pins Z (upd H' l (.lst ys)) s4->fin ys H'->RR (.ref l) C (.ok .next) s4) :
  wpAny (model X.prog X.w) X.A (newList []) (λacc s₃=>wpAny (model X.prog X.w) X.A (newFunctionEnv scope X.env.globals (zb X.env scope.names []) [] X.env.qual none .none (some X.env)) (λcenv s₄=>codeAny (model X.prog X.w) X.A (.compStart (.ListComp elt [⟨tg,iter,ifs,0⟩] scope pos) 0 (.ref it) acc { cenv with scope:=relabel scope X.env }) (RR acc cenv.locals) s₄) E s₃) E s:=by
 have hfo:∀b∈fp,b < s.heap.objs.size:=λb hb=>by let(o,e,_):=T.obj _ _ st0 b hb;exact Heap.lt_size e
 refine wpAny_newObj_type (wpAny_newFunctionEnv B.nocell (by intro y hy;simp at hy) (λh1 hns hsb=>?_) B.kind);dsimp only at hns hsb ⊢;generalize hH2:s.heap.push { cls:=.type "list",dict:=none,data:=.seq ([]:List Value).toArray }=h2 at hns hsb ⊢;have hC:h2.objs.size=s.heap.objs.size+1:=by rw[<-hH2,Heap.size_push]
 have hDC:s.heap.objs.size≠h2.objs.size:=by rw[hC];exact Nat.ne_of_lt (Nat.lt_succ_self _)
 have hCle:s.heap.objs.size<=h2.objs.size:=by rw[hC];exact Nat.le_succ _
 have old:∀b o,s.heap.get? b=some o->h1.get? b=some o:=λb o e=>hsb.extBut b o (by rw[hC];exact Nat.ne_of_lt (Nat.lt_succ_of_lt (Heap.lt_size e))) (Heap.get?_push_of_some _ (hH2▸Heap.get?_push_of_some _ e));have hacc:h1.get? s.heap.objs.size=some (Zk [] 0):=hsb.extBut _ _ hDC (Heap.get?_push_of_some _ (hH2▸Heap.get?_push_size _ rfl));have hns':h1.Ns h2.objs.size λ_=>none:=hns;have I0:=ZN (tk:=s.toks+([]:List (Str×Value)).length) B I hf hfo hCle (Nat.le_refl _) hDC old hns' hacc;have st1:tn 0 h1:=T.keep _ _ _ st0 λb hb o e=>old b o e
 have loop:codeAny (model X.prog X.w) X.A (.compLoop (.ListComp elt [⟨tg,iter,ifs,0⟩] scope pos) 0 (.ref it) (.ref s.heap.objs.size) (compEnvC scope (zb X.env scope.names []) h2.objs.size X.env))
   (RR (.ref s.heap.objs.size) h2.objs.size) { s with heap:=h1,toks:=s.toks+([]:List (Str×Value)).length }:=by
  generalize hl:s.heap.objs.size=l at *;generalize hCC:h2.objs.size=C at *
  have stat:∀{H':Hp} {o:Obj},(∀b∈fp,H' b=none)->∀b∈fp,Zr (blk X (jN X own fr) scope (zb X.env scope.names []) C fp s H) [(l,o)] H' b:=λ{H' o} hn b hb=>by
   refine{hn b hb,λe=>?_,λz=>?_,.inl hb,λx c e z=>?_,λp hp z=>?_}
   ·exact Nat.ne_of_lt (Nat.lt_of_lt_of_le (hfo b hb) hCle) e
   ·rcases List.mem_cons.mp (I.stkSub b z) with e|e
    ·exact(hf b hb).2.1 e
    ·exact(hf b hb).2.2.1 e
   ·exact(hf b hb).2.2.2.2.1 x c (jo (λz hz e=>I.ok.has _ (B.free z hz e)) x c e) z
   ·have hp:p∈[(l,o)]:=by simpa [blk] using hp
    cases List.mem_singleton.mp hp;exact Nat.ne_of_lt (hfo b hb) z.symm
  refine codeAny_loop rfl (λn s'=>∃i ys Z' H' its k,Inv (blk X (jN X own fr) scope (zb X.env scope.names []) C fp s H) [(l,Zk its k)] Z' H' s'/\qS ys its/\ys.length<=sizeLine/\tn i s'.heap/\(∀b∈fp,H' b=none)/\W i n ys Z' H')
   (λn s3 hI=>?_) m0 ⟨0,[],yK own fr Z,H,[],0,I0,.nil,Nat.zero_le _,st1,λb hb=>(hf b hb).1,w0⟩
  show wpAny _ X.A ((compTurn (.ListComp elt [⟨tg,iter,ifs,0⟩] scope pos) 0 (.ref it) (.ref l) (compEnvC scope (zb X.env scope.names []) C X.env)).onRaise (λx=>do noteFrame x (compEnvC scope (zb X.env scope.names []) C X.env);theTreesLotGoes x)) _ _ s3;refine wpAny_noted ?_;rw[compTurn_list];let(i,ys,Z3,H3,its,k,I3,rv,hz,st3,fr3,w3):=hI;refine wpAny_bind (wpAny_standAt (wpAny_bind ?_));rcases hW i n ys Z3 H3 w3 with ⟨stop,qn⟩|⟨go,hlt,N,hN,step⟩
  ·refine thn (T.done (blk X (jN X own fr) scope (zb X.env scope.names []) C fp s H) rfl rfl rfl hc i _ s3 Z3 H3 _ I3 (stat fr3) st3 stop) λr s4 hq1=>?_;let(hr,I4):=hq1;subst hr;let(m,hm,_):=I4.loc;exact wpAny_pure (post l C s4 ys H3 m hCle I4.free (I4.pin (l,Zk its k) (List.mem_append_right _ List.mem_cons_self)).2.1 hDC hm (qde I hf (Nat.le_of_eq hl) I4 rv hz) qn)
  ·refine thn (T.item (blk X (jN X own fr) scope (zb X.env scope.names []) C fp s H) rfl rfl rfl hc i _ s3 Z3 H3 _ I3 (stat fr3) st3 go) λr s4 hq1=>?_;let(u,hr,h4):=hq1;subst hr;refine wpAny_bind (thn h4 λ_ s5 hq1=>?_);let(x,H5,I5,r5,y5,st5,fr5):=hq1;have I5':=I5.pinned (stat fr5) (T.obj _ _ st5);refine wpAny_bind (wpAny_mono (hg _ _ _ _ _ _ s5 Z3 H5 x u _ I5' r5 (step x H5 y5)) (λ_ s6 hz64=>?_) λ_ _ z=>z.elim);let(Z6,H6,I6,q6):=hz64;refine wpAny_bind (wpAny_mono (ht _ _ _ _ _ _ s6 Z6 H6 _ I6 q6) (λb s7 hz65=>?_) λ_ _ z=>z.elim);let(H7,I7,q7):=hz65
   have back:∀{Z8:St} {H8:Hp} {s8:Shared},Inv (blk X (jN X own fr) scope (zb X.env scope.names []) C fp s H) ([(l,Zk its k)]++JQ fp s5.heap) Z8 H8 s8->(∀b∈fp,∀o,s5.heap.get? b=some o->s8.heap.get? b=some o)/\∀b∈fp,H8 b=none:=λI8=>by refine{λb hb o e=>(I8.pin (b,o) (List.mem_append_right _ (List.mem_append_right _ (zY hb e)))).1,λb hb=>?_};let(o,e,_):=T.obj _ _ st5 b hb;exact(I8.pin (b,o) (List.mem_append_right _ (List.mem_append_right _ (zY hb e)))).2.1
   cases b with
   |false=>let(k1,k2):=back I7;simp![Bool.false_eq_true,if_false]at q7 ⊢;let(m',hm',w7):=hN _ _ _ q7;exact wpAny_pure ⟨rfl,m',hm',i+1,ys,Z6,H7,its,k,I7.unpinned,rv,hz,T.keep _ _ _ st5 k1,k2,w7⟩
   |true=>
    simp![if_true]at q7 ⊢;refine wpAny_bind (wpAny_bind (wpAny_mono (he _ _ _ _ _ _ s7 Z6 H7 _ I7 q7) (λw s8 hz66=>?_) λ_ _ z=>z.elim));let(y,H8,I8,r8,q8):=hz66;let(k1,k2):=back I8;let(m',hm',w8):=hN _ _ _ q8;have pin:=I8.pin (l,Zk its k) (List.mem_append_right _ (List.mem_append_left _ List.mem_cons_self));have hil:its.length=ys.length:=rv.length.symm;refine wpAny_bind (append_at pin.1 (λh9 hs9 hD9=>?_) (by rw[List.size_toArray,hil];exact hz));have new:h9.get? l=some (Zk (its++[w]) (k+1)):=by rw[hD9,List.push_toArray]
    have Ia:Inv (blk X (jN X own fr) scope (zb X.env scope.names []) C fp s H) [] Z6 H8 s8:=I8.pins_of (λp hp=>nomatch hp)
    have Ib:Inv (blk X (jN X own fr) scope (zb X.env scope.names []) C fp s H) [] Z6 H8 { s8 with heap:=h9 }:=Ia.turned (t':=s8.toks) (λb o hb e=>hs9.extBut b o hb e) pin.2.1 pin.2.2.1 (.inr (Nat.le_of_eq hl)) (λx c e z=>by
     let(v,o,ho,hd):=I8.cell x c e;rw[z,pin.1]at ho;cases ho
     cases hd) (λp hp=>by
      have hp:p∈([]:PP):=by simpa [blk] using hp
      cases hp)
    have Ic:Inv (blk X (jN X own fr) scope (zb X.env scope.names []) C fp s H) [(l,Zk (its++[w]) (k+1))] Z6 H8 { s8 with heap:=h9 }:=Ib.pins_of λp hp=>by cases List.mem_singleton.mp hp;exact{new,pin.2.1,pin.2.2.1,pin.2.2.2.1,λv e=>by cases e}
    refine wpAny_pure (wpAny_pure ⟨rfl,m',hm',i+1,ys++[y],Z6,H8,its++[w],k+1,Ic,rv.append %[r8|0],by rw[List.length_append];exact hlt,T.keep _ _ _ st5 λb hb o e=>?_,k2,w8⟩);exact hs9.extBut b o (Nat.ne_of_lt (hfo b hb)) (k1 b hb o e)
 exact codeAny_compStart_list loop (T.self _ 0 _ _ _ st1 loop)
def Inv.letgo{s2 s4:Shared}{H2 H4:Hp}{C:Addr}{h':Heap}(I2:Inv X pins Z H2 s2){Z4:St}(I4:Inv X pins Z4 H4 s4)(hC:s2.heap.objs.size<=C)(hn:H4 C=none)(hs:Heap.SameBut C s4.heap h'):Inv X pins Z4 H4 { s4 with heap:=h' }:=by let(f0,f1,_,f3,f4,f5):=I2.fpOk hC hn;exact I4.turned (t':=s4.toks) (λb o hb e=>hs.extBut b o hb e) f0 f1 f3 f4 f5
def qdf{elt iter tg:Expr}{ifs:List Expr}{pos:Pos}{g:TG}{tc:TT}{te:TE}{wi:TI}(own:List Str)(fr:List Nat)(hc:X.calm=true)(B:BlkScope X own fr scope)(hi:PI X tg iter wi)
  (hg:∀cl C fp s2 H2,PG (blk X (jN X own fr) scope cl C fp s2 H2) tg g) (ht:∀cl C fp s2 H2,PIf (blk X (jN X own fr) scope cl C fp s2 H2) ifs tc) (he:∀cl C fp s2 H2,PE (blk X (jN X own fr) scope cl C fp s2 H2) elt te)
  (hs:∀x,foldedSetIterable iter X.env x=pure x:=by intro _;rfl):PE X (.ListComp elt [⟨tg,iter,ifs,0⟩] scope pos) (qdd own fr wi g tc te):=by
 intro pins s Z H Q I h;rw[eval_ListComp];refine wpAny_comprehension_free (use:=none) rfl hs (qcg λz hz e=>I.ok.has _ (B.free z hz e)) B.kind B.names ?_;refine thn (hi pins s Z H _ I h) λv s1 h1=>thn h1 λitv s2 h2=>?_;let(it,fp,tn,J,H2,e,I2,T,st2,f2,W,(m0,w0),hW):=h2;subst e;refine J4 hc B hg ht he I2 T st2 f2 w0 hW λl C s4 ys H' m hC nC nl hlC hm I4 fin=>?_;exact{m,hm,λh' hs'=>{.ref l,_,I2.letgo I4 hC (by rw[qh (Ne.symm hlC)];exact nC) hs',rfl,fin l nl}}
def qdg{elt iter tg:Expr}{ifs:List Expr}{pos pos' cpos:Pos}{g:TG}{tc:TT}{te:TE}{wi:TI}{i:Nat}{x:Str}(own:List Str)(fr:List Nat)(hN:X.N.Nodup)(hxi:X.N[i]?=some x)(hx:X.env.scope.names.lookup x=some .local)(hc:X.calm=true)(B:BlkScope X own fr scope)(hi:PI X tg iter wi)
  (hg:∀cl C fp s2 H2,PG (blk X (jN X own fr) scope cl C fp s2 H2) tg g) (ht:∀cl C fp s2 H2,PIf (blk X (jN X own fr) scope cl C fp s2 H2) ifs tc) (he:∀cl C fp s2 H2,PE (blk X (jN X own fr) scope cl C fp s2 H2) elt te)
  (hsw:swapsWith (.ListComp elt [⟨tg,iter,ifs,0⟩] scope cpos) (some (.Name x pos')) pos.line X.env=pure true:=by rfl)
  (hs:∀x,foldedSetIterable iter X.env x=pure x:=by intro _;rfl):PS X (.Assign [.Name x pos'] (.ListComp elt [⟨tg,iter,ifs,0⟩] scope cpos) pos) (qhf (qdd own fr wi g tc te) (qaZ i)):=by
 intro pins s Z H D I h;rw[exec_Assign_Name_used _ _ _ _ hsw];refine wpAny_bind (wpAny_standAt (wpAny_bind ?_));show wpAny _ X.A (do let _<-comprehension (.ListComp elt [⟨tg,iter,ifs,0⟩] scope cpos) scope X.env _ (newList []) false (eval iter X.env) (some (assign (.Name x pos') X.env))) _ _ s;refine wpAny_bind (wpAny_mono (wpAny_comprehension_free (use:=some (assign (.Name x pos') X.env)) (Q:=λ_ s'=>SP X pins D .next s') rfl hs (qcg λz hz e=>I.ok.has _ (B.free z hz e)) B.kind B.names ?_) (λ_ s' hq=>wpAny_pure (wpAny_pure hq)) λ_ _ e=>e);refine thn (hi pins s Z H _ I h) λv s1 h1=>thn h1 λitv s2 h2=>?_;let(it,fp,tn,J,H2,e,I2,T,st2,f2,W,(m0,w0),hW):=h2;subst e;refine J4 (RR:=λacc C=>compPost (model X.prog X.w) X.A X.xe (some (assign (.Name x pos') X.env)) (λ_ s'=>SP X pins D .next s') acc C) hc B hg ht he I2 T st2 f2 w0 hW λl C s4 ys H' m hC nC nl hlC hm I4 fin=>?_;show wpAny _ X.A (assign (.Name x pos') X.env (.ref l)) _ _ s4;refine wpAny_assign_Name (ji I4 hN hxi (.inl hx) (v:=.ref l) rfl (λs5 I5 hsb=>?_) (.inr hx));let(a,sb,ha):=hsb
 have hCa:C≠a:=by
  rcases ha with rfl|ha
  ·exact Nat.ne_of_gt (Nat.lt_of_lt_of_le I2.lt hC)
  ·let(v,q):=I2.cell x a ha;exact Nat.ne_of_gt (Nat.lt_of_lt_of_le q.lt hC)
 exact{m,hm.sameBut sb hCa,λh' hs'=>{_,_,I2.letgo I5 hC (by rw[qh (Ne.symm hlC)];exact nC) hs',fin l nl}}
end
mutual
def DV(K:Frag)(H:Hp):PyData->V->Prop
 |.none,v=>v=.non
 |.bool b,v=>v=.bl b
 |.int i,v=>v=.int i
 |.str x,v=>v=.str x
 |.list ds,v=>∃a xs,v=.ref a/\SqL K H a xs/\DVs K H ds xs
 |.tuple ds,v=>∃a xs,v=.ref a/\SqT K H a xs/\DVs K H ds xs
 |.dict _,_=>False
def DVs(K:Frag)(H:Hp):List PyData->List V->Prop
 |[],xs=>xs=[]
 | d::ds,xs=>∃x r,xs=x::r/\DV K H d x/\DVs K H ds r
end
section
variable{X:Cx}{pins:PP}{Z:St}{H:Hp}{s:Shared}
mutual
theorem DV.reads(I:Inv X pins Z H s):∀{d:PyData} {v:V} {u:Value},DV X.K H d v->qQ v u->∃as,Reads s.heap u d as
 |.none,v,u,h,r=>by
  have h:v=.non:=by simpa [DV] using h
  subst h;cases r;exact{_,Reads.none}
 |.bool b,v,u,h,r=>by
  have h:v=.bl b:=by simpa [DV] using h
  subst h;cases r;exact{_,Reads.bool b}
 |.int i,v,u,h,r=>by
  have h:v=.int i:=by simpa [DV] using h
  subst h;let(t,rfl):=r;exact{_,Reads.int i t}
 |.str x,v,u,h,r=>by
  have h:v=.str x:=by simpa [DV] using h
  subst h;let(t,rfl):=r;exact{_,Reads.str x t}
 |.list ds,v,u,h,r=>by
  have h:∃a xs,v=.ref a/\SqL X.K H a xs/\DVs X.K H ds xs:=by simpa [DV] using h
  let(a,xs,rfl,hq,hd):=h;cases r;let(its,rv,pl,_):=I.list hq;let(as,ra):=DVs.reads I hd rv;let(o,ho,hc,n,hdd):=pl.isList;exact{_,reads_list_at ho hc hdd (-ra:)}
 |.tuple ds,v,u,h,r=>by
  have h:∃a xs,v=.ref a/\SqT X.K H a xs/\DVs X.K H ds xs:=by simpa [DV] using h
  let(a,xs,rfl,hq,hd):=h;cases r;let(its,rv,pl,_):=I.tuple hq;let(as,ra):=DVs.reads I hd rv;let(o,ho,hc,n,hdd):=pl;exact{_,reads_tuple_at ho hc hdd (-ra:)}
 |.dict _,v,u,h,r=>by simp[DV]at h
theorem DVs.reads(I:Inv X pins Z H s):∀{ds:List PyData} {vs:List V} {us:List Value},DVs X.K H ds vs->qS vs us->∃as,ReadsAll s.heap us ds as
 |[],vs,us,h,r=>by
  have h:vs=[]:=by simpa [DVs] using h
  subst h;cases r;exact{_,ReadsAll.nil}
 | d::ds,vs,us,h,r=>by
  have h:∃x r,vs=x::r/\DV X.K H d x/\DVs X.K H ds r:=by simpa [DVs] using h
  let(x,rr,rfl,h1,h2):=h
  cases r with
  |cons r1 r2=>let(as,ra):=DV.reads I h1 r1;let(bs,rb):=DVs.reads I h2 r2;exact{_,ReadsAll.cons ra rb}
end
def qja(K:Frag):R2:=λx y H Q=>∃d e,DV K H d x/\DV K H e y/\SeqAt.shaped d=true/\SeqAt.shaped e=true/\Q (.bl (PyData.eqv d e)) H
def qjb(K:Frag):R2:=λx y H Q=>∃d e,DV K H d x/\DV K H e y/\SeqAt.shaped d=true/\SeqAt.shaped e=true/\Q (.bl (!PyData.eqv d e)) H
def qe0(hu:X.A.units+64 < cLine):OpR X (compareOp .Eq) (qja X.K):=by intro pins s Z H x y v u Q I rx ry h;let(d,e,hd,he,sd,se,q):=h;let(as,ra):=DV.reads I hd rx;let(bs,rb):=DV.reads I he ry;exact eq_dataH ra rb sd se hu ⟨.bl _,H,I,rfl,q⟩
def qe1(hu:X.A.units+64 < cLine):OpR X (compareOp .NotEq) (qjb X.K):=by intro pins s Z H x y v u Q I rx ry h;let(d,e,hd,he,sd,se,q):=h;let(as,ra):=DV.reads I hd rx;let(bs,rb):=DV.reads I he ry;exact ne_dataH ra rb sd se hu ⟨.bl _,H,I,rfl,q⟩
def qbd:ja X (.builtin "isinstance") (λvs H Q=>∃x n t b,vs=[x,.ty n]/\TyOf X.K H x t/\PySem.W.kitOne X.K t (.type n)=some b/\Q (.bl b) H):=by intro pins s Z H xs us Q I r h;let(x,n,t,b,rfl,ty,e,q):=h;let(u,w,rfl,rx,rn):=qa5 r;cases rn;exact JT I rx ty e λtk=>{.bl b,H,I.tok tk,rfl,q}
end
def j6(osc:Scope)(N:List Str)(fr:List Nat)(sc:Scope):Bool:=
 sc.kind == .function&&(sc.names.all λx=>x.2 != .cell&&(x.2 != .local||sc.names.lookup x.1 == some .local)&&(x.2 != .free||(osc.names.lookup x.1 == some .cell||osc.names.lookup x.1 == some .free)))&&fr.all λi=>sc.names.lookup (N.getD i "") == some .free
def qv.upd{H:Hp}{a:Addr}{o:HO}(h:H a=none):qv H (upd H a o):=λb u e=>by rw[qh (qT e h)];exact e
open PySem.W
def Chn(h:Heap):Nat->Addr->Prop
 |0,x=>∃o vs C,h.get? x=some o/\o.cls=.ref C/\o.data=.fields vs/\vs[2]?=some .none
 | n+1,x=>∃o vs C c,h.get? x=some o/\o.cls=.ref C/\o.data=.fields vs/\vs[2]?=some (.ref c)/\Chn h n c
theorem Chn.uniq{h:Heap}:∀{n m:Nat} {x:Addr},Chn h n x->Chn h m x->n=m
 |0,0,_,_,_=>rfl
 | 0,m+1,x,a,b=>by let(o,vs,C,h1,_,h3,h4):=a;let(o',vs',C',c,g1,_,g3,g4,_):=b;rw[h1]at g1;cases g1;rw[h3]at g3;cases g3;rw[h4]at g4;cases g4
 | n+1,0,x,a,b=>by let(o,vs,C,h1,_,h3,h4):=b;let(o',vs',C',c,g1,_,g3,g4,_):=a;rw[h1]at g1;cases g1;rw[h3]at g3;cases g3;rw[h4]at g4;cases g4
 | n+1,m+1,x,a,b=>by let(o,vs,C,c,h1,_,h3,h4,h5):=a;let(o',vs',C',c',g1,_,g3,g4,g5):=b;rw[h1]at g1;cases g1;rw[h3]at g3;cases g3;rw[h4]at g4;cases g4;rw[Chn.uniq h5 g5]
theorem Chn.at{h:Heap}{n:Nat}{x:Addr}(c:Chn h n x):∃o vs C,h.get? x=some o/\o.cls=.ref C/\o.data=.fields vs:=by
 cases n with
 |zero=>let(o,vs,C,a,b,d,_):=c;exact⟨o,vs,C,a,b,d⟩
 |succ n=>let(o,vs,C,c,a,b,d,_):=c;exact⟨o,vs,C,a,b,d⟩
theorem Chn.keep{h h':Heap}(k:∀b o vs C,h.get? b=some o->o.cls=.ref C->o.data=.fields vs->∃o' vs',h'.get? b=some o'/\o'.cls=o.cls/\o'.data=.fields vs'/\vs'[2]?=vs[2]?):∀{n:Nat} {x:Addr},Chn h n x->Chn h' n x:=by
 intro n
 induction n with
 |zero=>intro x c;let(o,vs,C,a,b,d,e):=c;let(o',vs',a',b',d',e'):=k x o vs C a b d;exact{o',vs',C,a',b'.trans b,d',e'.trans e}
 |succ n ih=>intro x c;let(o,vs,C,c,a,b,d,e,f):=c;let(o',vs',a',b',d',e'):=k x o vs C a b d;exact{o',vs',C,c,a',b'.trans b,d',e'.trans e,ih f}
structure NX(fs:List Addr)(e:Addr)(oT:Option Addr)(oe:Obj)(vs:Array Value)(T':Addr)(fl:Value)(h h':Heap):Prop where
 kept:∀b o,b∉fs->b≠e->oT≠some b->h.get? b=some o->h'.get? b=some o
 frame:∀b o,b∈fs->h.get? b=some o->∃sl,h'.get? b=some { o with slots:=sl }
 obj:∃o' vs',h'.get? e=some o'/\o'.cls=oe.cls/\o'.dict=oe.dict/\o'.data=.fields vs'/\vs'[0]?=vs[0]?/\vs'[1]?=some (.ref T')/\vs'[2]?=vs[2]?
 new:h.get? T'=none
 ne:T'≠e
 ent:∃ot ts,h'.get? T'=some ot/\ot.data=.fields ts/\ts[3]?=some fl/\ot.cls=.type "traceback"
section
variable{M:Model}{A:Around}{E:PQ}{s:Shared}{base:Heap}{env:Env}{outer:List Env}{L e:Addr}{oe:Obj}{vs:Array Value}{Q:Unit->Shared->Prop}
def qdh(hl:s.heap.FunFrames base (env::outer))(he:s.heap.get? e=some oe)(hd:oe.data=.fields vs):e∉frs (env::outer):=λhm=>by let(_,o,ho,hnf):=hl.mem hm;rw[he]at ho;cases ho;exact hnf vs hd
def yU{head:Value}{hadNext:Bool}(hfr:A.frames=some (env::outer))(hl:s.heap.FunFrames base (env::outer))(hf:env.frame=some L)(he:s.heap.get? e=some oe)(hd:oe.data=.fields vs)(hsz:1 < vs.size)
  (k:∀h' T',NX (frs (env::outer)) e none oe vs T' (rawInt L) s.heap h'->Q () { s with heap:=h' }) :
  wpAny M A (do let fr<-frameOf env;let pl<-entryPlaceOf L hadNext;let en<-EntryCells.newEntry head fr .none (rawInt L) .none pl;setField (.ref e) 1 en) Q E s:=by
 have hne:=qdh hl he hd;refine wpAny_bind (wpAny_frameOf_fun hfr hl hf λh1 so=>wpAny_bind (wpAny_entryPlaceOf λpl hpl=>wpAny_bind ?_));let(so1,so2,so3):=so;have e1:h1.get? e=some oe:=(so2 e hne).trans he;simp![EntryCells.newEntry,newFields];refine wpAny_newObj_type ?_ (hpl.sizeOk5 _ _ _ _ _);generalize hob:(⟨.type "traceback",none,.fields ([head,.ref L,.none,rawInt L,.none]++(if pl.isEmpty then List.replicate 6 Value.none else pl)).toArray,#[]⟩:Obj)=tb;have hts:∃ts,tb.data=.fields ts/\ts[3]?=some (rawInt L):={_,by rw[<-hob],by simp};have e2:(h1.push tb).get? e=some oe:=Heap.get?_push_of_some _ e1;refine wpAny_setField e2 hd hsz (k _ h1.objs.size ?_);have hTe:h1.objs.size≠e:=Nat.ne_of_gt (Heap.lt_size e1)
 have up:∀b o,b≠e->h1.get? b=some o->((h1.push tb).update e (Obj.mapFields (·.setIfInBounds 1 (Value.ref h1.objs.size)))).get? b=some o:=λb o hb q=>by rw[Heap.get?_update_other _ _ (Ne.symm hb)];exact Heap.get?_push_of_some _ q
 have hdt:=Obj.data_mapFields hd (·.setIfInBounds 1 (Value.ref h1.objs.size));refine{λb o h1' h2' _ q=>up b o h2' ((so2 b h1').trans q),λb o hb q=>?_,?_,?_,hTe,?_}
 ·let(sl,z):=so3 b o q;exact{sl,up b _ (λz=>hne (z▸hb)) z}
 ·refine{_,_,Heap.get?_update_self _ e2 (Obj.isFreed_of_fields hdt),Obj.cls_mapFields _ _,?_,hdt,?_,?_,?_}
  ·let(c1,c2,c3,c4):=oe;cases hd;rfl
  ·rw[Array.getElem?_setIfInBounds_ne (2:)]
  ·simp[hsz]
  ·rw[Array.getElem?_setIfInBounds_ne (2:)]
 ·cases q:s.heap.get? h1.objs.size with
  |none=>rfl
  |some o=>let(sl,z):=so3 _ o q;exact absurd (Heap.lt_size z) (Nat.lt_irrefl _)
 ·let(ts,t1,t2):=hts;refine{tb,ts,?_,t1,t2,by rw[<-hob]};rw[Heap.get?_update_other _ _ (Ne.symm hTe)];exact Heap.get?_push_size _ (by rw[<-hob];rfl)
def QY(h:Heap)(e:Addr)(vs:Array Value):Option Addr->Prop
 |none=>vs[1]?=some .none/\∃n,Chn h n e
 |some T=>vs[1]?=some (.ref T)/\T≠e/\∃ot ts,h.get? T=some ot/\ot.data=.fields ts/\ts[3]?=some .none/\ot.cls=.type "traceback"/\∃n,Chn h n e
theorem qch{oT:Option Addr}(hfr:A.frames=some (env::outer))(hl:s.heap.FunFrames base (env::outer))(hf:env.frame=some L)(he:s.heap.get? e=some oe)(hd:oe.data=.fields vs)(hb:QY s.heap e vs oT)
  (k:∀h' T',NX (frs (env::outer)) e oT oe vs T' (rawInt L) s.heap h'->Q () { s with heap:=h' }):wpAny M A (noteFrame (.ref e) env) Q E s:=by
 simp![noteFrame,hf]
 cases oT with
 |none=>have hv:vs[1]?=some .none:=hb.1;have hsz:1 < vs.size:=(Array.getElem?_eq_some_iff.mp hv).1;refine wpAny_bind (wpAny_field he hd hv ?_);rw[if_neg (2:)];exact yU hfr hl hf he hd hsz k
 |some T=>
  let(hv,hTe,ot,ts,hT,hdT,h3,_):=hb;have hsz:1 < vs.size:=(Array.getElem?_eq_some_iff.mp hv).1;refine wpAny_bind (wpAny_field he hd hv ?_);rw[if_pos (show(Value.ref T != Value.none)=true by simp)];refine wpAny_bind (wpAny_field hT hdT h3 ?_);rw[if_neg (show ¬ ((Value.none == rawInt L)=true) by simp[rawInt])];refine wpAny_bind (wpAny_setField hT hdT (Array.getElem?_eq_some_iff.mp h3).1 ?_);have oth:∀{b:Addr},b≠T->(s.heap.update T (Obj.mapFields (·.setIfInBounds 3 Value.none))).get? b=s.heap.get? b:=λhb=>Heap.get?_update_other _ _ (Ne.symm hb)
  have nT:∀{b:Addr} {o:Obj},s.heap.get? b=some o->(∀vs,o.data≠.fields vs)->b≠T:=λ{b o} q hn z=>by rw[z,hT]at q;cases q;exact hn ts hdT
  have hl2:(s.heap.update T (Obj.mapFields (·.setIfInBounds 3 Value.none))).FunFrames base (env::outer):=hl.of_keeps λb o q hn=>{o,(oth (nT q hn)).trans q,rfl};refine yU (s:={ s with heap:=s.heap.update T (Obj.mapFields (·.setIfInBounds 3 Value.none)) }) hfr hl2 hf ((oth (Ne.symm hTe)).trans he) hd hsz λh' T' nx=>k h' T' ?_;let(n1,n2,n3,n4,n5,n6):=nx;refine{λb o h1 h2 h4 q=>n1 b o h1 h2 (5:) ((oth (λz=>h4 (by rw[z]))).trans q),λb o hb q=>n2 b o hb ((oth ?_).trans q),n3,?_,n5,n6}
  ·let(_,o',ho',hn):=hl.mem hb;exact nT ho' hn
  ·cases q:s.heap.get? T' with
   |none=>rfl
   |some o=>
    by_cases z:T'=T
    ·subst z
     have:=Heap.get?_update_self (Obj.mapFields (·.setIfInBounds 3 Value.none)) hT (Obj.isFreed_of_fields (Obj.data_mapFields hdT _))
     rw[this]at n4;cases n4
    ·rw[oth z,q]at n4;cases n4
def j7{fs:List Addr}{oT:Option Addr}{T':Addr}{fl:Value}{h:Heap}(nx:NX fs e oT oe vs T' fl h s.heap)(k:∀h',NX fs e oT oe vs T' .none h h'->Q () { s with heap:=h' }):wpAny M A (setFlight (.ref e) none) Q E s:=by
 let(n1,n2,(o',vs',o1,o2,o3,o4,o5,o6,o7),n4,n5,ot,ts,t1,t2,t3,t4):=nx;have h3:3 < ts.size:=(Array.getElem?_eq_some_iff.mp t3).1;unfold setFlight;refine wpAny_bind (wpAny_field o1 o4 o6 ?_);rw[if_pos (show(Value.ref T' != Value.none)=true by simp)];refine wpAny_setField t1 t2 h3 (k _ ?_);have oth:∀{b:Addr},b≠T'->(s.heap.update T' (Obj.mapFields (·.setIfInBounds 3 ((none:Option Addr).elim Value.none λf=>rawInt f)))).get? b=s.heap.get? b:=λhb=>Heap.get?_update_other _ _ (Ne.symm hb)
 have nT:∀{b:Addr} {o:Obj},h.get? b=some o->b≠T':=λ{b o} q z=>by rw[z,n4]at q;cases q
 have hdt:=Obj.data_mapFields t2 (·.setIfInBounds 3 ((none:Option Addr).elim Value.none λf=>rawInt f));refine{λb o h1 h2 h4 q=>(oth (nT q)).trans (n1 b o h1 h2 h4 q),λb o hb q=>?_,{o',vs',(oth (Ne.symm n5)).trans o1,o2,o3,o4,o5,o6,o7},n4,n5,_,_,Heap.get?_update_self _ t1 (Obj.isFreed_of_fields hdt),hdt,by simp[h3],(Obj.cls_mapFields _ _).trans t4};let(sl,z):=n2 b o hb q;exact{sl,(oth (nT q)).trans z}
def qdi{oT:Option Addr}(hfr:A.frames=some (env::outer))(hl:s.heap.FunFrames base (env::outer))(hf:env.frame=some L)(he:s.heap.get? e=some oe)(hd:oe.data=.fields vs)(hb:QY s.heap e vs oT)
  (k:∀h' T',NX (frs (env::outer)) e oT oe vs T' .none s.heap h'->Q () { s with heap:=h' }):wpAny M A (leaving env (.ref e)) Q E s:=by
 unfold leaving;exact wpAny_bind (qch hfr hl hf he hd hb λh1 T' nx=>j7 (s:={ s with heap:=h1 }) nx λh2 nx2=>k h2 T' nx2)
end
def Fly(h:Heap)(x:Addr)(C:Addr)(od oT:Option Addr):Prop:=∃oe vs,h.get? x=some oe/\oe.cls=.ref C/\oe.dict=od/\oe.data=.fields vs/\QY h x vs oT
def CX1(P:Program)(w:World):CXT:=λouter H s E e s'=>∃x T C od H',e=.ref x/\s'.os=s.os/\AllBare s'.gens/\Un (frs outer) [] H H' s.heap s'.heap/\HOk P w H' s'.heap/\H' x=none/\H' T=none/\
 s.heap.get? x=none/\s.heap.get? T=none/\Fly s'.heap x C od (some T)/\E (.ref C) od H'
theorem Qh{P:Program}{w:World}{H:Hp}{h:Heap}{a:Addr}{o:HO}(x:za P w H h a o):∃ob,h.get? a=some ob:=by
 cases o with
 |lst xs=>let(z,its,n,r,e):=x;exact{_,e}
 |tup xs=>let(z,its,r,ob,e,c):=x;exact{_,e}
 |dK kvs=>let(z,y,vs,r,ob,es,ep,e,c):=x;exact{_,e}
 |dT kvs=>let(z,y,xs,r,ob,es,ep,e,c):=x;exact{_,e}
 |set S n=>let(ob,es,ep,t,e,c):=x;exact{_,e}
 |ins C dx fs=>let(d,z,ne,e,_):=x;exact{_,e}
 |own y=>let(ob,e):=x;exact{_,e}
 |xd fs=>let(mA,(od,es,ep,e,c),r):=x;exact{_,e}
 |rng lo hi=>let(t,u,v,e):=x;exact{_,e}
 |frz ob u=>let(e,q):=x;exact{_,e}
 |tbl ps=>exact{_,x}
 |met f y=>exact{_,x}
 |ext φ=>let(p,(o,e),st):=x;exact{_,e}
section
variable{X:Cx}{pins:PP}{Z:St}{H:Hp}{s:Shared}
structure Mine(X:Cx)(pins:PP)(H:Hp)(x:Addr)(oT:Option Addr):Prop where
 hx:H x=none
 x0:X.s₀.heap.get? x=none
 hT:∀T,oT=some T->H T=none/\X.s₀.heap.get? T=none
 pin:∀p∈X.pn++pins,p.1≠x/\oT≠some p.1
variable{x T':Addr}{oT:Option Addr}{oe:Obj}{vs:Array Value}{h':Heap}
def yo(I:Inv X pins Z H s)(hex:X.ex=[])(M:Mine X pins H x oT)(fx:∃o vs,s.heap.get? x=some o/\o.data=.fields vs)(fT:∀T,oT=some T->∃o vs,s.heap.get? T=some o/\o.data=.fields vs)(nx:NX (frs X.stack) x oT oe vs T' .none s.heap h') :
  Inv X pins Z H { s with heap:=h' }:=by
 let(k1,k2,_):=nx;have nex:∀{b:Addr},b∉X.ex:=λ{b} hb=>by rw[hex]at hb;cases hb
 have s0x:∀{b:Addr} {o:Obj},X.s₀.heap.get? b=some o->b≠X.env.locals/\b≠x/\oT≠some b:=λ{b o} e=>{Nat.ne_of_lt (Nat.lt_of_lt_of_le (Heap.lt_size e) I.ok.above),(λz=>by rw[z,M.x0]at e;cases e),(λz=>by rw[(M.hT b z).2]at e;cases e)}
 have frm:∀{b:Addr},b∈frs X.stack->b=X.env.locals\/b∈X.fs:=λ{b} hb=>List.mem_cons.mp (I.stkSub b hb)
 have any:∀{b:Addr} {o:Obj},s.heap.get? b=some o->(∀vs,o.data≠.fields vs)->∃sl,h'.get? b=some { o with slots:=sl }:=λ{b o} e hn=>by
  by_cases hm:b∈frs X.stack
  ·exact k2 b o hm e
  ·refine{o.slots,k1 b o hm (λz=>?_) (λz=>?_) e}
   ·let(o',v',q,qd):=fx;rw[z,q]at e;cases e;exact hn v' qd
   ·let(o',v',q,qd):=fT b z;rw[q]at e;cases e;exact hn v' qd
 have cellK:∀{c:Addr} {v:Option Value},s.heap.IsCell c v->h'.IsCell c v:=λ{c v} ⟨o,ho,hd⟩=>by
  let(sl,e):=any ho λvs z=>by rw[hd]at z;cases z
  exact{_,e,hd}
 refine{I.ok,I.os,I.bare,{λb o e n hb hx=>?_,λb o e n hb hx=>?_,I.base.free,λb o e hx=>?_,I.base.tups,I.base.frzs,I.base.tbls},?_,λy c e=>?_,I.free,I.freeC,λp hp=>?_,λa o e=>?_,I.len}
 ·let(z1,z2,z3):=s0x e;refine k1 b o (λz=>?_) z2 z3 (I.base.keep b o e n hb hx);rcases frm z with z|z
  ·exact z1 z
  ·exact hb z
 ·let(sl,e1):=I.base.slot b o e n hb hx;let(_,o',ho',hd):=I.ok.funs.mem hb;rw[e]at ho';cases ho';let(sl',e2):=any e1 hd;exact⟨sl',e2⟩
 ·let(o1,e1):=I.base.there b o e hx;let(z1,z2,z3):=s0x e
  by_cases hm:b∈frs X.stack
  ·let(sl,e2):=k2 b _ hm e1;exact{_,e2}
  ·exact{_,k1 b _ hm z2 z3 e1}
 ·let(m,(o,es,ep,ho,hd,r),hl):=I.loc;let(sl,e2):=any ho λvs z=>by rw[hd]at z;cases z
  refine{m,{_,es,ep,e2,hd,r},λi y v e1 e2 e3=>?_};let(u,r,l):=hl i y v e1 e2 e3;refine{u,r,?_};rcases l with l|⟨k,c,e,z⟩
  ·exact .inl l
  ·exact .inr ⟨k,c,e,cellK z⟩
 ·let(v,z):=I.cell y c e;exact{v,cellK z}
 ·let(e,n,ne,nf,d):=I.pin p hp;refine{k1 _ _ (λz=>?_) (M.pin p hp).1 (M.pin p hp).2 e,n,ne,nf,d};rcases frm z with z|z
  ·exact ne z
  ·exact nf z
 ·have trk:∀{b:Addr} {u:HO},H b=some u->b∉frs X.stack/\b≠x/\oT≠some b:=λ{b u} e=>
   ⟨(λz=>by rw[I.stkFree b z]at e;cases e),(λz=>by rw[z,M.hx]at e;cases e),(λz=>by rw[(M.hT b z).1]at e;cases e)⟩
  refine(I.hok a o e).stay (λb u hb q=>?_) (λ_ q=>q) λ_ _ q=>q
  have:b∉frs X.stack/\b≠x/\oT≠some b:=by
   rcases hb with z|z
   ·rw[z];exact trk e
   ·exact trk z
  exact k1 _ _ this.1 this.2.1 this.2.2 q
def NX.chn{h:Heap}{fs:List Addr}{fl:Value}(nx:NX fs x oT oe vs T' fl h h')(he:h.get? x=some oe)(hf:oe.data=.fields vs)(b:QY h x vs oT):∃n,Chn h' n x:=by
 let(k1,k2,(o',vs',o1,o2,o3,o4,o5,o6,o7),_):=nx
 let(n,c):∃n,Chn h n x:=by
  cases oT with
  |none=>exact b.2
  |some T=>let(_,_,_,_,_,_,_,_,q):=b;exact q
 refine{n,c.keep λy o ws C e1 e2 e3=>?_}
 by_cases hx:y=x
 ·subst hx;rw[he]at e1;cases e1;rw[hf]at e3;cases e3;exact⟨o',vs',o1,o2,o4,o7⟩
 by_cases hm:y∈fs
 ·let(sl,z):=k2 y o hm e1;exact{_,ws,z,rfl,e3,rfl}
 by_cases hT:oT=some y
 ·subst hT;let(_,_,ot,ts,t1,_,_,t4,_):=b;rw[t1]at e1;cases e1;rw[t4]at e2;cases e2
 exact{o,ws,k1 y o hm hx hT e1,rfl,e3,rfl}
def NX.fly{C:Addr}{od:Option Addr}{h:Heap}{fs:List Addr}(nx:NX fs x oT oe vs T' .none h h')(hc:oe.cls=.ref C)(hd:oe.dict=od)(he:h.get? x=some oe)(hf:oe.data=.fields vs)(b:QY h x vs oT):Fly h' x C od (some T'):=by have q:=nx.chn he hf b;let(_,_,(o',vs',o1,o2,o3,o4,o5,o6,_),_,n5,ot,ts,t1,t2,t3,t4):=nx;exact{o',vs',o1,o2.trans hc,o3.trans hd,o4,o6,n5,ot,ts,t1,t2,t3,t4,q}
def Fly.fields{C:Addr}{od:Option Addr}{h:Heap}(fl:Fly h x C od oT):(∃o vs,h.get? x=some o/\o.data=.fields vs)/\∀T,oT=some T->∃o vs,h.get? T=some o/\o.data=.fields vs:=by let(o,vs,e1,_,_,e4,b):=fl;refine{⟨o,vs,e1,e4⟩,λT z=>?_};subst z;let(_,_,ot,ts,t1,t2,_):=b;exact⟨ot,ts,t1,t2⟩
theorem Inv.newH{x:Addr}(I:Inv X pins Z H s)(h:s.heap.get? x=none):H x=none:=by
 cases e:H x with
 |none=>rfl
 |some u=>let(o,q):=Qh (I.hok x u e);rw[h]at q;cases q
theorem Inv.new0{x:Addr}(I:Inv X pins Z H s)(hx:x∉X.ex)(h:s.heap.get? x=none):X.s₀.heap.get? x=none:=by
 cases e:X.s₀.heap.get? x with
 |none=>rfl
 |some o=>let(o',q):=I.base.there x o e hx;rw[h]at q;cases q
def Jh{E:XK}{C:Addr}{od:Option Addr}(I:Inv X pins Z H s)(hst:X.stack=X.env::X.outer/\X.env.frame=some X.env.locals)(hex:X.ex=[])(M:Mine X pins H x oT)(fl:Fly s.heap x C od oT)(q:E (.ref C) od H){E':PQ} :
  wpAny (model X.prog X.w) X.A (leaving X.env (.ref x)) (λ_ s''=>CX1 X.prog X.w X.outer X.Hv X.s₀ E (.ref x) s'') E' s:=by
 let(fx,fT):=fl.fields;let(oe,vs,e1,e2,e3,e4,b):=fl;have hfr:X.A.frames=some (X.env::X.outer):=by rw[<-hst.1];exact I.ok.frames
 have hl:=I.stack;rw[hst.1]at hl;refine qdi hfr hl hst.2 e1 e4 b λh' T' nx=>?_;have nx2:=nx;rw[<-hst.1]at nx2;have I2:=yo I hex M fx fT nx2;have no:∀b:Addr,b∉X.ex:=λb z=>by rw[hex]at z;cases z
 exact{x,T',C,od,H,rfl,I2.os,I2.bare,by rw[<-hex];exact I2.base,I2.hok,M.hx,I.newH nx.new,M.x0,I.new0 (no T') nx.new,nx.fly e2 e3 e1 e4 b,q}
end
def ZO{K:Frag}{h:Heap}{C:Addr}{bB:List Value}{nid:String}(Y:K.In h)(ok:excIn K C bB nid=true) :
  ∃bm N nm qn bs hd sn sub ab col dd k0 k1 k2 k3 k5 mN,h.get? C=some (excClassObj nm qn C N bs bm hd sn sub ab col dd k0 k1 k2 k3 k5 nid)/\h.Ns N mN/\mN "__init__" = none/\OwnTail h bB bm:=by
 unfold excIn at ok
 split at ok
 case h_2=>cases ok
 case h_1 d1 cdat slots hlk=>
  split at ok
  case h_2=>cases ok
  case h_1 C2 tl a0 a1 a2 a3 nn a5 hmro hsl=>
   simp![Bool.and_eq_true,beq_iff_eq,Bool.not_eq_true']at ok;let(((((e1,e2),e3),e4),e5),e6):=ok;subst e1;subst e2;let(w1,w2,w3,w4,w5,w6,w7,w8,w9,w10,w11):=cdat
   dsimp only at hmro e3 e5 e6;subst hmro;subst e3;obtain⟨sl⟩:=slots;obtain rfl:sl=[a0,a1,a2,a3,some (.builtin nn),a5]:=hsl;exact{tl,w4,w1,w5,w2,w6,w7,w8,w9,w10,d1,a0,a1,a2,a3,a5,_,Y _ _ hlk,.of_isNs (isNs_of_in Y e5),nsMap_none_of_in Y e5 e6,tail_of_in Y e4}
def YT(X:Cx)(E:XK):Prop:=∀(pins:PP) (Z:St) (H:Hp) (s:Shared),Inv X pins Z H s->∀(h':Heap) (x C:Addr) (vs:List Value),Heap.MadeExcOf s.heap h' x (.ref C) vs->E (.ref C) none H->X.xe (.ref x) { s with heap:=h' }
section
variable{X:Cx}{pins:PP}{Z:St}{H:Hp}{s:Shared}
def Qi{h h':Heap}{x C:Addr}{vs:List Value}(m:Heap.MadeExcOf h h' x (.ref C) vs):Fly h' x C none none:=by let(t,ht,_):=m.there;exact{_,_,ht,rfl,rfl,rfl,rfl,0,_,_,_,ht,rfl,rfl,rfl}
end
section
variable{P:Program}{w:World}{K:Frag}{mg:PR}{base:Heap}{N:List Str}{qual:Str}{scope:Scope}{f:Addr}{cd:Value}{A:Around}{outer:List Env}{s:Shared}{H:Hp}{E:XK}
def Ji:YT (YO (CX1 P w) P w K mg base N qual scope f cd A outer s H E) E:=λpins Z H1 s1 I h' x C vs m q=>by have I2:Inv (YO (CX1 P w) P w K mg base N qual scope f cd A outer s H E) pins Z H1 { s1 with heap:=h' }:=I.kept (t':=s1.toks) m.keeps;refine Jh I2 ⟨rfl,rfl⟩ rfl (oT:=none) ⟨I.newH m.new,I.new0 (by intro z;cases z) m.new,(λT z=>by cases z),λp hp=>{λz=>?_,by simp}⟩ (Qi m) q;let(e,_):=I.pin p hp;rw[z,m.new]at e;cases e
def ZP{X:Cx}{pins:PP}{Z:St}{H1 H2:Hp}{s1:Shared}{x T:Addr}(I:Inv X pins Z H1 s1)(hex:X.ex=[])(hx:H2 x=none)(hT:H2 T=none)(nx:s1.heap.get? x=none)(nT:s1.heap.get? T=none):Mine X pins H2 x (some T):=by
 have no:∀b:Addr,b∉X.ex:=λb z=>by rw[hex]at z;cases z
 refine{hx,I.new0 (no x) nx,λT' z=>by cases z;exact{hT,I.new0 (no T) nT},λp hp=>?_};let(e,_):=I.pin p hp;refine{λz=>?_,λz=>?_}
 ·rw[z,nx]at e;cases e
 ·cases z;rw[nT]at e;cases e
def YU{E2:XK}(hE:∀c d h,E2 c d h->E c d h):zn (CX1 P w) (YO (CX1 P w) P w K mg base N qual scope f cd A outer s H E) E2:=λpins Z H1 s1 e s2 I h=>by let(x,T,C,od,H2,rfl,hos,hb,un,hok,hx,hT,nx,nT,fl,q):=h;have I2:Inv (YO (CX1 P w) P w K mg base N qual scope f cd A outer s H E) pins Z H2 s2:=I.call' (ch:=[]) hos un hok hb λb z=>absurd z (5:);exact Jh I2 ⟨rfl,rfl⟩ rfl (ZP I rfl hx hT nx nT) fl (hE _ _ _ q)
def Fun.okx{x:Str}{st:Stmt}{fd:FuncData}{ps:List Str}{k:Nat}{sp:Sp}(F:Fun K x qual st f fd)(S:FnScope N ps (qj st))(len:∀vs H Q E,sp vs H Q E->vs.length=ps.length)
  (body:∀(cdv:Value) (A:Around) (outer:List Env) (s:Shared) (H:Hp) (vs:List V) (Q:VK) (E:XK),Room k (A.deeper (envOfC qual (qj st) s.heap.objs.size f cdv))->sp vs H Q E->
   ∃t,PSs (YO (CX1 P w) P w K mg base N qual (qj st) f cdv A outer s H E) (qD st) t/\t { nx:=λ_ H'=>Q .non H',rt:=Q } (jX N vs) H):FnOk P w K mg base (CX1 P w) (k+1) f fd ps sp:=by
 let(oc,od,kV,doc,pm,an,cdv,ct,osl,rfl,lk,hcd):=F.ex;exact qeS lk hcd S len λA outer s H vs Q E hr hsp=>body cdv A outer s H vs Q E hr hsp
def FnOk.lift{fd:FuncData}{ps:List Str}{k:Nat}{sp:Sp}{CX:CXT}(F:FnOk P w K mg base CX0 k f fd ps sp):FnOk P w K mg base CX k f fd ps sp:=
 ⟨F.len,λA outer s H args us vs Q E hr he hb hv hs=>codeAny_mono (F.run A outer s H args us vs Q E hr he hb hv hs) λr s' h=>by
  cases r with
  |error e=>exact False.elim h
  |ok f=>cases f<;>exact h⟩
end
section
variable{X:Cx}{E:XK}{n:Str}{C:Addr}{bB:List Value}{B nid iid:String}{e0:Expr}{es:List Expr}{t:TA}{np cpos pos:Pos}
def qe2(C:Addr)(E:XK)(t:TA):TS:=λ_ Z H=>t Z H λvs H1=>vs.length<=sizeLine/\E (.ref C) none H1
def j8(hx:YT X E)(hc:X.calm=true)(hg:Gl X n)(hm:X.mg n=some (.ref C))(ok:excIn X.K C bB nid=true)(FB:ExcBaseFacts B nid iid bB)(ha:PA X (e0::es) t)
  (he:starEach (e0::es) X.env=(false,eval e0 X.env)::starEach es X.env:=by rfl) (hpl:(backTo cpos (starEach es X.env)).any (·.1)=false:=by rfl) (hdb:(n == ("__debug__" : Str))=false:=by decide) :
  PS X (.Raise (some (.Call (.Name n np) (e0::es) [] cpos)) none pos) (qe2 C E t):=by
 intro pins s Z H D I h;let(bm,N,nm,qn,bs,hd,sn,sub,ab,col,dd,k0,k1,k2,k3,k5,mN,hC,hN,hni,T):=ZO I.mod.kin ok
 refine wpAny_Raise_call_subT (C:=C) (nm:=nm) (q:=qn) (N:=N) (bs:=bs) (bm:=bm) (hdct:=hd) (sn:=sn) (sub:=sub) (ab:=ab) (col:=col) (dd:=dd) (k0:=k0) (k1:=k1) (k2:=k2) (k3:=k3) (k5:=k5)
  FB (mN:=mN) (T.hasType FB.hasBase) (I.ok.hd hc) ?_ hni (qW I hg hm ⟨rfl,?_⟩ hdb)
 ·rw[he];show(false||(backTo cpos (starEach es X.env)).any (·.1))=false;rw[hpl];rfl
 have ha':=ha cpos pins s Z H _ I h;rw[he]at ha' ⊢;refine Calls.evalArgs_plain (thn ha' λus s1 z=>?_);let(vs,H1,I1,r,hl,q):=z;exact{rfl,by rw[<-r.length];exact hl,I1.bk _ _ hC,hN.keeps I1.bk,T.keeps I1.bk,λh' x m=>hx pins Z H1 s1 I1 h' x C _ m q}
end
def qbe(x C:Addr)(od:Option Addr):HO:=.ext λh=>∃o,h.get? x=some o/\o.cls=.ref C/\o.dict=od/\notCls o=true
section
variable{X:Cx}{pins:PP}{Z:St}{H:Hp}{s:Shared}{x C:Addr}{od oT:Option Addr}
def qhs(I:Inv X pins Z H s)(fl:Fly s.heap x C od oT)(hx:H x=none)(x0:X.s₀.heap.get? x=none)(pin:∀p∈X.pn++pins,p.1≠x):Inv X pins Z (upd H x (qbe x C od)) s:=by
 let(oe,vs,ho,hc,hdi,hd,_):=fl;have nn:∀{b:Addr},b≠x->upd H x (qbe x C od) b=H b:=λh=>qh h;have ntr:∀{b:Addr} {u:HO},H b=some u->b≠x:=λ{b u} e z=>by rw[z,hx]at e;cases e
 refine{I.ok,I.os,I.bare,{I.base.keep,I.base.slot,λb o e n hx=>?_,I.base.there,λb xs e=>?_,λb o u e=>?_,λb ps e=>?_},I.loc,I.cell,?_,λy c e=>?_,λp hp=>?_,λa o e=>?_,I.len}
 ·rw[nn (λz=>by rw[z,x0]at e;cases e)];exact I.base.free b o e n hx
 ·have:=I.base.tups b xs e
  rw[nn (ntr this)];exact this
 ·have:=I.base.frzs b o u e
  rw[nn (ntr this)];exact this
 ·let(more,this):=I.base.tbls b ps e;rw[nn (ntr this)];exact⟨more,this⟩
 ·have:X.env.locals≠x:=λz=>by
   let(m,(o,es,ep,e1,e2,_),_):=I.loc;rw[z,ho]at e1;cases e1;rw[hd]at e2;cases e2
  rw[nn this];exact I.free
 ·have:c≠x:=λz=>by
   let(v,o,e1,e2):=I.cell y c e;rw[z,ho]at e1;cases e1;rw[hd]at e2;cases e2
  rw[nn this];exact I.freeC y c e
 ·let(e,n,r):=I.pin p hp;refine{e,?_,r};rw[nn (pin p hp)];exact n
 ·have st:∀{c:Addr} {v:HO},za X.prog X.w H s.heap c v->za X.prog X.w (upd H x (qbe x C od)) s.heap c v:=λz=>
   z.stay (λ_ _ _ q=>q) (λb q=>by rw[nn (ntr q)];exact q) (λb xs q=>by rw[nn (ntr q)];exact q)
  by_cases hb:a=x
  ·subst hb;rw[qm]at e;cases e;refine{{oe,ho,hc,hdi,?_},⟨oe,ho⟩,λh1 h2 ⟨o,e1,e2⟩ k=>{o,k o e1,e2}};unfold notCls;rw[hd]
  ·rw[nn hb]at e;exact st (I.hok a o e)
end
abbrev Cx.mark(X:Cx)(e:Value):Cx:={ X with A:=X.A.mark (some e),calm:=false,xe:=λ_ _=>False }
section
variable{X:Cx}{pins:PP}{Z:St}{H:Hp}{s:Shared}{e:Value}
def Inv.mark(I:Inv X pins Z H s):Inv (X.mark e) pins Z H s:=
 ⟨⟨I.ok.mod,I.ok.kind,I.ok.glob,I.ok.blt,I.ok.above,I.ok.inj,I.ok.has,I.ok.cab,(λz=>by cases z),I.ok.frames,I.ok.stk,I.ok.exf,I.ok.bs,I.ok.bsz,I.ok.noex,I.ok.exfs,I.ok.funs,I.ok.frf⟩,I.os,I.bare,I.base,I.loc,I.cell,I.free,I.freeC,I.pin,I.hok,I.len⟩
def Inv.unmark(ok:X.Ok)(I:Inv (X.mark e) pins Z H s):Inv X pins Z H s:=⟨ok,I.os,I.bare,I.base,I.loc,I.cell,I.free,I.freeC,I.pin,I.hok,I.len⟩
def jp{M:Model}{A:Around}{E:PQ}{i:Nat}{n:Str}{pos:Pos}{Q:Unit->Shared->Prop}(I:Inv X pins Z H s)(hN:X.N.Nodup)(hi:X.N[i]?=some n)(hl:X.env.scope.names.lookup n=some .local)
  (h:∀s',Inv X pins (Z.set i none) H s'->Q () s'):wpAny M A (do bindName X.env n .none;unbindBehindTheSuite X.env n pos) Q E s:=by
 refine wpAny_bind (wpAny_bindName (ji (v:=.non) I hN hi (.inl hl) rfl (λs1 I1 _=>?_) (.inr hl)));unfold unbindBehindTheSuite;refine wpAny_onRaise ?_;let(m,hn,hlk):=id I1.loc;have hiσ:i < Z.length:=by rw[I.len];exact(List.getElem?_eq_some_iff.mp hi).1
 let(u,ru,hlook):=hlk i n .non hi (by rw[List.getElem?_set_self hiσ]) (.inl hl);have hkl:X.env.kindOf n=some .local:=hl
 have hv:m n=some u:=by
  rcases hlook with ⟨_,z⟩|⟨z,_⟩
  ·exact z
  ·rcases z with z|z<;>(rw[hkl]at z;cases z)
 have hcls:(X.env.scope.kind == .class||(X.env.scope.kind == .module&&X.env.locals != X.env.globals))=false:=by rw[I.ok.kind];rfl
 refine wpAny_unbindName_local hkl hn hv hcls λh' u' hn' hs'=>?_;refine h _ ?_;have kp:∀{b:Addr} {o:Obj},b≠X.env.locals->s1.heap.get? b=some o->h'.get? b=some o:=λ{b o} hb e=>(hs'.2 b hb).trans e;have s0l:∀{b:Addr} {o:Obj},X.s₀.heap.get? b=some o->b≠X.env.locals:=λ{b o} e=>Nat.ne_of_lt (Nat.lt_of_lt_of_le (Heap.lt_size e) I.ok.above);have cK:∀{c:Addr} {v:Option Value} {y:Str},X.env.cells.lookup y=some c->s1.heap.IsCell c v->h'.IsCell c v:=λ{c v y} ey ⟨o,ho,hd⟩=>{o,kp (I1.cne y c ey) ho,hd};refine{I1.ok,I1.os,I1.bare,{λb o e n hb hx=>kp (s0l e) (I1.base.keep b o e n hb hx),λb o e n hb hx=>?_,I1.base.free,λb o e hx=>?_,I1.base.tups,I1.base.frzs,I1.base.tbls},{_,hn',λj y v e1 e2 e3=>?_},λy c e=>?_,I1.free,I1.freeC,λp hp=>?_,λa o e=>?_,?_}
 ·let(sl,e1):=I1.base.slot b o e n hb hx;exact{sl,kp (s0l e) e1}
 ·let(o1,e1):=I1.base.there b o e hx;exact{o1,kp (s0l e) e1}
 ·have hij:i≠j:=λz=>by
   subst z;rw[List.getElem?_set_self hiσ]at e2;cases e2
  have hyn:y≠n:=λz=>hij (Jd hN hi (z▸e1));let(u2,r2,l2):=hlk j y v e1 (by rw[List.getElem?_set_ne hij]at e2 ⊢;exact e2) e3;refine{u2,r2,?_};rcases l2 with ⟨k,z⟩|⟨k,c,e,z⟩
  ·exact .inl ⟨k,by show(if y=n then u' else m y)=_;rw[if_neg hyn];exact z⟩
  ·exact .inr ⟨k,c,e,cK e z⟩
 ·let(v,z):=I1.cell y c e;exact{v,cK e z}
 ·let(e,n,ne,r):=I1.pin p hp;exact{kp ne e,n,ne,r}
 ·have tl:∀{b:Addr} {u:HO},H b=some u->b≠X.env.locals:=λ{b u} e z=>by rw[z,I1.free]at e;cases e
  refine(I1.hok a o e).stay (λb u hb q=>kp ?_ q) (λ_ q=>q) λ_ _ q=>q;rcases hb with z|z
  ·rw[z];exact tl e
  ·exact tl z
 ·rw[List.length_set];exact I.len
end
def PEx(X:Cx)(e:Expr)(t:XK->TE):Prop:=∀(EX:XK) (E1:PQ) (pins:PP) (s:Shared) (Z:St) (H:Hp) (Q:VK),Inv X pins Z H s->
 (∀(H1:Hp) (s1:Shared) (e:Value) (s':Shared),Inv X pins Z H1 s1->CX1 X.prog X.w X.stack H1 s1 EX e s'->E1 e s')->t EX Z H Q->wpAny (model X.prog X.w) X.A (eval e X.env) (EP X pins Z Q) E1 s
section
variable{X:Cx}{pins:PP}{Z:St}{H:Hp}{s:Shared}
structure Held(X:Cx)(pins:PP)(Z:St)(H:Hp)(s:Shared)(x T C:Addr)(od:Option Addr)(h:Heap):Prop where
 inv:Inv X pins Z H s
 mine:Mine X pins H x (some T)
 fld:(∃o vs,s.heap.get? x=some o/\o.data=.fields vs)/\∀T',some T=some T'->∃o vs,s.heap.get? T'=some o/\o.data=.fields vs
 nx:∃oe vs T',NX (frs X.stack) x (some T) oe vs T' .none s.heap h/\oe.cls=.ref C/\oe.dict=od/\s.heap.get? x=some oe/\oe.data=.fields vs/\QY s.heap x vs (some T)
variable{x T C:Addr}{od:Option Addr}{h:Heap}
def Held.now(Hd:Held X pins Z H s x T C od h)(hex:X.ex=[]):Inv X pins Z H { s with heap:=h }:=by let(oe,vs,T',nx,_):=Hd.nx;exact yo Hd.inv hex Hd.mine Hd.fld.1 Hd.fld.2 nx
def Held.fly(Hd:Held X pins Z H s x T C od h):∃T',Fly h x C od (some T'):=by let(oe,vs,T',nx,e1,e2,e3,e4,b):=Hd.nx;exact{T',nx.fly e1 e2 e3 e4 b}
def Held.ty{M:Model}(Hd:Held X pins Z H s x T C od h):Looks M h (typeOf (.ref x)) (.ref C):=by let(T',o,_,ho,hc,_):=Hd.fly;rw[<-hc];exact(Looks.ld ho).andThen .now
def qe3(i:Nat)(D:Ends):Ends:={ nx:=λZ' H'=>D.nx (Z'.set i none) H',rt:=D.rt,bk:=λZ' H'=>D.bk (Z'.set i none) H',ct:=λZ' H'=>D.ct (Z'.set i none) H' }
variable{c n:Str}{Dc:Addr}{cp hpos:Pos}{b0:Stmt}{suite:List Stmt}{rest:List ExceptHandler}{i:Nat}{D:Ends}{E:PQ}
theorem QZ{th:TS}(Hd:Held X pins Z H s x T C od h)(hex:X.ex=[])(hg:Gl X c)(hm:X.mg c=some (.ref Dc))(hq:exmOne X.K (.ref C) (.ref Dc)=some true)
  (hN:X.N.Nodup) (hi:X.N[i]?=some n) (hl:X.env.scope.names.lookup n=some .local) (hsu:PSs (X.mark (.ref x)) (b0::suite) th) (q:th (qe3 i D) (Z.set i (some (.ref x))) (upd H x (qbe x C od)))
  (hdb:(c == ("__debug__" : Str))=false) :
  wpAny (model X.prog X.w) X.A (handleBy (.ref x) X.env (.ExceptHandler (some (.Name c cp)) (some n) (b0::suite) hpos::rest)) (SP X pins D) E { s with heap:=h }:=by
 have I:=Hd.now hex;refine wpAny_handleBy_cons (codeAny_handlers_test ?_) (by intro z;cases z);refine qW (X:=X.mark (.ref x)) I.mark hg hm ?_ hdb;refine Looks.here (exm_one I.kIn Hd.ty hq) ?_;refine codeAny_handlers_suite_as ?_;let(oe,vs,T',nx,e1,e2,e3,e4,b):=Hd.nx;refine j7 (s:={ s with heap:=h }) nx λh3 nx3=>?_;have Hd3:Held X pins Z H s x T C od h3:=⟨Hd.inv,Hd.mine,Hd.fld,oe,vs,T',nx3,e1,e2,e3,e4,b⟩;have I3:=Hd3.now hex;have I4:Inv X pins Z (upd H x (qbe x C od)) { s with heap:=h3 }:=qhs I3 (nx3.fly e1 e2 e3 e4 b) Hd.mine.hx Hd.mine.x0 λp hp=>(Hd.mine.pin p hp).1;refine ji (X:=X.mark (.ref x)) (v:=.ref x) I4.mark hN hi (.inl hl) rfl (λs5 I5 _=>?_) (.inr hl);refine wpAny_mono (hsu pins s5 _ _ (qe3 i D) I5 q) (λf s6 z=>?_) (λ_ _ z=>False.elim z);have ok:=I.ok
 cases f with
 |next=>let(Z6,H6,I6,z):=z;exact jp (I6.unmark ok) hN hi hl λs7 I7=>{_,H6,I7,z}
 |brk=>let(Z6,H6,I6,z):=z;exact jp (I6.unmark ok) hN hi hl λs7 I7=>{_,H6,I7,z}
 |cont=>let(Z6,H6,I6,z):=z;exact jp (I6.unmark ok) hN hi hl λs7 I7=>{_,H6,I7,z}
 |ret u=>let(v,Z6,H6,I6,r,z):=z;exact jp (I6.unmark ok) hN hi hl λs7 I7=>{v,_,H6,I7,r,z}
def yq{nm:Option Str}{body:List Stmt}(Hd:Held X pins Z H s x T C od h)(hex:X.ex=[])(hg:Gl X c)(hm:X.mg c=some (.ref Dc))(hq:exmOne X.K (.ref C) (.ref Dc)=some false)
  (k:wpAny (model X.prog X.w) X.A (handleBy (.ref x) X.env rest) (SP X pins D) E { s with heap:=h }) (hdb:(c == ("__debug__" : Str))=false) :
  wpAny (model X.prog X.w) X.A (handleBy (.ref x) X.env (.ExceptHandler (some (.Name c cp)) nm body hpos::rest)) (SP X pins D) E { s with heap:=h }:=by
 have I:=Hd.now hex;refine wpAny_handleBy_cons (codeAny_handlers_test ?_) (by intro z;cases z);refine qW (X:=X.mark (.ref x)) I.mark hg hm ?_ hdb;exact Looks.here (exm_one I.kIn Hd.ty hq) k
def qij{H1:Hp}{s1 s':Shared}{EX:XK}{e:Value}{hs:List ExceptHandler}(hst:X.stack=X.env::X.outer/\X.env.frame=some X.env.locals)(hex:X.ex=[])(I:Inv X pins Z H1 s1)(cx:CX1 X.prog X.w X.stack H1 s1 EX e s')
  (k:∀(x T C:Addr) (od:Option Addr) (H2:Hp) (h:Heap),EX (.ref C) od H2->Held X pins Z H2 s' x T C od h->wpAny (model X.prog X.w) X.A (handleBy (.ref x) X.env hs) (SP X pins D) E { s' with heap:=h }) :
  wpAny (model X.prog X.w) X.A (noteFrame e X.env) (λ_ s2=>wpAny (model X.prog X.w) X.A (setFlight e none) (λ_ s3=>wpAny (model X.prog X.w) X.A (handleBy e X.env hs) (SP X pins D) E s3) E s2) E s':=by
 let(x,T,C,od,H2,rfl,hos,hb,un,hok,hx,hT,nx,nT,fl,q):=cx;have I2:Inv X pins Z H2 s':=I.call' (ch:=[]) hos un hok hb λb z=>absurd z (5:);have M:Mine X pins H2 x (some T):=ZP I hex hx hT nx nT;have hfr:X.A.frames=some (X.env::X.outer):=by rw[<-hst.1];exact I.ok.frames
 have hl:=I2.stack;rw[hst.1]at hl;have ff:=fl.fields;let(oe,vs,e1,e2,e3,e4,b):=fl;refine qch hfr hl hst.2 e1 e4 b λh1 T' n1=>j7 (s:={ s' with heap:=h1 }) n1 λh2 n2=>?_;exact k x T C od H2 h2 q ⟨I2,M,ff,oe,vs,T',by rw[hst.1];exact n2,e2,e3,e1,e4,b⟩
end
section
variable{prog:Program}{w:World}{A:Around}{E:PQ}{s:Shared}{K:Frag}{x C:Addr}{ox:Obj}
def ZQ{name:Str}{a g:Value}{od:Option Obj}(hc:(clsIn K C).isSome=true)(ha:findIn K (.ref C) name=some (some a))(hg:specialIn K a "__get__" = some (some g))(ht:takesIn K a=some true):findObj K C od name=some (.bind g a):=by let(cd,e):=Option.isSome_iff_exists.mp hc;simp[findObj,e,ha,hg,ht]
structure ExcIs(K:Frag)(C:Addr):Prop where
 cls:(clsIn K C).isSome=true
 ga:findIn K (.ref C) "__getattribute__" = some (some (.builtin "BaseException.__getattribute__"))
 gh:findIn K (.ref C) "__getattr__" = some none
 at_:findIn K (.ref C) "__class__" = some (some (.builtin "object.__class__"))
 get:specialIn K (.builtin "object.__class__") "__get__" = some (some (.builtin "getset_descriptor.__get__"))
 tk:takesIn K (.builtin "object.__class__")=some true
 obj:mroIn K C (.type "object")=some true
 base:mroIn K C (.type "BaseException")=some true
def ZR{Q:Option Value->Shared->Prop}(Y:K.In s.heap){od:Option Obj}(I:W.InstAt s.heap x ox C od)(hC:ExcIs K C)
  (h:Q (some (.ref C)) { s with toks:=s.toks+1 }):wpAny (model prog w) A (getAttr? (.ref x) "__class__") Q E s:=by
 let(hh,g,d,t,os):=s;have L0:=I.type (M:=model prog w);have L1:=looks_findIn (M:=model prog w) Y hC.ga;have L2:=looks_findIn (M:=model prog w) Y hC.gh;have L3:=looks_find (M:=model prog w) Y I (ZQ hC.cls hC.at_ hC.get hC.tk);have L4:=looks_mroIn (M:=model prog w) Y hC.base;have hbind:∀self,bindSpecial (.builtin "BaseException.__getattribute__") self=pure (.builtin "BaseException.__getattribute__",[self]):=λself=>by rfl
 unfold getAttr? getAttrBy? getAttrBy;refine wpAny_bind (wpAny_mkText (wpAny_bind (wpAny_attempt (wpAny_holding (wpAny_bind (L0.at (wpAny_bind (L1.at ?_))))))));show wpAny _ _ (getAttrByItsOwn _ _ _ _ _ _) _ _ _;unfold getAttrByItsOwn;refine wpAny_bind ?_;show wpAny _ _ (typeLookup (.ref C) "__getattr__") _ _ _;refine L2.at (wpAny_bind (wpAny_attempt (wpAny_holding ?_)));show wpAny _ _ (boundAndCalled _ _ _) _ _ _;unfold boundAndCalled;refine wpAny_bind ?_;rw[hbind];refine wpAny_pure ?_;refine wpAny_call (codeAny_call_builtin (3:) F.entry_bexc_ga ?_);have hk:builtinKind "BaseException.__getattribute__" = some .slot:=(3:)
 have hsp:splitId "BaseException.__getattribute__" = some ("BaseException","__getattribute__"):=(3:)
 have LI:Looks (model prog w) hh (isInstance (.ref x) (.type "BaseException")) true:=L0.andThen L4;have hargs:=F.args_bexc_ga (.ref x) (.str "__class__" t);simp![checkBuiltinCall,hk,hsp];refine wpAny_bind ?_;refine LI.at ?_;rw[if_neg (2:)];refine wpAny_of_eq hargs ?_;unfold Builtin.«object.__getattribute__»;refine wpAny_bind (wpAny_pure ?_);refine wpAny_bind (wpAny_pure ?_);refine wpAny_bind (L0.at (wpAny_bind (L3.at ?_)));show wpAny _ _ (holding [Value.builtin "object.__class__"] (call (.builtin "getset_descriptor.__get__") [.builtin "object.__class__",.ref x,.ref C]) >>= ret) _ _ _;refine wpAny_bind (wpAny_holding (wpAny_call (class_get (s:={hh,g,d,t+1,os}) (ox:=ox) (od:=od) Y I hC.obj ?_)));exact wpAny_pure (handed_on rfl (wpAny_pure h))
def qdj(hC:ExcIs K C):KitX K (.ref x) (.ref C) (λh=>∃ox od,W.InstAt h x ox C od) where
 ty:=λ_ _ _ ⟨_,_,I⟩=>I.type
 it:=λM h Y _=>by
  let(cd,e):=Option.isSome_iff_exists.mp hC.cls;unfold clsIn at e
  split at e
  ·rename_i ho;intro A' Q' E' s' k q;unfold isType loadHead;refine wpAny_bind (wpAny_loadPart (k _ _ (Y _ _ ho)) ?_);exact wpAny_pure q
  ·cases e
 ne:=λh tp dd its n sl Y htp=>by
  let(cd,e):=Option.isSome_iff_exists.mp hC.cls;refine Bool.eq_false_iff.mpr λq=>?_;have z:C=tp:=Value.ref.inj (beq_iff_eq.mp q);subst z;unfold clsIn at e
  split at e
  ·rename_i ho;have z:=(Y _ _ ho).symm.trans htp;cases z
  ·cases e
 ca:=λY ⟨_,_,I⟩ k=>ZR Y I hC k
end
section
variable{X:Cx}
def qdk(H:Hp)(x C:Addr)(od:Option Addr):Prop:=H x=some (qbe x C od)/\∀dd,od=some dd->∃u,H dd=some u
theorem qdk.inst{pins:PP}{Z:St}{H:Hp}{s:Shared}{x C:Addr}{od:Option Addr}(I:Inv X pins Z H s)(h:qdk H x C od):∃ox oo,W.InstAt s.heap x ox C oo:=by
 let(o,e1,e2,e3,e4):=(I.hok x _ h.1).1
 cases od with
 |none=>exact{o,none,e1,e2,e4,by rw[e3];trivial}
 |some dd=>let(u,hu):=h.2 dd rfl;let(ob,hob):=Qh (I.hok dd u hu);exact{o,some ob,e1,e2,e4,by rw[e3];exact hob}
def ZS:ja X (.builtin "isinstance") (λvs H Q=>∃x C od c cv b,vs=[.ref x,c]/\qdk H x C od/\ExcIs X.K C/\qQ c cv/\(∀u,qQ c u->u=cv)/\kitOne X.K (.ref C) cv=some b/\Q (.bl b) H):=by intro pins s Z H xs us Q I r h;let(x,C,od,c,cv,b,rfl,hx,hC,rc,uq,e,q):=h;let(u,v,rfl,ru,rv):=qa5 r;cases ru;obtain rfl:v=cv:=uq v rv;exact kia_one (qdj hC) I.kIn (hx.inst I) e (λz=>nomatch z) λtk=>{.bl b,H,I.tok tk,rfl,q}
end
def Its(x:Str):It:={λi _=>i < x.cps.size,λi H v H'=>H'=H/\∃c,x.cps[i]?=some c/\v=.str {#[c]},λi _=>i=x.cps.size}
def qbf{P:Program}{w:World}{K:Frag}{tg:Expr}{x:Str}{t:Tok}{it:Addr}{T:String}(hT:T = "str_ascii_iterator"\/T = "str_iterator")(W:∀A':Around,A'.handled=none->Walks P w A' it [it] [it] x.cps.size (SignAt x) (λi h=>h.IsStrIter it T x t i)) :
  Turn P w K tg (Its x) [it] it (λi h=>h.IsStrIter it T x t i) where
 mem:=by simp
 obj:=λi h st b hb=>by
  have e:b=it:=(-hb:)
  subst e;let(o,e,c,d):=st;exact{o,e,λv z=>by rw[d]at z;cases z}
 keep:=λi h h' st k=>let ⟨o,e,r⟩:=st;⟨o,k it (5:) o e,r⟩
 item:=by intro X hP hw hK hc i pins s Z H E I hf st hg;subst hP hw hK;let(f0,f1,f2,f3,f4,f5):=hf it (5:);refine(W X.A (I.ok.hd hc)).item i s _ _ hg st λv h' tk hv st' kk=>?_;let(c,u,hcx,rfl):=hv;have I1:Inv X pins Z H { s with heap:=h',toks:=tk }:=I.turned (λb o hb e=>kk b o (-hb:) e) f0 f1 f3 f4 f5;let(o,e1,e2,e3):=id st';refine{_,rfl,qa1 (s:={ s with heap:=h',toks:=tk }) e1 e2 e3 (by rcases hT with z|z<;>(rw[z];decide)) ⟨.str ⟨#[c]⟩,H,I1,⟨u,rfl⟩,⟨rfl,c,hcx,rfl⟩,st',λb hb=>(hf b hb).1⟩}
 done:=by intro X hP hw hK hc i pins s Z H E I hf st hg;subst hP hw hK;obtain rfl:i=x.cps.size:=hg;let(f0,f1,f2,f3,f4,f5):=hf it (5:);exact(W X.A (I.ok.hd hc)).done s _ _ st λh' tk kk=>{rfl,I.turned (λb o hb e=>kk b o (-hb:) e) f0 f1 f3 f4 f5}
 self:=λA i s Q E st h=>by
  rcases hT with z|z
  ·subst z;exact wpAny_pyIter_striter_ascii st h
  ·subst z;exact wpAny_pyIter_striter_wide st h
structure ClsFn(K:Frag)(C:Addr)(m:Str)(f:Addr):Prop where
 reads:readsIn K C (.type "type")=true
 sp:specialIn K (.ref C) "__getattribute__" = some (some (.builtin "type.__getattribute__"))
 at_:findCls K (.ref C) (.type "type") m=some (.val (.ref f))
 kp:keepIn K (.ref f)=true
section
variable{X:Cx}{CX:CXT}{k:Nat}{f C:Addr}{fd:FuncData}{ps:List Str}{sp:Sp}{dvs:List V}{ds:List Value}{E:XK}{x m:Str}{p pos apos:Pos}{e:Expr}{es:List Expr}{t:TA}
def jq{pl:Sem Bool}(hC:ClsFn X.K C m f)(F:FnOk X.prog X.w X.K X.mg X.base CX k f fd ps sp)(hr:Room k X.A)(hg:Gl X x)(hm:X.mg x=some (.ref C))(hb:qR X.K fd ps ds)(hd:qS dvs ds)(hx:zn CX X E)(ha:PA X (e::es) t)
  (hdb:(x == ("__debug__" : Str))=false:=by decide) (hst:starEach (e::es) X.env=(false,eval e X.env)::starEach es X.env:=by rfl) (hpl:(backTo pos (starEach es X.env)).any (·.1)=false:=by rfl)
  (ht:eval (.Call (.Attribute (.Name x p) m apos) (e::es) [] pos) X.env=(do
   let ov<-eval (.Name x p) X.env
   standAt apos.atName
   let (f,first)<-holding [ov] (getMethod ov m pl)
   callWith pos f first (backTo pos (starEach (e::es) X.env)) (backToKw pos (keywordEach [] X.env))):=by rfl) :
  PE X (.Call (.Attribute (.Name x p) m apos) (e::es) [] pos) (ZB sp dvs E t):=by
 intro pins s Z H Q I h;refine PySem.W.methodCall_KW (pl:=pl) (qW I hg hm ?_ hdb) ht;refine method_cls I.kIn hC.sp (cls_value I.kIn hC.reads hC.at_ rfl ?_);have I1:=I.tok (s.toks+1);refine PySem.W.callWith_K (first:=[]) (h₀:=X.base) I.ok.mod.kin hC.kp (thn (ha pos pins _ Z H _ I1 h) λus s2 z=>?_) hst hpl;let(vs,H2,I2,r,q):=z;exact{I2.kIn,JU F hr hb hd hx I2 r q}
end
open PyProof
section
variable{X:Cx}
theorem qe4:SlR X (λx lo hi H Q=>∃z,x=.str z/\z.length<=sizeLine/\Q (.str (Txt.slice z lo hi)) H):=by
 intro pins s Z H x v vl vu lo hi sl Q I rx hs pl pu h;let(z,rfl,hz,q):=h;let(t,rfl):=rx;refine{"str",_,F.slot_str_getitem.lookup,typeIs_str _ _ _,?_};let(o,e1,e2,e3):=hs
 cases pl with
 |none=>
  cases pu with
  |none=>exact wpAny_getItem_str_slice (l:=none) (u:=none) (st:=none) ⟨o,e1,e2,e3⟩ rfl (post_val_or_str ⟨Nat.le_trans (Txt.slice_le z _ _) hz,λt' k=>{.str _,H,I.tok k,⟨t',rfl⟩,q}⟩)
  |int j uj=>exact wpAny_getItem_str_slice (l:=none) (u:=some (j,uj)) (st:=none) ⟨o,e1,e2,e3⟩ rfl (post_val_or_str ⟨Nat.le_trans (Txt.slice_le z _ _) hz,λt' k=>{.str _,H,I.tok k,⟨t',rfl⟩,q}⟩)
 |int i ui=>
  cases pu with
  |none=>exact wpAny_getItem_str_slice (l:=some (i,ui)) (u:=none) (st:=none) ⟨o,e1,e2,e3⟩ rfl (post_val_or_str ⟨Nat.le_trans (Txt.slice_le z _ _) hz,λt' k=>{.str _,H,I.tok k,⟨t',rfl⟩,q}⟩)
  |int j uj=>exact wpAny_getItem_str_slice (l:=some (i,ui)) (u:=some (j,uj)) (st:=none) ⟨o,e1,e2,e3⟩ rfl (post_val_or_str ⟨Nat.le_trans (Txt.slice_le z _ _) hz,λt' k=>{.str _,H,I.tok k,⟨t',rfl⟩,q}⟩)
end
theorem ZT:∀{zs:List Str} {us:List Value},qS (zs.map V.str) us->StrsAre us zs
 |[],_,.nil=>.nil
 | z::zs,_,.cons r t=>by let(k,rfl):=r;exact .cons z k (ZT t)
def rsz(lo hi c:Int):Nat:=if lo < hi then ((hi - lo - 1) / c+1).toNat else 0
abbrev bV:List Value:=[.type "ValueError",.type "Exception",.type "BaseException",.type "object"]
def xD(a:Addr)(fs:List (Str×V)):HO:=.ext λh=>∃mA,h.Ns1 a mA/\(∀f,Zn (fs.lookup f) (mA f))/\PySem.Within mA (fs.map (·.1))
section
variable{X:Cx}
def J5{n:Nat}(h:n<=90000):n<=sizeLine:=by rw[sizeLine_eq];lia
end
section
variable{X:Cx}{pins:PP}{Z:St}{H:Hp}{s:Shared}{x C:Addr}{od oT:Option Addr}
def jr(X:Cx)(E:XK):Prop:=∀(pins:PP) (Z:St) (H:Hp) (s:Shared) (x C:Addr) (od:Option Addr),Inv X pins Z H s->Mine X pins H x none->Fly s.heap x C od none->E (.ref C) od H->X.xe (.ref x) s
end
section
variable{P:Program}{w:World}{K:Frag}{mg:PR}{base:Heap}{N:List Str}{qual:Str}{scope:Scope}{f:Addr}{cd:Value}{A:Around}{outer:List Env}{s:Shared}{H:Hp}{E:XK}
def ZU:jr (YO (CX1 P w) P w K mg base N qual scope f cd A outer s H E) E:=λpins Z H1 s1 x C od I M fl q=>Jh I ⟨rfl,rfl⟩ rfl M fl q
end
section
variable{X:Cx}{E:XK}
def qbg(hex:X.ex=[])(h:jr X E):YT X E:=λpins Z H s I h' x C vs m q=>by
 have no:∀b:Addr,b∉X.ex:=λb z=>by rw[hex]at z;cases z
 refine h pins Z H _ x C none (I.kept (t':=s.toks) m.keeps) ⟨I.newH m.new,I.new0 (no x) m.new,(λT z=>by cases z),λp hp=>{λz=>?_,by simp}⟩ (Qi m) q;let(e,_):=I.pin p hp;rw[z,m.new]at e;cases e
end
def jt:entryFor table "proto.unchain" = some Builtin.«proto.unchain»:=entryFor_of_tree (4:)
def zd:plainId "proto.unchain" = true:=(3:)
section
variable{prog:Program}{w:World}{A:Around}{E:PQ}{s:Shared}
theorem jG{y:Addr}{h0:Heap}{R:Result->Shared->Prop}(kp:∀b ob,h0.get? b=some ob->s.heap.get? b=some ob)(hy:h0.get? y=none)(hR:R (.ok (.ret .none)) s):∀(n:Nat) (o sl:Addr) (m:Nat) (tg:Bool),Chn h0 n o->Chn h0 m sl->n<=m->(n=m->tg=false)->
  codeAny (model prog w) A (.builtin "proto.unchain" ⟨[.ref y,.ref o,.ref sl,.bool tg],[]⟩) R s
 |0,o,sl,m,tg,co,cs,hm,ht=>by let(ob,vs,C,h1,_,h3,h4):=co;refine codeAny_builtin jt ?_;rw[Around.under_plainId zd _];unfold Builtin.«proto.unchain»;refine wpAny_bind (wpAny_field (kp _ _ h1) h3 h4 ?_);rw[if_pos (by rfl)];exact wpAny_pure hR
 | n+1,o,sl,m,tg,co,cs,hm,ht=>by
  let(ob,vs,C,c,h1,_,h3,h4,h5):=co;refine codeAny_builtin jt ?_;rw[Around.under_plainId zd _];unfold Builtin.«proto.unchain»
  have ny:c≠y:=λz=>by
   let(o,_,_,q,_):=h5.at
   rw[z,hy]at q;cases q
  have ns:c≠sl:=λz=>by
   have:=h5.uniq (z▸cs)
   omega
  refine wpAny_bind (wpAny_field (kp _ _ h1) h3 h4 ?_);rw[if_neg (5:)];rw[if_neg (by simp[ny])];rw[if_neg (by simp[ns])]
  cases tg with
  |false=>simp![Bool.false_eq_true,if_false];refine wpAny_bind (wpAny_pure ?_);exact wpAny_pure ⟨plainId_quiet zd _,jG kp hy hR n c sl m true h5 cs (by omega) (by omega)⟩
  |true=>
   have hlt:n+1 < m:=by
    rcases Nat.lt_or_eq_of_le hm with h|h
    ·exact h
    ·cases ht h
   let(m',rfl):∃m',m=m'+1:={m - 1,by omega};let(ob',vs',C',c',g1,_,g3,g4,g5):=cs;simp![if_true];refine wpAny_bind (wpAny_field (kp _ _ g1) g3 g4 ?_);exact wpAny_pure ⟨plainId_quiet zd _,jG kp hy hR n c c' m' false h5 g5 (by omega) (λ_=>rfl)⟩
def Jj{α:Type}{x y:Addr}{h0:Heap}{n:Nat}{oy:Obj}{vs:Array Value}{Q:α->Shared->Prop}(hh:A.handled=some (.ref x))(kp:∀b ob,h0.get? b=some ob->s.heap.get? b=some ob)(hy:h0.get? y=none)(c:Chn h0 n x)
  (ho:s.heap.get? y=some oy) (hd:oy.data=.fields vs) (h2:2 < vs.size) (h:E (.ref y) { s with heap:=s.heap.update y (Obj.mapFields (·.setIfInBounds 2 (.ref x))) }):wpAny (model prog w) A (raiseNew (.ref y):Sem α) Q E s:=by
 unfold raiseNew;refine wpAny_bind (wpAny_handled ?_);rw[hh];dsimp only
 have ne:x≠y:=λz=>by
  let(o,_,_,q,_):=c.at
  rw[z,hy]at q;cases q
 rw[if_pos (show(Value.ref x != Value.ref y)=true by simp[ne])];refine wpAny_bind (wpAny_holding (wpAny_runValue ?_));refine jG kp hy ?_ n x x n false c c (Nat.le_refl _) (λ_=>rfl);dsimp only;refine wpAny_bind ?_;unfold updateField;refine wpAny_bind (wpAny_load ho ?_);rw[hd];dsimp only;rw[if_pos h2];exact wpAny_update ho (wpAny_throw h)
end
section
variable{prog:Program}{w:World}{A:Around}{E:PQ}{s:Shared}{env:Env}
variable{nm q:Str}{C N:Addr}{bs bm bmB:List Value}{hdct:Bool}{sn:List Str}{sub:List Value}{ab:Bool}{col:Option Bool}{dd:Option Addr}{k0 k1 k2 k3 k5:Option Value}{newId:String}
def Q0{x:Str}{xh:Addr}{np cpos pos kp:Pos}{kk:Nat}{args:List Expr}{Q:Flow->Shared->Prop}(hbase:bm.contains (.type "BaseException")=true)(hh:A.handled=some (.ref xh))
  (h:wpAny (model prog w) A (eval (.Call (.Name x np) args [] cpos) env) (λv s₁=>∃e v0 od sl h0 n,v=.ref e/\s₁.heap.get? C=some (excClassObj nm q C N bs bm hdct sn sub ab col dd k0 k1 k2 k3 k5 newId)/\
   s₁.heap.get? e=some ⟨.ref C,od,.fields #[v0,.none,.none,.none,.bool false,.none],sl⟩/\(∀b ob,h0.get? b=some ob->s₁.heap.get? b=some ob)/\h0.get? e=none/\Chn h0 n xh/\
   ∀h',Heap.SameBut e s₁.heap h'->h'.get? e=some ⟨.ref C,od,.fields #[v0,.none,.ref xh,.none,.bool true,.none],sl⟩->E (.ref e) { s₁ with heap:=h' }) E s) :
  wpAny (model prog w) A (exec (.Raise (some (.Call (.Name x np) args [] cpos)) (some (.Constant .none kk kp)) pos) env) Q E s:=by
 rw[arm_exec_Raise];have hcB:(Value.ref C::bm).contains (.type "BaseException")=true:=by rw[List.contains_cons,hbase,Bool.or_true]
 simp![evalOpt,Option.map];refine wpAny_bind (wpAny_standAt ?_);unfold raiseStmt;refine wpAny_bind (wpAny_bind (wpAny_mono h (λv s₁ h₁=>wpAny_bind (wpAny_standAt (wpAny_pure ?_))) λ_ _ x=>x));let(e,v0,od,sl,h0,n,rfl,hC,he,kp,hy,hc,hE):=h₁;let(hp,g,d,tk,os):=s₁
 repeat (first|with_reducible refine wpAny_loadPart_at he ?_|with_reducible refine wpAny_loadPart_at hC ?_|(with_reducible refine wpAny_isSubtype_exc hC ?_;rw[hcB])|wp_step)
 have ne:e≠C:=λz=>by rw[z,hC]at he;cases he
 have hC2:((hp.update e (Obj.mapFields λx=>x.setIfInBounds 3 Value.none)).update e (Obj.mapFields λx=>x.setIfInBounds 4 (Value.bool true))).get? C=some (excClassObj nm q C N bs bm hdct sn sub ab col dd k0 k1 k2 k3 k5 newId):=by rw[Heap.get?_update_other _ _ ne,Heap.get?_update_other _ _ ne];exact hC
 have he1:=Heap.get?_update_self (Obj.mapFields λx=>x.setIfInBounds 3 Value.none) he rfl
 have he2:((hp.update e (Obj.mapFields λx=>x.setIfInBounds 3 Value.none)).update e (Obj.mapFields λx=>x.setIfInBounds 4 (Value.bool true))).get? e=some ⟨.ref C,od,.fields #[v0,.none,.none,.none,.bool true,.none],sl⟩:=
  Heap.get?_update_self (Obj.mapFields λx=>x.setIfInBounds 4 (Value.bool true)) he1 rfl
 have sb:Heap.SameBut e hp ((hp.update e (Obj.mapFields λx=>x.setIfInBounds 3 Value.none)).update e (Obj.mapFields λx=>x.setIfInBounds 4 (Value.bool true))):=(Heap.SameBut.update ..).trans (Heap.SameBut.update ..);generalize (hp.update e (Obj.mapFields λx=>x.setIfInBounds 3 Value.none)).update e (Obj.mapFields λx=>x.setIfInBounds 4 (Value.bool true))=hq at hC2 he2 sb ⊢
 repeat (first|with_reducible refine wpAny_loadPart_at he2 ?_|with_reducible refine wpAny_loadPart_at hC2 ?_|(with_reducible refine wpAny_isSubtype_exc hC2 ?_;rw[hcB])|wp_step)
 refine Jj hh (h0:=h0) (λb ob z=>?_) hy hc he2 rfl (by show 2 < 6;decide) ?_
 ·exact(sb.2 b (λz'=>by rw[z',hy]at z;cases z)).trans (kp b ob z)
 ·exact hE _ (sb.trans (Heap.SameBut.update ..)) (Heap.get?_update_self (Obj.mapFields (·.setIfInBounds 2 (.ref xh))) he2 rfl)
end
section
variable{M:Model}{A:Around}{E:PQ}{s:Shared}{env:Env}{L e:Addr}{oe:Obj}{vs:Array Value}{Q:Unit->Shared->Prop}
def Qj{fs:List Addr}{oT:Option Addr}{T':Addr}{fl:Value}{h:Heap}(fr:Option Addr)(nx:NX fs e oT oe vs T' fl h s.heap)(k:∀h',NX fs e oT oe vs T' (fr.elim .none λf=>rawInt f) h h'->Q () { s with heap:=h' }):wpAny M A (setFlight (.ref e) fr) Q E s:=by
 let(n1,n2,(o',vs',o1,o2,o3,o4,o5,o6,o7),n4,n5,ot,ts,t1,t2,t3,t4):=nx;have h3:3 < ts.size:=(Array.getElem?_eq_some_iff.mp t3).1;unfold setFlight;refine wpAny_bind (wpAny_field o1 o4 o6 ?_);rw[if_pos (show(Value.ref T' != Value.none)=true by simp)];refine wpAny_setField t1 t2 h3 (k _ ?_);have oth:∀{b:Addr},b≠T'->(s.heap.update T' (Obj.mapFields (·.setIfInBounds 3 (fr.elim Value.none λf=>rawInt f)))).get? b=s.heap.get? b:=λhb=>Heap.get?_update_other _ _ (Ne.symm hb)
 have nT:∀{b:Addr} {o:Obj},h.get? b=some o->b≠T':=λ{b o} q z=>by rw[z,n4]at q;cases q
 have hdt:=Obj.data_mapFields t2 (·.setIfInBounds 3 (fr.elim Value.none λf=>rawInt f));refine{λb o h1 h2 h4 q=>(oth (nT q)).trans (n1 b o h1 h2 h4 q),λb o hb q=>?_,{o',vs',(oth (Ne.symm n5)).trans o1,o2,o3,o4,o5,o6,o7},n4,n5,_,_,Heap.get?_update_self _ t1 (Obj.isFreed_of_fields hdt),hdt,by simp[h3],(Obj.cls_mapFields _ _).trans t4};let(sl,z):=n2 b o hb q;exact{sl,(oth (nT q)).trans z}
def qdl{fs:List Addr}{oT:Option Addr}{T':Addr}{h:Heap}(hf:env.frame=some L)(nx:NX fs e oT oe vs T' (rawInt L) h s.heap)(k:∀h',NX fs e oT oe vs T' .none h h'->Q () { s with heap:=h' }):wpAny M A (leaving env (.ref e)) Q E s:=by unfold leaving;refine wpAny_bind ?_;have nx2:=nx;let(n1,n2,(o',vs',o1,o2,o3,o4,o5,o6,o7),n4,n5,ot,ts,t1,t2,t3,t4):=nx2;simp![noteFrame,hf];refine wpAny_bind (wpAny_field o1 o4 o6 ?_);rw[if_pos (show(Value.ref T' != Value.none)=true by simp)];refine wpAny_bind (wpAny_field t1 t2 t3 ?_);rw[if_pos (show(rawInt L == rawInt L)=true by simp)];exact wpAny_pure (Qj none nx k)
end
def ZV(X:Cx)(E:XK):Prop:=∀(pins:PP) (Z:St) (H:Hp) (s:Shared) (x T C:Addr) (od:Option Addr) (h:Heap) (Q:Flow->Shared->Prop),Held X pins Z H s x T C od h->E (.ref C) od H->
 wpAny (model X.prog X.w) X.A (handleBy (.ref x) X.env []) Q X.xe { s with heap:=h }
section
variable{P:Program}{w:World}{K:Frag}{mg:PR}{base:Heap}{N:List Str}{qual:Str}{scope:Scope}{f:Addr}{cd:Value}{A:Around}{outer:List Env}{s:Shared}{H:Hp}{E:XK}
def ZW:ZV (YO (CX1 P w) P w K mg base N qual scope f cd A outer s H E) E:=λpins Z H1 s1 x T C od h Q Hd q=>by let(I,Mi,ff,oe,vs,T',nx,e1,e2,e3,e4,b):=Hd;refine wpAny_handleBy_nil ?_;unfold PySem.passOn;have nx0:=nx;let(_,_,(o',vs',o1,o2,o3,o4,o5,o6,o7),_):=nx0;refine wpAny_bind (wpAny_field o1 o4 o6 ?_);rw[if_neg (5:)];refine wpAny_bind (Qj (s:={ s1 with heap:=h }) (some _) nx λh2 nx2=>wpAny_throw ?_);refine qdl (s:={ s1 with heap:=h2 }) rfl nx2 λh3 nx3=>?_;have I2:=yo I rfl Mi ff.1 ff.2 nx3;exact{x,T',C,od,H1,rfl,I2.os,I2.bare,I2.base,I2.hok,Mi.hx,I.newH nx3.new,Mi.x0,I.new0 (by intro z;cases z) nx3.new,nx3.fly e1 e2 e3 e4 b,q}
end
section
variable{X:Cx}{pins:PP}{Z:St}{H:Hp}{s:Shared}{E:PQ}
def qe5{i:Nat}{x:Str}{pos:Pos}{v:V}{Q:PQ}(I:Inv X pins Z H s)(hN:X.N[i]?=some x)(hv:Vis X.env.scope x)(e:Z[i]?=some (some v))(h:∀u,qQ v u->Q u s)
  (hd:(x == ("__debug__" : Str))=false) (hcd:(x == ("__classdict__" : Str))=false):wpAny (model X.prog X.w) X.A (eval (.Name x pos) X.env) Q E s:=by
 let(m,hn,hl):=I.loc;let(u,r,l):=hl i x v hN e hv;have fin:Q u s:=h u r;rcases l with ⟨hk,hm⟩|⟨hk,c,hc,hcell⟩
 ·exact wpAny_Name (wpAny_loadName_local I.ok.kind hk hn hm fin) hd
 ·rcases hk with hk|hk
  ·exact wpAny_Name (wpAny_loadName_cell I.ok.kind hk hc hcell fin) hd
  ·exact wpAny_Name (wpAny_loadName_free I.ok.kind hk hc hcell fin hcd) hd
def qe6{i j:Nat}{c x:Str}{p np p2 pos:Pos}{z:Str}{Q:PQ}(I:Inv X pins Z H s)(hN:X.N[i]?=some x)(hv:Vis X.env.scope x)(e:Z[i]?=some (some (.str z)))(hc:c.length<=3000)(hz:(reprText z).length<=80000)
  (h:∀y t tk,Q (.str y t) { s with toks:=tk }) (hd:(x == ("__debug__" : Str))=false) (hcd:(x == ("__classdict__" : Str))=false) :
  wpAny (model X.prog X.w) X.A (eval (.JoinedStr [.Constant (.str c) j p,.FormattedValue (.Name x np) 114 none p2] pos) X.env) Q E s:=by
 refine wpAny_JoinedStr ?_;have e0:Str.empty.length=0:=rfl;refine Calls.Constant_str ⟨c,_,rfl,J5 (by rw[strLen_append,e0];lia),?_⟩;refine wpAny_FormattedValue_repr (qe5 (I.tok _) hN hv e (λu r=>?_) hd hcd);let(t',rfl):=r;refine wpAny_pyReprObj_str ?_ (J5 (1:));refine formatField_str (λt2 tk=>{_,_,rfl,J5 (by rw[strLen_append,strLen_append,e0];lia),?_}) (J5 (1:));exact{J5 (by rw[strLen_append,strLen_append,e0];lia),h _ _ _}
end
section
variable{prog:Program}{w:World}{A:Around}{E:PQ}{s:Shared}{env:Env}
variable{nm q:Str}{C N:Addr}{bs bm bmB:List Value}{hdct:Bool}{sn:List Str}{sub:List Value}{ab:Bool}{col:Option Bool}{dd:Option Addr}{k0 k1 k2 k3 k5:Option Value}{B newId initId:String}
def qbh(F:ExcBaseFacts B newId initId bmB){mN:PR}{x:Str}{np cpos:Pos}{args:List Expr}{Q:PQ}(hplain:(backTo cpos (starEach args env)).any (·.1)=false)(hni:mN "__init__" = none)
  (h:wpAny (model prog w) A (eval (.Name x np) env) (λf s₁=>f=.ref C/\wpAny (model prog w) A (evalArgs (.ref C) true (backTo cpos (starEach args env)) [])
   (λa s₂=>a.kw=[]/\a.pos.length<=sizeLine/\s₂.heap.get? C=some (excClassObj nm q C N bs bm hdct sn sub ab col dd k0 k1 k2 k3 k5 newId)/\s₂.heap.Ns N mN/\OwnTail s₂.heap bmB bm/\
    ∀h' e,Heap.MadeExcOf s₂.heap h' e (.ref C) a.pos->Q (.ref e) { s₂ with heap:=h' }) E s₁) E s) :
  wpAny (model prog w) A (eval (.Call (.Name x np) args [] cpos) env) Q E s:=by
 refine wpAny_Call_ofName (wpAny_mono h (λf s₁ h₁=>?_) λ_ _ x=>x);let(rfl,h₁):=h₁;unfold callWith;refine wpAny_bind (wpAny_holding (wpAny_mono h₁ (λa s₂ h₂=>wpAny_bind (wpAny_standAt ?_)) λ_ _ x=>x));let(apos,akw):=a;let(hkw,hlen,hC,hn,T,h₂):=h₂;obtain rfl:akw=[]:=hkw;let(hp,g,d,tk,os):=s₂;simp![hplain];refine wpAny_bind (wpAny_keeperOf_exc hC ?_);refine wpAny_bind (wpAny_call_exc_subT (hrest:=hlen) F T hC hn hni λh' e hm=>wpAny_bind (wpAny_holding (wpAny_point (wpAny_pure ?_))));exact h₂ h' e hm
end
section
variable{X:Cx}{pins:PP}{Z:St}{H:Hp}{s:Shared}{x T C:Addr}{od:Option Addr}{h:Heap}{c n:Str}{Dc Cn:Addr}{E:XK}{D:Ends}{rest:List ExceptHandler}
def J6{bB:List Value}{B nid iid:String}{i j jj:Nat}{zc v:Str}{cp hpos np cpos rpos kp p np2 p2 p3:Pos}{z:Str}(Hd:Held X pins Z H s x T C od h)(hex:X.ex=[])(hg:Gl X c)(hm:X.mg c=some (.ref Dc))(hq:exmOne X.K (.ref C) (.ref Dc)=some true)
  (own:PassesOwnAt (model X.prog X.w) (X.A.mark (some (.ref x))) X.A X.env X.xe) (rs:jr X E) (hgn:Gl X n) (hmn:X.mg n=some (.ref Cn)) (ok:excIn X.K Cn bB nid=true) (FB:ExcBaseFacts B nid iid bB)
  (hN:X.N[i]?=some v) (hv:Vis X.env.scope v) (e:Z[i]?=some (some (.str z))) (hc:zc.length<=3000) (hz:(reprText z).length<=80000) (q:E (.ref Cn) none H)
  (hdb:(c == ("__debug__" : Str))=false) (hdn:(n == ("__debug__" : Str))=false) (hdv:(v == ("__debug__" : Str))=false) (hcv:(v == ("__classdict__" : Str))=false) :
  wpAny (model X.prog X.w) X.A (handleBy (.ref x) X.env (.ExceptHandler (some (.Name c cp)) none [.Raise (some (.Call (.Name n np) [.JoinedStr [.Constant (.str zc) j p,.FormattedValue (.Name v np2) 114 none p2] p3] [] cpos)) (some (.Constant .none jj kp)) rpos] hpos::rest)) (SP X pins D) X.xe { s with heap:=h }:=by
 have I:=Hd.now hex;refine wpAny_handleBy_cons (codeAny_handlers_test ?_) (by intro z;cases z);refine qW (X:=X.mark (.ref x)) I.mark hg hm ?_ hdb;refine Looks.here (exm_one I.kIn Hd.ty hq) ?_;refine codeAny_handlers_suite ?_;let(oe,vs,T',nx,e1,e2,e3,e4,b):=Hd.nx;refine j7 (s:={ s with heap:=h }) nx λh3 nx3=>?_;have Hd3:Held X pins Z H s x T C od h3:=⟨Hd.inv,Hd.mine,Hd.fld,oe,vs,T',nx3,e1,e2,e3,e4,b⟩;have I3:=Hd3.now hex;let(k,ch):=nx3.chn e3 e4 b;refine wpAny_passesOwnAt own (wpAny_execs_cons ?_);let(bm,N,nm,qn,bs,hd,sn,sub,ab,col,dd,k0,k1,k2,k3,k5,mN,hC,hNs,hni,Tl):=ZO I.mod.kin ok;refine Q0 (C:=Cn) (nm:=nm) (q:=qn) (N:=N) (bs:=bs) (bm:=bm) (hdct:=hd) (sn:=sn) (sub:=sub) (ab:=ab) (col:=col) (dd:=dd) (k0:=k0) (k1:=k1) (k2:=k2) (k3:=k3) (k5:=k5) (newId:=nid) (Tl.hasType FB.hasBase) rfl ?_;refine qbh (C:=Cn) (nm:=nm) (q:=qn) (N:=N) (bs:=bs) (bm:=bm) (hdct:=hd) (sn:=sn) (sub:=sub) (ab:=ab) (col:=col) (dd:=dd) (k0:=k0) (k1:=k1) (k2:=k2) (k3:=k3) (k5:=k5) FB (mN:=mN) rfl hni ?_;refine qW (X:=X.mark (.ref x)) I3.mark hgn hmn ⟨rfl,?_⟩ hdn;refine Calls.evalArgs_plain (Calls.spliced_cons (qe6 (X:=X.mark (.ref x)) (pos:=p3) I3.mark hN hv e hc hz (λy t tk=>Calls.spliced_nil ?_) hdv hcv));have I4:=I3.tok tk;have no:∀b:Addr,b∉X.ex:=λb z=>by rw[hex]at z;cases z
 refine{rfl,by show 1<=sizeLine;decide+kernel,I4.bk _ _ hC,hNs.keeps I4.bk,Tl.keeps I4.bk,λh' y m=>?_};let(tt,ht,_):=m.there;refine{y,.ref tt,none,#[],h3,k,rfl,m.keeps _ _ (I4.bk _ _ hC),ht,m.keeps,m.new,ch,λh'' sb hy=>?_}
 have kp:∀b o,h3.get? b=some o->h''.get? b=some o:=λb o z=>(sb.2 b (λw=>by
  have w2:h3.get? y=none:=m.new;rw[w,w2]at z
  cases z)).trans (m.keeps b o z)
 refine rs pins Z H _ y Cn none (I4.kept (t':=tk) kp) ⟨I4.newH m.new,I4.new0 (no y) m.new,(λT z=>by cases z),λp hp=>{λz=>?_,by simp}⟩ ⟨_,_,hy,rfl,rfl,rfl,rfl,k+1,_,_,Cn,x,hy,rfl,rfl,rfl,ch.keep λb o vs C a1 a2 a3=>{o,vs,kp b o a1,rfl,a3,rfl}⟩ q;let(e',_):=I4.pin p hp;rw[z,m.new]at e';cases e'
end
section
variable{X:Cx}
def qbi{e:Expr}{te:TE}(h:PE X.nox e te):PEx X e (λ_=>te):=λEX E1 pins s Z H Q I hx q=>wpAny_mono (h pins s Z H Q (I.wish _) q) (λ_ _ z=>by let(v,H',I',r,q):=z;exact⟨v,H',I'.unwish,r,q⟩) λ_ _ z=>False.elim z
def PAx(X:Cx)(es:List Expr)(t:XK->TA):Prop:=∀(EX:XK) (E1:PQ) (pos:Pos) (pins:PP) (s:Shared) (Z:St) (H:Hp) (Q:List V->Hp->Prop),Inv X pins Z H s->
 (∀(H1:Hp) (s1:Shared) (e:Value) (s':Shared),Inv X pins Z H1 s1->CX1 X.prog X.w X.stack H1 s1 EX e s'->E1 e s')->t EX Z H Q->wpAny (model X.prog X.w) X.A (spliced (backTo pos (starEach es X.env))) (AP X pins Z Q) E1 s
def qdm:PAx X [] (λ_=>qcW):=λ_ _ _ _ _ _ H Q I _ h=>Calls.spliced_nil ⟨[],H,I,.nil,h⟩
def Qk{e:Expr}{es:List Expr}{te:XK->TE}{t:XK->TA}(ha:PEx X e te)(hr:PAx X es t)(hs:starEach (e::es) X.env=(false,eval e X.env)::starEach es X.env):PAx X (e::es) (λEX=>ZA (te EX) (t EX)):=by intro EX E1 pos pins s Z H Q I hx h;rw[hs];show wpAny _ _ (spliced ((false,eval e X.env)::backTo pos (starEach es X.env))) _ _ s;refine Calls.spliced_cons (thn (ha EX E1 pins s Z H _ I hx h) λu s1 hq1=>?_);let(x,H1,I1,r1,q1):=hq1;refine thn (hr EX E1 pos pins s1 Z H1 _ I1 hx q1) λus s2 hz34=>?_;let(xs,H2,I2,r2,q2):=hz34;exact{x::xs,H2,I2,.cons r1 r2,q2}
theorem J7{k:Nat}{f:Addr}{fd:FuncData}{ps:List Str}{sp:Sp}{dvs:List V}{ds:List Value}{x:Str}{p pos:Pos}{e:Expr}{es:List Expr}{t:XK->TA}
  (F:FnOk X.prog X.w X.K X.mg X.base (CX1 X.prog X.w) k f fd ps sp) (hr:Room k X.A) (hg:Gl X x) (hm:X.mg x=some (.ref f)) (hk:PySem.W.keepIn X.K (.ref f)=true) (hb:qR X.K fd ps ds) (hd:qS dvs ds)
  (ha:PAx X (e::es) t) (hdb:(x == ("__debug__" : Str))=false) (he:starEach (e::es) X.env=(false,eval e X.env)::starEach es X.env) (hpl:(backTo pos (starEach es X.env)).any (·.1)=false) :
  PEx X (.Call (.Name x p) (e::es) [] pos) (λEX=>ZB sp dvs EX (t EX)):=by
 intro EX E1 pins s Z H Q I hx h;refine wpAny_Call_Name_kw (qW I hg hm ?_ hdb);refine PySem.W.callWith_K (h₀:=X.base) I.ok.mod.kin hk (thn (ha EX E1 pos pins s Z H _ I hx h) λus s1 z=>?_) he hpl;let(vs,H1,I1,r,q):=z;refine{I1.kIn,?_};have r2:qS (vs++dvs) (us++ds):=r.append hd;have hl:(us++ds).length=ps.length:=by rw[<-r2.length];exact F.len _ _ _ _ q
 refine wpAny_call (codeAny_mono (F.run X.A X.stack s1 H1 ⟨us,[]⟩ (us++ds) (vs++dvs) Q EX hr I1.env0 (hb s1 us I1.kIn hl) r2 q) λres s' hq=>?_)
 cases res with
 |error e=>exact hx H1 s1 e s' I1 hq
 |ok fl=>
  cases fl with
  |ret u=>exact I1.after hq
  |next=>exact False.elim hq
  |brk=>exact False.elim hq
  |cont=>exact False.elim hq
def qht(X:Cx)(c n:Str)(i:Nat)(bB:List Value)(nid:String)(E:XK)(t:XK->TE):TS:=λD Z H=>∃z,Z[i]?=some (some (.str z))/\(reprText z).length<=80000/\
 t (λcv od H2=>∃C b Dc,cv=.ref C/\X.mg c=some (.ref Dc)/\exmOne X.K (.ref C) (.ref Dc)=some b/\(b=true->∃Cn,X.mg n=some (.ref Cn)/\excIn X.K Cn bB nid=true/\E (.ref Cn) none H2)/\(b=false->E (.ref C) od H2)) Z H D.rt
def qdn{e:Expr}{t:XK->TE}{c n v zc:Str}{E:XK}{bB:List Value}{B nid iid:String}{i j jj:Nat}{cp hpos np cpos rpos kp p np2 p2 p3 rp pos:Pos}(he:PEx X e t)(hst:X.stack=X.env::X.outer/\X.env.frame=some X.env.locals)(hex:X.ex=[])
  (hg:Gl X c) (own:∀x:Addr,PassesOwnAt (model X.prog X.w) (X.A.mark (some (.ref x))) X.A X.env X.xe) (rs:jr X E) (pt:ZV X E) (hgn:Gl X n) (FB:ExcBaseFacts B nid iid bB)
  (hN:X.N[i]?=some v) (hv:Vis X.env.scope v) (hc:zc.length<=3000)
  (hdb:(c == ("__debug__" : Str))=false) (hdn:(n == ("__debug__" : Str))=false) (hdv:(v == ("__debug__" : Str))=false) (hcv:(v == ("__classdict__" : Str))=false) :
  PS X (.Try [.Return (some e) rp] [.ExceptHandler (some (.Name c cp)) none [.Raise (some (.Call (.Name n np) [.JoinedStr [.Constant (.str zc) j p,.FormattedValue (.Name v np2) 114 none p2] p3] [] cpos)) (some (.Constant .none jj kp)) rpos] hpos] [] [] pos) (qht X c n i bB nid E t):=by
 intro pins s Z H D I h;let(z,hz,hl,h):=h;refine wpAny_Try_except (wpAny_execs_cons (wpAny_Return_some (thn (he _ _ pins s Z H _ I (λH1 s1 ev s' I1 cx=>?_) h) λw s1 q=>?_)))
 ·exact qij (D:=D) hst hex I1 cx λx T C od H2 hh q Hd=>by
   let(C',b,Dc,ec,hm,hq,q1,q2):=q;cases ec
   cases b with
   |true=>let(Cn,hmn,ok,q):=q1 rfl;exact J6 Hd hex hg hm hq (own x) rs hgn hmn ok FB hN hv hz hc hl q hdb hdn hdv hcv
   |false=>exact yq Hd hex hg hm hq (pt pins Z H2 s' x T C od hh _ Hd (q2 rfl)) hdb
 ·let(x,H1,I1,r1,q1):=q;exact⟨x,Z,H1,I1,r1,q1⟩
def qe7{es:List Expr}{t:TA}(h:PA X.nox es t):PAx X es (λ_=>t):=λEX E1 pos pins s Z H Q I hx q=>wpAny_mono (h pos pins s Z H Q (I.wish _) q) (λ_ _ z=>by let(v,H',I',r,q):=z;exact⟨v,H',I'.unwish,r,q⟩) λ_ _ z=>False.elim z
end
def PAx.imp{X:Cx}{es:List Expr}{t t':XK->TA}(h:PAx X es t')(i:∀EX Z H Q,t EX Z H Q->t' EX Z H Q):PAx X es t:=λEX E1 pos pins s Z H Q I hx q=>h EX E1 pos pins s Z H Q I hx (i EX Z H Q q)
open PySem.Builtin.Str (partsBetween occurrences)
theorem J8:∀(l:List (Str×Tok)),qS ((l.map (·.1)).map V.str) (strValues l)
 |[]=>.nil
 | (z,t)::l=>.cons ⟨t,rfl⟩ (J8 l)
section
variable{X:Cx}
def qe8:V->List V->Hp->VK->Prop:=λx vs H Q=>∃a b:Str,x=.str a/\vs=[.str b]/\(b.length == 0)=false/\a.length+2<=sizeLine/\∀l,H l=none->Q (.ref l) (upd H l (.lst ((Txt.split a b).map V.str)))
def qbj:MtR X "str.split" qe8:=by
 intro pins s Z H x vs v us Q I rx rv h;let(a,b,rfl,rfl,hb,hz,q):=h;let(t,rfl):=rx;let(u,rfl,ru):=rv.one;let(k,rfl):=ru
 have fin:∀(l:List (Str×Tok)) (tk:Nat),l.map (·.1)=Txt.split a b->EP X pins Z Q (.ref s.heap.objs.size) { s with heap:=s.heap.push { cls:=.type "list",data:=.seq (strValues l).toArray },toks:=tk }:=λl tk e=>by
  have hw:=split_weight a b (by simp![beq_eq_false_iff_ne]at hb;lia)
  have hn:l.length<=sizeLine:=by
   have:=congrArg List.length e
   rw[List.length_map]at this
   lia
  refine{.ref s.heap.objs.size,_,I.laid (t':=tk) (λb o e=>Heap.get?_push_of_some _ e) (Nat.le_refl _) (show za X.prog X.w _ _ _ (.lst ((Txt.split a b).map V.str)) from{?_,strValues l,0,?_,Heap.get?_push_size _ rfl}),rfl,q _ (I.hok.fresh (Nat.le_refl _))}
  ·rw[<-e,List.length_map,List.length_map];exact hn
  ·rw[<-e];exact J8 l
 have hn:(partsBetween a (occurrences a b 0 a.length (a.length+1)) b.length).length<=sizeLine:=by have e1:=StrLaws.occ_length_le a b 0 a.length (a.length+1);rw[length_partsBetween];lia
 cases h1:(decide (a.length < b.length)||decide (Builtin.Str.strKind a < Builtin.Str.strKind b))
 ·cases hf:(occurrences a b 0 a.length (a.length+1)).isEmpty
  ·refine call_meets PySem.F.slot_str_split (typeIs_str _ _ _) PySem.F.entry_str_split (PySem.F.args_str_split_2 _ _) (meets_str_split_sep a b t k h1 hb hf (1:) hn) ?_;show wants _ _ _ { s with toks:=_,heap:=s.heap.push { cls:=.type "list",data:=.seq (strsFrom s.toks (partsBetween a (occurrences a b 0 a.length (a.length+1)) b.length)).toArray } };rw[strsFrom_eq];exact fin (numbered s.toks _) _ ((numbered_texts _ _).trans ((if_neg (ne_true_of_eq_false h1)).trans (if_neg (ne_true_of_eq_false hf))).symm)
  ·exact call_meets PySem.F.slot_str_split (typeIs_str _ _ _) PySem.F.entry_str_split (PySem.F.args_str_split_2 _ _) (meets_str_split_not_found a b t k h1 hb hf)
    (fin [(a,t)] s.toks ((if_neg (ne_true_of_eq_false h1)).trans (if_pos hf)).symm)
 ·exact call_meets PySem.F.slot_str_split (typeIs_str _ _ _) PySem.F.entry_str_split (PySem.F.args_str_split_2 _ _) (meets_str_split_cannot_occur a b t k h1)
   (fin [(a,t)] s.toks (if_pos h1).symm)
def qbk(a b:Str):List V:=[.str (Txt.partition a b).1,.str (Txt.partition a b).2.1,.str (Txt.partition a b).2.2]
def qhu:V->List V->Hp->VK->Prop:=λx vs H Q=>∃a b:Str,x=.str a/\vs=[.str b]/\(b.length == 0)=false/\a.length<=sizeLine/\∀l,H l=none->Q (.ref l) (upd H l (.tup (qbk a b)))
theorem qdo:MtR X "str.partition" qhu:=by
 intro pins s Z H x vs v us Q I rx rv h;let(a,b,rfl,rfl,hb,hz,q):=h;let(t,rfl):=rx;let(u,rfl,ru):=rv.one;let(k,rfl):=ru
 have fin:∀(ta tb tc:Tok) (tk:Nat),EP X pins Z Q (.ref s.heap.objs.size) { s with heap:=s.heap.push { cls:=.type "tuple",data:=.seq [.str (Txt.partition a b).1 ta,.str (Txt.partition a b).2.1 tb,.str (Txt.partition a b).2.2 tc].toArray },toks:=tk }:=λta tb tc tk=>by
  refine{.ref s.heap.objs.size,_,I.laid (t':=tk) (λb o e=>Heap.get?_push_of_some _ e) (Nat.le_refl _) (show za X.prog X.w _ _ _ (.tup (qbk a b)) from{?_,_,?_,IsTup.new _ _}),rfl,q _ (I.hok.fresh (Nat.le_refl _))}
  ·show 3<=sizeLine
   decide+kernel
  ·exact .cons ⟨ta,rfl⟩ %[⟨tb,rfl⟩,⟨tc,rfl⟩|0]
 refine call_meets PySem.F.slot_str_partition (typeIs_str _ _ _) PySem.F.entry_str_partition (PySem.F.args_str_partition_2 _ _) (meets_str_partition a b t k hb hz) ?_;have h':=fin;unfold Txt.partition at h';revert h'
 cases occurrences a b 0 a.length 1 with
 |nil=>intro h';exact h' _ _ _ _
 |cons i r=>intro h';exact h' _ _ _ _
def qhv:V->List V->Hp->VK->Prop:=λx vs H Q=>∃(a:Str) (l:Addr) (zs:List Str),x=.str a/\vs=[.ref l]/\SqL X.K H l (zs.map V.str)/\(zs.map (·.length)).sum+zs.length * a.length<=16777216/\Q (.str (Txt.join a zs)) H
def qdp:MtR X "str.join" (qhv (X:=X)):=by intro pins s Z H x vs v us Q I rx rv h;let(a,l,zs,rfl,rfl,hl,hz,q):=h;let(t,rfl):=rx;let(u,rfl,ru):=rv.one;cases ru;let(its,r,pl,_):=I.list hl;exact join_list (items:=its.toArray) pl.isList (by simpa using ZT r) hz λt' k=>{.str _,H,I.tok _,⟨t',rfl⟩,q}
def Jk:ja X (.type "int") (λxs H Q=>∃(z:Str) (n:Int),xs=[.str z]/\PySem.intText? z=some n/\z.length<=640/\Q (.int n) H):=by intro pins s Z H xs us Q I r h;let(z,n,rfl,e,hz,q):=h;let(u,rfl,ru):=YN r;let(k,rfl):=ru;exact KIN.call_text e hz ⟨.int n,H,I.tok _,⟨_,rfl⟩,q⟩
def qik:V->Option Str
 |.int n=>if n.natAbs.log2 < 1920 then some (Str.ofString (toString n)) else none
 |.str z=>if z.length<=3000 then some z else none
 |_=>none
abbrev TF:=L2.St->Hp->Str->(Str->Hp->Prop)->Prop
def PFs(X:Cx)(es:List Expr)(t:TF):Prop:=∀(pins:PP) (s:Shared) (Z:St) (H:Hp) (acc:Str) (Q:Str->Hp->Prop),Inv X pins Z H s->acc.length<=sizeLine->t Z H acc Q->
 Joins (model X.prog X.w) X.A X.xe (evalEach es X.env) acc (λout s1=>out.length<=sizeLine/\∃H1,Inv X pins Z H1 s1/\Q out H1) s
def qe9:PFs X [] (λ_ H acc Q=>Q acc H):=λpins s Z H acc Q I hl h=>⟨hl,H,I,h⟩
def qfa{z:Str}{j:Nat}{p:Pos}{es:List Expr}{t:TF}(h:PFs X es t):PFs X (.Constant (.str z) j p::es) (λZ H acc Q=>(acc++z).length<=sizeLine/\t Z H (acc++z) Q):=λpins s Z H acc Q I hl ht=>by refine thn (JO (X:=X) pins s Z H (λv H1=>v=.str z/\H1=H) I ⟨rfl,rfl⟩) λv s1 hq=>?_;let(v',H1,I1,r,rfl,rfl):=hq;let(t',rfl):=r;exact{z,t',rfl,ht.1,h pins s1 Z _ _ Q I1 ht.1 ht.2}
theorem qfb{e:Expr}{p:Pos}{te:TE}{es:List Expr}{t:TF}(he:PE X e te)(h:PFs X es t):PFs X (.FormattedValue e (-1) none p::es) (λZ H acc Q=>te Z H λv H1=>∃y,qik v=some y/\(acc++y).length<=sizeLine/\t Z H1 (acc++y) Q):=λpins s Z H acc Q I hl ht=>by
 refine FormattedValue_plain (thn (he pins s Z H _ I ht) λu s1 hq=>?_);let(v,H1,I1,r,y,ey,hz,hq):=hq
 cases v with
 |int n=>
  let(t',rfl):=r;have ey:(if n.natAbs.log2 < 1920 then some (Str.ofString (toString n)) else none)=some y:=ey
  split at ey
  ·rename_i fv;cases ey;exact formatField_int_small fv ⟨_,_,rfl,hz,h pins _ Z _ _ Q ((I1.tok _).tok _) hz hq⟩
  ·cases ey
 |str z=>
  let(t',rfl):=r;have ey:(if z.length<=3000 then some z else none)=some y:=ey
  split at ey
  ·rename_i fv;cases ey;exact wpAny_formatField_str ⟨_,_,rfl,hz,h pins _ Z _ _ Q I1 hz hq⟩ ⟨_,_,rfl,hz,h pins _ Z _ _ Q (I1.tok _) hz hq⟩ (by rw[sizeLine_eq];lia)
  ·cases ey
 |_=>cases ey
def qfc{e:Expr}{p:Pos}{te:TE}{es:List Expr}{t:TF}(he:PE X e te)(h:PFs X es t):PFs X (.FormattedValue e 114 none p::es) (λZ H acc Q=>te Z H λv H1=>∃z,v=.str z/\(reprText z).length<=sizeLine/\(acc++reprText z).length<=sizeLine/\t Z H1 (acc++reprText z) Q):=λpins s Z H acc Q I hl ht=>by refine wpAny_FormattedValue_repr (thn (he pins s Z H _ I ht) λu s1 hq=>?_);let(v,H1,I1,r,z,rfl,hz,ha,hq):=hq;let(t',rfl):=r;refine wpAny_pyReprObj_str ?_ hz;exact formatField_str (λt2 tk=>{_,_,rfl,ha,h pins _ Z _ _ Q ((I1.tok _).tok _) ha hq}) hz
def qdq{v₁ v₂:Expr}{rest:List Expr}{pos:Pos}{t:TF}(h:PFs X (v₁::v₂::rest) t):PE X (.JoinedStr (v₁::v₂::rest) pos) (λZ H Q=>t Z H Str.empty λz H1=>Q (.str z) H1):=λpins s Z H Q I hq=>by
 refine wpAny_JoinedStr ?_
 have:=h pins s Z H Str.empty _ I (Nat.zero_le _) hq
 have mono:∀(ts:List (Sem Value)) (acc:Str) (Q1 Q2:Str->Shared->Prop) (s:Shared),(∀o s,Q1 o s->Q2 o s)->Joins (model X.prog X.w) X.A X.xe ts acc Q1 s->Joins (model X.prog X.w) X.A X.xe ts acc Q2 s:=by
  intro ts
  induction ts with
  |nil=>exactλacc Q1 Q2 s i h=>i _ _ h
  |cons a l ih=>exactλacc Q1 Q2 s i h=>thn h λv s1 ⟨y,t',e1,e2,e3⟩=>{y,t',e1,e2,ih _ _ _ _ i e3}
 refine mono _ _ _ _ _ (λo s1 hz68=>?_) this;let(h1,H1,I1,h2):=hz68;exact{h1,.str o,H1,I1.tok _,{_,rfl},h2}
end
end L2
namespace DE
open PySem L2
inductive D where
 | non|bl (b:Bool)|int (n:Int)|str (s:Str)|lst (l:List D)|tup (l:List D)|ins (c:Str) (ns:List Str) (l:List D)|exc (C:Addr) (ns:List Str) (l:List D)|dct (ks:List Str) (l:List D)
 deriving Inhabited
abbrev KC:=Str->Option Addr
def kvX(ks:List Str)(xs:List V):List (Key×V):=(ks.zip xs).map λp=>(Sum.inr p.1,p.2)
mutual
def Rep(U:KC)(G:Hp):D->V->Prop
 |.non,v=>v=.non
 |.bl b,v=>v=.bl b
 |.int n,v=>v=.int n
 |.str s,v=>v=.str s
 |.lst ds,v=>∃a xs,v=.ref a/\G a=some (.lst xs)/\qx U G ds xs
 |.tup ds,v=>∃a xs,v=.ref a/\G a=some (.tup xs)/\qx U G ds xs
 |.ins c ns ds,v=>∃p dx C xs,U c=some C/\v=.ref p/\G p=some (.ins C dx (ns.zip xs))/\xs.length=ns.length/\qx U G ds xs
 |.exc C ns ds,v=>∃p od xs,v=.ref p/\G p=some (qbe p C od)/\((od=none/\ns=[])\/∃dd,od=some dd/\G dd=some (xD dd (ns.zip xs)))/\qx U G ds xs
 |.dct ks ds,v=>∃p xs,v=.ref p/\G p=some (.dK (kvX ks xs))/\xs.length=ks.length/\qx U G ds xs
def qx(U:KC)(G:Hp):List D->List V->Prop
 |[],xs=>xs=[]
 | d::ds,xs=>∃x r,xs=x::r/\Rep U G d x/\qx U G ds r
end
mutual
theorem Rep.same{U:KC}{G G':Hp}(e:qv G G'):∀{d:D} {v:V},Rep U G d v->Rep U G' d v
 |.non,v,h=>by simp![Rep]at h ⊢;exact h
 |.bl b,v,h=>by simp![Rep]at h ⊢;exact h
 |.int i,v,h=>by simp![Rep]at h ⊢;exact h
 |.str x,v,h=>by simp![Rep]at h ⊢;exact h
 |.lst ds,v,h=>by simp![Rep]at h ⊢;let(a,xs,rfl,h1,h2):=h;exact{a,xs,rfl,e _ _ h1,qx.same e h2}
 |.tup ds,v,h=>by simp![Rep]at h ⊢;let(a,xs,rfl,h1,h2):=h;exact{a,xs,rfl,e _ _ h1,qx.same e h2}
 |.ins c ns ds,v,h=>by simp![Rep]at h ⊢;let(p,dx,C,xs,hc,rfl,h1,hl,h2):=h;exact{p,dx,C,xs,hc,rfl,e _ _ h1,hl,qx.same e h2}
 |.exc C ns ds,v,h=>by
  simp![Rep]at h ⊢;let(p,od,xs,rfl,h1,h3,h2):=h;refine{p,od,xs,rfl,e _ _ h1,?_,qx.same e h2};rcases h3 with z|⟨dd,z1,z2⟩
  ·exact .inl z
  ·exact .inr ⟨dd,z1,e _ _ z2⟩
 |.dct ks ds,v,h=>by simp![Rep]at h ⊢;let(p,xs,rfl,h1,hl,h2):=h;exact{p,xs,rfl,e _ _ h1,hl,qx.same e h2}
theorem qx.same{U:KC}{G G':Hp}(e:qv G G'):∀{ds:List D} {vs:List V},qx U G ds vs->qx U G' ds vs
 |[],vs,h=>by simp![qx]at h ⊢;exact h
 | d::ds,vs,h=>by simp![qx]at h ⊢;let(x,r,rfl,h1,h2):=h;exact{x,r,rfl,Rep.same e h1,qx.same e h2}
end
section
variable{U:KC}{G G':Hp}
def qx.nil:qx U G [] []:=by simp![qx]
def qx.cons{d:D}{ds:List D}{v:V}{vs:List V}(h:Rep U G d v)(t:qx U G ds vs):qx U G (d::ds) (v::vs):=by simp![qx];exact⟨v,vs,rfl,h,t⟩
theorem qx.len:∀{ds:List D} {vs:List V},qx U G ds vs->ds.length=vs.length
 |[],vs,h=>by simp![qx]at h;subst h;rfl
 | d::ds,vs,h=>by simp![qx]at h;let(x,r,rfl,h1,h2):=h;simp[qx.len h2]
theorem qx.app:∀{ds es:List D} {vs us:List V},qx U G ds vs->qx U G es us->qx U G (ds++es) (vs++us)
 | [],es,vs,us,h,h'=>by simp![qx]at h;subst h;exact h'
 | d::ds,es,vs,us,h,h'=>by simp![qx]at h;let(x,r,rfl,h1,h2):=h;exact qx.cons h1 (qx.app h2 h')
def qx.snoc{ds:List D}{vs:List V}{d:D}{v:V}(h:qx U G ds vs)(h':Rep U G d v):qx U G (ds++[d]) (vs++[v]):=h.app %[h'|0]
theorem qx.atD:∀{ds:List D} {vs:List V} {i:Nat} {d:D},qx U G ds vs->ds[i]?=some d->∃v,vs[i]?=some v/\Rep U G d v
 |[],vs,i,d,h,e=>by simp at e
 | d::ds,vs,0,d',h,e=>by simp![qx]at h;let(x,r,rfl,h1,h2):=h;simp at e;subst e;exact⟨x,rfl,h1⟩
 | d::ds,vs,i+1,d',h,e=>by simp![qx]at h;let(x,r,rfl,h1,h2):=h;let(v',e1,e2):=qx.atD (i:=i) h2 (-e:);exact{v',(-e1:),e2}
end
inductive Sl where
 | no|val (d:D)|own (l:List D)|bor (l:List D)|scr (l:List D)
abbrev Env:=List Sl
def SlR(U:KC)(K:Frag)(G H Hv:Hp):Sl->Option (Option V)->Prop
 |.no,_=>True
 |.val d,o=>∃v,o=some (some v)/\Rep U G d v
 |.own ds,o=>∃a xs,o=some (some (.ref a))/\H a=some (.lst xs)/\Hv a=none/\G a=none/\qx U G ds xs
 |.bor ds,o=>∃a xs,o=some (some (.ref a))/\Hv a=some (.lst xs)/\qx U G ds xs
 |.scr ds,o=>∃a xs,o=some (some (.ref a))/\SqL K Hv a xs/\qx U G ds xs
def Q3(N:Env)(Z:St)(a:Addr):Prop:=∃(i:Nat) (l:List D),N[i]?=some (.own l)/\Z[i]?=some (some (.ref a))
structure ER(U:KC)(K:Frag)(Gv Hv G H:Hp)(N:Env)(Z:St):Prop where
 len:N.length=Z.length
 sub:qv G H
 base:qv Hv H
 g0:qv Gv G
 fresh:∀a o,G a=some o->(∃o',Gv a=some o')\/Hv a=none
 sl:∀(i:Nat) (s:Sl),N[i]?=some s->SlR U K G H Hv s Z[i]?
 ap:∀(i j:Nat) (a:Addr) (l m:List D),N[i]?=some (.own l)->N[j]?=some (.own m)->Z[i]?=some (some (.ref a))->Z[j]?=some (some (.ref a))->i=j
structure Po(U:KC)(K:Frag)(Gv Hv:Hp)(Z:St)(G H:Hp)(N:Env)(G' H':Hp)(N':Env):Prop where
 er:ER U K Gv Hv G' H' N' Z
 hs:qv H H'
 gs:qv G G'
 new:∀a o,G' a=some o->(∃o',G a=some o')\/H a=none\/Q3 N Z a
 fz:∀(i:Nat) (l:List D),N'[i]?=some (.own l)->N[i]?=some (.own l)
theorem qv.none{H H':Hp}(e:qv H H'){a:Addr}(h:H' a=none):H a=none:=by
 cases q:H a with
 |none=>rfl
 |some o=>rw[e a o q]at h;cases h
section
variable{U:KC}{K:Frag}{Gv Hv G H G' H' G'' H'':Hp}{N N' N'':Env}{Z:St}
def Po.refl(h:ER U K Gv Hv G H N Z):Po U K Gv Hv Z G H N G H N:={h,λ_ _ e=>e,λ_ _ e=>e,λ_ o e=>.inl ⟨o,e⟩,λ_ _ e=>e}
def Po.trans(a:Po U K Gv Hv Z G H N G' H' N')(b:Po U K Gv Hv Z G' H' N' G'' H'' N''):Po U K Gv Hv Z G H N G'' H'' N'':=
 ⟨b.er,λc o e=>b.hs c o (a.hs c o e),λc o e=>b.gs c o (a.gs c o e),λc o e=>by
  rcases b.new c o e with ⟨o',z⟩|z|⟨i,l,z1,z2⟩
  ·exact a.new c o' z
  ·exact .inr (.inl (qv.none a.hs z))
  ·exact .inr (.inr ⟨i,l,a.fz i l z1,z2⟩),λi l e=>a.fz i l (b.fz i l e)⟩
theorem SlR.grow(hs:qv H H')(gs:qv G G')(nw:∀a xs,H a=some (.lst xs)->Hv a=none->G a=none->G' a=none){s:Sl}{o:Option (Option V)}(h:SlR U K G H Hv s o):SlR U K G' H' Hv s o:=by
 cases s with
 |no=>trivial
 |val d=>let(v,e,r):=h;exact{v,e,r.same gs}
 |own ds=>let(a,xs,e,h1,h2,h3,h4):=h;exact{a,xs,e,hs _ _ h1,h2,nw a xs h1 h2 h3,h4.same gs}
 |bor ds=>let(a,xs,e,h1,h4):=h;exact{a,xs,e,h1,h4.same gs}
 |scr ds=>let(a,xs,e,h1,h4):=h;exact{a,xs,e,h1,h4.same gs}
def Po.more(h:ER U K Gv Hv G H N Z)(hs:qv H H')(gs:qv G G')(sub:qv G' H')(new:∀a o,G' a=some o->(∃o',G a=some o')\/H a=none):Po U K Gv Hv Z G H N G' H' N:=by
 refine{{h.len,sub,λb o e=>hs b o (h.base b o e),λb o e=>gs b o (h.g0 b o e),λa o e=>?_,λi s e=>(h.sl i s e).grow hs gs λa xs h1 h2 h3=>?_,h.ap},hs,gs,λa o e=>?_,λ_ _ e=>e}
 ·rcases new a o e with ⟨o',z⟩|z
  ·exact h.fresh a o' z
  ·exact .inr (qv.none h.base z)
 ·cases q:G' a with
  |none=>rfl
  |some o=>
   rcases new a o q with ⟨o',z⟩|z
   ·rw[h3]at z;cases z
   ·rw[h1]at z;cases z
 ·rcases new a o e with z|z
  ·exact .inl z
  ·exact .inr (.inl z)
def Po.room(h:ER U K Gv Hv G H N Z)(hs:qv H H'):Po U K Gv Hv Z G H N G H' N:=
 Po.more h hs (λ_ _ e=>e) (λb o e=>hs b o (h.sub b o e)) λ_ o e=>.inl ⟨o,e⟩
def Po.lay(h:ER U K Gv Hv G H N Z){a:Addr}{o:HO}(ha:H a=none):Po U K Gv Hv Z G H N (upd G a o) (upd H a o) N:=by
 have ga:G a=none:=qv.none h.sub ha;refine Po.more h (qv.upd ha) (qv.upd ga) (λb u e=>?_) λb u e=>?_
 ·by_cases hb:b=a
  ·subst hb;rw[qm]at e ⊢;exact e
  ·rw[qh hb]at e ⊢;exact h.sub b u e
 ·by_cases hb:b=a
  ·subst hb;exact .inr ha
  ·rw[qh hb]at e;exact .inl ⟨u,e⟩
end
inductive Rv where
 | val (d:D)|tmp (l:List D)|cell (l:List D)|scr (l:List D)
def RvR(U:KC)(K:Frag)(Hv Hb G H:Hp)(N:Env)(Z:St):Rv->V->Prop
 |.val d,v=>Rep U G d v
 |.tmp ds,v=>∃a xs,v=.ref a/\H a=some (.lst xs)/\Hb a=none/\Hv a=none/\G a=none/\¬ Q3 N Z a/\qx U G ds xs
 |.cell ds,v=>∃a xs,v=.ref a/\H a=some (.lst xs)/\qx U G ds xs
 |.scr ds,v=>∃a xs,v=.ref a/\SqL K H a xs/\qx U G ds xs
section
variable{U:KC}{K:Frag}{Gv Hv Hb G H G' H':Hp}{N N':Env}{Z:St}
theorem RvR.keep{r:Rv}{v:V}(h:RvR U K Hv Hb G H N Z r v)(p:Po U K Gv Hv Z G H N G' H' N'):RvR U K Hv Hb G' H' N' Z r v:=by
 cases r with
 |val d=>exact Rep.same p.gs h
 |tmp ds=>
  let(a,xs,rfl,h1,h2,h3,h4,h5,h6):=h;refine{a,xs,rfl,p.hs _ _ h1,h2,h3,?_,λ⟨i,l,z1,z2⟩=>h5 {i,l,p.fz i l z1,z2},h6.same p.gs}
  cases q:G' a with
  |none=>rfl
  |some o=>
   rcases p.new a o q with ⟨o',z⟩|z|z
   ·rw[h4]at z;cases z
   ·rw[h1]at z;cases z
   ·exact absurd z h5
 |cell ds=>let(a,xs,rfl,h1,h6):=h;exact{a,xs,rfl,p.hs _ _ h1,h6.same p.gs}
 |scr ds=>let(a,xs,rfl,h1,h6):=h;exact{a,xs,rfl,p.hs.seq h1,h6.same p.gs}
theorem RvR.back{Hc:Hp}{r:Rv}{v:V}(h:RvR U K Hv Hc G H N Z r v)(e:qv Hb Hc):RvR U K Hv Hb G H N Z r v:=by
 cases r with
 |val d=>exact h
 |tmp ds=>let(a,xs,rfl,h1,h2,h3,h4,h5,h6):=h;exact{a,xs,rfl,h1,qv.none e h2,h3,h4,h5,h6}
 |cell ds=>exact h
 |scr ds=>exact h
def Rv.list?:Rv->Option (List D)
 |.val (.lst l)=>some l
 |.tmp l=>some l
 |.cell l=>some l
 |.scr l=>some l
 |_=>none
def Rv.plain?:Rv->Option (List D)
 |.val (.lst l)=>some l
 |.tmp l=>some l
 |.cell l=>some l
 |_=>none
theorem RvR.plain(er:ER U K Gv Hv G H N Z){r:Rv}{v:V}{l:List D}(h:RvR U K Hv Hb G H N Z r v)(e:r.plain?=some l):∃a xs,v=.ref a/\H a=some (.lst xs)/\qx U G l xs:=by
 cases r with
 |val d=>
  cases d<;>simp![Rv.plain?]at e<;>try (cases e)
  simp![RvR,Rep]at h;let(a,xs,rfl,h1,h2):=h;exact{a,xs,rfl,er.sub _ _ h1,h2}
 |tmp ds=>simp![Rv.plain?]at e;cases e;let(a,xs,rfl,h1,_,_,_,_,h6):=h;exact⟨a,xs,rfl,h1,h6⟩
 |cell ds=>simp![Rv.plain?]at e;cases e;exact h
 |scr ds=>simp![Rv.plain?]at e;cases e
theorem RvR.list(er:ER U K Gv Hv G H N Z){r:Rv}{v:V}{l:List D}(h:RvR U K Hv Hb G H N Z r v)(e:r.list?=some l):∃a xs,v=.ref a/\SqL K H a xs/\qx U G l xs:=by
 cases r with
 |scr ds=>simp![Rv.list?]at e;cases e;exact h
 |val d=>
  have e':(Rv.val d).plain?=some l:=by cases d<;>simp![Rv.list?]at e<;>first|(cases e;rfl)|cases e
  let(a,xs,h1,h2,h3):=h.plain er e';exact{a,xs,h1,SqL.of h2,h3}
 |tmp ds=>let(a,xs,h1,h2,h3):=h.plain er (l:=l) e;exact{a,xs,h1,SqL.of h2,h3}
 |cell ds=>let(a,xs,h1,h2,h3):=h.plain er (l:=l) e;exact{a,xs,h1,SqL.of h2,h3}
def Po.freeze{a:Addr}{xs:List V}{G1 H1:Hp}{N1:Env}(p:Po U K Gv Hv Z G H N G1 H1 N1)(h1:H1 a=some (.lst xs))(h2:H a=none)(h3:Hv a=none)(h4:G1 a=none)(h5:¬ Q3 N1 Z a):Po U K Gv Hv Z G H N (upd G1 a (.lst xs)) H1 N1:=by
 have gs:qv G1 (upd G1 a (.lst xs)):=qv.upd h4;have er:=p.er;refine{{er.len,λb u e=>?_,er.base,λb o e=>gs b o (er.g0 b o e),λb o e=>?_,λi s e=>?_,er.ap},p.hs,λb o e=>gs b o (p.gs b o e),λb o e=>?_,p.fz}
 ·by_cases hb:b=a
  ·subst hb;rw[qm]at e;cases e;exact h1
  ·rw[qh hb]at e;exact er.sub b u e
 ·by_cases hb:b=a
  ·subst hb;exact .inr h3
  ·rw[qh hb]at e;exact er.fresh b o e
 ·have q:=er.sl i s e
  cases s with
  |no=>trivial
  |val d=>let(v,z,r):=q;exact{v,z,r.same gs}
  |own ds=>let(b,ys,z,q1,q2,q3,q4):=q;have hb:b≠a:=λw=>h5 ⟨i,ds,e,by rw[<-w];exact z⟩;exact{b,ys,z,q1,q2,by rw[qh hb];exact q3,q4.same gs}
  |bor ds=>let(b,ys,z,q1,q4):=q;exact{b,ys,z,q1,q4.same gs}
  |scr ds=>let(b,ys,z,q1,q4):=q;exact{b,ys,z,q1,q4.same gs}
 ·by_cases hb:b=a
  ·subst hb;exact .inr (.inl h2)
  ·rw[qh hb]at e;exact p.new b o e
def ER.froze{i:Nat}{l:List D}(h:ER U K Gv Hv G H N Z)(e:N[i]?=some (.own l)):∃a xs,Z[i]?=some (some (.ref a))/\Po U K Gv Hv Z G H N (upd G a (.lst xs)) H (N.set i (.val (.lst l)))/\Rep U (upd G a (.lst xs)) (.lst l) (.ref a):=by
 let(a,xs,z,h1,h2,h3,h4):=h.sl i _ e;have gs:qv G (upd G a (.lst xs)):=qv.upd h3;have hi:i < N.length:=(List.getElem?_eq_some_iff.mp e).1;have rp:Rep U (upd G a (.lst xs)) (.lst l) (.ref a):=by simp![Rep];exact{a,xs,rfl,qm,h4.same gs}
 refine{a,xs,z,{{by rw[List.length_set];exact h.len,λb u q=>?_,h.base,λb o q=>gs b o (h.g0 b o q),λb o q=>?_,λj s q=>?_,λj k b m n q1 q2=>?_},λ_ _ q=>q,gs,λb o q=>?_,λj m q=>?_},rp}
 ·by_cases hb:b=a
  ·subst hb;rw[qm]at q;cases q;exact h1
  ·rw[qh hb]at q;exact h.sub b u q
 ·by_cases hb:b=a
  ·subst hb;exact .inr h2
  ·rw[qh hb]at q;exact h.fresh b o q
 ·by_cases hj:i=j
  ·subst hj;rw[List.getElem?_set_self hi]at q;cases q;exact{_,z,rp}
  ·rw[List.getElem?_set_ne hj]at q;have w:=h.sl j s q
   cases s with
   |no=>trivial
   |val d=>let(v,z,r):=w;exact{v,z,r.same gs}
   |own ds=>let(b,ys,z',q1,q2,q3,q4):=w;have hb:b≠a:=λu=>hj (h.ap i j a l ds e q z (by rw[<-u];exact z'));exact{b,ys,z',q1,q2,by rw[qh hb];exact q3,q4.same gs}
   |bor ds=>let(b,ys,z,q1,q4):=w;exact{b,ys,z,q1,q4.same gs}
   |scr ds=>let(b,ys,z,q1,q4):=w;exact{b,ys,z,q1,q4.same gs}
 ·have f:∀{j:Nat} {m:List D},(N.set i (.val (.lst l)))[j]?=some (.own m)->N[j]?=some (.own m):=λ{j m} q=>by
   by_cases hj:i=j
   ·subst hj;rw[List.getElem?_set_self hi]at q;cases q
   ·rw[List.getElem?_set_ne hj]at q;exact q
  exact h.ap j k b m n (f q1) (f q2)
 ·by_cases hb:b=a
  ·subst hb;exact .inr (.inr ⟨i,l,e,z⟩)
  ·rw[qh hb]at q;exact .inl ⟨o,q⟩
 ·by_cases hj:i=j
  ·subst hj;rw[List.getElem?_set_self hi]at q;cases q
  ·rw[List.getElem?_set_ne hj]at q;exact q
def ER.setVal{i:Nat}{d:D}{v:V}(h:ER U K Gv Hv G H N Z)(r:Rep U G d v):ER U K Gv Hv G H (N.set i (.val d)) (Z.set i (some v)):=by
 refine{by rw[List.length_set,List.length_set];exact h.len,h.sub,h.base,h.g0,h.fresh,λj s q=>?_,λj k b m n q1 q2 q3 q4=>?_}
 ·by_cases hj:i=j
  ·subst hj;have hi:i < N.length:=by simpa using (List.getElem?_eq_some_iff.mp q).1
   rw[List.getElem?_set_self hi]at q;cases q;exact{v,by rw[List.getElem?_set_self (by rw[<-h.len];exact hi)],r}
  ·rw[List.getElem?_set_ne hj]at q ⊢;exact h.sl j s q
 ·have f:∀{j:Nat} {m:List D},(N.set i (.val d))[j]?=some (.own m)->i≠j/\N[j]?=some (.own m):=λ{j m} q=>by
   by_cases hj:i=j
   ·subst hj;have hi:i < N.length:=by simpa using (List.getElem?_eq_some_iff.mp q).1
    rw[List.getElem?_set_self hi]at q;cases q
   ·rw[List.getElem?_set_ne hj]at q;exact⟨hj,q⟩
  let(n1,e1):=f q1;let(n2,e2):=f q2;rw[List.getElem?_set_ne n1]at q3;rw[List.getElem?_set_ne n2]at q4;exact h.ap j k b m n e1 e2 q3 q4
def ER.setOwn{i:Nat}{l:List D}{a:Addr}{xs:List V}(h:ER U K Gv Hv G H N Z)(h1:H a=some (.lst xs))(h2:Hv a=none)(h3:G a=none)(h4:¬ Q3 N Z a)(r:qx U G l xs):ER U K Gv Hv G H (N.set i (.own l)) (Z.set i (some (.ref a))):=by
 have f:∀{j:Nat} {m:List D},(N.set i (.own l))[j]?=some (.own m)->i≠j->N[j]?=some (.own m):=λ{j m} q hj=>by rw[List.getElem?_set_ne hj]at q;exact q
 refine{by rw[List.length_set,List.length_set];exact h.len,h.sub,h.base,h.g0,h.fresh,λj s q=>?_,λj k b m n q1 q2 q3 q4=>?_}
 ·by_cases hj:i=j
  ·subst hj;have hi:i < N.length:=by simpa using (List.getElem?_eq_some_iff.mp q).1
   rw[List.getElem?_set_self hi]at q;cases q;exact{a,xs,by rw[List.getElem?_set_self (by rw[<-h.len];exact hi)],h1,h2,h3,r}
  ·rw[List.getElem?_set_ne hj]at q ⊢;exact h.sl j s q
 ·by_cases hj:i=j
  ·by_cases hk:i=k
   ·lia
   ·subst hj;have hi:i < Z.length:=by simpa using (List.getElem?_eq_some_iff.mp q3).1
    rw[List.getElem?_set_self hi]at q3;rw[List.getElem?_set_ne hk]at q4;cases q3;exact absurd ⟨k,n,f q2 hk,q4⟩ h4
  ·by_cases hk:i=k
   ·subst hk;have hi:i < Z.length:=by simpa using (List.getElem?_eq_some_iff.mp q4).1
    rw[List.getElem?_set_self hi]at q4;rw[List.getElem?_set_ne hj]at q3;cases q4;exact absurd ⟨j,m,f q1 hj,q3⟩ h4
   ·rw[List.getElem?_set_ne hj]at q3;rw[List.getElem?_set_ne hk]at q4;exact h.ap j k b m n (f q1 hj) (f q2 hk) q3 q4
def ER.write{i:Nat}{l m:List D}{a:Addr}{ys:List V}(h:ER U K Gv Hv G H N Z)(e:N[i]?=some (.own l))(z:Z[i]?=some (some (.ref a)))(r:qx U G m ys):ER U K Gv Hv G (upd H a (.lst ys)) (N.set i (.own m)) Z:=by
 let(a',xs,z',h1,h2,h3,h4):=h.sl i _ e;have ea:a'=a:=by rw[z']at z;injection z with z;injection z with z;injection z
 subst ea;have hi:i < N.length:=(List.getElem?_eq_some_iff.mp e).1;refine{by rw[List.length_set];exact h.len,λb u q=>?_,λb u q=>?_,h.g0,h.fresh,λj s q=>?_,λj k b m' n q1 q2=>?_}
 ·have hb:b≠a':=λw=>by rw[w,h3]at q;cases q
  rw[qh hb];exact h.sub b u q
 ·have hb:b≠a':=λw=>by rw[w,h2]at q;cases q
  rw[qh hb];exact h.base b u q
 ·by_cases hj:i=j
  ·subst hj;rw[List.getElem?_set_self hi]at q;cases q;exact⟨a',ys,z',qm,h2,h3,r⟩
  ·rw[List.getElem?_set_ne hj]at q;have w:=h.sl j s q
   cases s with
   |no=>trivial
   |val d=>exact w
   |own ds=>let(b,zs,z2,q1,q2,q3,q4):=w;have hb:b≠a':=λu=>hj (h.ap i j a' l ds e q z' (by rw[<-u];exact z2));exact{b,zs,z2,by rw[qh hb];exact q1,q2,q3,q4}
   |bor ds=>exact w
   |scr ds=>exact w
 ·have f:∀{j:Nat} {n:List D},(N.set i (.own m))[j]?=some (.own n)->∃n',N[j]?=some (.own n'):=λ{j n} q=>by
   by_cases hj:i=j
   ·subst hj;exact⟨l,e⟩
   ·rw[List.getElem?_set_ne hj]at q;exact⟨n,q⟩
  let(_,e1):=f q1;let(_,e2):=f q2;exact h.ap j k b _ _ e1 e2
end
inductive Sk where
 | lst|tup|str
def qaT(s:Str):List D:=s.cps.toList.map λc=>D.str ⟨#[c]⟩
inductive R(α:Type) where
 | ok (a:α)|exc (c:Addr) (l:List (Str×D))|no
def R.th{α M:Type}:R α->(α->R M)->R M
 |.ok a,f=>f a
 |.exc c l,_=>.exc c l
 |.no,_=>.no
def noX{α:Type}:R α->R α
 |.ok a=>.ok a
 |_=>.no
def R.of{α:Type}:Option α->R α
 |some a=>.ok a
 |none=>.no
mutual
def toP:D->Option PyData
 |.non=>some .none
 |.bl b=>some (.bool b)
 |.int n=>some (.int n)
 |.str s=>some (.str s)
 |.lst l=>(qeq l).map .list
 |.tup l=>(qeq l).map .tuple
 |.ins ..=>none
 |.exc ..=>none
 |.dct ..=>none
def qeq:List D->Option (List PyData)
 |[]=>some []
 | d::l=>(toP d).bind λp=>(qeq l).map (p :: ·)
end
def Rv.data:Rv->D
 |.val d=>d
 |.tmp l=>.lst l
 |.cell l=>.lst l
 |.scr l=>.lst l
inductive Ar where
 | val (d:D)|bor (l:List D)|scr (l:List D)
structure Xs where
 xa:Str->Addr:=λ_=>0
 xn:Str->Option (List Str):=λ_=>none
 xs:Addr->Str->Option Bool:=λ_ _=>none
 xg:Addr->Str->Bool:=λ_ _=>false
 xt:List Str:=[]
structure Cs extends Xs where
 tab:List Str
 fld:Str->Str->Bool
 mt:Str->Str->Option Str
 sub:Str->Str->Option Bool
def Cs.non:Cs:={ tab:=[],fld:=λ_ _=>false,mt:=λ_ _=>none,sub:=λ_ _=>none }
structure Ct where
 N:List Str
 sc:Scope
 tab:List Str
 gl:Str->Option D
 cl:Str->List Ar->R Rv
 cs:Cs
 nw:Str->List Ar->R Rv
 z:Bool:=false
 x:Bool:=true
 y:Bool:=true
def J9:List Str->Str->Option Nat
 |[],_=>none
 | y::r,x=>if y=x then some 0 else (J9 r x).map (· + 1)
def qer(sc:Scope)(x:Str):Bool:=match sc.names.lookup x with
 |some .local=>true
 |some .cell=>true
 |some .free=>true
 |_=>false
def qfd(sc:Scope)(x:Str):Bool:=match sc.names.lookup x with
 |some .local=>true
 |some .cell=>true
 |_=>false
def glB(sc:Scope)(x:Str):Bool:=sc.names.lookup x == some .globalImplicit
def qJ(x:Str):Bool:=!(x == ("__debug__" : Str))&&!(x == ("__classdict__" : Str))&&!(x == ("__name__" : Str))
def oif{α:Type}(c:Bool)(a:Option α):Option α:=match c with
 |true=>a
 |false=>none
def qes(L:Ct)(x:Str):Option Nat:=oif (qJ x&&qer L.sc x) (J9 L.N x)
def isF(L:Ct)(it:Expr):Option Nat:=none
def slC(N:Env)(i:Nat):R (List D):=match N[i]? with
 |some (.own l)=>.ok l
 |some (.val (.lst l))=>.ok l
 |some (.val (.tup l))=>.ok l
 |_=>.no
def Rv.int?:Rv->Option Int
 |.val (.int i)=>some i
 |_=>none
def Rv.str?:Rv->Option Str
 |.val (.str i)=>some i
 |_=>none
def Rv.bl?:Rv->Option Bool
 |.val (.bl i)=>some i
 |_=>none
def Rv.tup?:Rv->Option (List D)
 |.val (.tup i)=>some i
 |_=>none
def Ql(i j:Int):Bool:=(decide (-(2 ^ 64) < i)&&decide (i < 2 ^ 64))||(decide (-(2 ^ 64) < j)&&decide (j < 2 ^ 64))
def int2(x y:Rv)(f:Int->Int->R Rv):R Rv:=match x.int?,y.int? with
 |some i,some j=>f i j
 |_,_=>.no
def qhw(x y:Rv):R Rv:=match x.int?,y.int? with
 |some i,some j=>.ok (.val (.int (i+j)))
 |_,_=>match x.str?,y.str? with
  |some a,some b=>if a.length+b.length<=sizeLine then .ok (.val (.str (a++b))) else .no
  |_,_=>match x.plain?,y.plain? with
   |some l,some m=>if l.length+m.length<=sizeLine then .ok (.tmp (l++m)) else .no
   |_,_=>.no
def qhx(x y:Rv):R Rv:=match x.int?,y.int? with
 |some i,some j=>if Ql i j=true then .ok (.val (.int (i * j))) else .no
 |_,_=>.no
def Qm(op:Operator)(x y:Rv):R Rv:=match op with
 |.Add=>qhw x y
 |.Sub=>int2 x y λi j=>.ok (.val (.int (i - j)))
 |.Mult=>qhx x y
 |.FloorDiv=>int2 x y λi j=>if 0 < j/\j < 1073741824 then .ok (.val (.int (i / j))) else if j < 0/\-1073741824 < j then .ok (.val (.int (i.fdiv j))) else .no
 |.Mod=>int2 x y λi j=>if 0 < j then .ok (.val (.int (i % j))) else if j < 0 then .ok (.val (.int (i.fmod j))) else .no
 |.Pow=>int2 x y λi j=>if 0<=j/\j<=1000000/\i.natAbs < 2 ^ 64 then .ok (.val (.int (i ^ j.toNat))) else .no
 |_=>.no
def eqD(x y:D):Option Bool:=match toP x,toP y with
 |some p,some q=>if SeqAt.shaped p&&SeqAt.shaped q then some (PyData.eqv p q) else none
 |_,_=>none
def jY:D->Bool
 |.non=>true
 |.bl _=>true
 |.int _=>true
 |.str _=>true
 |_=>false
def seqD(r:Rv):Option (List D):=match r.tup? with
 |some l=>some l
 |none=>r.list?
def flV:D->V
 |.bl b=>.bl b
 |.int n=>.int n
 |.str s=>.str s
 |_=>.non
def inD(x:D)(l:List D):Option Bool:=if (jY x&&l.all jY)=true then some (inV (flV x) (l.map flV)) else none
def qet(x y:Rv)(f:Int->Int->Bool):Option Bool:=match x.int?,y.int? with
 |some i,some j=>some (f i j)
 |_,_=>none
def Rv.non?:Rv->Bool
 |.val .non=>true
 |_=>false
def qaU(a b:Str):Bool:=!(Builtin.Str.occurrences b a 0 b.length 1).isEmpty
def qaV(x y:Rv):Option Bool:=match x.str?,y.str? with
 |some a,some b=>some (qaU a b)
 |_,_=>(seqD y).bind (inD x.data)
def ltD(x y:Rv):Option Bool:=qet x y λi j=>decide (i < j)
def yL(op:CmpOp)(x y:Rv):Option Bool:=match op with
 |.Eq=>eqD x.data y.data
 |.NotEq=>(eqD x.data y.data).map (!·)
 |.Lt=>ltD x y
 |.LtE=>qet x y λi j=>decide (i<=j)
 |.Gt=>qet x y λi j=>decide (j < i)
 |.GtE=>qet x y λi j=>decide (j<=i)
 |.Is=>if y.non? then some x.non? else none
 |.IsNot=>if y.non? then some (!x.non?) else none
 |.In=>qaV x y
 |.NotIn=>(qaV x y).map (!·)
def qjc(x y:Rv):R Rv:=.no
def idxD(x y:Rv):R Rv:=match y.int? with
 |some i=>(match x.str? with
  |some z=>if z.length<=sizeLine then (match atI z.cps.toList i with |some c=>.ok (.val (.str ⟨#[c]⟩)) |none=>.no) else .no
  |none=>match seqD x with
   |some l=>(match atI l i with |some d=>.ok (.val d) |none=>.no)
   |none=>.no)
 |none=>qjc x y
def sliceD(r:Rv)(lo hi:Option Int):R Rv:=match r.str? with
 |some z=>if z.length<=sizeLine then .ok (.val (.str (Txt.slice z lo hi))) else .no
 |none=>.no
def truthD(r:Rv):Option Bool:=match r with
 |.val .non=>some false
 |.val (.bl b)=>some b
 |.val (.int i)=>some (i != 0)
 |.val (.str s)=>if s.length<=sizeLine then some ((s.length:Int) != 0) else none
 |r=>(seqD r).map λl=>!l.isEmpty
def Qn(cs:Cs)(r:Rv)(t:Str):Option Bool:=match r with
 |.val (.ins c _ _)=>cs.sub c t
 |.val (.exc C _ _)=>cs.xs C t
 |_=>none
def qil(cs:Cs)(C:Addr):List Str->Option Bool
 |[]=>some false
 | t::l=>(cs.xs C t).bind λb=>(qil cs C l).map (b || ·)
def qjd(cs:Cs)(r:Rv)(ts:List Str):Option Bool:=match r with
 |.val (.exc C _ _)=>qil cs C ts
 |_=>none
def qaW(cs:Cs)(r:Rv)(x:Str):Option D:=match r with
 |.val (.ins c ns ds)=>if cs.fld c x then (ns.zip ds).lookup x else none
 |_=>none
def mtD(cs:Cs)(r:Rv)(x:Str):Option Str:=match r with
 |.val (.ins c ns _)=>if ns.contains x then none else cs.mt c x
 |_=>none
def Yb:List D->Option (List Str)
 |[]=>some []
 | .str z::l=>(Yb l).map (z :: ·)
 |_=>none
def ixM(r:Rv)(as:List Ar):R Rv:=.no
def Q4(x a:Str)(l:List D):R Rv:=if x = "join" then (match Yb l with |some zs=>if (zs.map (·.length)).sum+zs.length * a.length<=16777216 then .ok (.val (.str (Txt.join a zs))) else .no |none=>.no) else .no
def Zl(x a:Str)(as:List Ar):R Rv:=match as with
 |[.val (.str b)]=>if x = "split" then (if (b.length == 0)=false/\a.length+2<=sizeLine then .ok (.tmp ((Txt.split a b).map D.str)) else .no) else if x = "partition" then (if (b.length == 0)=false/\a.length<=sizeLine then .ok (.val (.tup [.str (Txt.partition a b).1,.str (Txt.partition a b).2.1,.str (Txt.partition a b).2.2])) else .no) else .no
 |[.val (.lst l)]=>Q4 x a l
 |[.bor l]=>Q4 x a l
 |_=>.no
def bmD(x:Str)(r:Rv)(as:List Ar):R Rv:=match r with
 |.val (.str a)=>Zl x a as
 |r=>if x = "index" then ixM r as else .no
def qhy:D->Option Str
 |.int n=>if n.natAbs.log2 < 1920 then some (Str.ofString (toString n)) else none
 |.str z=>if z.length<=3000 then some z else none
 |_=>none
def yM(acc:Str):List D->Option Str
 |[]=>some acc
 | d::l=>(qhy d).bind λy=>if (acc++y).length<=sizeLine then yM (acc++y) l else none
def ifX{α:Type}(b:Bool)(r:R α):R α:=if b=true then r else noX r
def jO:Expr->Bool
 |.Constant (.str _) _ _=>true
 |.Name ..=>true
 |.Subscript ..=>true
 | .Call (.Name _ _) (_::_) _ _=>true
 |_=>false
def rprD(r:Rv):R Rv:=match r.str? with
 |some z=>if (reprText z).length<=sizeLine then .ok (.val (.str (reprText z))) else .no
 |none=>.no
def lenD(r:Rv):R Rv:=match r.str? with
 |some s=>if s.length<=sizeLine then .ok (.val (.int s.length)) else .no
 |none=>match seqD r with
  |some l=>.ok (.val (.int l.length))
  |none=>.no
def listD(r:Rv):R Rv:=.no
def qgY(r:Rv):R Rv:=match r with
 |.val (.str z)=>(match PySem.intText? z with |some n=>if z.length<=640 then .ok (.val (.int n)) else .no |none=>.no)
 |_=>.no
def intD(r:Rv):R Rv:=match r.int? with
 |some i=>.ok (.val (.int i))
 |none=>match r.bl? with
  |some b=>.ok (.val (.int (if b then 1 else 0)))
  |none=>qgY r
def qdr(r:Rv):R Rv:=.no
def qje(r:Rv):R Rv:=.no
def qjf(r:Rv):R Rv:=.no
def qhz(xs:List D)(lo hi:Option Int)(n:Int):List D:=(sliceRange (sliceBounds lo hi (some n) xs.length).1 (sliceBounds lo hi (some n) xs.length).2.1 (sliceBounds lo hi (some n) xs.length).2.2).filterMap (xs[·]?)
def qL:Expr->Bool
 |.Starred ..=>true
 |_=>false
def strD(r:Rv):R Rv:=match r.int? with
 |some i=>if i.natAbs.log2 < 1920 then .ok (.val (.str (Str.ofString (toString i)))) else .no
 |none=>.no
def tupD(r:Rv):R Rv:=.no
def qjg(r:Rv):R Rv:=.no
def qjh(r:Rv):R Rv:=.no
def kvD:D->Option (Str×Int)
 |.tup [.str s,.int n]=>some (s,n)
 |_=>none
theorem qji(d:D):(kvD d).elim True λp=>d=.tup [.str p.1,.int p.2]:=by
 cases d with
 |tup l=>cases l with
  |nil=>exact True.intro
  |cons a l=>cases a with
   |str x=>cases l with
    |nil=>exact True.intro
    |cons b l=>cases b with
     |int y=>cases l with
      |nil=>exact rfl
      |cons _ _=>exact True.intro
     |_=>exact True.intro
   |_=>exact True.intro
 |_=>exact True.intro
def qfe{d:D}{p:Str×Int}(h:kvD d=some p):d=.tup [.str p.1,.int p.2]:=by have b:=qji d;rw[h]at b;exact b
def qhA:List D->Option (List (Str×Int))
 |[]=>some []
 | d::l=>match kvD d,qhA l with
  |some p,some ps=>some (p::ps)
  |_,_=>none
def qjj(kvs:List (Str×Int))(k:Str):Option Int:=(kvs.find? λkv=>decide (kv.1=k)).map (·.2)
def qhB(n:Int)(x y:Rv):R Rv:=match x.list?,y.str? with
 |some l,some k=>(match qhA l with |some kvs=>if (kvs.map (·.1)).Nodup then .ok (.val (.int ((qjj kvs k).getD n))) else .no |none=>.no)
 |some l,none=>(match qhA l with |some kvs=>if y.non?=true/\(kvs.map (·.1)).Nodup then .ok (.val (.int n)) else .no |none=>.no)
 |_,_=>.no
def caV:Expr->Option (Str×List Expr)
 |.Call (.Name f _) as [] _=>some (f,as)
 |_=>none
theorem qjk(e:Expr):(caV e).elim True λt=>∃p q,e=.Call (.Name t.1 p) t.2 [] q:=by
 cases e with
 |Call f as ks q=>cases f with
  |Name f p=>cases ks with
   |nil=>exact⟨p,q,rfl⟩
   |cons _ _=>exact True.intro
  |_=>exact True.intro
 |_=>exact True.intro
def zg{α:Type}{o:Option α}{P:α->Prop}{a:α}(b:o.elim True P)(h:o=some a):P a:=by rw[h]at b;exact b
def ZX{e:Expr}{t:Str×List Expr}(h:caV e=some t):∃p q,e=.Call (.Name t.1 p) t.2 [] q:=by have b:=qjk e;rw[h]at b;exact b
def one?{α:Type}:List α->Option α
 |[a]=>some a
 |_=>none
def two?{α:Type}:List α->Option (α×α)
 |[a,b]=>some (a,b)
 |_=>none
theorem qgZ{α:Type}(l:List α):(one? l).elim True λa=>l=[a]:=by
 cases l with
 |nil=>exact True.intro
 |cons a l=>cases l with
  |nil=>exact rfl
  |cons _ _=>exact True.intro
theorem qjl{α:Type}(l:List α):(two? l).elim True λp=>l=[p.1,p.2]:=by
 cases l with
 |nil=>exact True.intro
 |cons a l=>cases l with
  |nil=>exact True.intro
  |cons b l=>cases l with
   |nil=>exact rfl
   |cons _ _=>exact True.intro
def dgE(L:Ct)(o:Expr)(x:Str)(es:List Expr)(b:Bool):Option (Expr×Expr×Int):=none
def maxD(x y:Rv):R Rv:=.no
def minD(x y:Rv):R Rv:=int2 x y λi j=>.ok (.val (.int (if j < i then j else i)))
def Yc:Expr->Bool
 |.Set ..=>false
 |_=>true
def zh:Expr->Option (List Str)
 |.Name x _=>some [x]
 |.Tuple es _ _=>es.foldr (λe r=>match e,r with |.Name x _,some l=>some (x::l) |_,_=>none) (some [])
 |_=>none
def qds:Expr->Bool
 |.Tuple ..=>true
 |_=>false
def qim:Sl->Sl
 |.own l=>.bor l
 |s=>s
def yV(N:List Str)(sc:Scope):List Nat:=(List.range N.length).filter λi=>sc.names.lookup (N.getD i "") == some .free
def qhC(l:List D):List D:=(List.range l.length).zipWith (λ(i:Nat) d=>D.tup [.int i,d]) l
def qjm(l m:List D):List D:=List.zipWith (λa b=>D.tup [a,b]) l m
def zw(lo hi:Int):List D:=(List.range (hi - lo).toNat).map λi:Nat=>D.int (lo+i)
def qdt(lo hi c:Int):List D:=(List.range (rsz lo hi c)).map λi:Nat=>D.int (lo+i * c)
def rgB(i j c:Int):Bool:=decide (-(2 ^ 60)<=i)&&decide (i < 2 ^ 60)&&decide (-(2 ^ 60)<=j)&&decide (j < 2 ^ 60)&&decide (0 < c)&&decide (c < 2 ^ 30)
def rg3(x y z:Rv):R (List D):=match x.int?,y.int?,z.int? with
 |some i,some j,some c=>if rgB i j c=true then .ok (qdt i j c) else .no
 |_,_,_=>.no
def qci(i:Int):Bool:=decide (-(2 ^ 62)<=i)&&decide (i < 2 ^ 62)
def lrE(L:Ct)(f:Str)(a:Expr):Option (Expr×Expr):=none
def ssE(L:Ct)(f:Str)(a:Expr):Option Expr:=none
def lrD(x y:Rv):R Rv:=match x.int?,y.int? with
 |some i,some j=>if qci i=true/\qci j=true/\(j - i).toNat<=10000 then .ok (.tmp (zw i j)) else .no
 |_,_=>.no
def irE(L:Ct)(op:CmpOp)(b:Expr):Option Expr:=none
def qjn(x y:Rv):R Rv:=match x.int?,y.int? with
 |some i,some j=>.ok (.val (.bl (!decide (0<=i/\i < j))))
 |_,_=>.no
def zi(i:Int):Bool:=decide (-(2 ^ 62)<=i)&&decide (i < 2 ^ 62)
mutual
def nfD:D->Bool
 |.lst l=>(l.isEmpty||!(l.all jY))&&qcj l
 |.tup l=>qcj l
 |.ins _ _ l=>qcj l
 |.exc _ _ l=>qcj l
 |.dct _ l=>qcj l
 |_=>true
def qcj:List D->Bool
 |[]=>true
 | d::l=>nfD d&&qcj l
end
def nfA:Ar->Bool
 |.val d=>nfD d
 |.bor l=>qcj l
 |.scr l=>qcj l
def qjo(as:List Ar)(r:Rv):Rv:=match r with
 |.val (.lst l)=>if as.all nfA&&!l.isEmpty&&l.all jY then .tmp l else r
 |_=>r
def ZY(asg:D->Env->R Env)(test:Env->R (Bool×Env))(elt:Env->R (D×Env)):List D->Env->List D->R (List D)
 |[],_,acc=>.ok acc
 | d::ds,N,acc=>(asg d N).th λN1=>(test N1).th λbt=>if bt.1 then (elt bt.2).th λx=>if acc.length < sizeLine then ZY asg test elt ds x.2 (acc++[x.1]) else .no else ZY asg test elt ds bt.2 acc
inductive Fl where
 | next (N:Env)|ret (r:Rv)
def jH:Expr->Bool
 |.ListComp ..=>false
 |.SetComp ..=>false
 |.DictComp ..=>false
 |_=>true
def ZZ:Expr->Bool
 |.Tuple ..=>false
 |_=>true
def qg0(step:D->Env->R Fl):List D->Env->R Fl
 |[],N=>.ok (.next N)
 | d::ds,N=>(step d N).th λf=>match f with
  |.next N1=>qg0 step ds N1
  |.ret r=>.ok (.ret r)
def whL(test:Env->R (Bool×Env))(body:Env->R Fl):Nat->Env->R Fl
 |0,_=>.no
 | n+1,N=>(test N).th λb=>if b.1 then (body b.2).th λf=>(match f with
  |.next N1=>whL test body n N1
  |.ret r=>.ok (.ret r)) else .ok (.next b.2)
inductive B1 where
 | len|list|int|srt|sum|all|str|tup|any|sst|rpr
inductive B2 where
 | max|min|get (n:Int)|rng|inr
inductive Ty where
 | int|bool|str|list|tuple
inductive Tg where
 | one (i:Nat)|many (l:List Nat)
structure Cl where
 f:Str->List Ar->R Rv
 cs:Cs
 nw:Str->List Ar->R Rv
 x:Bool:=true
 y:Bool:=true
instance:CoeFun Cl (λ_=>Str->List Ar->R Rv):=⟨Cl.f⟩
mutual
inductive E where
 | var (i:Nat)|con (d:D)|bin (op:Operator) (a b:E)|neg (a:E)|not (a:E)|one (a:E)|and (a b:E)|or (a b:E)|cmp (op:CmpOp) (a b:E)|ite (c:T) (a b:E)
 | idx (a i:E)|sli (a:E) (lo hi:O)|rvs (a:E)|stp (n:Int) (a:E) (lo hi:O)|lst (l:Es)|tup (l:Es)|call (f:Str) (l:Es)|calF (f:Str) (l:Es)|calN (f:Str) (l:Es)|b1 (f:B1) (a:E)|b2 (f:B2) (a b:E)|isi (t:Ty) (a:E)|isc (t:Str) (a:E)|isn (ts:List Str) (a:E)|fld (a:E) (x:Str)|met (a:E) (x:Str) (l:Es)|new (f:Str) (l:Es)|fst (l:Es)|dct (ks:List Str) (l:Es)|comp (x:E) (src:I) (tg:Tg) (c:F) (n:Nat) (fr:List Nat)
inductive Es where
 | nil|cons (a:E) (l:Es)
inductive T where
 | not (a:T)|one (a:T)|and (a b:T)|or (a b:T)|cmp (op:CmpOp) (a b:E)|chn (op op':CmpOp) (a b c:E)|val (a:E)
inductive O where
 | none|some (a:E)
inductive F where
 | yes|test (c:T)
inductive I where
 | nam (i:Nat)|seq (a:E)|rng (a:E)|rng2 (a b:E)|rng3 (a b c:E)|enum (a:E)|zip (a b:E)|rev (a:E)
end
def slR(N:Env)(i:Nat):R Rv:=match N[i]? with
 |some (.val d)=>.ok (.val d)
 |some (.own l)=>.ok (.cell l)
 |some (.bor l)=>.ok (.cell l)
 |some (.scr l)=>.ok (.scr l)
 |_=>.no
def slE(N:Env)(i:Nat):R (D×Env):=match N[i]? with
 |some (.val d)=>.ok (d,N)
 |some (.own l)=>.ok (.lst l,N.set i (.val (.lst l)))
 |_=>.no
def slL(N:Env)(i:Nat):R ((Sk×List D)×Env):=match N[i]? with
 |some (.val (.lst l))=>.ok ((.lst,l),N)
 |some (.val (.tup l))=>.ok ((.tup,l),N)
 |some (.val (.str z))=>.ok ((.str,qaT z),N)
 |some (.own l)=>.ok ((.lst,l),N.set i (.val (.lst l)))
 |some (.bor l)=>.ok ((.lst,l),N)
 |some (.scr l)=>.ok ((.lst,l),N)
 |_=>.no
def slX(N:Env)(i:Nat):R Rv:=match N[i]? with
 |some (.val d)=>.ok (.val d)
 |some (.own l)=>.ok (.tmp l)
 |_=>.no
def B1.go:B1->Rv->R Rv
 |.len=>lenD
 |.list=>listD
 |.int=>intD
 |.srt=>qdr
 |.sum=>qjf
 |.all=>qjg
 |.str=>strD
 |.tup=>tupD
 |.any=>qjh
 |.sst=>qje
 |.rpr=>rprD
def B2.go:B2->Rv->Rv->R Rv
 |.max=>maxD
 |.min=>minD
 |.get n=>qhB n
 |.rng=>lrD
 |.inr=>qjn
def Ty.of:Ty->D->Option Bool
 |_,.ins ..=>none
 |_,.exc ..=>none
 |_,.dct ..=>none
 |.int,.int _=>some true
 |.int,.bl _=>some true
 |.bool,.bl _=>some true
 |.str,.str _=>some true
 |.list,.lst _=>some true
 |.tuple,.tup _=>some true
 |_,_=>some false
def Ty.go(t:Ty):Rv->Option Bool
 |.scr _=>none
 |r=>t.of r.data
def Jl:List Nat->List D->Env->R Env
 |[],[],N=>.ok N
 | i::l,d::ds,N=>Jl l ds (N.set i (.val d))
 |_,_,_=>.no
def Tg.go:Tg->D->Env->R Env
 |.one i,d,N=>.ok (N.set i (.val d))
 |.many l,.tup ds,N=>Jl l ds N
 |_,_,_=>.no
def toAr:Rv->Ar
 |.val d=>.val d
 |.tmp l=>.val (.lst l)
 |.cell l=>.bor l
 |.scr l=>.scr l
def Q5(n:Nat)(fr:List Nat)(N:Env):Env:=List.replicate n Sl.no++fr.map λi=>qim (N.getD i .no)
def qdu(x:Rv×Env):R (D×Env):=match x.1 with
 |.val d=>.ok (d,x.2)
 |.tmp l=>.ok (.lst l,x.2)
 |_=>.no
def qg1(x:Rv×Env):R ((Sk×List D)×Env):=match x.1 with
 |.val (.lst l)=>.ok ((.lst,l),x.2)
 |.val (.tup l)=>.ok ((.tup,l),x.2)
 |.val (.str z)=>.ok ((.str,qaT z),x.2)
 |.tmp l=>.ok ((.lst,l),x.2)
 |_=>.no
def zK(e:E)(r:Env->R (Rv×Env))(N:Env):R (D×Env):=match e with
 |.var i=>slE N i
 |.con d=>.ok (d,N)
 |_=>(r N).th qdu
def YL(e:E)(r:Env->R (Rv×Env))(N:Env):R ((Sk×List D)×Env):=match e with
 |.var i=>slL N i
 |_=>(r N).th qg1
mutual
def iR(cl:Cl):E->Env->R (Rv×Env)
 |.var i,N=>(slR N i).th λr=>.ok (r,N)
 |.con d,N=>.ok (.val d,N)
 |.bin op a b,N=>(iR cl a N).th λx=>(iR cl b x.2).th λy=>(Qm op x.1 y.1).th λr=>.ok (r,y.2)
 |.neg a,N=>(iR cl a N).th λx=>match x.1 with
  |.val (.int i)=>.ok (.val (.int (-i)),x.2)
  |_=>.no
 |.not a,N=>(iR cl a N).th λx=>match x.1 with
  |.val (.bl b)=>.ok (.val (.bl (!b)),x.2)
  |_=>.no
 |.one a,N=>iR cl a N
 |.and a b,N=>(iR cl a N).th λx=>match x.1 with
  |.val (.bl true)=>iR cl b x.2
  |.val (.bl false)=>.ok (.val (.bl false),x.2)
  |_=>.no
 |.or a b,N=>(iR cl a N).th λx=>match x.1 with
  |.val (.bl false)=>iR cl b x.2
  |.val (.bl true)=>.ok (.val (.bl true),x.2)
  |_=>.no
 |.cmp op a b,N=>(iR cl a N).th λx=>(iR cl b x.2).th λy=>(R.of (yL op x.1 y.1)).th λr=>.ok (.val (.bl r),y.2)
 |.ite c a b,N=>(iT cl c N).th λt=>if t.1 then iR cl a t.2 else iR cl b t.2
 |.idx a i,N=>(iR cl a N).th λx=>(iR cl i x.2).th λy=>(idxD x.1 y.1).th λr=>.ok (r,y.2)
 |.sli a lo hi,N=>(iR cl a N).th λx=>(iO cl lo x.2).th λl=>(iO cl hi l.2).th λh=>(sliceD x.1 l.1 h.1).th λr=>.ok (r,h.2)
 |.stp n a lo hi,N=>(iR cl a N).th λx=>(iO cl lo x.2).th λl=>(iO cl hi l.2).th λh=>(R.of x.1.list?).th λd=>.ok (.tmp (qhz d l.1 h.1 n),h.2)
 |.rvs a,N=>(iR cl a N).th λx=>(R.of x.1.list?).th λl=>.ok (.tmp l.reverse,x.2)
 |.lst l,N=>(iEs cl l N).th λx=>if x.1.length<=sizeLine then .ok (.tmp x.1,x.2) else .no
 |.tup l,N=>(iEs cl l N).th λx=>if x.1.length<=sizeLine then .ok (.val (.tup x.1),x.2) else .no
 |.call f l,N=>(iAs cl l N).th λx=>(cl f x.1).th λr=>.ok (r,x.2)
 |.calF f l,N=>(iEs cl l N).th λx=>(cl f (x.1.map .val)).th λr=>.ok (r,x.2)
 |.calN f l,N=>(iAs cl l N).th λx=>(noX (cl f x.1)).th λr=>.ok (qjo x.1 r,x.2)
 |.b1 f a,N=>(iR cl a N).th λx=>(f.go x.1).th λr=>.ok (r,x.2)
 |.b2 f a b,N=>(iR cl a N).th λx=>(noX (iR cl b x.2)).th λy=>(f.go x.1 y.1).th λr=>.ok (r,y.2)
 |.isi t a,N=>(iR cl a N).th λx=>(R.of (t.go x.1)).th λb=>.ok (.val (.bl b),x.2)
 |.isc t a,N=>(noX (iR cl a N)).th λx=>(R.of (Qn cl.cs x.1 t)).th λb=>.ok (.val (.bl b),x.2)
 |.isn ts a,N=>(noX (iR cl a N)).th λx=>(R.of (qjd cl.cs x.1 ts)).th λb=>.ok (.val (.bl b),x.2)
 |.fld a x,N=>(noX (iR cl a N)).th λy=>(R.of (qaW cl.cs y.1 x)).th λd=>.ok (.val d,y.2)
 |.met a x l,N=>(iR cl a N).th λy=>match mtD cl.cs y.1 x with
  |some f=>(iAs cl l y.2).th λz=>(cl f (toAr y.1::z.1)).th λr=>.ok (r,z.2)
  |none=>(noX (iAs cl l y.2)).th λz=>(noX (bmD x y.1 z.1)).th λr=>.ok (r,z.2)
 |.new f l,N=>(ifX cl.y (iAs cl l N)).th λx=>(cl.nw f x.1).th λr=>.ok (r,x.2)
 |.fst l,N=>(noX (iEs cl l N)).th λx=>(R.of (yM Str.empty x.1)).th λz=>.ok (.val (.str z),x.2)
 |.dct ks l,N=>(iEs cl l N).th λx=>.ok (.val (.dct ks x.1),x.2)
 |.comp e src tg c n fr,N=>(iI cl src N).th λx=>if x.1.length<=sizeLine then (noX (ZY tg.go (λN1=>iF cl c N1) (zK e (iR cl e)) x.1 (Q5 n fr x.2) [])).th λl=>.ok (.tmp l,x.2) else .no
def iT(cl:Cl):T->Env->R (Bool×Env)
 |.not a,N=>(iT cl a N).th λt=>.ok (!t.1,t.2)
 |.one a,N=>iT cl a N
 |.and a b,N=>(iT cl a N).th λt=>if t.1 then iT cl b t.2 else .ok (false,t.2)
 |.or a b,N=>(iT cl a N).th λt=>if t.1 then .ok (true,t.2) else iT cl b t.2
 |.cmp op a b,N=>(iR cl a N).th λx=>(iR cl b x.2).th λy=>(R.of (yL op x.1 y.1)).th λr=>.ok (r,y.2)
 | .chn op op' a b c,N=>(iR cl a N).th λx=>(iR cl b x.2).th λy=>(R.of (yL op x.1 y.1)).th λr=>if r=true then (iR cl c y.2).th λz=>(R.of (yL op' y.1 z.1)).th λr'=>.ok (r',z.2) else .ok (false,y.2)
 |.val a,N=>(iR cl a N).th λx=>(R.of (truthD x.1)).th λb=>.ok (b,x.2)
def iEs(cl:Cl):Es->Env->R (List D×Env)
 |.nil,N=>.ok ([],N)
 |.cons e l,N=>(zK e (iR cl e) N).th λx=>(iEs cl l x.2).th λy=>.ok (x.1::y.1,y.2)
def iAs(cl:Cl):Es->Env->R (List Ar×Env)
 |.nil,N=>.ok ([],N)
 |.cons e l,N=>(iR cl e N).th λx=>(iAs cl l x.2).th λy=>.ok (toAr x.1::y.1,y.2)
def iO(cl:Cl):O->Env->R (Option Int×Env)
 |.none,N=>.ok (none,N)
 |.some e,N=>(iR cl e N).th λx=>match x.1 with
  |.val (.int i)=>.ok (some i,x.2)
  |_=>.no
def iF(cl:Cl):F->Env->R (Bool×Env)
 |.yes,N=>.ok (true,N)
 |.test c,N=>iT cl c N
def iI(cl:Cl):I->Env->R (List D×Env)
 |.nam i,N=>(slC N i).th λl=>.ok (l,N)
 |.seq a,N=>(YL a (iR cl a) N).th λx=>.ok (x.1.2,x.2)
 |.rng a,N=>(iR cl a N).th λx=>(match x.1.int? with
  |some n=>if zi n=true then .ok (zw 0 n,x.2) else .no
  |none=>.no)
 |.rng3 a b c,N=>(iR cl a N).th λx=>(iR cl b x.2).th λy=>(iR cl c y.2).th λz=>(rg3 x.1 y.1 z.1).th λl=>.ok (l,z.2)
 |.rng2 a b,N=>(iR cl a N).th λx=>(iR cl b x.2).th λy=>(match x.1.int?,y.1.int? with
  |some i,some j=>if zi i=true/\zi j=true then .ok (zw i j,y.2) else .no
  |_,_=>.no)
 |.enum a,N=>(YL a (iR cl a) N).th λx=>match x.1.1 with |.lst=>.ok (qhC x.1.2,x.2) |_=>.no
 |.rev a,N=>(YL a (iR cl a) N).th λx=>match x.1.1 with |.lst=>.ok (x.1.2.reverse,x.2) |_=>.no
 |.zip a b,N=>(YL a (iR cl a) N).th λx=>(YL b (iR cl b) x.2).th λy=>match x.1.1,y.1.1 with |.lst,.lst=>.ok (qjm x.1.2 y.1.2,y.2) |_,_=>.no
end
inductive Xa where
 | nil|leaf (e:E) (r:Xa)|call (g:Str) (l:Es) (r:Xa)
def iXa(cl:Cl):Xa->Env->R (List Ar×Env)
 |.nil,N=>.ok ([],N)
 |.leaf e r,N=>(noX (iR cl e N)).th λx=>(iXa cl r x.2).th λy=>.ok (toAr x.1::y.1,y.2)
 |.call g l r,N=>(noX (iAs cl l N)).th λx=>(cl g x.1).th λv=>(iXa cl r x.2).th λy=>.ok (toAr v::y.1,y.2)
mutual
inductive S where
 | pass|expr (e:E)|app (i:Nat) (e:E)|ext (i:Nat) (e:E)|clr (i:Nat)|ret (e:E)|retN|set (i:Nat) (e:E)|setT (tg:Tg) (e:E)|setI (i:Nat) (x e:E)|ite (c:T) (a b:Ss)|for_ (tg:Tg) (src:I) (b:Ss)|whl (c:T) (b:Ss)|rai (n:Str) (l:Es)|tryR (f:Str) (a:Xa) (c n:Str) (i:Nat)|try_ (b:Ss) (hs:List (Str×Nat×Nat))|stuck
inductive Ss where
 | nil|cons (s:S) (l:Ss)
end
def yI(N:Env)(i:Nat):Option (List D):=match N[i]? with
 |some (.own l)=>some l
 |_=>none
def qbl(e:E)(r:Env->R (Rv×Env))(N:Env):R Rv:=match e with
 |.var i=>slX N i
 |.con d=>.ok (.val d)
 |_=>(r N).th λx=>match x.1 with
  |.val d=>.ok (.val d)
  |.tmp l=>.ok (.tmp l)
  |_=>.no
def Q6(e:E)(r:Env->R (Rv×Env))(N:Env):R (Sl×Env):=match e with
 |.var i=>(slE N i).th λr=>.ok (.val r.1,r.2)
 |.con d=>.ok (.val d,N)
 |_=>(r N).th λx=>match x.1 with
  |.val d=>.ok (.val d,x.2)
  |.tmp l=>.ok (.own l,x.2)
  |_=>.no
def mkX(b:Bool)(cs:Cs)(n:Str)(ds:List D):R Fl:=match cs.xn n with
 |some []=>if ds.length<=sizeLine then .exc (cs.xa n) [] else .no
 |some _=>.no
 |none=>.no
def ju(cs:Cs)(n:Nat)(C:Addr)(l:List (Str×D)):List (Str×Nat×Nat)->R Fl
 |[]=>.no
 | h::hs=>match cs.xs C h.1 with
  |some true=>.ok (.next ((List.replicate n Sl.no).set h.2.2 (.val (.exc C (l.map (·.1)) (l.map (·.2))))))
  |some false=>ju cs n C l hs
  |none=>.no
def yW(cs:Cs)(C:Addr)(l:List (Str×D))(c n:Str):R Fl:=match cs.xs C c with
 |some true=>(match cs.xn n with
  |some []=>.exc (cs.xa n) []
  |_=>.no)
 |some false=>.exc C l
 |none=>.no
def qeu:Rv->R Fl
 |.val d=>.ok (.ret (.val d))
 |.tmp l=>.ok (.ret (.tmp l))
 |_=>.no
def qbm(r:R Rv):Bool:=match r with
 |.ok (.val (.str z))=>decide ((reprText z).length<=80000)
 |_=>false
mutual
def iS(cl:Cl)(w:Nat):S->Env->R Fl
 |.pass,N=>.ok (.next N)
 |.expr e,N=>(iR cl e N).th λx=>.ok (.next x.2)
 |.app i e,N=>(match yI N i with
  |none=>.no
  |some _=>(zK e (iR cl e) N).th λy=>(match yI y.2 i with
   |some l=>if l.length < sizeLine then .ok (.next (y.2.set i (.own (l++[y.1])))) else .no
   |none=>.no))
 |.ext i e,N=>(match yI N i with
  |none=>.no
  |some _=>(iR cl e N).th λy=>(match yI y.2 i,y.1.plain? with
   |some l,some n=>if l.length+n.length<=sizeLine then .ok (.next (y.2.set i (.own (l++n)))) else .no
   |_,_=>.no))
 |.clr i,N=>(match yI N i with
  |some _=>.ok (.next (N.set i (.own [])))
  |none=>.no)
 |.ret e,N=>(qbl e (iR cl e) N).th λr=>.ok (.ret r)
 |.retN,N=>.ok (.ret (.val .non))
 |.set i e,N=>(Q6 e (iR cl e) N).th λs=>.ok (.next (s.2.set i s.1))
 |.setT tg e,N=>(zK e (iR cl e) N).th λx=>(tg.go x.1 x.2).th λN1=>.ok (.next N1)
 |.setI i x e,N=>(zK e (iR cl e) N).th λy=>(match yI y.2 i with
  |none=>.no
  |some _=>(iR cl x y.2).th λz=>(match yI z.2 i,z.1.int? with
   |some l,some n=>(match ixN l.length n with
    |some k=>.ok (.next (z.2.set i (.own (l.set k y.1))))
    |none=>.no)
   |_,_=>.no))
 |.ite c a b,N=>(iT cl c N).th λt=>if t.1 then iSs cl w a t.2 else iSs cl w b t.2
 |.for_ tg src b,N=>(iI cl src N).th λx=>qg0 (λd N1=>(tg.go d N1).th λN2=>iSs cl w b N2) x.1 x.2
 |.whl c b,N=>whL (λN1=>iT cl c N1) (λN1=>iSs cl w b N1) w N
 |.rai n l,N=>(noX (iEs cl l N)).th λx=>mkX cl.x cl.cs n x.1
 |.try_ b hs,N=>match iSs cl w b N with
  |.exc C l=>ju cl.cs N.length C l hs
  |r=>r
 |.tryR f a c n i,N=>if qbm (slR N i)=true then (match (iXa cl a N).th λx=>(cl f x.1).th qeu with
   |.exc C l=>yW cl.cs C l c n
   |r=>r) else .no
 |.stuck,_=>.no
def iSs(cl:Cl)(w:Nat):Ss->Env->R Fl
 |.nil,N=>.ok (.next N)
 |.cons s l,N=>(iS cl w s N).th λf=>match f with
  |.next N1=>iSs cl w l N1
  |.ret r=>.ok (.ret r)
end
def o2{α M γ:Type}(a:Option α)(b:Option M)(f:α->M->γ):Option γ:=match a,b with
 |some x,some y=>some (f x y)
 |_,_=>none
theorem ql{α M γ:Type}{a:Option α}{b:Option M}{f:α->M->γ}{z:γ}(h:o2 a b f=some z):∃x y,a=some x/\b=some y/\f x y=z:=by
 cases a with
 |none=>cases h
 |some x=>
  cases b with
  |none=>cases h
  |some y=>exact{x,y,rfl,rfl,Option.some.inj h}
def qbn{α:Type}{c:Prop}[Decidable c]{a:Option α}{z:α}(h:(if c then a else none)=some z):c/\a=some z:=by
 by_cases hc:c
 ·rw[if_pos hc]at h;exact⟨hc,h⟩
 ·rw[if_neg hc]at h;cases h
theorem qf{α:Type}{c:Bool}{a:Option α}{z:α}(h:oif c a=some z):c=true/\a=some z:=by
 cases c with
 |true=>exact⟨rfl,h⟩
 |false=>cases h
def Ct.k(L:Ct):Cl:=⟨L.cl,L.cs,L.nw,L.x,L.y⟩
def cC(L:Ct)(it:Expr)(r:Option I):Option I:=match isF L it with
 |some i=>some (.nam i)
 |none=>r
def Jm(L:Ct)(x:Str):Option E:=oif (qJ x) (match J9 L.N x with
 |some i=>oif (qer L.sc x) (some (.var i))
 |none=>oif (glB L.sc x) ((L.gl x).map .con))
def qck:Const->Option E
 |.none=>some (.con .non)
 |.bool b=>some (.con (.bl b))
 |.int i=>some (.con (.int i))
 |.str s=>some (.con (.str s))
 |_=>none
def qg2(t:Str):Option Ty:=if t = "int" then some .int else if t = "bool" then some .bool else if t = "str" then some .str else if t = "list" then some .list else if t = "tuple" then some .tuple else none
def qhD(f:Str):Option B1:=if f = "len" then some .len else if f = "int" then some .int else if f = "str" then some .str else none
def qhE(f:Str):Option B2:=if f = "min" then some .min else none
def qbo(L:Ct)(x:Str):Option Nat:=oif (qfd L.sc x&&qJ x) (J9 L.N x)
def qbp(L:Ct):List Str->Option (List Nat)
 |[]=>some []
 | x::l=>o2 (qbo L x) (qbp L l) (· :: ·)
def cTg(L:Ct)(tg:Expr):Option Tg:=match tg with
 |.Name x _=>(qbo L x).map .one
 |.Tuple es j p=>oif (!es.any qL) (match zh (.Tuple es j p) with
  |some xs=>(qbp L xs).map .many
  |none=>none)
 |_=>none
def Jn:E->Option E
 |.var _=>none
 |e=>some e
def qhF:Expr->Bool
 |.Name ..=>true
 |_=>false
def qdv{e:Expr}(h:qhF e=true):∃x p,e=.Name x p:=by
 have b:cond (qhF e) (∃x p,e=.Name x p) True:=by
  cases e with
  |Name x p=>exact⟨x,p,rfl⟩
  |_=>exact True.intro
 rw[h]at b;exact b
def cFs(g:Expr->Option E):List Expr->Option Es
 |[]=>some .nil
 | .Constant (.str z) _ _::l=>(cFs g l).map (.cons (.con (.str z)))
 | .FormattedValue e i none _::l=>if i=114 then oif (qhF e) (o2 (g e) (cFs g l) λa r=>.cons (.b1 .rpr a) r) else oif (decide (i = -1)) (o2 (g e) (cFs g l) .cons)
 |_=>none
def cVs(g:Expr->Option E):List Expr->Option Es
 |[]=>some .nil
 | e::l=>o2 (g e) (cVs g l) .cons
def cKs:List (Option Expr)->Option (List Str)
 |[]=>some []
 | some (.Constant (.str z) _ _)::l=>(cKs l).map (z :: ·)
 |_=>none
mutual
def cE:Nat->Ct->Expr->Option E
 |0,_,_=>none
 | m+1,L,e=>match e with
  |.Name x _=>Jm L x
  |.Constant c _ _=>qck c
  |.BinOp a op b _=>o2 (cE m L a) (cE m L b) (E.bin op)
  |.UnaryOp .USub _ _=>none
  |.UnaryOp .Not a _=>(cE m L a).map .not
  |.BoolOp _ [a] _=>(cE m L a).map .one
  | .BoolOp .And (a::b::l) p=>o2 (cE m L a) (cE m L (.BoolOp .And (b::l) p)) .and
  | .BoolOp .Or (a::b::l) p=>o2 (cE m L a) (cE m L (.BoolOp .Or (b::l) p)) .or
  |.Compare a [op] [b] _=>oif (!behindInMarks op b) (o2 (cE m L a) (cE m L b) (E.cmp op))
  |.IfExp ..=>none
  |.Subscript a (.Slice lo hi none _) _=>o2 (cE m L a) (o2 (cO m L lo) (cO m L hi) Prod.mk) λa p=>.sli a p.1 p.2
  |.Subscript _ (.Slice _ _ (some _) _) _=>none
  |.Subscript a i _=>o2 (cE m L a) (cE m L i) .idx
  |.List es _=>(cEs m L es).map .lst
  |.Tuple es _ _=>(cEs m L es).map .tup
  |.Call (.Name f p) es [] _=>oif (qJ f&&glB L.sc f&&(J9 L.N f).isNone) (
    if f = "isinstance" then (match es with
     |[a,b]=>(match b with
      |.Name t _=>oif (qJ t&&glB L.sc t&&(J9 L.N t).isNone&&!qL a) (match qg2 t with |some y=>(cE m L a).map (.isi y) |none=>(cE m L a).map (.isc t))
      |_=>none)
     |_=>none)
    else if L.tab.contains f=true then (cAs m L es).map (.call f)
    else if L.cs.tab.contains f=true then (cAs m L es).map (.new f)
    else match es with
     |[a]=>(match lrE L f a with
      |some t=>o2 (cE m L t.1) (cE m L t.2) (.b2 .rng)
      |none=>(match ssE L f a with
       |some t=>(cE m L t).map (.b1 .sst)
       |none=>oif (!qL a) (o2 (qhD f) (cE m L a) .b1)))
     |[a,b]=>oif (!(qL a||qL b)) (o2 (qhE f) (o2 (cE m L a) (cE m L b) Prod.mk) λf p=>.b2 f p.1 p.2)
     |_=>none)
  |.Attribute o x _=>oif (jO o) ((cE m L o).map λa=>.fld a x)
  |.Call (.Attribute o x ap) es [] q=>if (jO o&&(ap.endLine == q.line)&&decide (es.length < 30))=true then (o2 (cE m L o) (cAs m L es) λa l=>.met a x l)
   else match dgE L o x es (ap.endLine == q.line) with
    |some t=>o2 (cE m L t.1) (cE m L t.2.1) (.b2 (.get t.2.2))
    |none=>none
  | .JoinedStr (a::b::l) _=>(cFs (cX m L) (a::b::l)).map .fst
  |.ListComp elt [g] sc _=>oif (decide (g.is_async=0)) (match zh g.target with
   |some own=>oif (j6 L.sc L.N (yV L.N sc) sc&&decide (own++(yV L.N sc).map λi=>L.N.getD i "").Nodup&&Yc g.iter)
     (o2 (o2 (cC L g.iter (cI m L (qds g.target) g.iter)) (cTg { L with N:=own++(yV L.N sc).map λi=>L.N.getD i "",sc:=sc } g.target) Prod.mk)
      (o2 (cF m { L with N:=own++(yV L.N sc).map λi=>L.N.getD i "",sc:=sc } g.ifs) (cX m { L with N:=own++(yV L.N sc).map λi=>L.N.getD i "",sc:=sc } elt) Prod.mk)
      λp q=>.comp q.2 p.1 p.2 q.1 own.length (yV L.N sc))
   |none=>none)
  |_=>none
def cX:Nat->Ct->Expr->Option E
 |0,_,_=>none
 | m+1,L,e=>match e with
  |.Name x _=>Jm L x
  |e=>(cE m L e).bind Jn
def cT:Nat->Ct->Expr->Option T
 |0,_,_=>none
 | m+1,L,e=>match e with
  |.UnaryOp .Not a _=>(cT m L a).map .not
  |.BoolOp _ [a] _=>(cT m L a).map .one
  | .BoolOp .And (a::b::l) p=>o2 (cT m L a) (cT m L (.BoolOp .And (b::l) p)) .and
  | .BoolOp .Or (a::b::l) p=>o2 (cT m L a) (cT m L (.BoolOp .Or (b::l) p)) .or
  |.BoolOp _ [] _=>none
  |.IfExp ..=>none
  |.Compare a [op] [b] _=>(match irE L op b with
   |some t=>o2 (cE m L a) (cE m L t) (λx y=>.val (.b2 .inr x y))
   |none=>oif (!behindInMarks op b) (o2 (cE m L a) (cE m L b) (T.cmp op)))
  |.Compare ..=>none
  |e=>(cE m L e).map .val
def cEs:Nat->Ct->List Expr->Option Es
 |0,_,_=>none
 | m+1,L,es=>match es with
  |[]=>some .nil
  | e::l=>oif (!qL e) (o2 (cX m L e) (cEs m L l) .cons)
def cAs:Nat->Ct->List Expr->Option Es
 |0,_,_=>none
 | m+1,L,es=>match es with
  |[]=>some .nil
  | e::l=>oif (!qL e) (o2 (cE m L e) (cAs m L l) .cons)
def cO:Nat->Ct->Option Expr->Option O
 |0,_,_=>none
 | m+1,L,o=>match o with
  |none=>some .none
  |some e=>(cE m L e).map .some
def cF:Nat->Ct->List Expr->Option F
 |0,_,_=>none
 | m+1,L,es=>match es with
  |[]=>some .yes
  |_=>none
def cL:Nat->Ct->Expr->Option E
 |0,_,_=>none
 | m+1,L,e=>match e with
  |.Name x _=>(qes L x).map .var
  |e=>(cE m L e).bind Jn
def cI:Nat->Ct->Bool->Expr->Option I
 |0,_,_,_=>none
 | m+1,L,tb,e=>match e with
  |.Call (.Name f p) es [] q=>if f = "range" || f = "enumerate" || f = "zip" || f = "reversed" then oif (qJ f&&glB L.sc f&&(J9 L.N f).isNone) (match es with
    |[a]=>oif (!qL a) (if f = "range" then (cE m L a).map .rng else none)
    |_=>none)
   else (cL m L (.Call (.Name f p) es [] q)).map .seq
  |e=>(cL m L e).map .seq
end
def cV(m:Nat)(L:Ct)(e:Expr):Option E:=match e with
 |.Name x _=>Jm L x
 |e=>(cE m L e).bind Jn
def map_some{α M:Type}{o:Option α}{f:α->M}{z:M}(h:o.map f=some z):∃x,o=some x/\f x=z:=Option.map_eq_some_iff.mp h
noncomputable abbrev VE:=(Str×Pos) ⊕ (Expr×List Expr×List Keyword×Pos) ⊕ (Expr×Str×Pos) ⊕ (List Expr×Pos) ⊕ (Expr×Int×Option Expr×Pos) ⊕ (Const×Nat×Pos)
def vE:Expr->Option VE
 |.Name x p=>some (.inl (x,p))
 |.Call f l k p=>some (.inr (.inl (f,l,k,p)))
 |.Attribute o a p=>some (.inr (.inr (.inl (o,a,p))))
 |.JoinedStr l p=>some (.inr (.inr (.inr (.inl (l,p)))))
 |.FormattedValue e i f p=>some (.inr (.inr (.inr (.inr (.inl (e,i,f,p))))))
 |.Constant c k p=>some (.inr (.inr (.inr (.inr (.inr (c,k,p))))))
 |_=>none
def bE:VE->Expr
 |.inl t=>.Name t.1 t.2
 |.inr (.inl t)=>.Call t.1 t.2.1 t.2.2.1 t.2.2.2
 |.inr (.inr (.inl t))=>.Attribute t.1 t.2.1 t.2.2
 |.inr (.inr (.inr (.inl t)))=>.JoinedStr t.1 t.2
 |.inr (.inr (.inr (.inr (.inl t))))=>.FormattedValue t.1 t.2.1 t.2.2.1 t.2.2.2
 |.inr (.inr (.inr (.inr (.inr t))))=>.Constant t.1 t.2.1 t.2.2
def vb(e:Expr):((vE e).elim True λt=>e=bE t):=by cases e<;>first|trivial|rfl
def qff{e:Expr}{t:VE}(h:vE e=some t):e=bE t:=by
 have:=vb e
 rw[h]at this;exact this
def vS:Stmt->Option ((List Expr×Expr×Pos) ⊕ (Expr×Pos))
 |.Assign l x p=>some (.inl (l,x,p))
 |.Expr x p=>some (.inr (x,p))
 |_=>none
def vsb(s:Stmt):((vS s).elim True λt=>s=t.elim (λt=>.Assign t.1 t.2.1 t.2.2) λt=>.Expr t.1 t.2):=by cases s<;>first|trivial|rfl
theorem qk{α M:Type}{x:Option α}{f:α->Option M}{b:M}(h:x.bind f=some b):∃a,x=some a/\f a=some b:=by
 cases x with
 |none=>cases h
 |some a=>exact⟨a,rfl,h⟩
def nmE(e:Expr):Option Str:=(vE e).bind (·.elim (λt=>some t.1) λ_=>none)
theorem yY{e:Expr}{x:Str}(h:nmE e=some x):∃p,e=.Name x p:=by
 let(t,h1,h2):=qk h
 have:=qff h1
 cases t with
 |inl t=>cases h2;exact{_,this}
 |inr t=>cases h2
def caE(e:Expr):Option (Expr×List Expr×List Keyword×Pos):=(vE e).bind (·.elim (λ_=>none) (·.elim some λ_=>none))
theorem qfg{e:Expr}{t:Expr×List Expr×List Keyword×Pos}(h:caE e=some t):e=.Call t.1 t.2.1 t.2.2.1 t.2.2.2:=by
 let(u,h1,h2):=qk h
 have:=qff h1
 match u,h2 with
 |.inr (.inl t),h2=>cases h2;exact this
 |.inl _,h2=>cases h2
 |.inr (.inr _),h2=>cases h2
def asS(s:Stmt):Option (List Expr×Expr×Pos):=(vS s).bind (·.elim some λ_=>none)
theorem qfh{s:Stmt}{t:List Expr×Expr×Pos}(h:asS s=some t):s=.Assign t.1 t.2.1 t.2.2:=by
 let(u,h1,h2):=qk h
 have:=vsb s
 rw[h1]at this
 cases u with
 |inl u=>cases h2;exact this
 |inr u=>cases h2
def cN(x:Expr):Option (Str×Expr×List Expr):=(caE x).bind λt=>(nmE t.1).bind λn=>match t.2.1 with
 | e::es=>oif t.2.2.1.isEmpty (some (n,e,es))
 |[]=>none
theorem qhG{x:Expr}{t:Str×Expr×List Expr}(h:cN x=some t):∃np cp,x=.Call (.Name t.1 np) (t.2.1::t.2.2) [] cp:=by
 let((f,l,k,p),h1,h):=qk h;let(n,h2,h):=qk h;let(np,rfl):=yY h2;have h1:=qfg h1
 cases l with
 |nil=>cases h
 |cons e es=>
  let(hk,h):=qf h
  cases k with
  |nil=>cases h;exact⟨np,p,h1⟩
  |cons _ _=>cases hk
def aN(s:Stmt):Option (Expr×Expr):=(asS s).bind λt=>match t.1 with
 |[v]=>some (v,t.2.1)
 |_=>none
theorem qhH{s:Stmt}{t:Expr×Expr}(h:aN s=some t):∃p,s=.Assign [t.1] t.2 p:=by
 let((l,x,p),h1,h):=qk h;have h1:=qfh h1
 match l,h with
 |[v],h=>cases h;exact⟨p,h1⟩
 |[],h=>cases h
 | _::_::_,h=>cases h
def cH:ExceptHandler->Option (Str×Str×Str×Str)
 |.ExceptHandler ty nm b _=>ty.bind λte=>nm.bind λn=>match b with
  |[s]=>(nmE te).bind λt=>(aN s).bind λq=>(nmE q.1).bind λv=>(nmE q.2).bind λn2=>some (t,n,v,n2)
  |_=>none
theorem qhI{hd:ExceptHandler}{q:Str×Str×Str×Str}(h:cH hd=some q):∃tp vp np ap hp,hd=.ExceptHandler (some (.Name q.1 tp)) (some q.2.1) [.Assign [.Name q.2.2.1 vp] (.Name q.2.2.2 np) ap] hp:=by
 let(ty,nm,b,hp):=hd;let(te,rfl,h):=qk h;let(n,rfl,h):=qk h
 match b,h with
 |[s],h=>let(t,h1,h):=qk h;let((v',x'),h2,h):=qk h;let(v,h3,h):=qk h;let(n2,h4,h):=qk h;let(tp,rfl):=yY h1;let(ap,rfl):=qhH h2;let(vp,rfl):=yY h3;let(np,rfl):=yY h4;cases h;exact⟨tp,vp,np,ap,hp,rfl⟩
 |[],h=>cases h
 | _::_::_,h=>cases h
def cHs(L:Ct):List ExceptHandler->Option (List (Str×Nat×Nat))
 |[]=>some []
 | hd::hs=>(cH hd).bind λq=>oif (decide (q.2.2.2=q.2.1)&&decide (q.2.2.1≠q.2.1)&&decide (q.1≠"ValueError")&&qJ q.1&&glB L.sc q.1&&qJ q.2.1&&(L.sc.names.lookup q.2.1 == some .local)) (o2 (o2 (qbo L q.2.1) (qbo L q.2.2.1) Prod.mk) (cHs L hs) λp r=>(q.1,p.1,p.2)::r)
def rtE:Stmt->Option Expr
 |.Return o _=>o
 |_=>none
theorem qjp(s:Stmt):(rtE s).elim True λe=>∃p,s=.Return (some e) p:=by
 cases s with
 |Return o p=>cases o with
  |none=>exact True.intro
  |some e=>exact⟨p,rfl⟩
 |_=>exact True.intro
def raE:Stmt->Option (Expr×Expr)
 |.Raise (some x) (some y) _=>some (x,y)
 |_=>none
theorem qjq(s:Stmt):(raE s).elim True λt=>∃p,s=.Raise (some t.1) (some t.2) p:=by
 cases s with
 |Raise x y p=>cases x with
  |none=>exact True.intro
  |some x=>cases y with
   |none=>exact True.intro
   |some y=>exact⟨p,rfl⟩
 |_=>exact True.intro
def nnE(e:Expr):Bool:=match e with
 |.Constant .none _ _=>true
 |_=>false
theorem qjr(e:Expr):cond (nnE e) (∃j p,e=.Constant .none j p) True:=by
 cases e with
 |Constant c j p=>cases c with
  |none=>exact⟨j,p,rfl⟩
  |_=>exact True.intro
 |_=>exact True.intro
def jsV:Expr->Option (List Expr)
 |.JoinedStr l _=>some l
 |_=>none
theorem qjs(e:Expr):(jsV e).elim True λl=>∃p,e=.JoinedStr l p:=by
 cases e with
 |JoinedStr l p=>exact⟨p,rfl⟩
 |_=>exact True.intro
def csV:Expr->Option Str
 |.Constant (.str z) _ _=>some z
 |_=>none
theorem qjt(e:Expr):(csV e).elim True λz=>∃j p,e=.Constant (.str z) j p:=by
 cases e with
 |Constant c j p=>cases c with
  |str z=>exact⟨j,p,rfl⟩
  |_=>exact True.intro
 |_=>exact True.intro
def fvV:Expr->Option (Expr×Int)
 |.FormattedValue e i none _=>some (e,i)
 |_=>none
theorem qju(e:Expr):(fvV e).elim True λt=>∃p,e=.FormattedValue t.1 t.2 none p:=by
 cases e with
 |FormattedValue e i o p=>cases o with
  |none=>exact⟨p,rfl⟩
  |some _=>exact True.intro
 |_=>exact True.intro
def hdT:ExceptHandler->Option (Expr×List Stmt)
 |.ExceptHandler (some t) none b _=>some (t,b)
 |_=>none
theorem qjv(h:ExceptHandler):(hdT h).elim True λt=>∃p,h=.ExceptHandler (some t.1) none t.2 p:=by
 let(ty,nm,b,p):=h
 cases ty with
 |none=>exact True.intro
 |some t=>cases nm with
  |none=>exact⟨p,rfl⟩
  |some _=>exact True.intro
def trV(body:List Stmt)(hs:List ExceptHandler):Option ((Str×List Expr)×Str×Str×Str):=(one? body).bind λs=>(rtE s).bind λe=>(caV e).bind λt=>(one? hs).bind λh=>(hdT h).bind λq=>(nmE q.1).bind λc=>(one? q.2).bind λr=>(raE r).bind λu=>oif (nnE u.2) ((caV u.1).bind λy=>(one? y.2).bind λa=>(jsV a).bind λl=>(two? l).bind λp=>(csV p.1).bind λz=>oif (decide (z.length<=3000)) ((fvV p.2).bind λg=>oif (decide (g.2=114)) ((nmE g.1).bind λv=>some (t,c,y.1,v))))
def qfi{body:List Stmt}{hs:List ExceptHandler}{t:(Str×List Expr)×Str×Str×Str}(h:trV body hs=some t):∃fp q rp cp hpos np cpos rpos kp p np2 p2 p3 j jj zc,zc.length<=3000/\
  body=[.Return (some (.Call (.Name t.1.1 fp) t.1.2 [] q)) rp]/\hs=[.ExceptHandler (some (.Name t.2.1 cp)) none [.Raise (some (.Call (.Name t.2.2.1 np) [.JoinedStr [.Constant (.str zc) j p,.FormattedValue (.Name t.2.2.2 np2) 114 none p2] p3] [] cpos)) (some (.Constant .none jj kp)) rpos] hpos]:=by
 let(s,a1,h):=qk h;have a1:=zg (qgZ body) a1;let(e,a2,h):=qk h;let(rp,a2):=zg (qjp s) a2;let(t',a3,h):=qk h;let(fp,q,a3):=ZX a3;let(hd,a4,h):=qk h;have a4:=zg (qgZ hs) a4;let(qq,a5,h):=qk h;let(hpos,a5):=zg (qjv hd) a5;let(c,a6,h):=qk h;let(cp,a6):=yY a6;let(r,a7,h):=qk h;have a7:=zg (qgZ qq.2) a7;let(u,a8,h):=qk h;let(rpos,a8):=zg (qjq r) a8;let(b1,h):=qf h
 let(jj,kp,b1):∃j p,u.2=.Constant .none j p:=by
  have:=qjr u.2
  rw[b1]at this;exact this
 let(y,a9,h):=qk h;let(np,cpos,a9):=ZX a9;let(a,c1,h):=qk h;have c1:=zg (qgZ y.2) c1;let(l,c2,h):=qk h;let(p3,c2):=zg (qjs a) c2;let(pp,c3,h):=qk h;have c3:=zg (qjl l) c3;let(z,c4,h):=qk h;let(j,p,c4):=zg (qjt pp.1) c4;let(b2,h):=qf h;let(g,c5,h):=qk h;let(p2,c5):=zg (qju pp.2) c5;let(b3,h):=qf h;let(v,c6,h):=qk h;let(np2,c6):=yY c6;cases h;have b3:g.2=114:=(-b3:)
 refine{fp,q,rp,cp,hpos,np,cpos,rpos,kp,p,np2,p2,p3,j,jj,z,(-b2:),?_,?_}
 ·rw[a1,a2,a3]
 ·rw[a4,a5,a7,a8,a9,a6,b1,c1,c2,c3,c4,c5,c6,b3]
def cXa(m:Nat)(L:Ct):List Expr->Option Xa
 |[]=>some .nil
 | e::l=>oif (!qL e) (match caV e with
  |some t=>if (qJ t.1&&glB L.sc t.1&&(J9 L.N t.1).isNone&&L.tab.contains t.1&&!t.2.isEmpty)=true then o2 (cAs m L t.2) (cXa m L l) (.call t.1) else o2 (cE m L e) (cXa m L l) .leaf
  |none=>o2 (cE m L e) (cXa m L l) .leaf)
def cTr(m:Nat)(L:Ct)(q:(Str×List Expr)×Str×Str×Str):Option S:=oif (qJ q.1.1&&glB L.sc q.1.1&&L.tab.contains q.1.1&&!q.1.2.isEmpty&&qJ q.2.1&&glB L.sc q.2.1&&decide (q.2.1≠"ValueError")&&qJ q.2.2.1&&glB L.sc q.2.2.1&&qJ q.2.2.2&&qer L.sc q.2.2.2)
 (o2 (cXa m L q.1.2) (J9 L.N q.2.2.2) λa i=>.tryR q.1.1 a q.2.1 q.2.2.1 i)
def xnB(L:Ct)(f:Str):Bool:=qJ f&&glB L.sc f
mutual
def cS:Nat->Ct->Stmt->Option S
 |0,_,_=>none
 | m+1,L,st=>match st with
  |.Pass _=>some .pass
  |.Expr e _=>(match e with
   |.Call (.Attribute (.Name x _) meth ap) [a] [] cp=>oif (ap.endLine == cp.line&&!qL a) (
     if meth = "append" then o2 (qes L x) (cX m L a) .app
     else none)
   |.Call (.Attribute (.Name x _) meth ap) [] [] cp=>none
   |e=>oif (jH e) ((cE m L e).map .expr))
  |.Return (some e) _=>(cV m L e).map .ret
  |.Return none _=>some .retN
  |.Assign [tg] e _=>(match tg with
   |.Name x _=>o2 (qbo L x) (cV m L e) .set
   |.Tuple es j p=>oif (jH e&&ZZ e) (o2 (cTg L (.Tuple es j p)) (cX m L e) .setT)
   |.Subscript ..=>none
   |_=>none)
  |.If c a b _=>o2 (cT m L c) (o2 (cSs m L a) (cSs m L b) Prod.mk) λc p=>.ite c p.1 p.2
  |.For tg it body [] _=>oif (!L.z&&Yc it) (o2 (o2 (cTg L tg) (cI m L (qds tg) it) Prod.mk) (cSs m L body) λp b=>.for_ p.1 p.2 b)
  |.Raise ex ca _=>some (match ex.bind cN,ca with
   |some t,none=>if (!L.z&&xnB L t.1)=true then (match cEs m L (t.2.1::t.2.2) with |some l=>.rai t.1 l |none=>.stuck) else .stuck
   |_,_=>.stuck)
  | .Try body (h::hs) [] [] _=>oif (!L.z) (match trV body (h::hs) with
   |some q=>cTr m L q
   |none=>(cSs m { L with z:=true } body).map λb=>.try_ b ((cHs L (h::hs)).getD []))
  |_=>none
def cSs:Nat->Ct->List Stmt->Option Ss
 |0,_,_=>none
 | m+1,L,l=>match l with
  |[]=>some .nil
  | st::l=>o2 (cS m L st) (cSs m L l) .cons
end
def qjw:E->Bool
 |.var _=>true
 |_=>false
def qfj(e:E):(Jn e).elim True λz=>e=z/\qjw z=false:=by cases e<;>first|exact True.intro|exact⟨rfl,rfl⟩
def zx{e z:E}(h:Jn e=some z):e=z/\∀i,z≠.var i:=by have b:=qfj e;rw[h]at b;exact{b.1,λi q=>by rw[q]at b;cases b.2}
def qdw{z:E}(h:∀i,z≠.var i)(cl:Cl)(N:Env):zK z (iR cl z) N=(iR cl z N).th qdu:=by cases z<;>first|rfl|exact absurd rfl (h _)
def qdx{z:E}(h:∀i,z≠.var i)(cl:Cl)(N:Env):YL z (iR cl z) N=(iR cl z N).th qg1:=by cases z<;>first|rfl|exact absurd rfl (h _)
def qdy{z:E}(h:∀i,z≠.var i)(cl:Cl)(N:Env):qbl z (iR cl z) N=(iR cl z N).th λx=>match x.1 with
  |.val d=>.ok (.val d)
  |.tmp l=>.ok (.tmp l)
  |_=>.no:=by
 cases z<;>first|rfl|exact absurd rfl (h _)
def qdz{z:E}(h:∀i,z≠.var i)(cl:Cl)(N:Env):Q6 z (iR cl z) N=(iR cl z N).th λx=>match x.1 with
  |.val d=>.ok (.val d,x.2)
  |.tmp l=>.ok (.own l,x.2)
  |_=>.no:=by
 cases z<;>first|rfl|exact absurd rfl (h _)
abbrev XW:=Addr->List (Str×D)->Prop
def X0:XW:=λ_ _=>False
def Wx{α:Type}(Ξ:XW)(x:R α)(f:α->Prop):Prop:=match x with
 |.ok a=>f a
 |.exc c l=>Ξ c l
 |.no=>False
section
variable{α M:Type}{Ξ Ξ':XW}
def Wx.th{x:R α}{g:α->R M}{f:M->Prop}(h:Wx Ξ (x.th g) f):Wx Ξ x λa=>Wx Ξ (g a) f:=by cases x<;>exact h
def Wx.ht{x:R α}{g:α->R M}{f:M->Prop}(h:Wx Ξ x λa=>Wx Ξ (g a) f):Wx Ξ (x.th g) f:=by cases x<;>exact h
theorem Wx.mono{x:R α}{f g:α->Prop}(h:Wx Ξ x f)(i:∀a,f a->g a):Wx Ξ x g:=by
 cases x with
 |ok a=>exact i a h
 |exc c l=>exact h
 |no=>exact h
theorem Wx.mono2{x:R α}{f g:α->Prop}(h:Wx Ξ x f)(j:∀c l,Ξ c l->Ξ' c l)(i:∀a,f a->g a):Wx Ξ' x g:=by
 cases x with
 |ok a=>exact i a h
 |exc c l=>exact j c l h
 |no=>exact h
theorem Wx.of{x:Option α}{f:α->Prop}(h:Wx Ξ (R.of x) f):∃a,x=some a/\f a:=by
 cases x with
 |none=>exact h.elim
 |some a=>exact⟨a,rfl,h⟩
def Wx.iff{c:Prop}[Decidable c]{x:R α}{f:α->Prop}(h:Wx Ξ (if c then x else .no) f):c/\Wx Ξ x f:=by
 by_cases hc:c
 ·rw[if_pos hc]at h;exact⟨hc,h⟩
 ·rw[if_neg hc]at h;exact h.elim
theorem Wx.ifx{b:Bool}{x:R α}{f:α->Prop}(h:Wx Ξ (ifX b x) f):Wx Ξ x f:=by
 cases b with
 |true=>exact h
 |false=>
  cases x with
  |ok a=>exact h
  |exc c l=>exact h.elim
  |no=>exact h
theorem Wx.nox{x:R α}{f:α->Prop}(h:Wx Ξ (noX x) f):Wx Ξ' x f:=by
 cases x with
 |ok a=>exact h
 |exc c l=>exact h.elim
 |no=>exact h
end
def qhJ(U:KC)(G:Hp)(od:Option Addr)(l:List (Str×D)):Prop:=(od=none/\l=[])\/∃dd xs,od=some dd/\G dd=some (xD dd ((l.map (·.1)).zip xs))/\qx U G (l.map (·.2)) xs
def XP(U:KC)(Gv Hv:Hp)(ε:XK):XW:=λC l=>∀od G' H',qv Hv H'->qv Gv G'->qv G' H'->(∀a o,G' a=some o->(∃o',Gv a=some o')\/Hv a=none)->qhJ U G' od l->ε (.ref C) od H'
section
variable(U:KC)(K:Frag)(ε:XK)(Gv Hv:Hp)
def tR(f:Env->R (Rv×Env)):TE:=λZ H Q=>∃N G,ER U K Gv Hv G H N Z/\Wx (XP U Gv Hv ε) (f N) λx=>∀v G' H',Po U K Gv Hv Z G H N G' H' x.2->RvR U K Hv H G' H' x.2 Z x.1 v->Q v H'
def tE(f:Env->R (D×Env)):TE:=λZ H Q=>∃N G,ER U K Gv Hv G H N Z/\Wx (XP U Gv Hv ε) (f N) λx=>∀v G' H',Po U K Gv Hv Z G H N G' H' x.2->Rep U G' x.1 v->Q v H'
def tT(f:Env->R (Bool×Env)):TT:=λZ H Q=>∃N G,ER U K Gv Hv G H N Z/\Wx (XP U Gv Hv ε) (f N) λx=>∀G' H',Po U K Gv Hv Z G H N G' H' x.2->Q x.1 H'
def tEs(f:Env->R (List D×Env)):TA:=λZ H Q=>∃N G,ER U K Gv Hv G H N Z/\Wx (XP U Gv Hv ε) (f N) λx=>∀vs G' H',Po U K Gv Hv Z G H N G' H' x.2->qx U G' x.1 vs->Q vs H'
def ArR(G H:Hp):Ar->V->Prop
 |.val d,v=>Rep U G d v
 |.bor ds,v=>∃a xs,v=.ref a/\H a=some (.lst xs)/\qx U G ds xs
 |.scr ds,v=>∃a xs,v=.ref a/\SqL K H a xs/\qx U G ds xs
def zN(G H:Hp):List Ar->List V->Prop
 |[],vs=>vs=[]
 | a::l,vs=>∃v r,vs=v::r/\ArR U K G H a v/\zN G H l r
def tAs(f:Env->R (List Ar×Env)):TA:=λZ H Q=>∃N G,ER U K Gv Hv G H N Z/\Wx (XP U Gv Hv ε) (f N) λx=>∀vs G' H',Po U K Gv Hv Z G H N G' H' x.2->zN U K G' H' x.1 vs->Q vs H'
def tO(f:Env->R (Option Int×Env)):TO:=λZ H Q=>∃N G,ER U K Gv Hv G H N Z/\Wx (XP U Gv Hv ε) (f N) λx=>∀G' H',Po U K Gv Hv Z G H N G' H' x.2->Q x.1 H'
def SrR(G:Hp)(s:Sk×List D)(v:V):Prop:=match s.1 with
 |.str=>∃x,v=.str x/\s.2=qaT x
 |.tup=>∃a xs,v=.ref a/\qx U G s.2 xs/\G a=some (.tup xs)
 |.lst=>∃a xs,v=.ref a/\qx U G s.2 xs/\(G a=some (.lst xs)\/SqL K Hv a xs)
def tL(f:Env->R ((Sk×List D)×Env)):TE:=λZ H Q=>∃N G,ER U K Gv Hv G H N Z/\Wx (XP U Gv Hv ε) (f N) λx=>∀v G' H',Po U K Gv Hv Z G H N G' H' x.2->SrR U K Hv G' x.1 v->Q v H'
def ItR(G₁:Hp)(J:It)(l:List D):Prop:=∀(i:Nat) (G H:Hp),qv G₁ G->qv Hv H->qv G H->
 (∀d,l[i]?=some d->J.go i H/\∀x H',J.yld i H x H'->∃G',qv H H'/\qv G G'/\qv G' H'/\(∀a o,G' a=some o->(∃o',G a=some o')\/H a=none)/\Rep U G' d x)/\(l.length=i->J.stop i H)
def tI(f:Env->R (List D×Env)):TI:=λZ H Q=>∃N G,ER U K Gv Hv G H N Z/\Wx (XP U Gv Hv ε) (f N) λx=>∀J G' H',Po U K Gv Hv Z G H N G' H' x.2->ItR U Hv G' J x.1->Q J H'
def ReR(G' H' H:Hp):Rv->V->Prop
 |.val d,v=>Rep U G' d v
 |.tmp ds,v=>∃a xs,v=.ref a/\H' a=some (.lst xs)/\H a=none/\G' a=none/\qx U G' ds xs
 |_,_=>False
def spF(cl:Str->List Ar->R Rv)(f:Str):Sp:=λvs H Q E=>∃G args,qv G H/\zN U K G H args vs/\
 Wx (XP U G H E) (cl f args) λr=>∀v G' H',qv H H'->qv G G'->qv G' H'->(∀a o,G' a=some o->(∃o',G a=some o')\/H a=none)->ReR U G' H' H r v->Q v H'
end
def Z0:List Str:=["len","list","tuple","int","bool","str","max","min","isinstance","range","enumerate","zip","sorted","sum","reversed","all","any","dict","set"]
structure Gd(U:KC)(K:Frag)(ε:XK)(k:Nat)(X:Cx)(L:Ct):Prop where
 ps:zn (CX1 X.prog X.w) X ε
 hN:X.N=L.N
 vis:∀x,qer L.sc x=true->Vis X.env.scope x
 loc:∀x,qfd L.sc x=true->L2.Loc X.env.scope x/\(X.fn x=true\/X.env.scope.names.lookup x=some .local)
 glo:∀x,glB L.sc x=true->Gl X x
 cf:∀x,(L.sc.names.lookup x=some .cell\/L.sc.names.lookup x=some .free)->X.env.kindOf x=some .cell\/X.env.kindOf x=some .free
 nd:L.N.Nodup
 calm:X.calm=true
 hK:X.K=K
 room:Room k X.A
 fns:∀f,L.tab.contains f=true->∃fa fd ps,FnOk X.prog X.w X.K X.mg X.base (CX1 X.prog X.w) k fa fd ps (spF U K L.cl f)/\X.mg f=some (.ref fa)/\PySem.W.keepIn X.K (.ref fa)=true/\qR X.K fd ps []
 blt:∀f∈Z0,X.mg f=none
 gl:∀x d,L.gl x=some d->∃v u,X.mg x=some u/\qQ v u/\∀G,Rep U G d v
 cls:∀c C,U c=some C->Cls X.K C
 flds:∀c x C,L.cs.fld c x=true->U c=some C->zm X.K C x
 mts:∀c x f,L.cs.mt c x=some f->∃C fa fd ps,U c=some C/\Meth X.K C x fa/\FnOk X.prog X.w X.K X.mg X.base (CX1 X.prog X.w) k fa fd ps (spF U K L.cl f)/\qR X.K fd ps []
 mks:∀f,L.cs.tab.contains f=true->(L.y=false/\∀args,L.nw f args=.no)\/∃C fa fd ps sp,Mk X.K C fa/\FnOk X.prog X.w X.K X.mg X.base (CX1 X.prog X.w) (k - 1) fa fd ps sp/\X.mg f=some (.ref C)/\qR X.K fd ps []/\0 < k/\
  ∀vs H Q E,spF U K L.nw f vs H Q E->∀x dx,H x=none->H dx=none->dx≠x->sp (.ref x::vs) (upd (upd H dx (.own x)) x (.ins C dx [])) (λv H2=>v=.non/\Q (.ref x) H2) E
 xsubs:∀C t b,L.cs.xs C t=some b->ExcIs X.K C/\((∃T,X.mg t=some (.ref T)/\PySem.W.kitOne X.K (.ref C) (.ref T)=some b)\/(X.mg t=none/\t = "ValueError"/\PySem.W.kitOne X.K (.ref C) (.type "ValueError")=some b))
 subs:∀c t b,L.cs.sub c t=some b->∃C T,U c=some C/\(∀H p dx fs,H p=some (HO.ins C dx fs)->TyOf X.K H (.ref p) (.ref C))/\X.mg t=some (.ref T)/\PySem.W.kitOne X.K (.ref C) (.ref T)=some b
def PE.imp{X:Cx}{e:Expr}{t t':TE}(h:PE X e t')(i:∀Z H Q,t Z H Q->t' Z H Q):PE X e t:=λpins s Z H Q I hw=>h pins s Z H Q I (i Z H Q hw)
def PT.imp{X:Cx}{e:Expr}{t t':TT}(h:PT X e t')(i:∀Z H Q,t Z H Q->t' Z H Q):PT X e t:=λpins s Z H Q I hw=>h pins s Z H Q I (i Z H Q hw)
def PA.imp{X:Cx}{es:List Expr}{t t':TA}(h:PA X es t')(i:∀Z H Q,t Z H Q->t' Z H Q):PA X es t:=λpos pins s Z H Q I hw=>h pos pins s Z H Q I (i Z H Q hw)
def PO.imp{X:Cx}{o:Option Expr}{t t':TO}(h:PO X o t')(i:∀Z H Q,t Z H Q->t' Z H Q):PO X o t:=λpins s Z H Q I hw=>h pins s Z H Q I (i Z H Q hw)
def PIf.imp{X:Cx}{es:List Expr}{t t':TT}(h:PIf X es t')(i:∀Z H Q,t Z H Q->t' Z H Q):PIf X es t:=λpins s Z H Q I hw=>h pins s Z H Q I (i Z H Q hw)
def PI.imp{X:Cx}{tg e:Expr}{t t':TI}(h:PI X tg e t')(i:∀Z H Q,t Z H Q->t' Z H Q):PI X tg e t:=λpins s Z H Q I hw=>h pins s Z H Q I (i Z H Q hw)
theorem yr:∀{N:List Str} {x:Str} {i:Nat},J9 N x=some i->N[i]?=some x
 |[],x,i,h=>by cases h
 | y::r,x,i,h=>by
  unfold J9 at h
  by_cases e:y=x
  ·rw[if_pos e]at h;cases h;rw[e];rfl
  ·rw[if_neg e]at h
   cases q:J9 r x with
   |none=>rw[q]at h;cases h
   |some j=>rw[q]at h;cases h;show(y::r)[j+1]?=some x;rw[List.getElem?_cons_succ];exact yr q
def qy{x:Str}(h:qJ x=true):(x == ("__debug__" : Str))=false/\(x == ("__classdict__" : Str))=false/\x≠"__name__":=by unfold qJ at h;simp![Bool.and_eq_true,Bool.not_eq_true']at h;refine{h.1.1,h.1.2,λz=>?_};rw[z]at h;exact absurd h.2 (2:)
def qcl{sc:Scope}{x:Str}(h:qer sc x=true):Vis sc x:=by
 unfold qer at h;unfold Vis
 split at h
 ·rename_i e;exact .inl e
 ·rename_i e;exact .inr (.inl e)
 ·rename_i e;exact .inr (.inr e)
 ·cases h
def Z1{sc:Scope}{x:Str}(h:qfd sc x=true):L2.Loc sc x:=by
 unfold qfd at h;unfold L2.Loc
 split at h
 ·rename_i e;exact .inl e
 ·rename_i e;exact .inr e
 ·cases h
def qo{e:Expr}{es:List Expr}{env:PySem.Env}(h:qL e=false):starEach (e::es) env=(false,eval e env)::starEach es env:=by cases e<;>first|rfl|(simp[qL]at h)
section
variable{U:KC}{ε:XK}{K:Frag}{Gv Hv:Hp}{k:Nat}{X:Cx}{L:Ct}
def ER.notOwn{G H:Hp}{N:Env}{Z:St}(er:ER U K Gv Hv G H N Z){a:Addr}(h:H a=none):¬ Q3 N Z a:=λ⟨i,l,e,z⟩=>by let(b,xs,z',h1,_):=er.sl i _ e;rw[z]at z';injection z' with z';injection z' with z';injection z' with z';rw[<-z',h]at h1;cases h1
def ER.newList{G H:Hp}{N:Env}{Z:St}(er:ER U K Gv Hv G H N Z){a:Addr}{xs:List V}{l:List D}(h:H a=none)(r:qx U G l xs) :
  Po U K Gv Hv Z G H N G (upd H a (.lst xs)) N/\RvR U K Hv H G (upd H a (.lst xs)) N Z (.tmp l) (.ref a):=
 ⟨Po.room er (qv.upd h),a,xs,rfl,qm,h,qv.none er.base h,qv.none er.sub h,er.notOwn h,r⟩
def qcm(gd:Gd U K ε k X L){x:Str}{i:Nat}(h:qes L x=some i)(pos:Pos):PE X (.Name x pos) (qgU i):=by unfold qes at h;let(hc,h):=qf h;rw[Bool.and_eq_true]at hc;let(n1,n2,n3):=qy hc.1;exact Qc (i:=i) (by rw[gd.hN];exact yr h) (gd.vis x hc.2) n1 n2
theorem Jo(gd:Gd U K ε k X L){x:Str}{z:E}(h:Jm L x=some z)(pos:Pos):(∃i,z=.var i/\PE X (.Name x pos) (qgU i))\/∃d v,z=.con d/\(∀G,Rep U G d v)/\PE X (.Name x pos) (tC v):=by
 unfold Jm at h;let(hok,h):=qf h;let(n1,n2,n3):=qy hok
 cases hi:J9 L.N x with
 |some i=>rw[hi]at h;let(hv,h):=qf h;cases h;exact .inl ⟨i,rfl,Qc (i:=i) (by rw[gd.hN];exact yr hi) (gd.vis x hv) n1 n2⟩
 |none=>rw[hi]at h;let(hg,h):=qf h;let(d,hd,rfl):=map_some h;let(v,u,e1,e2,e3):=gd.gl x d hd;exact .inr ⟨d,v,rfl,e3,z8 (gd.glo x hg) e1 e2 n1⟩
def qbq(gd:Gd U K ε k X L){x:Str}{z:E}(h:Jm L x=some z)(pos:Pos):PE X (.Name x pos) (tR U K ε Gv Hv (iR L.k z)):=by
 rcases Jo gd h pos with ⟨i,rfl,P⟩|⟨d,v,rfl,e3,P⟩
 ·refine PE.imp P λZ H Q hq1=>?_;let(N,G,er,h):=hq1;have h:=Wx.th (x:=slR N i) h;unfold slR at h
  cases q:N[i]? with
  |none=>rw[q]at h;exact h.elim
  |some s=>
   rw[q]at h;have w:=er.sl i s q
   cases s with
   |no=>exact h.elim
   |val d=>let(v,z,r):=w;exact{v,z,h v G H (Po.refl er) r}
   |own l=>let(a,xs,z,r1,r2,r3,r4):=w;exact{_,z,h _ G H (Po.refl er) ⟨a,xs,rfl,r1,r4⟩}
   |bor l=>let(a,xs,z,r1,r4):=w;exact{_,z,h _ G H (Po.refl er) {a,xs,rfl,er.base _ _ r1,r4}}
   |scr l=>let(a,xs,z,r1,r4):=w;exact{_,z,h _ G H (Po.refl er) {a,xs,rfl,er.base.seq r1,r4}}
 ·refine PE.imp P λZ H Q hz3=>?_;let(N,G,er,h):=hz3;exact h v G H (Po.refl er) (e3 G)
def Qo(gd:Gd U K ε k X L){x:Str}{z:E}(h:Jm L x=some z)(pos:Pos):PE X (.Name x pos) (tE U K ε Gv Hv (zK z (iR L.k z))):=by
 rcases Jo gd h pos with ⟨i,rfl,P⟩|⟨d,v,rfl,e3,P⟩
 ·refine PE.imp P λZ H Q hq1=>?_;let(N,G,er,h):=hq1;have h:Wx _ (slE N i) _:=h;unfold slE at h
  cases q:N[i]? with
  |none=>rw[q]at h;exact h.elim
  |some s=>
   rw[q]at h;have w:=er.sl i s q
   cases s with
   |val d=>let(v,z,r):=w;exact{v,z,h v G H (Po.refl er) r}
   |own l=>let(a,xs,z,p,r):=er.froze q;exact{_,z,h _ _ H p r}
   |_=>exact h.elim
 ·refine PE.imp P λZ H Q hz4=>?_;let(N,G,er,h):=hz4;exact h v G H (Po.refl er) (e3 G)
end
section
variable{U:KC}{ε:XK}{Ξ:XW}{K:Frag}{Gv Hv Hb Hc G H:Hp}{N:Env}{Z:St}{r s:Rv}{x y:V}
theorem RvR.int{i:Int}(h:RvR U K Hv Hb G H N Z r x)(e:r.int?=some i):x=.int i:=by
 cases r with
 |val d=>cases d<;>simp![Rv.int?]at e<;>first|(cases e;simpa only[RvR,Rep] using h)|cases e
 |_=>cases e
theorem RvR.str{i:Str}(h:RvR U K Hv Hb G H N Z r x)(e:r.str?=some i):x=.str i:=by
 cases r with
 |val d=>cases d<;>simp![Rv.str?]at e<;>first|(cases e;simpa only[RvR,Rep] using h)|cases e
 |_=>cases e
theorem RvR.bl{i:Bool}(h:RvR U K Hv Hb G H N Z r x)(e:r.bl?=some i):x=.bl i:=by
 cases r with
 |val d=>cases d<;>simp![Rv.bl?]at e<;>first|(cases e;simpa only[RvR,Rep] using h)|cases e
 |_=>cases e
theorem RvR.tup{l:List D}(h:RvR U K Hv Hb G H N Z r x)(e:r.tup?=some l):∃a xs,x=.ref a/\G a=some (.tup xs)/\qx U G l xs:=by
 cases r with
 |val d=>cases d<;>simp![Rv.tup?]at e<;>first|(cases e;simpa only[RvR,Rep] using h)|cases e
 |_=>cases e
theorem RvR.seq(er:ER U K Gv Hv G H N Z){l:List D}(h:RvR U K Hv Hb G H N Z r x)(e:seqD r=some l):∃a xs,x=.ref a/\(SqL K H a xs\/SqT K H a xs)/\qx U G l xs:=by
 unfold seqD at e
 cases q:r.tup? with
 | some l'=>rw[q]at e;cases e;let(a,xs,e1,e2,e3):=h.tup q;exact{a,xs,e1,.inr (SqT.of (er.sub _ _ e2)),e3}
 |none=>rw[q]at e;let(a,xs,e1,e2,e3):=h.list er e;exact{a,xs,e1,.inl e2,e3}
theorem RvR.non(h:RvR U K Hv Hb G H N Z r x):decide (x=.non)=r.non?:=by
 cases r with
 |val d=>
  cases d<;>simp![RvR,Rep]at h<;>simp![Rv.non?]
  ·subst h;rfl
  ·subst h;rfl
  ·subst h;rfl
  ·subst h;rfl
  ·let(a,xs,rfl,_):=h;rfl
  ·let(a,xs,rfl,_):=h;rfl
  ·let(p,dx,C,xs,_,rfl,_):=h;rfl
  ·let(p,od,xs,rfl,_):=h;rfl
  ·let(p,xs,rfl,_):=h;rfl
 |tmp l=>let(a,xs,rfl,_):=h;rfl
 |cell l=>let(a,xs,rfl,_):=h;rfl
 |scr l=>let(a,xs,rfl,_):=h;rfl
mutual
theorem Rep.dv(sub:qv G H):∀{d:D} {v:V} {p:PyData},Rep U G d v->toP d=some p->DV K H p v
 |.non,v,p,h,e=>by simp![toP]at e;cases e;simp![Rep]at h;simp![DV];exact h
 |.bl b,v,p,h,e=>by simp![toP]at e;cases e;simp![Rep]at h;simp![DV];exact h
 |.int b,v,p,h,e=>by simp![toP]at e;cases e;simp![Rep]at h;simp![DV];exact h
 |.str b,v,p,h,e=>by simp![toP]at e;cases e;simp![Rep]at h;simp![DV];exact h
 |.lst l,v,p,h,e=>by simp![toP]at e;let(ps,e1,rfl):=Option.map_eq_some_iff.mp e;simp![Rep]at h;let(a,xs,rfl,h1,h2):=h;simp![DV];exact{a,xs,rfl,SqL.of (sub _ _ h1),qx.dvs sub h2 e1}
 |.tup l,v,p,h,e=>by simp![toP]at e;let(ps,e1,rfl):=Option.map_eq_some_iff.mp e;simp![Rep]at h;let(a,xs,rfl,h1,h2):=h;simp![DV];exact{a,xs,rfl,SqT.of (sub _ _ h1),qx.dvs sub h2 e1}
 |.ins c ns l,v,p,h,e=>by simp![toP]at e;cases e
 |.exc c ns l,v,p,h,e=>by simp![toP]at e;cases e
 |.dct ns l,v,p,h,e=>by simp![toP]at e;cases e
theorem qx.dvs(sub:qv G H):∀{ds:List D} {vs:List V} {ps:List PyData},qx U G ds vs->qeq ds=some ps->DVs K H ps vs
 |[],vs,ps,h,e=>by simp![qeq]at e;cases e;simp![qx]at h;simp![DVs];exact h
 | d::ds,vs,ps,h,e=>by simp![qeq]at e;let(p,e1,e2):=Option.bind_eq_some_iff.mp e;let(qs,e3,rfl):=Option.map_eq_some_iff.mp e2;simp![qx]at h;let(x,r,rfl,h1,h2):=h;simp![DVs];exact{x,r,rfl,Rep.dv sub h1 e1,qx.dvs sub h2 e3}
end
theorem RvR.dv(er:ER U K Gv Hv G H N Z){p:PyData}(h:RvR U K Hv Hb G H N Z r x)(e:toP r.data=some p):DV K H p x:=by
 have lst:∀{l:List D} {a:Addr} {xs:List V},SqL K H a xs->qx U G l xs->toP (.lst l)=some p->DV K H p (.ref a):=λ{l a xs} hq hr e=>by simp![toP]at e;let(ps,e1,rfl):=Option.map_eq_some_iff.mp e;simp![DV];exact{a,xs,rfl,hq,qx.dvs er.sub hr e1}
 cases r with
 |val d=>exact Rep.dv er.sub h e
 |tmp l=>let(a,xs,rfl,h1,_,_,_,_,h6):=h;exact lst (SqL.of h1) h6 e
 |cell l=>let(a,xs,rfl,h1,h6):=h;exact lst (SqL.of h1) h6 e
 |scr l=>let(a,xs,rfl,h1,h6):=h;exact lst h1 h6 e
def Qp{d:D}{v:V}(h:Rep U G d v)(f:jY d=true):v=flV d/\yj v=true:=by
 cases d<;>simp![jY]at f<;>try (exact absurd f (2:))
 all_goals (simp![Rep]at h;subst h;exact⟨rfl,rfl⟩)
theorem Yd:∀{l:List D} {vs:List V},qx U G l vs->l.all jY=true->vs=l.map flV/\vs.all yj=true
 |[],vs,h,f=>by simp![qx]at h;subst h;exact⟨rfl,rfl⟩
 | d::l,vs,h,f=>by simp![qx]at h;let(x,r,rfl,h1,h2):=h;simp![List.all_cons,Bool.and_eq_true]at f;let(e1,e2):=Qp h1 f.1;let(e3,e4):=Yd h2 f.2;subst e1 e3;exact{rfl,by simp![List.all_cons,e2,e4,Bool.and_self]}
theorem qdA(h:RvR U K Hv Hb G H N Z r x)(f:jY r.data=true):x=flV r.data/\yj x=true:=by
 cases r with
 |val d=>exact Qp h f
 |_=>simp![Rv.data,jY]at f;exact absurd f (2:)
theorem Z2{f:Int->Int->R Rv}{F:Rv->Prop}(h:Wx Ξ (int2 r s f) F):∃i j,r.int?=some i/\s.int?=some j/\Wx Ξ (f i j) F:=by
 unfold int2 at h
 cases e1:r.int? with
 |none=>rw[e1]at h;exact h.elim
 |some i=>
  cases e2:s.int? with
  |none=>rw[e1,e2]at h;exact h.elim
  |some j=>rw[e1,e2]at h;exact⟨i,j,rfl,rfl,h⟩
def qbr{l:List D}{xs:List V}{i:Int}{d:D}(h:qx U G l xs)(e:atI l i=some d):∃v,atI xs i=some v/\Rep U G d v:=by unfold atI at e ⊢;rw[<-h.len];let(j,e1,e2):=Option.bind_eq_some_iff.mp e;let(v,e3,e4):=h.atD e2;exact{v,by rw[e1];exact e3,e4}
end
section
variable(U:KC)(K:Frag)(Ξ:XW)(Gv Hv:Hp)
def qg3(op:Operator):R2:=λx y H Q=>∃(N:Env) (Z:St) (G Hb Hc:Hp) (r s:Rv),ER U K Gv Hv G H N Z/\RvR U K Hv Hb G H N Z r x/\RvR U K Hv Hc G H N Z s y/\
 Wx Ξ (Qm op r s) λz=>∀v G' H',Po U K Gv Hv Z G H N G' H' N->RvR U K Hv H G' H' N Z z v->Q v H'
def qhK(op:CmpOp):R2:=λx y H Q=>∃(N:Env) (Z:St) (G Hb Hc:Hp) (r s:Rv) (b:Bool),ER U K Gv Hv G H N Z/\RvR U K Hv Hb G H N Z r x/\RvR U K Hv Hc G H N Z s y/\yL op r s=some b/\Q (.bl b) H
def qjx:R2:=λx y H Q=>∃(N:Env) (Z:St) (G Hb Hc:Hp) (r s:Rv),ER U K Gv Hv G H N Z/\RvR U K Hv Hb G H N Z r x/\RvR U K Hv Hc G H N Z s y/\
 Wx Ξ (idxD r s) λz=>∀v G' H',Po U K Gv Hv Z G H N G' H' N->RvR U K Hv H G' H' N Z z v->Q v H'
def qjy:V->Option Int->Option Int->Hp->VK->Prop:=λx lo hi H Q=>∃(N:Env) (Z:St) (G Hb:Hp) (r:Rv),ER U K Gv Hv G H N Z/\RvR U K Hv Hb G H N Z r x/\
 Wx Ξ (sliceD r lo hi) λz=>∀v G' H',Po U K Gv Hv Z G H N G' H' N->RvR U K Hv H G' H' N Z z v->Q v H'
def rC1(f:Rv->R Rv):List V->Hp->VK->Prop:=λxs H Q=>∃(N:Env) (Z:St) (G Hb:Hp) (r:Rv) (x:V),xs=[x]/\ER U K Gv Hv G H N Z/\RvR U K Hv Hb G H N Z r x/\
 Wx Ξ (f r) λz=>∀v G' H',Po U K Gv Hv Z G H N G' H' N->RvR U K Hv H G' H' N Z z v->Q v H'
def rC2(f:Rv->Rv->R Rv):List V->Hp->VK->Prop:=λxs H Q=>∃(N:Env) (Z:St) (G Hb Hc:Hp) (r s:Rv) (x y:V),xs=[x,y]/\ER U K Gv Hv G H N Z/\RvR U K Hv Hb G H N Z r x/\RvR U K Hv Hc G H N Z s y/\
 Wx Ξ (f r s) λz=>∀v G' H',Po U K Gv Hv Z G H N G' H' N->RvR U K Hv H G' H' N Z z v->Q v H'
end
section
variable{U:KC}{ε:XK}{Ξ:XW}{K:Frag}{Gv Hv:Hp}{k:Nat}{X:Cx}{L:Ct}
def Jp(op:Operator){f:Int->Int->R Rv}{C:Int->Int->Prop}{g:Int->Int->Int}(hop:OpR X (binaryOp op) (rI C λi j=>.int (g i j)))(hf:∀r s,Qm op r s=int2 r s f)(hw:∀i j F,Wx Ξ (f i j) F->C i j/\F (.val (.int (g i j)))) :
  OpR X (binaryOp op) (qg3 U K Ξ Gv Hv op):=by
 rintro pins st Z' H x y v u Q I rx ry ⟨N,Z,G,Hb,Hc,r,s,er,h1,h2,h⟩;rw[hf]at h;let(i,j,e1,e2,h):=Z2 h;let(hc,h):=hw i j _ h;exact hop pins st Z' H x y v u Q I rx ry ⟨i,j,h1.int e1,h2.int e2,hc,h _ G H (Po.refl er) (by simp![RvR,Rep])⟩
def qhL{f:Value->Value->Sem Value}{g:Int->Int->V}(h:OpR X f (rI0 g)):OpR X f (rI (λ_ _=>True) g):=λpins st Z' H x y v u Q I rx ry ⟨i,j,e1,e2,_,q⟩=>h pins st Z' H x y v u Q I rx ry ⟨i,j,e1,e2,q⟩
theorem qfk:OpR X (binaryOp .Add) (qg3 U K Ξ Gv Hv .Add):=by
 rintro pins st Z' H x y v u Q I rx ry ⟨N,Z,G,Hb,Hc,r,s,er,h1,h2,h⟩;have h:Wx Ξ (qhw r s) _:=h;unfold qhw at h
 have cat:Wx Ξ (match r.plain?,s.plain? with
   |some l,some m=>if l.length+m.length<=sizeLine then R.ok (Rv.tmp (l++m)) else .no
   |_,_=>.no) (λz=>∀v G' H',Po U K Gv Hv Z G H N G' H' N->RvR U K Hv H G' H' N Z z v->Q v H')->wpAny (model X.prog X.w) X.A (binaryOp .Add v u) (EP X pins Z' Q) X.xe st:=λh=>by
  cases e1:r.plain? with
  |none=>rw[e1]at h;exact h.elim
  |some l=>
   cases e2:s.plain? with
   |none=>rw[e1,e2]at h;exact h.elim
   |some m=>rw[e1,e2]at h;let(hz,h):=Wx.iff h;let(a,xs,q1,q2,q3):=h1.plain er e1;let(b,ys,p1,p2,p3):=h2.plain er e2;refine qeY pins st Z' H x y v u Q I rx ry ⟨a,b,xs,ys,q1,p1,q2,p2,by rw[<-q3.len,<-p3.len];exact hz,λp hp=>?_⟩;let(z1,z2):=er.newList hp (q3.app p3);exact h _ _ _ z1 z2
 have txt:Wx Ξ (match r.str?,s.str? with
   |some a,some b=>if a.length+b.length<=sizeLine then R.ok (Rv.val (.str (a++b))) else .no
   |_,_=>match r.plain?,s.plain? with
    |some l,some m=>if l.length+m.length<=sizeLine then R.ok (Rv.tmp (l++m)) else .no
    |_,_=>.no) (λz=>∀v G' H',Po U K Gv Hv Z G H N G' H' N->RvR U K Hv H G' H' N Z z v->Q v H')->wpAny (model X.prog X.w) X.A (binaryOp .Add v u) (EP X pins Z' Q) X.xe st:=λh=>by
  cases e1:r.str? with
  |none=>rw[e1]at h;exact cat h
  |some l=>
   cases e2:s.str? with
   |none=>rw[e1,e2]at h;exact cat h
   |some m=>rw[e1,e2]at h;let(hz,h):=Wx.iff h;exact QT pins st Z' H x y v u Q I rx ry ⟨l,m,h1.str e1,h2.str e2,hz,h _ G H (Po.refl er) (by simp![RvR,Rep])⟩
 cases e1:r.int? with
 |none=>rw[e1]at h;exact txt h
 |some i=>
  cases e2:s.int? with
  |none=>rw[e1,e2]at h;exact txt h
  |some j=>rw[e1,e2]at h;exact qeJ pins st Z' H x y v u Q I rx ry ⟨i,j,h1.int e1,h2.int e2,h _ G H (Po.refl er) (by simp![RvR,Rep])⟩
def qdB{i j:Int}(h:Ql i j=true):qgW i j:=by unfold Ql at h;simp![Bool.or_eq_true,Bool.and_eq_true,decide_eq_true_eq]at h;exact h
theorem qfl:OpR X (binaryOp .Mult) (qg3 U K Ξ Gv Hv .Mult):=by
 rintro pins st Z' H x y v u Q I rx ry ⟨N,Z,G,Hb,Hc,r,s,er,h1,h2,h⟩;have h:Wx Ξ (qhx r s) _:=h;unfold qhx at h
 cases e2:s.int? with
 |none=>cases e1:r.int?<;>rw[e1,e2]at h<;>exact h.elim
 |some j=>
  cases e1:r.int? with
  |some i=>rw[e1,e2]at h;let(hm,h):=Wx.iff h;exact qeL pins st Z' H x y v u Q I rx ry ⟨i,j,h1.int e1,h2.int e2,qdB hm,h _ G H (Po.refl er) (by simp![RvR,Rep])⟩
  |none=>rw[e1,e2]at h;exact h.elim
theorem qfm(op:Operator):OpR X (binaryOp op) (qg3 U K Ξ Gv Hv op):=by
 cases op with
 |Add=>exact qfk
 |Sub=>exact Jp .Sub (qhL qeK) (λ_ _=>rfl) λi j F h=>⟨trivial,h⟩
 |Mult=>exact qfl
 |FloorDiv=>
  refine Jp .FloorDiv qa3 (λ_ _=>rfl) λi j F h=>?_
  by_cases hp:0 < j/\j < 1073741824
  ·rw[if_pos hp]at h;rw[Int.fdiv_eq_ediv_of_nonneg i (1:)];exact{{by lia,by lia},h}
  ·rw[if_neg hp]at h;let(hc,h):=Wx.iff h;exact{{by lia,by lia},h}
 |Mod=>
  refine Jp .Mod qcP (λ_ _=>rfl) λi j F h=>?_
  by_cases hp:0 < j
  ·rw[if_pos hp]at h;rw[Int.fmod_eq_emod_of_nonneg i (1:)];exact{by lia,h}
  ·rw[if_neg hp]at h;let(hc,h):=Wx.iff h;exact{by lia,h}
 |Pow=>exact Jp .Pow qeM (λ_ _=>rfl) λi j F h=>{(Wx.iff h).1,(Wx.iff h).2}
 |_=>exactλ_ _ _ _ _ _ _ _ _ _ _ _ h=>Exists.elim h λ_ h=>Exists.elim h λ_ h=>Exists.elim h λ_ h=>Exists.elim h λ_ h=>Exists.elim h λ_ h=>Exists.elim h λ_ h=>Exists.elim h λ_ h=>h.2.2.2.elim
theorem Jq(op:CmpOp){g:Int->Int->Bool}(hop:OpR X (compareOp op) (rI0 λi j=>.bl (g i j)))(hf:∀r s,yL op r s=qet r s g):OpR X (compareOp op) (qhK U K Gv Hv op):=by
 rintro pins st Z' H x y v u Q I rx ry ⟨N,Z,G,Hb,Hc,r,s,b,er,h1,h2,h,q⟩;rw[hf]at h;unfold qet at h
 cases e1:r.int? with
 |none=>rw[e1]at h;cases h
 |some i=>
  cases e2:s.int? with
  |none=>rw[e1,e2]at h;cases h
  |some j=>rw[e1,e2]at h;cases h;exact hop pins st Z' H x y v u Q I rx ry ⟨i,j,h1.int e1,h2.int e2,q⟩
theorem qcn{x y:D}{b:Bool}(h:eqD x y=some b):∃p q,toP x=some p/\toP y=some q/\SeqAt.shaped p=true/\SeqAt.shaped q=true/\b=PyData.eqv p q:=by
 unfold eqD at h
 cases e1:toP x with
 |none=>rw[e1]at h;cases h
 |some p=>
  cases e2:toP y with
  |none=>rw[e1,e2]at h;cases h
  |some q=>
   rw[e1,e2]at h;dsimp only at h
   by_cases hs:(SeqAt.shaped p&&SeqAt.shaped q)=true
   ·rw[if_pos hs]at h;cases h;rw[Bool.and_eq_true]at hs;exact⟨p,q,rfl,rfl,hs.1,hs.2,rfl⟩
   ·rw[if_neg hs]at h;cases h
theorem qco(gd:Gd U K ε k X L)(neg:Bool)(op:CmpOp)(hs:OpR X (compareOp op) (λx y H Q=>∃i j,x=.str i/\y=.str j/\Q (.bl (if neg then !qaU i j else qaU i j)) H))(hl:OpR X (compareOp op) (rIn X.K neg))
  (hf:∀r s,yL op r s=(qaV r s).map λb=>if neg then !b else b):OpR X (compareOp op) (qhK U K Gv Hv op):=by
 rintro pins st Z' H x y v u Q I rx ry ⟨N,Z,G,Hb,Hc,r,s,b,er,h1,h2,h,q⟩;rw[hf]at h;let(b',hb',rfl):=Option.map_eq_some_iff.mp h
 replace h:=hb'
 unfold qaV at h
 have sq:(seqD s).bind (inD r.data)=some b'->wpAny (model X.prog X.w) X.A (compareOp op v u) (EP X pins Z' Q) X.xe st:=λh=>by
  let(l,e1,e2):=Option.bind_eq_some_iff.mp h;unfold inD at e2
  by_cases hc:(jY r.data&&l.all jY)=true
  ·rw[if_pos hc]at e2;cases e2;rw[Bool.and_eq_true]at hc;let(a,xs,p1,p2,p3):=h2.seq er e1;let(f1,f2):=qdA h1 hc.1;let(f3,f4):=Yd p3 hc.2;refine hl pins st Z' H x y v u Q I rx ry ⟨a,xs,p1,by rw[gd.hK];exact p2,f2,f4,?_⟩;rw[f1,f3];exact q
  ·rw[if_neg hc]at e2;cases e2
 cases e1:r.str? with
 |none=>rw[e1]at h;exact sq h
 |some i=>
  cases e2:s.str? with
  |none=>rw[e1,e2]at h;exact sq h
  |some j=>rw[e1,e2]at h;cases h;exact hs pins st Z' H x y v u Q I rx ry ⟨i,j,h1.str e1,h2.str e2,q⟩
theorem qcp(gd:Gd U K ε k X L)(op:CmpOp):OpR X (compareOp op) (qhK U K Gv Hv op):=by
 have hu:X.A.units+64 < cLine:=by have:=gd.room.un;lia
 cases op with
 |Eq=>rintro pins st Z' H x y v u Q I rx ry ⟨N,Z,G,Hb,Hc,r,s,b,er,h1,h2,h,q⟩;let(p,p',e1,e2,e3,e4,rfl):=qcn h;exact qe0 hu pins st Z' H x y v u Q I rx ry ⟨p,p',by rw[gd.hK];exact h1.dv er e1,by rw[gd.hK];exact h2.dv er e2,e3,e4,q⟩
 |NotEq=>rintro pins st Z' H x y v u Q I rx ry ⟨N,Z,G,Hb,Hc,r,s,b,er,h1,h2,h,q⟩;let(b',h',rfl):=Option.map_eq_some_iff.mp h;let(p,p',e1,e2,e3,e4,rfl):=qcn h';exact qe1 hu pins st Z' H x y v u Q I rx ry ⟨p,p',by rw[gd.hK];exact h1.dv er e1,by rw[gd.hK];exact h2.dv er e2,e3,e4,q⟩
 |Lt=>exact Jq .Lt qhk λ_ _=>rfl
 |LtE=>exact Jq .LtE qhl λ_ _=>rfl
 |Gt=>exact Jq .Gt qhm λ_ _=>rfl
 |GtE=>exact Jq .GtE qhn λ_ _=>rfl
 |Is=>
  rintro pins st Z' H x y v u Q I rx ry ⟨N,Z,G,Hb,Hc,r,s,b,er,h1,h2,h,q⟩;have h:(if s.non?=true then some r.non? else none)=some b:=h
  by_cases hn:s.non?=true
  ·rw[if_pos hn]at h;cases h;refine qeN pins st Z' H x y v u Q I rx ry ⟨of_decide_eq_true (h2.non.trans hn),?_⟩;rw[h1.non];exact q
  ·rw[if_neg hn]at h;cases h
 |IsNot=>
  rintro pins st Z' H x y v u Q I rx ry ⟨N,Z,G,Hb,Hc,r,s,b,er,h1,h2,h,q⟩;have h:(if s.non?=true then some (!r.non?) else none)=some b:=h
  by_cases hn:s.non?=true
  ·rw[if_pos hn]at h;cases h;refine qcQ pins st Z' H x y v u Q I rx ry ⟨of_decide_eq_true (h2.non.trans hn),?_⟩;rw[h1.non];exact q
  ·rw[if_neg hn]at h;cases h
 |In=>exact qco gd false .In Zv ZE λr s=>by show qaV r s=_;cases qaV r s<;>rfl
 |NotIn=>exact qco gd true .NotIn JR JZ λr s=>rfl
theorem Qq{G:Hp}{x:Str}{d:D}:∀{ns:List Str} {ds:List D} {xs:List V},qx U G ds xs->(ns.zip ds).lookup x=some d->∃v,(ns.zip xs).lookup x=some v/\Rep U G d v
 |[],_,_,_,h=>by simp at h
 | n::ns,[],_,_,h=>by simp at h
 | n::ns,e::ds,xs,r,h=>by
  simp![qx]at r;let(v,us,rfl,r1,r2):=r;rw[List.zip_cons_cons,List.lookup_cons]at h
  cases hx:(x == n) with
  |true=>rw[hx]at h;cases h;exact{v,by rw[List.zip_cons_cons,List.lookup_cons,hx],r1}
  |false=>rw[hx]at h;let(u,z1,z2):=Qq r2 h;exact{u,by rw[List.zip_cons_cons,List.lookup_cons,hx];exact z1,z2}
theorem qfn(gd:Gd U K ε k X L):IxR X (qjx U K Ξ Gv Hv):=by
 rintro value slice pins st Z' H x y v u Q I rx ry ⟨N,Z,G,Hb,Hc,r,s,er,h1,h2,h⟩ hs;unfold idxD at h
 cases e1:s.int? with
 |none=>rw[e1]at h;exact False.elim h
 |some i=>
  rw[e1]at h;dsimp only at h
  cases e2:r.str? with
  |some z=>
   rw[e2]at h;dsimp only at h;let(hz,h):=Wx.iff h
   cases e3:atI z.cps.toList i with
   |none=>rw[e3]at h;exact h.elim
   |some c=>rw[e3]at h;exact qeU value slice pins st Z' H x y v u Q I rx ry ⟨z,i,c,h1.str e2,h2.int e1,hz,e3,h _ G H (Po.refl er) (by simp![RvR,Rep])⟩ hs
  |none=>
   rw[e2]at h;dsimp only at h
   cases e3:seqD r with
   |none=>rw[e3]at h;exact h.elim
   |some l=>
    rw[e3]at h;dsimp only at h
    cases e4:atI l i with
    |none=>rw[e4]at h;exact h.elim
    |some d=>
     rw[e4]at h;let(a,xs,p1,p2,p3):=h1.seq er e3;let(w,p4,p5):=qbr p3 e4;rcases p2 with p2|p2
     ·exact qc5 value slice pins st Z' H x y v u Q I rx ry ⟨a,xs,i,w,p1,h2.int e1,by rw[gd.hK];exact p2,p4,h w G H (Po.refl er) p5⟩ hs
     ·exact qeT value slice pins st Z' H x y v u Q I rx ry ⟨a,xs,i,w,p1,h2.int e1,by rw[gd.hK];exact p2,p4,h w G H (Po.refl er) p5⟩ hs
theorem qfo(gd:Gd U K ε k X L):L2.SlR X (qjy U K Ξ Gv Hv):=by
 rintro pins st Z' H x v vl vu lo hi sl Q I rx hs pl pu ⟨N,Z,G,Hb,r,er,h1,h⟩;unfold sliceD at h
 cases e2:r.str? with
 |some z=>rw[e2]at h;dsimp only at h;let(hz,h):=Wx.iff h;exact qe4 pins st Z' H x v vl vu lo hi sl Q I rx hs pl pu ⟨z,h1.str e2,hz,h _ G H (Po.refl er) (by simp![RvR,Rep])⟩
 |none=>rw[e2]at h;exact h.elim
theorem qfp(gd:Gd U K ε k X L):ja X (.builtin "len") (rC1 U K Ξ Gv Hv lenD):=by
 rintro pins st Z' H xs us Q I rs ⟨N,Z,G,Hb,r,x,hx,er,h1,h⟩;unfold lenD at h
 cases e2:r.str? with
 |some z=>rw[e2]at h;dsimp only at h;let(hz,h):=Wx.iff h;exact J1 pins st Z' H xs us Q I rs ⟨z,by rw[hx,h1.str e2],hz,h _ G H (Po.refl er) (by simp![RvR,Rep])⟩
 |none=>
  rw[e2]at h;dsimp only at h
  cases e3:seqD r with
  |none=>rw[e3]at h;exact h.elim
  |some l=>rw[e3]at h;let(a,ys,p1,p2,p3):=h1.seq er e3;refine J0 pins st Z' H xs us Q I rs ⟨a,ys,by rw[hx,p1],by rw[gd.hK];exact p2,?_⟩;rw[<-p3.len];exact h _ G H (Po.refl er) (by simp![RvR,Rep])
theorem qfq:ja X (.type "str") (rC1 U K Ξ Gv Hv strD):=by
 rintro pins st Z' H xs us Q I rs ⟨N,Z,G,Hb,r,x,hx,er,h1,h⟩;unfold strD at h
 cases e3:r.int? with
 |none=>rw[e3]at h;exact h.elim
 |some i=>rw[e3]at h;let(hz,h):=Wx.iff h;have e:=h1.int e3;subst e hx;let(u,rfl,rx):=YN rs;let(t,rfl):=rx;exact PySem.P.str_of_int hz ⟨.str _,H,I.tok _,⟨_,rfl⟩,h _ G H (Po.refl er) (by simp![RvR,Rep])⟩
theorem qfr:ja X (.type "int") (rC1 U K Ξ Gv Hv intD):=by
 rintro pins st Z' H xs us Q I rs ⟨N,Z,G,Hb,r,x,hx,er,h1,h⟩;unfold intD at h
 cases e3:r.int? with
 |some i=>rw[e3]at h;exact JS pins st Z' H xs us Q I rs (.inl ⟨i,by rw[hx,h1.int e3],h _ G H (Po.refl er) (by simp![RvR,Rep])⟩)
 |none=>
  rw[e3]at h;dsimp only at h
  cases e4:r.bl? with
  |none=>
   rw[e4]at h
   replace h:Wx Ξ (qgY r) _:=h
   unfold qgY at h
   split at h
   case h_2=>exact h.elim
   rename_i z
   cases e5:PySem.intText? z with
   |none=>rw[e5]at h;exact h.elim
   |some n=>rw[e5]at h;let(hz,h):=Wx.iff h;simp![RvR,Rep]at h1;subst h1;exact Jk pins st Z' H xs us Q I rs ⟨z,n,hx,e5,hz,h _ G H (Po.refl er) (by simp![RvR,Rep])⟩
  |some b=>rw[e4]at h;exact JS pins st Z' H xs us Q I rs (.inr ⟨b,by rw[hx,h1.bl e4],h _ G H (Po.refl er) (by simp![RvR,Rep])⟩)
def qfs(gd:Gd U K ε k X L):ja X (.builtin "min") (rC2 U K Ξ Gv Hv minD):=by rintro pins st Z' H xs us Q I rs ⟨N,Z,G,Hb,Hc,r,s,x,y,hx,er,h1,h2,h⟩;let(i,j,e1,e2,h):=Z2 h;exact Zw gd.calm pins st Z' H xs us Q I rs ⟨i,j,by rw[hx,h1.int e1,h2.int e2],h _ G H (Po.refl er) (by simp![RvR,Rep])⟩
theorem qbs(gd:Gd U K ε k X L){G H Hb:Hp}{N:Env}{Z:St}{r:Rv}{x:V}{b:Bool}(er:ER U K Gv Hv G H N Z)(h:RvR U K Hv Hb G H N Z r x)(e:truthD r=some b):qgX X.K x H b:=by
 have sq:∀{r:Rv},RvR U K Hv Hb G H N Z r x->(seqD r).map (λl=>!l.isEmpty)=some b->qgX X.K x H b:=λ{r} h e=>by
  let(l,e1,rfl):=Option.map_eq_some_iff.mp e;let(a,xs,rfl,p2,p3):=h.seq er e1
  have hl:(!l.isEmpty) = !xs.isEmpty:=by
   have:=p3.len
   cases l<;>cases xs<;>simp_all
  rw[hl,gd.hK];rcases p2 with p2|p2
  ·exact .inl ⟨xs,p2,rfl⟩
  ·exact .inr (.inl ⟨xs,p2,rfl⟩)
 cases r with
 |val d=>
  cases d with
  |non=>simp![RvR,Rep]at h;subst h;simp![truthD]at e;cases e;exact rfl
  |bl c=>simp![RvR,Rep]at h;subst h;simp![truthD]at e;cases e;exact rfl
  |int c=>simp![RvR,Rep]at h;subst h;simp![truthD]at e;cases e;exact rfl
  |str c=>
   simp![RvR,Rep]at h;subst h;simp![truthD]at e
   by_cases hz:c.length<=sizeLine
   ·rw[if_pos hz]at e;cases e;exact⟨hz,rfl⟩
   ·rw[if_neg hz]at e;cases e
  |lst l=>exact sq h e
  |tup l=>exact sq h e
  |ins c ns l=>exact sq h e
  |exc c ns l=>exact sq h e
  |dct ns l=>exact sq h e
 |tmp l=>exact sq h e
 |cell l=>exact sq h e
 |scr l=>exact sq h e
end
open PySem.Spec PyProof.Rows
structure All(U:KC)(K:Frag)(ε:XK)(k:Nat)(X:Cx)(L:Ct)(m:Nat):Prop where
 r:∀Gv Hv e x,cE m L e=some x->PE X e (tR U K ε Gv Hv (iR L.k x))
 e:∀Gv Hv e x,cX m L e=some x->PE X e (tE U K ε Gv Hv (zK x (iR L.k x)))
 t:∀Gv Hv e x,cT m L e=some x->PT X e (tT U K ε Gv Hv (iT L.k x))
 es:∀Gv Hv e x,cEs m L e=some x->PA X e (tEs U K ε Gv Hv (iEs L.k x))
 as:∀Gv Hv e x,cAs m L e=some x->PA X e (tAs U K ε Gv Hv (iAs L.k x))
 o:∀Gv Hv e x,cO m L e=some x->PO X e (tO U K ε Gv Hv (iO L.k x))
 f:∀Gv Hv e x,cF m L e=some x->PIf X e (tT U K ε Gv Hv (iF L.k x))
 l:∀Gv Hv e x,cL m L e=some x->PE X e (tL U K ε Gv Hv (YL x (iR L.k x)))
 i:∀Gv Hv tg e x,cI m L (qds tg) e=some x->PI X tg e (tI U K ε Gv Hv (iI L.k x))
section
variable{U:KC}{ε:XK}{K:Frag}{Gv Hv:Hp}{k m:Nat}{X:Cx}{L:Ct}{x:E}
def qjz:All U K ε k X L 0:={ r:=(λ_ _ _ _ h=>nomatch h),e:=(λ_ _ _ _ h=>nomatch h),t:=(λ_ _ _ _ h=>nomatch h),es:=(λ_ _ _ _ h=>nomatch h),as:=(λ_ _ _ _ h=>nomatch h),o:=(λ_ _ _ _ h=>nomatch h),f:=(λ_ _ _ _ h=>nomatch h),l:=(λ_ _ _ _ h=>nomatch h),i:=(λ_ _ _ _ _ h=>nomatch h) }
theorem qbt(c:Const)(j:Nat)(pos:Pos)(h:qck c=some x):PE X (.Constant c j pos) (tR U K ε Gv Hv (iR L.k x)):=by
 cases c with
 |none=>cases h;exact PE.imp qeA λZ H Q ⟨N,G,er,h⟩=>h _ G H (Po.refl er) (by simp![RvR,Rep])
 |bool b=>cases h;exact PE.imp qg8 λZ H Q ⟨N,G,er,h⟩=>h _ G H (Po.refl er) (by simp![RvR,Rep])
 |int b=>cases h;exact PE.imp yd λZ H Q ⟨N,G,er,h⟩=>h _ G H (Po.refl er) (by simp![RvR,Rep])
 |str b=>cases h;exact PE.imp JO λZ H Q ⟨N,G,er,h⟩=>h _ G H (Po.refl er) (by simp![RvR,Rep])
 |_=>cases h
def qbu(A:All U K ε k X L m)(a b:Expr)(op:Operator)(pos:Pos)(h:cE (m+1) L (.BinOp a op b pos)=some x):PE X (.BinOp a op b pos) (tR U K ε Gv Hv (iR L.k x)):=by let(a',b',h1,h2,rfl):=ql h;refine PE.imp (qhi (qfm (Ξ:=XP U Gv Hv ε) (U:=U) (K:=K) (Gv:=Gv) (Hv:=Hv) op) (A.r Gv Hv _ _ h1) (A.r Gv Hv _ _ h2)) λZ H Q hq1=>?_;let(N,G,er,h):=hq1;refine{N,G,er,Wx.mono (Wx.th (x:=iR L.k a' N) h) λx h v G1 H1 p1 r1=>{x.2,G1,p1.er,Wx.mono (Wx.th (x:=iR L.k b' x.2) h) λy h w G2 H2 p2 r2=>?_}};exact{y.2,Z,G2,H,H1,x.1,y.1,p2.er,r1.keep p2,r2,Wx.mono (Wx.th h) λz h u G3 H3 p3 r3=>h u G3 H3 (p1.trans (p2.trans p3)) (r3.back (p1.trans p2).hs)}
theorem qdC(A:All U K ε k X L m)(a:Expr)(pos:Pos)(h:cE (m+1) L (.UnaryOp .Not a pos)=some x):PE X (.UnaryOp .Not a pos) (tR U K ε Gv Hv (iR L.k x)):=by
 let(a',h1,rfl):=map_some h;refine PE.imp (qeE (A.r Gv Hv _ _ h1)) λZ H Q hq1=>?_;let(N,G,er,h):=hq1;refine{N,G,er,Wx.mono (Wx.th (x:=iR L.k a' N) h) λx h v G1 H1 p1 r1=>?_};let(rv,N1):=x
 cases rv with
 |val d=>
  cases d with
  |bl i=>exact{i,by simpa only[RvR,Rep] using r1,h _ G1 H1 p1 (by simp![RvR,Rep])}
  |_=>exact False.elim h
 |_=>exact False.elim h
def qdD(gd:Gd U K ε k X L)(A:All U K ε k X L m)(a b:Expr)(op:CmpOp)(pos:Pos)(h:cE (m+1) L (.Compare a [op] [b] pos)=some x):PE X (.Compare a [op] [b] pos) (tR U K ε Gv Hv (iR L.k x)):=by let(hm,h):=qf h;let(a',b',h1,h2,rfl):=ql h;refine PE.imp (qcR (qcp (Gv:=Gv) (Hv:=Hv) gd op) (A.r Gv Hv _ _ h1) (A.r Gv Hv _ _ h2) (-hm:)) λZ H Q hq1=>?_;let(N,G,er,h):=hq1;refine{N,G,er,Wx.mono (Wx.th (x:=iR L.k a' N) h) λx h v G1 H1 p1 r1=>{x.2,G1,p1.er,Wx.mono (Wx.th (x:=iR L.k b' x.2) h) λy h w G2 H2 p2 r2=>?_}};let(c,e,h):=Wx.of (Wx.th h);exact{y.2,Z,G2,H,H1,x.1,y.1,c,p2.er,r1.keep p2,r2,e,h _ G2 H2 (p1.trans p2) (by simp![RvR,Rep])}
def qdE(gd:Gd U K ε k X L)(A:All U K ε k X L m)(a b:Expr)(op:CmpOp)(pos:Pos){x:T}(h:cT (m+1) L (.Compare a [op] [b] pos)=some x):PT X (.Compare a [op] [b] pos) (tT U K ε Gv Hv (iT L.k x)):=by let(hm,h):=qf h;let(a',b',h1,h2,rfl):=ql h;refine PT.imp (qcS (qcp (Gv:=Gv) (Hv:=Hv) gd op) (A.r Gv Hv _ _ h1) (A.r Gv Hv _ _ h2) (-hm:)) λZ H Q hq1=>?_;let(N,G,er,h):=hq1;refine{N,G,er,Wx.mono (Wx.th (x:=iR L.k a' N) h) λx h v G1 H1 p1 r1=>{x.2,G1,p1.er,Wx.mono (Wx.th (x:=iR L.k b' x.2) h) λy h w G2 H2 p2 r2=>?_}};let(c,e,h):=Wx.of (Wx.th h);exact{y.2,Z,G2,H,H1,x.1,y.1,c,p2.er,r1.keep p2,r2,e,c,rfl,h G2 H2 (p1.trans p2)}
theorem qft(A:All U K ε k X L m)(a b:Expr)(l:List Expr)(pos:Pos)(h:cE (m+1) L (.BoolOp .And (a::b::l) pos)=some x):PE X (.BoolOp .And (a::b::l) pos) (tR U K ε Gv Hv (iR L.k x)):=by
 let(a',b',h1,h2,rfl):=ql h;refine PE.imp (qeD (A.r Gv Hv _ _ h1) (A.r Gv Hv _ _ h2)) λZ H Q hq1=>?_;let(N,G,er,h):=hq1;refine{N,G,er,Wx.mono (Wx.th (x:=iR L.k a' N) h) λx h v G1 H1 p1 r1=>?_};let(rv,N1):=x
 cases rv with
 |val d=>
  cases d with
  |bl c=>
   refine{c,by simpa only[RvR,Rep] using r1,?_}
   cases c with
   |true=>rw[if_pos rfl];exact{N1,G1,p1.er,Wx.mono h λy h w G2 H2 p2 r2=>h w G2 H2 (p1.trans p2) (r2.back p1.hs)}
   |false=>rw[if_neg (λz=>by cases z)];exact h _ G1 H1 p1 (by simp![RvR,Rep])
  |_=>exact False.elim h
 |_=>exact False.elim h
theorem qhM(A:All U K ε k X L m)(a b:Expr)(l:List Expr)(pos:Pos)(h:cE (m+1) L (.BoolOp .Or (a::b::l) pos)=some x):PE X (.BoolOp .Or (a::b::l) pos) (tR U K ε Gv Hv (iR L.k x)):=by
 let(a',b',h1,h2,rfl):=ql h;refine PE.imp (qhb (A.r Gv Hv _ _ h1) (A.r Gv Hv _ _ h2)) λZ H Q hq1=>?_;let(N,G,er,h):=hq1;refine{N,G,er,Wx.mono (Wx.th (x:=iR L.k a' N) h) λx h v G1 H1 p1 r1=>?_};let(rv,N1):=x
 cases rv with
 |val d=>
  cases d with
  |bl c=>
   refine{c,by simpa only[RvR,Rep] using r1,?_}
   cases c with
   |false=>rw[if_neg (λz=>by cases z)];exact{N1,G1,p1.er,Wx.mono h λy h w G2 H2 p2 r2=>h w G2 H2 (p1.trans p2) (r2.back p1.hs)}
   |true=>rw[if_pos rfl];exact h _ G1 H1 p1 (by simp![RvR,Rep])
  |_=>exact False.elim h
 |_=>exact False.elim h
def Q7{b:Expr}(h:∀lo hi st p,b≠.Slice lo hi st p):ZD b:=λo i=>by cases b<;>first|rfl|exact absurd rfl (h _ _ _ _)
theorem qfu(gd:Gd U K ε k X L)(A:All U K ε k X L m)(a b:Expr)(pos:Pos)(h:cE (m+1) L (.Subscript a b pos)=some x):PE X (.Subscript a b pos) (tR U K ε Gv Hv (iR L.k x)):=by
 have gen:(∀lo hi st p,b≠.Slice lo hi st p)->o2 (cE m L a) (cE m L b) .idx=some x->PE X (.Subscript a b pos) (tR U K ε Gv Hv (iR L.k x)):=λhb h=>by let(a',b',h1,h2,rfl):=ql h;refine PE.imp (qhq (qfn (Ξ:=XP U Gv Hv ε) (Gv:=Gv) (Hv:=Hv) gd) (A.r Gv Hv _ _ h1) (A.r Gv Hv _ _ h2) (Q7 hb)) λZ H Q hq1=>?_;let(N,G,er,h):=hq1;refine{N,G,er,Wx.mono (Wx.th (x:=iR L.k a' N) h) λx h v G1 H1 p1 r1=>{x.2,G1,p1.er,Wx.mono (Wx.th (x:=iR L.k b' x.2) h) λy h w G2 H2 p2 r2=>?_}};exact{y.2,Z,G2,H,H1,x.1,y.1,p2.er,r1.keep p2,r2,Wx.mono (Wx.th h) λz h u G3 H3 p3 r3=>h u G3 H3 (p1.trans (p2.trans p3)) (r3.back (p1.trans p2).hs)}
 cases b with
 |Slice lo hi st p=>
  cases st with
  |some st=>cases h
  |none=>let(a',q,h1,h2,rfl):=ql h;let(l',u',h3,h4,rfl):=ql h2;refine PE.imp (qbb (qfo (Ξ:=XP U Gv Hv ε) (Gv:=Gv) (Hv:=Hv) gd) (A.r Gv Hv _ _ h1) (A.o Gv Hv _ _ h3) (A.o Gv Hv _ _ h4)) λZ H Q hq1=>?_;let(N,G,er,h):=hq1;refine{N,G,er,Wx.mono (Wx.th (x:=iR L.k a' N) h) λx h v G1 H1 p1 r1=>{x.2,G1,p1.er,Wx.mono (Wx.th (x:=iO L.k l' x.2) h) λy h G2 H2 p2=>{y.2,G2,p2.er,Wx.mono (Wx.th (x:=iO L.k u' y.2) h) λz h G3 H3 p3=>?_}}};exact{z.2,Z,G3,H,x.1,p3.er,(r1.keep p2).keep p3,Wx.mono (Wx.th h) λu h w G4 H4 p4 r4=>h w G4 H4 (p1.trans (p2.trans (p3.trans p4))) (r4.back (p1.trans (p2.trans p3)).hs)}
 |_=>exact gen (λ_ _ _ _ z=>by cases z) h
def qfv(A:All U K ε k X L m)(es:List Expr)(pos:Pos)(h:cE (m+1) L (.List es pos)=some x):PE X (.List es pos) (tR U K ε Gv Hv (iR L.k x)):=by let(l,h1,rfl):=map_some h;refine PE.imp (qeR (A.es Gv Hv _ _ h1)) λZ H Q hq1=>?_;let(N,G,er,h):=hq1;refine{N,G,er,Wx.mono (Wx.th (x:=iEs L.k l N) h) λx h vs G1 H1 p1 r1=>?_};let(hz,h):=Wx.iff h;refine{by rw[<-r1.len];exact hz,λp hp=>?_};let(z1,z2):=p1.er.newList hp r1;exact h _ _ _ (p1.trans z1) (z2.back p1.hs)
def qfw(A:All U K ε k X L m)(es:List Expr)(j:Nat)(pos:Pos)(h:cE (m+1) L (.Tuple es j pos)=some x):PE X (.Tuple es j pos) (tR U K ε Gv Hv (iR L.k x)):=by let(l,h1,rfl):=map_some h;refine PE.imp (qeQ (A.es Gv Hv _ _ h1)) λZ H Q hq1=>?_;let(N,G,er,h):=hq1;refine{N,G,er,Wx.mono (Wx.th (x:=iEs L.k l N) h) λx h vs G1 H1 p1 r1=>?_};let(hz,h):=Wx.iff h;refine{by rw[<-r1.len];exact hz,λp hp=>?_};have z1:=Po.lay (o:=.tup vs) p1.er hp;refine h _ _ _ (p1.trans z1) ?_;simp![RvR,Rep];exact{p,vs,rfl,qm,r1.same z1.gs}
theorem qjA(gd:Gd U K ε k X L)(A:All U K ε k X L m)(e:Expr)(x:E)(h:cX (m+1) L e=some x):PE X e (tE U K ε Gv Hv (zK x (iR L.k x))):=by
 have gen:(cE m L e).bind Jn=some x->PE X e (tE U K ε Gv Hv (zK x (iR L.k x))):=λh=>by
  let(y,h1,h2):=Option.bind_eq_some_iff.mp h;let(rfl,hv):=zx h2;refine PE.imp (A.r Gv Hv _ _ h1) λZ H Q hq1=>?_;let(N,G,er,h):=hq1;rw[qdw hv]at h;refine{N,G,er,Wx.mono (Wx.th h) λx h v G1 H1 p1 r1=>?_};let(rv,N1):=x
  cases rv with
  |val d=>exact h v G1 H1 p1 r1
  |tmp l=>let(a,xs,rfl,h1,h2,h3,h4,h5,h6):=r1;have p2:=p1.freeze h1 h2 h3 h4 h5;refine h _ _ H1 p2 ?_;simp![Rep];exact{a,xs,rfl,qm,h6.same (qv.upd h4)}
  |_=>exact False.elim h
 cases e with
 |Name x pos=>exact Qo gd h pos
 |_=>exact gen h
def PFs.imp{es:List Expr}{t t':TF}(h:PFs X es t')(i:∀Z H acc Q,t Z H acc Q->t' Z H acc Q):PFs X es t:=λpins s Z H acc Q I hl hq=>h pins s Z H acc Q I hl (i Z H acc Q hq)
def yt{acc w:Str}{d:D}{l:List D}(h:yM acc (d::l)=some w):∃y,qhy d=some y/\(acc++y).length<=sizeLine/\yM (acc++y) l=some w:=by
 unfold yM at h;let(y,e1,e2):=Option.bind_eq_some_iff.mp h
 split at e2
 ·exact{y,e1,‹_›,e2}
 ·cases e2
theorem qbv{G:Hp}{d:D}{v:V}{y:Str}(r:Rep U G d v)(h:qhy d=some y):qik v=some y:=by
 cases d with
 |int n=>simp![Rep]at r;subst r;exact h
 |str z=>simp![Rep]at r;subst r;exact h
 |_=>cases h
theorem qhN{x:Str}{p:Pos}{a:E}(h:cX m L (.Name x p)=some a):(∃i,a=.var i)\/∃d,a=.con d:=by
 cases m with
 |zero=>cases h
 |succ m=>
  have h:Jm L x=some a:=h;unfold Jm at h;let(_,h):=qf h
  cases e:J9 L.N x with
  |some i=>rw[e]at h;let(_,h):=qf h;cases h;exact .inl ⟨i,rfl⟩
  |none=>rw[e]at h;let(_,h):=qf h;let(d,_,rfl):=map_some h;exact .inr ⟨d,rfl⟩
theorem Z3{r:Rv}{N:Env}{F:D×Env->Prop}{Ξ:XW}(h:Wx Ξ (((rprD r).th λq=>(R.ok (q,N):R (Rv×Env))).th qdu) F):∃z,r=.val (.str z)/\(reprText z).length<=sizeLine/\F (.str (reprText z),N):=by
 cases r with
 |val d=>cases d with
  |str z=>
   have h:Wx Ξ (((if (reprText z).length<=sizeLine then (R.ok (.val (.str (reprText z))):R Rv) else .no).th λq=>(R.ok (q,N):R (Rv×Env))).th qdu) F:=h
   by_cases hz:(reprText z).length<=sizeLine
   ·rw[if_pos hz]at h;exact⟨z,rfl,hz,h⟩
   ·rw[if_neg hz]at h;exact False.elim h
  |_=>exact False.elim h
 |_=>exact False.elim h
def qdF{cl:Cl}{a:E}{N:Env}{F:D×Env->Prop}{Ξ:XW}(ha:(∃i,a=.var i)\/∃d,a=.con d)(h:Wx Ξ (zK (.b1 .rpr a) (iR cl (.b1 .rpr a)) N) F):∃z,zK a (iR cl a) N=.ok (.str z,N)/\(reprText z).length<=sizeLine/\F (.str (reprText z),N):=by
 rcases ha with ⟨i,rfl⟩|⟨d,rfl⟩
 ·have h:Wx Ξ ((((slR N i).th λr=>(R.ok (r,N):R (Rv×Env))).th λx=>(rprD x.1).th λr=>(R.ok (r,x.2):R (Rv×Env))).th qdu) F:=h
  cases e:slR N i with
  |exc c l=>rw[e]at h;unfold slR at e;cases q:N[i]? with
   |none=>rw[q]at e;cases e
   |some s=>rw[q]at e;cases s<;>cases e
  |no=>rw[e]at h;exact False.elim h
  |ok r=>
   rw[e]at h;let(z,rfl,h1,h2):=Z3 h;refine{z,?_,h1,h2};show slE N i=_;unfold slR at e;unfold slE
   cases q:N[i]? with
   |none=>rw[q]at e;cases e
   |some s=>rw[q]at e;cases s<;>cases e<;>rfl
 ·let(z,e,h1,h2):=Z3 (r:=.val d) (N:=N) h;cases e;exact⟨z,rfl,h1,h2⟩
theorem qbw(A:All U K ε k X L m):∀es l',cFs (cX m L) es=some l'->PFs X es (λZ H acc Q=>∃N G,ER U K Gv Hv G H N Z/\Wx X0 (iEs L.k l' N) λx=>∃z,yM acc x.1=some z/\∀G' H',Po U K Gv Hv Z G H N G' H' x.2->Q z H')
 |[],_,h=>by cases h;refine PFs.imp qe9 λZ H acc Q hz5=>?_;let(N,G,er,z,e,h):=hz5;cases e;exact h G H (Po.refl er)
 | e::l,_,h=>by
  unfold cFs at h
  split at h
  ·rename_i q;cases q
  ·rename_i z j p l0 q;injection q with q1 q2;subst q1 q2;let(l',h2,rfl):=map_some h;refine PFs.imp (qfa (qbw A l l' h2)) λZ H acc Q hq=>?_;let(N,G,er,h):=hq;have h:=Wx.th (x:=iEs L.k l' N) h
   cases e2:iEs L.k l' N with
   |exc c l=>rw[e2]at h;exact False.elim h
   |no=>rw[e2]at h;exact False.elim h
   |ok y=>
    rw[e2]at h;let(w,e3,hQ):=h;let(y0,f1,f2,f3):=yt e3;have f1:(if z.length<=3000 then some z else none)=some y0:=f1
    split at f1
    case isFalse=>cases f1
    cases f1;exact{f2,N,G,er,by rw[e2];exact⟨w,f3,hQ⟩}
  ·rename_i e0 i0 p l0 q;injection q with q1 q2;subst q1 q2
   by_cases h14:i0=114
   ·subst h14;rw[if_pos rfl]at h;let(hi,h):=qf h;let(xn,xp,rfl):=qdv hi;let(a',l',h1,h2,rfl):=ql h;refine PFs.imp (qfc (A.e Gv Hv _ _ h1) (qbw A l l' h2)) λZ H acc Q hq=>?_;let(N,G,er,h):=hq;let(z,x1,x2,x3):=qdF (qhN h1) (Wx.th (x:=zK (.b1 .rpr a') (iR L.k (.b1 .rpr a')) N) h);refine{N,G,er,?_};rw[x1];intro v G1 H1 p1 r1;simp![Rep]at r1;have h:=Wx.th (x:=iEs L.k l' N) x3
    cases e2:iEs L.k l' N with
    |exc c l=>rw[e2]at h;exact False.elim h
    |no=>rw[e2]at h;exact False.elim h
    |ok y=>rw[e2]at h;let(w,e3,hQ):=h;let(y0,f1,f2,f3):=yt e3;have f1:(if (reprText z).length<=3000 then some (reprText z) else none)=some y0:=f1;let(_,f1):=qbn f1;cases f1;exact{z,r1,x2,f2,N,G1,p1.er,by rw[e2];exact{w,f3,λG' H' p2=>hQ G' H' (p1.trans p2)}}
   rw[if_neg h14]at h;let(hi,h):=qf h;cases of_decide_eq_true hi;let(a',l',h1,h2,rfl):=ql h;refine PFs.imp (qfb (A.e Gv Hv _ _ h1) (qbw A l l' h2)) λZ H acc Q hq=>?_;let(N,G,er,h):=hq;refine{N,G,er,Wx.mono2 (Wx.th (x:=zK a' (iR L.k a') N) h) (λ_ _ z=>False.elim z) λx h v G1 H1 p1 r1=>?_};have h:=Wx.th (x:=iEs L.k l' x.2) h
   cases e2:iEs L.k l' x.2 with
   |exc c l=>rw[e2]at h;exact False.elim h
   |no=>rw[e2]at h;exact False.elim h
   |ok y=>rw[e2]at h;let(w,e3,hQ):=h;let(y0,f1,f2,f3):=yt e3;exact{y0,qbv r1 f1,f2,x.2,G1,p1.er,by rw[e2];exact{w,f3,λG' H' p2=>hQ G' H' (p1.trans p2)}}
  ·cases h
def qfx(A:All U K ε k X L m)(a b:Expr)(l:List Expr)(pos:Pos)(h:cE (m+1) L (.JoinedStr (a::b::l) pos)=some x):PE X (.JoinedStr (a::b::l) pos) (tR U K ε Gv Hv (iR L.k x)):=by let(l',h1,rfl):=map_some h;refine PE.imp (qdq (qbw (Gv:=Gv) (Hv:=Hv) A _ _ h1)) λZ H Q hq=>?_;let(N,G,er,h):=hq;refine{N,G,er,Wx.mono (Wx.nox (Wx.th (x:=noX (iEs L.k l' N)) h)) λy h=>?_};let(z,e,h):=Wx.of (Wx.th h);exact{z,e,λG' H' p=>h _ G' H' p (by simp![RvR,Rep])}
theorem qhO(A:All U K ε k X L m):∀es x,cEs (m+1) L es=some x->PA X es (tEs U K ε Gv Hv (iEs L.k x))
 |[],_,h=>by cases h;exact PA.imp qC λZ H Q ⟨N,G,er,h⟩=>h [] G H (Po.refl er) .nil
 | e::l,_,h=>by let(hs,h):=qf h;let(a',l',h1,h2,rfl):=ql h;refine PA.imp (qg (A.e Gv Hv _ _ h1) (A.es Gv Hv _ _ h2) (qo (-hs:))) λZ H Q hq1=>?_;let(N,G,er,h):=hq1;refine{N,G,er,Wx.mono (Wx.th (x:=zK a' (iR L.k a') N) h) λx h v G1 H1 p1 r1=>{x.2,G1,p1.er,Wx.mono (Wx.th (x:=iEs L.k l' x.2) h) λy h vs G2 H2 p2 r2=>?_}};exact h _ G2 H2 (p1.trans p2) (.cons (r1.same p2.gs) r2)
theorem qhP(A:All U K ε k X L m):∀es x,cAs (m+1) L es=some x->PA X es (tAs U K ε Gv Hv (iAs L.k x))
 |[],_,h=>by cases h;exact PA.imp qC λZ H Q ⟨N,G,er,h⟩=>h [] G H (Po.refl er) rfl
 | e::l,_,h=>by
  let(hs,h):=qf h;let(a',l',h1,h2,rfl):=ql h;refine PA.imp (qg (A.r Gv Hv _ _ h1) (A.as Gv Hv _ _ h2) (qo (-hs:))) λZ H Q hq1=>?_;let(N,G,er,h):=hq1;refine{N,G,er,Wx.mono (Wx.th (x:=iR L.k a' N) h) λx h v G1 H1 p1 r1=>?_};have h:=Wx.th (x:=iAs L.k l' x.2) h;let(rv,N1):=x
  cases rv with
  |val d=>exact{N1,G1,p1.er,Wx.mono h λy h vs G2 H2 p2 r2=>h _ G2 H2 (p1.trans p2) {v,vs,rfl,Rep.same p2.gs r1,r2}}
  |tmp ds=>let(a,xs,rfl,h1,h2,h3,h4,h5,h6):=r1;have p1':=p1.freeze h1 h2 h3 h4 h5;refine{N1,_,p1'.er,Wx.mono h λy h vs G2 H2 p2 r2=>h _ G2 H2 (p1'.trans p2) {_,vs,rfl,?_,r2}};show Rep U G2 (.lst ds) (.ref a);simp![Rep];exact{a,xs,rfl,p2.gs _ _ qm,(h6.same (qv.upd h4)).same p2.gs}
  |cell ds=>let(a,xs,rfl,h1,h6):=r1;exact{N1,G1,p1.er,Wx.mono h λy h vs G2 H2 p2 r2=>h _ G2 H2 (p1.trans p2) {_,vs,rfl,{a,xs,rfl,p2.hs _ _ h1,h6.same p2.gs},r2}}
  |scr ds=>let(a,xs,rfl,h1,h6):=r1;exact{N1,G1,p1.er,Wx.mono h λy h vs G2 H2 p2 r2=>h _ G2 H2 (p1.trans p2) {_,vs,rfl,{a,xs,rfl,p2.hs.seq h1,h6.same p2.gs},r2}}
theorem qjB(A:All U K ε k X L m):∀o x,cO (m+1) L o=some x->PO X o (tO U K ε Gv Hv (iO L.k x))
 |none,_,h=>by cases h;exact PO.imp qc2 λZ H Q ⟨N,G,er,h⟩=>h G H (Po.refl er)
 |some e,_,h=>by
  let(a',h1,rfl):=map_some h;refine PO.imp (qc3 (A.r Gv Hv _ _ h1)) λZ H Q hq1=>?_;let(N,G,er,h):=hq1;refine{N,G,er,Wx.mono (Wx.th (x:=iR L.k a' N) h) λx h v G1 H1 p1 r1=>?_};let(rv,N1):=x
  cases rv with
  |val d=>
   cases d with
   |int i=>exact{i,by simpa only[RvR,Rep] using r1,h G1 H1 p1}
   |_=>exact False.elim h
  |_=>exact False.elim h
theorem qjC(A:All U K ε k X L m):∀es x,cF (m+1) L es=some x->PIf X es (tT U K ε Gv Hv (iF L.k x))
 |[],_,h=>by cases h;exact PIf.imp qdc λZ H Q ⟨N,G,er,h⟩=>h G H (Po.refl er)
 | _::_,_,h=>by cases h
def qcq:Expr->Bool
 |.UnaryOp .Not _ _=>false
 |.BoolOp ..=>false
 |.IfExp ..=>false
 |.Compare ..=>false
 |_=>true
theorem Z4{e:Expr}(h:qcq e=true)(env:PySem.Env):∀whole,isTrue e env whole=(do let v<-whole;standAt e.pos;holding [v] (truthy v)):=by
 intro whole
 cases e with
 |UnaryOp op a pos=>cases op<;>first|rfl|cases h
 |BoolOp=>cases h
 |IfExp=>cases h
 |Compare=>cases h
 |_=>rfl
theorem qjD(gd:Gd U K ε k X L)(A:All U K ε k X L m)(e:Expr)(x:T)(h:cT (m+1) L e=some x):PT X e (tT U K ε Gv Hv (iT L.k x)):=by
 have gen:qcq e=true->(cE m L e).map .val=some x->PT X e (tT U K ε Gv Hv (iT L.k x)):=λhp h=>by let(a',h1,rfl):=map_some h;refine PT.imp (qa4 (A.r Gv Hv _ _ h1) (Z4 hp X.env)) λZ H Q hq1=>?_;let(N,G,er,h):=hq1;refine{N,G,er,Wx.mono (Wx.th (x:=iR L.k a' N) h) λx h v G1 H1 p1 r1=>?_};let(b,e1,h):=Wx.of (Wx.th h);exact{b,qbs gd p1.er r1 e1,h G1 H1 p1}
 cases e with
 |UnaryOp op a pos=>
  cases op with
  |Not=>let(a',h1,rfl):=map_some h;refine PT.imp (jM (A.t Gv Hv _ _ h1)) λZ H Q hq1=>?_;let(N,G,er,h):=hq1;exact{N,G,er,Wx.mono (Wx.th (x:=iT L.k a' N) h) λx h G1 H1 p1=>h G1 H1 p1}
  |_=>exact gen rfl h
 |BoolOp op vs pos=>
  cases vs with
  |nil=>cases op<;>cases h
  |cons a vs=>
   cases vs with
   |nil=>
    cases op with
    |And=>let(a',h1,rfl):=map_some h;exact PT.imp (PW.pt (qcK (A.t Gv Hv _ _ h1))) λZ H Q h=>h
    |Or=>let(a',h1,rfl):=map_some h;exact PT.imp (PW.pt (qeB (A.t Gv Hv _ _ h1))) λZ H Q h=>h
   |cons b l=>
    cases op with
    |And=>
     let(a',b',h1,h2,rfl):=ql h;intro pins s Z H Q I hw;let(N,G,er,h):=hw;refine isTrue_and (thn (A.t Gv Hv _ _ h1 pins s Z H (λc H1=>if c=true then tT U K ε Gv Hv (iT L.k b') Z H1 Q else Q false H1) I ?_) λc s1 ⟨H1,I1,q1⟩=>?_)
     ·refine{N,G,er,Wx.mono (Wx.th (x:=iT L.k a' N) h) λx h G1 H1 p1=>?_};let(d,N1):=x
      cases d with
      |true=>rw[if_pos rfl];exact{N1,G1,p1.er,Wx.mono h λy h G2 H2 p2=>h G2 H2 (p1.trans p2)}
      |false=>rw[if_neg (λz=>by cases z)];exact h G1 H1 p1
     ·cases c with
      |true=>exact A.t Gv Hv _ _ h2 pins s1 Z H1 Q I1 q1
      |false=>exact⟨H1,I1,q1⟩
    |Or=>
     let(a',b',h1,h2,rfl):=ql h;intro pins s Z H Q I hw;let(N,G,er,h):=hw;refine isTrue_or (thn (A.t Gv Hv _ _ h1 pins s Z H (λc H1=>if c=true then Q true H1 else tT U K ε Gv Hv (iT L.k b') Z H1 Q) I ?_) λc s1 ⟨H1,I1,q1⟩=>?_)
     ·refine{N,G,er,Wx.mono (Wx.th (x:=iT L.k a' N) h) λx h G1 H1 p1=>?_};let(d,N1):=x
      cases d with
      |false=>rw[if_neg (λz=>by cases z)];exact{N1,G1,p1.er,Wx.mono h λy h G2 H2 p2=>h G2 H2 (p1.trans p2)}
      |true=>rw[if_pos rfl];exact h G1 H1 p1
     ·cases c with
      |true=>exact⟨H1,I1,q1⟩
      |false=>exact A.t Gv Hv _ _ h2 pins s1 Z H1 Q I1 q1
 |IfExp c a b pos=>cases h
 |Compare a ops bs pos=>
  match ops,bs,h with
  |[op],[b],h=>exact qdE gd A a b op pos h
  |[_,_],[_,_],h=>cases h
  |[],[],h=>cases h
  | [],_::_,h=>cases h
  |[_],[],h=>cases h
  | [_],_::_::_,h=>cases h
  |[_,_],[],h=>cases h
  |[_,_],[_],h=>cases h
  | [_,_],_::_::_::_,h=>cases h
  | _::_::_::_,_,h=>cases h
 |_=>exact gen rfl h
end
section
variable{U:KC}{ε:XK}{K:Frag}{Gv Hv:Hp}{k m:Nat}{X:Cx}{L:Ct}
def qfy{tg l:Expr}{tl:TE}(hl:PE X l tl):PI X tg l (λZ H R=>tl Z H λx H1=>(∃a,x=.ref a/\(((∃xs,SqL X.K H1 a xs)/\R (Itl X.K a) H1)\/((∃xs,SqT X.K H1 a xs)/\R (Itt X.K a) H1)))\/∃z,x=.str z/\R (Its z) H1):=by
 intro pins s Z H R I h;refine thn (hl pins s Z H _ I h) λv s1 hq1=>?_;let(x,H1,I1,r1,q1):=hq1;rcases q1 with ⟨a,e,q⟩|⟨x,rfl,q⟩
 ·subst e;cases r1;rcases q with ⟨⟨xs,hq⟩,q⟩|⟨⟨xs,hq⟩,q⟩
  ·let(its,rv,p,hz):=I1.list hq;refine wpAny_pyIter_list p.isList ?_;refine{s1.heap.objs.size,[s1.heap.objs.size],_,_,H1,rfl,I1.kept (t':=s1.toks) λb o e=>Heap.get?_push_of_some _ e,Zs a _,{_,Heap.get?_push_size _ rfl,rfl,rfl},λb hb=>?_,q};have e:b=s1.heap.objs.size:=(-hb:)
   subst e;exact I1.fpOk (Nat.le_refl _) (I1.hok.fresh (Nat.le_refl _))
  ·let(its,rv,p,hz):=I1.tuple hq;refine wpAny_pyIter_tuple (show s1.heap.IsTuple a its.toArray from p) ?_;refine{s1.heap.objs.size,[s1.heap.objs.size],_,_,H1,rfl,I1.kept (t':=s1.toks) λb o e=>Heap.get?_push_of_some _ e,QQ a _,{_,Heap.get?_push_size _ rfl,rfl,rfl},λb hb=>?_,q};have e:b=s1.heap.objs.size:=(-hb:)
   subst e;exact I1.fpOk (Nat.le_refl _) (I1.hok.fresh (Nat.le_refl _))
 ·let(t,rfl):=r1
  have fin:∀(T:String) (o:Obj),(T = "str_ascii_iterator"\/T = "str_iterator")->(∀A':Around,A'.handled=none->Walks X.prog X.w A' s1.heap.objs.size [s1.heap.objs.size] [s1.heap.objs.size] x.cps.size (SignAt x) (λi h=>h.IsStrIter s1.heap.objs.size T x t i))->
    (s1.heap.push o).IsStrIter s1.heap.objs.size T x t 0->PIE X pins Z tg R (.ref s1.heap.objs.size) { s1 with heap:=s1.heap.push o }:=λT o hT W st=>by
   refine{s1.heap.objs.size,[s1.heap.objs.size],_,_,H1,rfl,I1.kept (t':=s1.toks) λb o e=>Heap.get?_push_of_some _ e,qbf hT W,st,λb hb=>?_,q};have e:b=s1.heap.objs.size:=(-hb:)
   subst e;exact I1.fpOk (Nat.le_refl _) (I1.hok.fresh (Nat.le_refl _))
  cases ha:x.cps.all (· < 128)
  ·exact wpAny_pyIter_wide ha (fin _ _ (.inr rfl) (λA' hA=>Walks.strWide hA _ x t) ⟨_,Heap.get?_push_size _ rfl,rfl,rfl⟩)
  ·exact wpAny_pyIter_ascii ha (fin _ _ (.inl rfl) (λA' hA=>Walks.strAscii hA _ x t) ⟨_,Heap.get?_push_size _ rfl,rfl,rfl⟩)
theorem qbx(gd:Gd U K ε k X L){x:Str}{i:Nat}(hi:qes L x=some i)(pos:Pos):PE X (.Name x pos) (tL U K ε Gv Hv (YL (.var i) (iR L.k (.var i)))):=by
 refine PE.imp (qcm gd hi pos) λZ H Q hq1=>?_;let(N,G,er,h):=hq1;have h:Wx _ (slL N i) _:=h;unfold slL at h
 cases q:N[i]? with
 |none=>rw[q]at h;exact False.elim h
 |some s=>
  rw[q]at h;have w:=er.sl i s q
  cases s with
  |no=>exact False.elim h
  |val d=>
   let(v,z,r):=w
   cases d with
   |lst l=>simp![Rep]at r;let(a,xs,rfl,r1,r2):=r;exact{_,z,h _ G H (Po.refl er) {a,xs,rfl,r2,.inl r1}}
   |str y=>simp![Rep]at r;subst r;exact{_,z,h _ G H (Po.refl er) ⟨y,rfl,rfl⟩}
   |tup l=>simp![Rep]at r;let(a,xs,rfl,r1,r2):=r;exact{_,z,h _ G H (Po.refl er) ⟨a,xs,rfl,r2,r1⟩}
   |_=>exact False.elim h
  |own l=>let(a,xs,z,p,r):=er.froze q;simp![Rep]at r;let(a',xs',e,r1,r2):=r;cases e;exact{_,z,h _ _ H p {a,xs',rfl,r2,.inl r1}}
  |bor l=>let(a,xs,z,r1,r4):=w;exact{_,z,h _ G H (Po.refl er) {a,xs,rfl,r4,.inr (SqL.of r1)}}
  |scr l=>let(a,xs,z,r1,r4):=w;exact{_,z,h _ G H (Po.refl er) {a,xs,rfl,r4,.inr r1}}
theorem qjE(gd:Gd U K ε k X L)(A:All U K ε k X L m)(e:Expr)(x:E)(h:cL (m+1) L e=some x):PE X e (tL U K ε Gv Hv (YL x (iR L.k x))):=by
 have gen:(cE m L e).bind Jn=some x->PE X e (tL U K ε Gv Hv (YL x (iR L.k x))):=λh=>by
  let(y,h1,h2):=Option.bind_eq_some_iff.mp h;let(rfl,hv):=zx h2;refine PE.imp (A.r Gv Hv _ _ h1) λZ H Q hq1=>?_;let(N,G,er,h):=hq1;rw[qdx hv]at h;refine{N,G,er,Wx.mono (Wx.th h) λx h v G1 H1 p1 r1=>?_};let(rv,N1):=x
  cases rv with
  |val d=>
   cases d with
   |lst l=>simp![RvR,Rep]at r1;let(a,xs,rfl,q1,q2):=r1;exact h _ G1 H1 p1 ⟨a,xs,rfl,q2,.inl q1⟩
   |str y=>simp![RvR,Rep]at r1;subst r1;exact h _ G1 H1 p1 ⟨y,rfl,rfl⟩
   |tup l=>simp![RvR,Rep]at r1;let(a,xs,rfl,q1,q2):=r1;exact h _ G1 H1 p1 ⟨a,xs,rfl,q2,q1⟩
   |_=>exact False.elim h
  |tmp l=>let(a,xs,rfl,h1,h2,h3,h4,h5,h6):=r1;exact h _ _ H1 (p1.freeze h1 h2 h3 h4 h5) ⟨a,xs,rfl,h6.same (qv.upd h4),.inl qm⟩
  |_=>exact False.elim h
 cases e with
 |Name x pos=>let(i,h1,rfl):=map_some h;exact qbx gd h1 pos
 |_=>exact gen h
def qfz{G:Hp}{a:Addr}{xs:List V}{l:List D}(h:G a=some (.lst xs)\/SqL K Hv a xs)(r:qx U G l xs):ItR U Hv G (Itl K a) l:=by
 intro i G1 H1 s1 s2 s3;have hq:SqL K H1 a xs:=h.elim (λz=>SqL.of (s3 _ _ (s1 _ _ z))) λz=>s2.seq z;refine{λd e=>?_,λe=>{xs,hq,by rw[<-r.len];omega}};let(v,e1,e2):=r.atD e;refine{⟨xs,v,hq,e1⟩,λx H' ⟨z1,z2⟩=>{G1,by rw[z1];exactλ_ _ q=>q,λ_ _ q=>q,by rw[z1];exact s3,λ_ o q=>.inl ⟨o,q⟩,?_}}
 have:=z2 xs hq
 rw[e1]at this;cases this;exact e2.same s1
def qfA{G:Hp}{a:Addr}{xs:List V}{l:List D}(h:G a=some (.tup xs))(r:qx U G l xs):ItR U Hv G (Itt K a) l:=by
 intro i G1 H1 s1 s2 s3;have hq:SqT K H1 a xs:=SqT.of (s3 _ _ (s1 _ _ h));refine{λd e=>?_,λe=>{xs,hq,by rw[<-r.len];omega}};let(v,e1,e2):=r.atD e;refine{⟨xs,v,hq,e1⟩,λx H' ⟨z1,z2⟩=>{G1,by rw[z1];exactλ_ _ q=>q,λ_ _ q=>q,by rw[z1];exact s3,λ_ o q=>.inl ⟨o,q⟩,?_}}
 have:=z2 xs hq
 rw[e1]at this;cases this;exact e2.same s1
def qfB{G:Hp}{x:Str}:ItR U Hv G (Its x) (qaT x):=by
 intro i G1 H1 s1 s2 s3;have hl:(qaT x).length=x.cps.size:=by simp[qaT]
 refine{λd e=>?_,λe=>by rw[<-e,hl];rfl};unfold qaT at e;rw[List.getElem?_map]at e;let(c,e1,rfl):=Option.map_eq_some_iff.mp e;rw[Array.getElem?_toList]at e1;refine{(Array.getElem?_eq_some_iff.mp e1).1,λv H' ⟨z1,c',z2,z3⟩=>{G1,by rw[z1];exactλ_ _ q=>q,λ_ _ q=>q,by rw[z1];exact s3,λ_ o q=>.inl ⟨o,q⟩,?_}};rw[e1]at z2;cases z2;rw[z3];simp![Rep]
def qfC{G:Hp}{lo hi:Int}:ItR U Hv G (Itr lo (hi - lo).toNat) (zw lo hi):=by
 intro i G1 H1 s1 s2 s3;refine{λd e=>?_,λe=>?_}
 ·unfold zw at e;rw[List.getElem?_map]at e;let(j,e1,rfl):=Option.map_eq_some_iff.mp e;let(h1,h2):=List.getElem?_eq_some_iff.mp e1;have hi':i < (hi - lo).toNat:=(-h1:)
  have hj:j=i:=by rw[<-h2];simp
  subst hj;refine{hi',λx H' ⟨z1,z2⟩=>{G1,by rw[z1];exactλ_ _ q=>q,λ_ _ q=>q,by rw[z1];exact s3,λ_ o q=>.inl ⟨o,q⟩,?_}};rw[z2];simp![Rep]
 ·have hl:(zw lo hi).length=(hi - lo).toNat:=by simp![zw,List.length_map,List.length_range]
  show(hi - lo).toNat<=i;omega
def Z5{i:Int}(h:zi i=true):-(2 ^ 62)<=i/\i < 2 ^ 62:=by
 unfold zi at h
 simpa [Bool.and_eq_true] using h
theorem qby(gd:Gd U K ε k X L)(A:All U K ε k X L m)(tg e:Expr)(x:I)(h:(cL m L e).map .seq=some x):PI X tg e (tI U K ε Gv Hv (iI L.k x)):=by
 let(a',h1,rfl):=map_some h;refine PI.imp (qfy (A.l Gv Hv _ _ h1)) λZ H Q hq1=>?_;let(N,G,er,h):=hq1;refine{N,G,er,Wx.mono (Wx.th (x:=YL a' (iR L.k a') N) h) λx h v G1 H1 p1 r1=>?_};let((b,l),N1):=x
 cases b with
 |str=>let(y,rfl,rfl):=r1;exact .inr ⟨y,rfl,h _ G1 H1 p1 qfB⟩
 |tup=>let(a,xs,rfl,r2,r3):=r1;exact .inl ⟨a,rfl,.inr ⟨⟨xs,SqT.of (p1.er.sub _ _ r3)⟩,h _ G1 H1 p1 (by rw[gd.hK];exact qfA r3 r2)⟩⟩
 |lst=>let(a,xs,rfl,r2,r3):=r1;refine .inl ⟨a,rfl,.inl ⟨⟨xs,?_⟩,h _ G1 H1 p1 (by rw[gd.hK];exact qfz r3 r2)⟩⟩;rw[gd.hK];exact r3.elim (λz=>SqL.of (p1.er.sub _ _ z)) λz=>p1.er.base.seq z
def qdG(gd:Gd U K ε k X L)(A:All U K ε k X L m)(tg a:Expr)(f:Str)(p q:Pos)(x:I)(hg:Gl X f)(h:oif (!qL a) (if f = "range" then (cE m L a).map .rng else none)=some x) :
  PI X tg (.Call (.Name f p) [a] [] q) (tI U K ε Gv Hv (iI L.k x)):=by
 let(hs,h):=qf h;have hs:qL a=false:=(-hs:)
 by_cases h1:f = "range"
 ·subst h1;rw[if_pos rfl]at h;let(a',h1,rfl):=map_some h;refine PI.imp (Zt hg (gd.blt _ (2:)) (qg (A.r Gv Hv _ _ h1) qC (qo hs)) (qo hs)) λZ H Q hq1=>?_;let(N,G,er,h):=hq1;refine{N,G,er,Wx.mono (Wx.th (x:=iR L.k a' N) h) λx h v G1 H1 p1 r1=>?_}
  cases e1:x.1.int? with
  |none=>rw[e1]at h;exact False.elim h
  |some n=>
   rw[e1]at h;let(hz,h):=Wx.iff h;let(z1,z2):=Z5 hz;refine{n,by rw[r1.int e1],z1,z2,h _ G1 H1 p1 ?_}
   have:=qfC (U:=U) (Hv:=Hv) (G:=G1) (lo:=0) (hi:=n)
   rw[Int.sub_zero]at this;exact this
 rw[if_neg h1]at h;cases h
theorem qjF(gd:Gd U K ε k X L)(A:All U K ε k X L m)(tg e:Expr)(x:I)(h:cI (m+1) L (qds tg) e=some x):PI X tg e (tI U K ε Gv Hv (iI L.k x)):=by
 cases e with
 |Call fn es kws q=>
  cases fn with
  |Name f p=>
   cases kws with
   |nil=>
    have h:(if (decide (f = "range")||decide (f = "enumerate")||decide (f = "zip")||decide (f = "reversed"))=true then _ else _)=some x:=h
    by_cases hf:(decide (f = "range")||decide (f = "enumerate")||decide (f = "zip")||decide (f = "reversed"))=true
    ·rw[if_pos hf]at h;let(hn,h):=qf h;simp![Bool.and_eq_true]at hn;have hg:=gd.glo _ hn.1.2
     match es,h with
     |[a],h=>exact qdG gd A tg a f p q x hg h
     |[_,_],h=>cases h
     |[_,_,_],h=>cases h
     |[],h=>cases h
     | _::_::_::_::_,h=>cases h
    ·rw[if_neg hf]at h;exact qby gd A tg _ x h
   |cons kw kws=>exact qby gd A tg _ x h
  |_=>exact qby gd A tg _ x h
 |_=>exact qby gd A tg _ x h
end
section
variable{U:KC}{ε:XK}{K:Frag}{Gv Hv:Hp}{k m:Nat}{X:Cx}{L:Ct}{x:E}
theorem yu:∀{m:Nat} {es:List Expr} {l:Es},cAs m L es=some l->es.any qL=false
 |0,_,_,h=>nomatch h
 | m+1,[],_,_=>rfl
 | m+1,e::es,_,h=>by
  let(hs,h):=qf h;let(a,b,_,h2,_):=ql h;rw[List.any_cons,yu h2,Bool.or_false]
  simpa using hs
def Jr{m:Nat}{l:Es}(h:cAs m L []=some l):l=.nil:=by
 cases m<;>cases h
 rfl
theorem qO{env:PySem.Env}{pos:Pos}:∀{es:List Expr},es.any qL=false->(backTo pos (starEach es env)).any (·.1)=false
 |[],_=>rfl
 | e::l,h=>by simp![List.any_cons,Bool.or_eq_false_iff]at h;rw[qo h.1];show(false||(backTo pos (starEach l env)).any (·.1))=false;rw[qO h.2];rfl
def XP.call{G H G1 H1:Hp}{N N1:Env}{Z:L2.St}(p:Po U K Gv Hv Z G H N G1 H1 N1):∀c l,XP U Gv Hv ε c l->XP U G1 H1 ε c l:=λc l h od G' H' h1 g1 s n x=>
 h od G' H' (λb o q=>h1 b o (p.er.base b o q)) (λb o q=>g1 b o (p.er.g0 b o q)) s (λa o q=>by
  rcases n a o q with ⟨o',z⟩|z
  ·exact p.er.fresh a o' z
  ·exact .inr (qv.none p.er.base z)) x
theorem ReR.rv{G H G1 H1 G2 H2:Hp}{N N1:Env}{Z:L2.St}{r:Rv}{v:V}(p:Po U K Gv Hv Z G H N G1 H1 N1)(hs:qv H1 H2)(gs:qv G1 G2)(sub:qv G2 H2)(new:∀a o,G2 a=some o->(∃o',G1 a=some o')\/H1 a=none)(h:ReR U G2 H2 H1 r v) :
  Po U K Gv Hv Z G H N G2 H2 N1/\RvR U K Hv H G2 H2 N1 Z r v:=by
 refine{p.trans (Po.more p.er hs gs sub new),?_}
 cases r with
 |val d=>exact h
 |tmp ds=>let(a,xs,rfl,h1,h2,h3,h4):=h;exact{a,xs,rfl,h1,qv.none p.hs h2,qv.none p.er.base h2,h3,p.er.notOwn h2,h4}
 |cell ds=>exact False.elim h
 |scr ds=>exact False.elim h
theorem qbz(gd:Gd U K ε k X L)(A:All U K ε k X L m)(f:Str)(es:List Expr)(p q:Pos)(hok:qJ f=true)(hgl:glB L.sc f=true)(ht:L.tab.contains f=true)(h:(cAs m L es).map (.call f)=some x):PE X (.Call (.Name f p) es [] q) (tR U K ε Gv Hv (iR L.k x)):=by
 let(l',h1,rfl):=map_some h;have hs:=yu h1;let(fa,fd,ps,F,hm,hk,hb):=gd.fns f ht;let(n1,n2,n3):=qy hok
 have key:∀Z H Q,tR U K ε Gv Hv (iR L.k (.call f l')) Z H Q->ZB (spF U K L.cl f) [] ε (tAs U K ε Gv Hv (iAs L.k l')) Z H Q:=λZ H Q ⟨N,G,er,h⟩=>by refine{N,G,er,Wx.mono (Wx.th (x:=iAs L.k l' N) h) λx h vs G1 H1 p1 r1=>?_};show spF U K L.cl f (vs++[]) H1 Q ε;rw[List.append_nil];refine{G1,x.1,p1.er.sub,r1,Wx.mono2 (Wx.th h) (XP.call p1) λr h v G2 H2 hs gs sub new rr=>?_};let(z1,z2):=ReR.rv p1 hs gs sub new rr;exact h v G2 H2 z1 z2
 cases es with
 |nil=>cases Jr h1;refine PE.imp (qa8 F gd.room (gd.glo f hgl) hm hk hb .nil gd.ps n1) λZ H Q h=>?_;let(N,G,er,h):=key Z H Q h;exact h [] G H (Po.refl er) rfl
 |cons e l=>simp![List.any_cons,Bool.or_eq_false_iff]at hs;exact PE.imp (zM F gd.room (gd.glo f hgl) hm hk hb .nil gd.ps (A.as Gv Hv _ _ h1) n1 (qo hs.1) (qO hs.2)) key
theorem Z6:∀{m:Nat} {es:List Expr} {l:Es},cEs m L es=some l->es.any qL=false
 |0,_,_,h=>nomatch h
 | m+1,[],_,_=>rfl
 | m+1,e::es,_,h=>by
  let(hs,h):=qf h;let(a,b,_,h2,_):=ql h;rw[List.any_cons,Z6 h2,Bool.or_false]
  simpa using hs
def qbA(gd:Gd U K ε k X L)(A:All U K ε k X L m)(f:Str)(a:Expr)(p q:Pos)(hgl:glB L.sc f=true)(h:oif (!qL a) (o2 (qhD f) (cE m L a) E.b1)=some x):PE X (.Call (.Name f p) [a] [] q) (tR U K ε Gv Hv (iR L.k x)):=by
 let(hs,h):=qf h;have s1:qL a=false:=(-hs:)
 let(y,a',h1,h2,rfl):=ql h
 have key:∀Z H Q,tR U K ε Gv Hv (iR L.k (.b1 y a')) Z H Q->tCB (rC1 U K (XP U Gv Hv ε) Gv Hv y.go) (ZA (tR U K ε Gv Hv (iR L.k a')) qcW) Z H Q:=λZ H Q ⟨N,G,er,h⟩=>{N,G,er,Wx.mono (Wx.th (x:=iR L.k a' N) h) λx h v G1 H1 p1 r1=>{x.2,Z,G1,H,x.1,v,rfl,p1.er,r1,Wx.mono (Wx.th h) λz h u G2 H2 p2 r2=>h u G2 H2 (p1.trans p2) (r2.back p1.hs)}}
 have pa:=qg (A.r Gv Hv _ _ h2) qC (qo s1);unfold qhD at h1
 split at h1
 ·rename_i e;cases h1;subst e;exact PE.imp (jm (qfp (Ξ:=XP U Gv Hv ε) (Gv:=Gv) (Hv:=Hv) gd) (gd.glo _ hgl) (gd.blt _ (2:)) PySem.boot_len pa (2:) (2:) (qo s1) rfl) key
 split at h1
 ·rename_i e;cases h1;subst e;exact PE.imp (yi (qfr (Ξ:=XP U Gv Hv ε) (U:=U) (K:=K) (Gv:=Gv) (Hv:=Hv)) (gd.glo _ hgl) (gd.blt _ (2:)) PyProof.Rows.boot_int pa (2:) (2:) (qo s1) rfl) key
 split at h1
 ·rename_i e;cases h1;subst e;exact PE.imp (yi (qfq (Ξ:=XP U Gv Hv ε) (U:=U) (K:=K) (Gv:=Gv) (Hv:=Hv)) (gd.glo _ hgl) (gd.blt _ (2:)) PyProof.Rows.boot_str pa (2:) (2:) (qo s1) rfl) key
 cases h1
def qbB(gd:Gd U K ε k X L)(A:All U K ε k X L m)(f:Str)(a b:Expr)(p q:Pos)(hgl:glB L.sc f=true)(h:oif (!(qL a||qL b)) (o2 (qhE f) (o2 (cE m L a) (cE m L b) Prod.mk) λf p=>E.b2 f p.1 p.2)=some x):PE X (.Call (.Name f p) [a,b] [] q) (tR U K ε Gv Hv (iR L.k x)):=by
 let(hs,h):=qf h;have hs:(qL a||qL b)=false:=(-hs:)
 rw[Bool.or_eq_false_iff]at hs;let(s1,s2):=hs;let(y,z,h1,h2,rfl):=ql h;let(a',b',h3,h4,rfl):=ql h2
 have key:∀Z H Q,tR U K ε Gv Hv (iR L.k (.b2 y a' b')) Z H Q->tCB (rC2 U K (XP U Gv Hv ε) Gv Hv y.go) (ZA (tR U K ε Gv Hv (iR L.k a')) (ZA (tR U K ε Gv Hv (iR L.k b')) qcW)) Z H Q:=λZ H Q ⟨N,G,er,h⟩=>{N,G,er,Wx.mono (Wx.th (x:=iR L.k a' N) h) λx h v G1 H1 p1 r1=>{x.2,G1,p1.er,Wx.mono (Wx.nox (Wx.th (x:=noX (iR L.k b' x.2)) h)) λy h w G2 H2 p2 r2=>{y.2,Z,G2,H,H1,x.1,y.1,v,w,rfl,p2.er,r1.keep p2,r2,Wx.mono (Wx.th h) λz h u G3 H3 p3 r3=>h u G3 H3 (p1.trans (p2.trans p3)) (r3.back (p1.trans p2).hs)}}}
 have sa:(backTo q (starEach [b] X.env)).any (·.1)=false:=qO (by simp[s2]);have pa:=qg (A.r Gv Hv _ _ h3) (qg (A.r Gv Hv _ _ h4) qC (qo s2)) (qo s1);unfold qhE at h1
 split at h1
 ·rename_i e;cases h1;subst e;exact PE.imp (jm (qfs (Ξ:=XP U Gv Hv ε) (Gv:=Gv) (Hv:=Hv) gd) (gd.glo _ hgl) (gd.blt _ (2:)) PyProof.Rows.boot_min pa (2:) (2:) (qo s1) sa) key
 cases h1
def qdH:bootBuiltins "ValueError" = some (.type "ValueError"):=(3:)
def tyN:D->String
 |.non=>"NoneType" |.bl _=>"bool" |.int _=>"int" |.str _=>"str" |.lst _=>"list" |.tup _=>"tuple" |.ins ..=>"object" |.exc ..=>"object" |.dct ..=>"object"
def Ty.nm:Ty->String
 |.int=>"int" |.bool=>"bool" |.str=>"str" |.list=>"list" |.tuple=>"tuple"
theorem qhQ{G H Hb:Hp}{N:Env}{Z:L2.St}{r:Rv}{x:V}{t:Ty}{b:Bool}(er:ER U K Gv Hv G H N Z)(h:RvR U K Hv Hb G H N Z r x)(e:t.go r=some b):TyOf K H x (.type (tyN r.data)):=by
 cases r with
 |val d=>
  cases d<;>simp![RvR,Rep]at h
  ·subst h;exact .non
  ·subst h;exact .bl _
  ·subst h;exact .int _
  ·subst h;exact .str _
  ·let(a,xs,rfl,h1,_):=h;exact .lst (er.sub _ _ h1)
  ·let(a,xs,rfl,h1,_):=h;exact .tup (er.sub _ _ h1)
  ·cases t<;>cases e
  ·cases t<;>cases e
  ·cases t<;>cases e
 |tmp l=>let(a,xs,rfl,h1,_):=h;exact .lst h1
 |cell l=>let(a,xs,rfl,h1,_):=h;exact .lst h1
 |scr l=>cases e
theorem qfD{r:Rv}{t:Ty}{b:Bool}(e:t.go r=some b):PySem.W.kitOne K (.type (tyN r.data)) (.type t.nm)=some b:=by
 have main:∀d:D,t.of d=some b->PySem.W.kitOne K (.type (tyN d)) (.type t.nm)=some b:=λd e=>by
  have q:(t.of d).elim True λb=>PySem.W.kitOne K (.type (tyN d)) (.type t.nm)=some b:=by cases t<;>cases d<;>first|exact True.intro|rfl
  rw[e]at q;exact q
 cases r with
 |val d=>exact main d e
 |tmp l=>exact main (.lst l) e
 |cell l=>exact main (.lst l) e
 |scr l=>cases e
def Z7{X:Cx}:ja X (.builtin "isinstance") (λvs H Q=>∃x c t cv b,vs=[x,c]/\TyOf X.K H x t/\qQ c cv/\(∀u,qQ c u->u=cv)/\PySem.W.kitOne X.K t cv=some b/\Q (.bl b) H):=by intro pins s Z H xs us Q I r h;let(x,c,t,cv,b,rfl,ty,rc,uq,e,q):=h;let(u,v,rfl,ru,rv):=qa5 r;obtain rfl:v=cv:=uq v rv;exact JT I ru ty e λtk=>{.bl b,H,I.tok tk,rfl,q}
theorem qfE(gd:Gd U K ε k X L)(A:All U K ε k X L m)(a:Expr)(t:Str)(p tp q:Pos)(hgl:glB L.sc "isinstance" = true)
  (h:oif (qJ t&&glB L.sc t&&(J9 L.N t).isNone&&!qL a) (match qg2 t with |some y=>(cE m L a).map (E.isi y) |none=>(cE m L a).map (.isc t))=some x):PE X (.Call (.Name "isinstance" p) [a,.Name t tp] [] q) (tR U K ε Gv Hv (iR L.k x)):=by
 let(hc,h):=qf h;simp![Bool.and_eq_true,Bool.not_eq_true']at hc;let(((c1,c2),c3),s1):=hc
 cases hy:qg2 t with
 |some y=>
  rw[hy]at h;let(a',h1,rfl):=map_some h
  have hb:PE X (.Name t tp) (tC (.ty y.nm)):=by
   unfold qg2 at hy
   split at hy
   ·rename_i e;cases hy;subst e;exact jF (gd.glo _ c2) (gd.blt _ (2:)) PyProof.Rows.boot_int rfl
   split at hy
   ·rename_i e;cases hy;subst e;exact jF (gd.glo _ c2) (gd.blt _ (2:)) PyProof.Rows.boot_bool rfl
   split at hy
   ·rename_i e;cases hy;subst e;exact jF (gd.glo _ c2) (gd.blt _ (2:)) PyProof.Rows.boot_str rfl
   split at hy
   ·rename_i e;cases hy;subst e;exact jF (gd.glo _ c2) (gd.blt _ (2:)) PyProof.Rows.boot_list rfl
   split at hy
   ·rename_i e;cases hy;subst e;exact jF (gd.glo _ c2) (gd.blt _ (2:)) PyProof.Rows.boot_tuple rfl
   cases hy
  refine PE.imp (jm qbd (gd.glo _ hgl) (gd.blt _ (2:)) PyProof.Rows.boot_isinstance (qg (A.r Gv Hv _ _ h1) (qg hb qC rfl) (qo s1)) (2:) (2:) (qo s1) rfl) λZ H Q hq1=>?_;let(N,G,er,h):=hq1;refine{N,G,er,Wx.mono (Wx.th (x:=iR L.k a' N) h) λx h v G1 H1 p1 r1=>?_};let(b,e1,h):=Wx.of (Wx.th h);exact{v,y.nm,_,b,rfl,by rw[gd.hK];exact qhQ p1.er r1 e1,by rw[gd.hK];exact qfD e1,h _ G1 H1 p1 (by simp![RvR,Rep])}
 |none=>
  rw[hy]at h;let(a',h1,rfl):=map_some h;rintro pins s Z H Q I ⟨N,G,er,h⟩;have h2:=Wx.th (x:=noX (iR L.k a' N)) h
  cases e1:iR L.k a' N with
  |exc c l=>rw[e1]at h2;exact False.elim h2
  |no=>rw[e1]at h2;exact False.elim h2
  |ok x=>
   rw[e1]at h2;let(b,e2,h3):=Wx.of (Wx.th (x:=R.of (Qn L.cs x.1 t)) h2)
   have e2:(∃c ns ds,x.1=.val (.ins c ns ds)/\L.cs.sub c t=some b)\/∃C ns ds,x.1=.val (.exc C ns ds)/\L.cs.xs C t=some b:=by
    let(r,env):=x
    cases r with
    |val d=>
     cases d with
     |ins c ns ds=>exact .inl ⟨c,ns,ds,rfl,e2⟩
     |exc c ns ds=>exact .inr ⟨c,ns,ds,rfl,e2⟩
     |_=>cases e2
    |_=>cases e2
   rcases e2 with ⟨c,ns,ds,ex,e2⟩|⟨C,ns,ds,ex,e2⟩
   case inr=>
    let(hC,hT):=gd.xsubs C t b e2
    have go:∀(c:V) (cv:Value),PE X (.Name t tp) (tC c)->qQ c cv->(∀u,qQ c u->u=cv)->PySem.W.kitOne X.K (.ref C) cv=some b->wpAny (model X.prog X.w) X.A (eval (.Call (.Name "isinstance" p) [a,.Name t tp] [] q) X.env) (EP X pins Z Q) X.xe s:=λc cv pc rc uq kt=>by
     refine(jm ZS (gd.glo _ hgl) (gd.blt _ (2:)) PyProof.Rows.boot_isinstance (qg (A.r Gv Hv _ _ h1) (qg pc qC rfl) (qo s1)) (2:) (2:) (qo s1) rfl) pins s Z H Q I ⟨N,G,er,?_⟩;rw[e1];intro v G1 H1 p1 r1;rw[ex]at r1;simp![RvR,Rep]at r1;let(p',od,xs,rfl,h4,h5,_):=r1;refine{p',C,od,c,cv,b,rfl,{p1.er.sub _ _ h4,λdd hdd=>?_},hC,rc,uq,kt,h3 _ G1 H1 p1 (by simp![RvR,Rep])};rcases h5 with ⟨z,_⟩|⟨d2,z,z2⟩
     ·rw[z]at hdd;cases hdd
     ·rw[z]at hdd;cases hdd;exact{_,p1.er.sub _ _ z2}
    rcases hT with ⟨T,hT,kt⟩|⟨hT,rfl,kt⟩
    ·exact go (.ref T) (.ref T) (z8 (v:=.ref T) (gd.glo _ c2) hT rfl (qy c1).1) rfl (λu hu=>hu) kt
    ·exact go (.ty "ValueError") (.type "ValueError") (jF (gd.glo _ c2) hT qdH rfl) rfl (λu hu=>hu) kt
   let(C,T,hC,hty,hT,kt):=gd.subs c t b e2;refine(jm Z7 (gd.glo _ hgl) (gd.blt _ (2:)) PyProof.Rows.boot_isinstance (qg (A.r Gv Hv _ _ h1) (qg (z8 (v:=.ref T) (gd.glo _ c2) hT rfl (qy c1).1) qC rfl) (qo s1)) (2:) (2:) (qo s1) rfl) pins s Z H Q I ⟨N,G,er,?_⟩;rw[e1];intro v G1 H1 p1 r1;rw[ex]at r1;simp![RvR,Rep]at r1;let(p',dx,C',xs,hc',rfl,h4,hl,h5):=r1;rw[hC]at hc';cases hc';exact{.ref p',.ref T,.ref C,.ref T,b,rfl,hty _ _ _ _ (p1.er.sub _ _ h4),rfl,λu hu=>hu,kt,h3 _ G1 H1 p1 (by simp![RvR,Rep])}
theorem YV{o:Expr}(h:jO o=true)(x:Str)(env:PySem.Env):attributeBase o x env (eval o env)=eval o env:=by
 cases o with
 |Call f as ks p=>cases f with
  |Name g q=>cases as with
   |nil=>cases h
   |cons a l=>rfl
  |_=>cases h
 |_=>first|rfl|cases h
theorem qdI{cs:Cs}{r:Rv}{x:Str}{d:D}(h:qaW cs r x=some d):∃c ns ds,r=.val (.ins c ns ds)/\cs.fld c x=true/\(ns.zip ds).lookup x=some d:=by
 cases r with
 |val e=>
  cases e with
  |ins c ns ds=>
   have h:(if cs.fld c x=true then (ns.zip ds).lookup x else none)=some d:=h
   by_cases hf:cs.fld c x=true
   ·rw[if_pos hf]at h;exact⟨c,ns,ds,rfl,hf,h⟩
   ·rw[if_neg hf]at h;cases h
  |_=>cases h
 |_=>cases h
theorem qfF{cs:Cs}{r:Rv}{x f:Str}(h:mtD cs r x=some f):∃c ns ds,r=.val (.ins c ns ds)/\ns.contains x=false/\cs.mt c x=some f:=by
 cases r with
 |val e=>
  cases e with
  |ins c ns ds=>
   have h:(if ns.contains x=true then none else cs.mt c x)=some f:=h
   by_cases hf:ns.contains x=true
   ·rw[if_pos hf]at h;cases h
   ·rw[if_neg hf]at h;exact{c,ns,ds,rfl,(-hf:),h}
  |_=>cases h
 |_=>cases h
theorem Qr{x:Str}:∀{ns:List Str} {xs:List V},ns.contains x=false->(ns.zip xs).lookup x=none
 |[],_,_=>by simp
 | n::ns,[],_=>by simp
 | n::ns,v::xs,h=>by simp![List.contains_cons,Bool.or_eq_false_iff]at h;rw[List.zip_cons_cons,List.lookup_cons,h.1];exact Qr h.2
theorem qfG(gd:Gd U K ε k X L)(A:All U K ε k X L m)(o:Expr)(y:Str)(pos:Pos)(h:cE (m+1) L (.Attribute o y pos)=some x):PE X (.Attribute o y pos) (tR U K ε Gv Hv (iR L.k x)):=by
 let(ho,h):=qf h;let(a',h1,rfl):=map_some h;rintro pins s Z H Q I ⟨N,G,er,h⟩;have h2:=Wx.th (x:=noX (iR L.k a' N)) h
 cases e0:iR L.k a' N with
 |exc c l=>rw[e0]at h2;exact False.elim h2
 |no=>rw[e0]at h2;exact False.elim h2
 |ok z=>
  rw[e0]at h2;let(d,e1,h):=Wx.of (Wx.th (x:=R.of (qaW L.cs z.1 y)) h2);let(c,ns,ds,e2,e3,e4):=qdI e1
  ·refine qeP (A.r Gv Hv _ _ h1) (YV ho y X.env) pins s Z H Q I ⟨N,G,er,?_⟩;rw[e0];intro v G1 H1 p1 r1;rw[e2]at r1;simp![RvR,Rep]at r1;let(p,dx,C,xs,hc,rfl,h1,hl,h2):=r1;let(u,e5,ru):=Qq h2 e4;exact{p,C,dx,_,u,rfl,p1.er.sub _ _ h1,gd.cls c C hc,gd.flds c y C e3 hc,e5,h u G1 H1 p1 ru}
def yv{o:Expr}{x:Str}{ap q:Pos}{es:List Expr}{env:PySem.Env}(ho:jO o=true)(hs:es.any qL=false)(hl:es.length < 30)(hp:(ap.endLine == q.line)=true) :
  eval (.Call (.Attribute o x ap) es [] q) env=(do
   let ov<-eval o env
   standAt ap.atName
   let (f,first)<-holding [ov] (getMethod ov x (do return (<-importBound o env).getD true))
   callWith q f first (backTo q (starEach es env)) (backToKw q (keywordEach [] env))):=by
 have hm:methodCallForm (es.length+([]:List Keyword).length) (backTo q (starEach es env)) (backToKw q (keywordEach [] env))=true:=by
  have e:=qO (pos:=q) (env:=env) hs;unfold methodCallForm;simp![Bool.and_eq_true,decide_eq_true_eq];refine{{?_,rfl},?_}
  ·rw[List.all_eq_true];intro y hy
   have:=List.any_eq_false.mp e y hy
   simpa using this
  ·show es.length+0+0 < 30;omega
 show(do
  let ov<-attributeBase o x env (eval o env)
  standAt ap.atName
  methodCall o x ap q env ov (es.length+([]:List Keyword).length) (backTo q (starEach es env)) (backToKw q (keywordEach [] env)))=_
 rw[YV ho];unfold methodCall;simp![hm,calleeOf,methodCallPos,if_true,hp,Bool.not_true,Bool.false_or];rfl
theorem Ye{G:Hp}:∀{l:List D} {xs:List V} {zs:List Str},qx U G l xs->Yb l=some zs->xs=zs.map V.str
 |[],xs,zs,h,e=>by simp![qx]at h;cases e;exact h
 | d::l,xs,zs,h,e=>by
  simp![qx]at h;let(v,r,rfl,h1,h2):=h
  cases d with
  |str z=>
   simp![Rep]at h1;subst h1;have e:(Yb l).map (z :: ·)=some zs:=e
   cases q:Yb l with
   |none=>rw[q]at e;cases e
   |some ys=>rw[q]at e;cases e;rw[Ye h2 q];rfl
  |_=>cases e
theorem Js{G:Hp}:∀zs:List Str,qx U G (zs.map D.str) (zs.map V.str)
 |[]=>.nil
 | z::zs=>.cons (by simp![Rep]) (Js zs)
theorem qbC{pins:PP}{s:Shared}{Z:L2.St}{H G:Hp}{Q:VK}{N:Env}{y:Rv×Env}{o:Expr}{ap q:Pos}{es:List Expr}{a':E}{l':Es}(A:All U K ε k X L m)(ho:jO o=true)(hp:(ap.endLine == q.line)=true)(hl:es.length < 30)(h1:cE m L o=some a')(h2:cAs m L es=some l')
  (er:ER U K Gv Hv G H N Z) (e1:iR L.k a' N=.ok y) (h:Wx X0 (iAs L.k l' y.2) (λz=>Wx X0 ((ixM y.1 z.1).th λr=>R.ok (r,z.2)) (λx=>∀v G' H',Po U K Gv Hv Z G H N G' H' x.2->RvR U K Hv H G' H' x.2 Z x.1 v->Q v H'))) (I:Inv X pins Z H s) :
  wpAny (model X.prog X.w) X.A (eval (.Call (.Attribute o "index" ap) es [] q) X.env) (EP X pins Z Q) X.xe s:=by
 refine False.elim ?_
 cases e4:iAs L.k l' y.2 with
 |ok z=>rw[e4]at h;exact h
 |exc c l=>rw[e4]at h;exact h
 |no=>rw[e4]at h;exact h
theorem qdJ{pins:PP}{s:Shared}{Z:L2.St}{H G:Hp}{Q:VK}{N N1:Env}{a nm:Str}{o:Expr}{ap q:Pos}{es:List Expr}{a':E}{l':Es}(A:All U K ε k X L m)(gd:Gd U K ε k X L)(ho:jO o=true)(hp:(ap.endLine == q.line)=true)(hl:es.length < 30)(h1:cE m L o=some a')(h2:cAs m L es=some l')
  (er:ER U K Gv Hv G H N Z) (e1:iR L.k a' N=.ok (.val (.str a),N1)) (h:Wx X0 (iAs L.k l' N1) (λz=>Wx X0 ((bmD nm (.val (.str a)) z.1).th λr=>R.ok (r,z.2)) (λx=>∀v G' H',Po U K Gv Hv Z G H N G' H' x.2->RvR U K Hv H G' H' x.2 Z x.1 v->Q v H'))) (I:Inv X pins Z H s) :
  wpAny (model X.prog X.w) X.A (eval (.Call (.Attribute o nm ap) es [] q) X.env) (EP X pins Z Q) X.xe s:=by
 have hs:=yu h2
 cases e4:iAs L.k l' N1 with
 |exc c l=>rw[e4]at h;exact False.elim h
 |no=>rw[e4]at h;exact False.elim h
 |ok z=>
 rw[e4]at h;have h:Wx _ ((Zl nm a z.1).th λr=>R.ok (r,z.2)) _:=h
 cases es with
 |nil=>refine False.elim ?_;cases Jr h2;cases e4;exact h
 |cons e l=>
  have hs':=hs;simp![List.any_cons,Bool.or_eq_false_iff]at hs
  have few:((backTo q (starEach (e::l) X.env)).all (λx=>!x.1)&&(backToKw q (keywordEach [] X.env)).all (λx=>x.1.isSome)&&decide ((e::l).length+([]:List Keyword).length+(if ([]:List Keyword).isEmpty then 0 else 1) < 30))=true:=by
   have e:=qO (pos:=q) (env:=X.env) hs';simp![Bool.and_eq_true,decide_eq_true_eq];refine{{?_,rfl},?_}
   ·rw[List.all_eq_true];intro y hy
    have:=List.any_eq_false.mp e y hy
    simpa using this
   ·show _+0+0 < 30;omega
  have go:∀{id:String} {r:V->List V->Hp->VK->Prop},Slot "str" nm id->typeOf (.builtin id)=pure (.type "method_descriptor")->MtR X id r->(∀vs G2 H2,ER U K Gv Hv G2 H2 z.2 Z->zN U K G2 H2 z.1 vs->(∀v G' H',Po U K Gv Hv Z G2 H2 z.2 G' H' z.2->∀x,Zl nm a z.1=.ok x->RvR U K Hv H2 G' H' z.2 Z x v->Q v H')->r (.str a) vs H2 Q)->
    wpAny (model X.prog X.w) X.A (eval (.Call (.Attribute o nm ap) (e::l) [] q) X.env) (EP X pins Z Q) X.xe s:=λ{id r} slot hty hm hgo=>by
   refine qeX PySem.F.plainAttrs_str slot hty hm (A.r Gv Hv _ _ h1) (A.as Gv Hv _ _ h2) (YV ho _ _) few hp (qo hs.1) (qO hs.2) pins s Z H Q I ?_;refine{N,G,er,?_};rw[e1];intro v G1 H1 p1 r1;simp![RvR,Rep]at r1;subst r1;refine{rfl,N1,G1,p1.er,?_};rw[e4];intro vs G2 H2 p2 r2;refine hgo vs G2 H2 p2.er r2 λv G' H' p3 x ex rx=>?_;rw[ex]at h;exact h v G' H' (p1.trans (p2.trans p3)) (rx.back (p1.trans p2).hs)
  have jn:∀l0,Q4 nm a l0=Zl nm a z.1->(∀vs G2 H2,ER U K Gv Hv G2 H2 z.2 Z->zN U K G2 H2 z.1 vs->∃b xs,vs=[.ref b]/\SqL X.K H2 b xs/\qx U G2 l0 xs)->wpAny (model X.prog X.w) X.A (eval (.Call (.Attribute o nm ap) (e::l) [] q) X.env) (EP X pins Z Q) X.xe s:=λl0 hj hr=>by
   have hj':=hj;rw[<-hj]at h;unfold Q4 at h hj
   by_cases hn:nm = "join"
   case neg=>rw[if_neg hn]at h;exact False.elim h
   subst hn;rw[if_pos rfl]at h hj
   cases e5:Yb l0 with
   |none=>rw[e5]at h;exact False.elim h
   |some zs=>
    rw[e5]at h hj;dsimp only at h hj
    by_cases hz:(zs.map (·.length)).sum+zs.length * a.length<=16777216
    case neg=>rw[if_neg hz]at h;exact False.elim h
    rw[if_pos hz]at hj;refine go PySem.F.slot_str_join PySem.F.type_str_join qdp λvs G2 H2 er2 r2 hQ=>?_;let(b,xs,rfl,q1,q2):=hr vs G2 H2 er2 r2;rw[Ye q2 e5]at q1;exact{a,b,zs,rfl,rfl,q1,hz,hQ _ G2 H2 (Po.refl er2) _ hj.symm (by simp![RvR,Rep])}
  have h0:=h
  cases ez:z.1 with
  |nil=>rw[ez]at h;exact False.elim h
  |cons ar rest=>
   cases rest with
   |cons _ _=>
    rw[ez]at h
    cases ar with
    |val d=>cases d<;>exact False.elim h
    |_=>exact False.elim h
   |nil=>
    cases ar with
    |scr l0=>rw[ez]at h;exact False.elim h
    |bor l0=>refine jn l0 (by rw[ez];rfl) λvs G2 H2 er2 r2=>?_;rw[ez]at r2;let(u,r,rfl,(b,xs,rfl,q1,q2),rfl):=r2;exact{b,xs,rfl,SqL.of q1,q2}
    |val d=>
     cases d with
     |lst l0=>refine jn l0 (by rw[ez];rfl) λvs G2 H2 er2 r2=>?_;rw[ez]at r2;let(u,r,rfl,ru,rfl):=r2;simp![ArR,Rep]at ru;let(b,xs,rfl,q1,q2):=ru;exact{b,xs,rfl,SqL.of (er2.sub _ _ q1),q2}
     |str b=>
      have hM:Zl nm a z.1=if nm = "split" then (if (b.length == 0)=false/\a.length+2<=sizeLine then .ok (.tmp ((Txt.split a b).map D.str)) else .no) else if nm = "partition" then (if (b.length == 0)=false/\a.length<=sizeLine then .ok (.val (.tup [.str (Txt.partition a b).1,.str (Txt.partition a b).2.1,.str (Txt.partition a b).2.2])) else .no) else .no:=by rw[ez];rfl
      have rv:∀vs G2 H2,zN U K G2 H2 z.1 vs->vs=[.str b]:=λvs G2 H2 r2=>by rw[ez]at r2;let(u,r,rfl,ru,rfl):=r2;simp![ArR,Rep]at ru;subst ru;rfl
      rw[hM]at h
      by_cases n1:nm = "split"
      ·subst n1;rw[if_pos rfl]at h hM
       by_cases hc:(b.length == 0)=false/\a.length+2<=sizeLine
       case neg=>rw[if_neg hc]at h;exact False.elim h
       rw[if_pos hc]at hM;refine go PySem.F.slot_str_split PySem.F.type_str_split qbj λvs G2 H2 er2 r2 hQ=>?_;obtain rfl:=rv vs G2 H2 r2;refine{a,b,rfl,rfl,hc.1,hc.2,λp hp=>?_};let(z1,z2):=er2.newList hp (Js (U:=U) (G:=G2) (Txt.split a b));exact hQ _ _ _ z1 _ hM z2
      rw[if_neg n1]at h hM
      by_cases n2:nm = "partition"
      ·subst n2;rw[if_pos rfl]at h hM
       by_cases hc:(b.length == 0)=false/\a.length<=sizeLine
       case neg=>rw[if_neg hc]at h;exact False.elim h
       rw[if_pos hc]at hM;refine go PySem.F.slot_str_partition PySem.F.type_str_partition qdo λvs G2 H2 er2 r2 hQ=>?_;obtain rfl:=rv vs G2 H2 r2;refine{a,b,rfl,rfl,hc.1,hc.2,λp hp=>?_};have po:=Po.lay (o:=.tup (qbk a b)) er2 hp;refine hQ _ _ _ po _ hM ?_;simp![RvR,Rep];exact{p,_,rfl,qm,Js (U:=U) (G:=upd G2 p (.tup (qbk a b))) [(Txt.partition a b).1,(Txt.partition a b).2.1,(Txt.partition a b).2.2]}
      rw[if_neg n2]at h;exact False.elim h
     |_=>rw[ez]at h;exact False.elim h
theorem qdK(gd:Gd U K ε k X L)(A:All U K ε k X L m)(o:Expr)(y:Str)(ap:Pos)(es:List Expr)(q:Pos)(h:cE (m+1) L (.Call (.Attribute o y ap) es [] q)=some x):PE X (.Call (.Attribute o y ap) es [] q) (tR U K ε Gv Hv (iR L.k x)):=by
 have h:(if (jO o&&(ap.endLine == q.line)&&decide (es.length < 30))=true then _ else none)=_:=h
 by_cases hc:(jO o&&(ap.endLine == q.line)&&decide (es.length < 30))=true
 case neg=>rw[if_neg hc]at h;cases h
 rw[if_pos hc]at h;let(a',l',h1,h2,rfl):=ql h;rintro pins s Z H Q I ⟨N,G,er,h⟩;have h:=Wx.th (x:=iR L.k a' N) h;simp![Bool.and_eq_true,decide_eq_true_eq]at hc;let((ho,hp),hl):=hc
 cases e1:iR L.k a' N with
 |exc c l=>rw[e1]at h;exact PySem.W.methodCall_KW (wpAny_mono (A.r Gv Hv _ _ h1 pins s Z H (λ_ _=>False) I ⟨N,G,er,by rw[e1];exact h⟩) (λv s1 z=>by let(_,_,_,_,q):=z;exact q.elim) λ_ _ x=>x) (yv ho (yu h2) hl hp)
 |no=>rw[e1]at h;exact False.elim h
 |ok w=>
  rw[e1]at h
  have h:Wx _ (match mtD L.cs w.1 y with
   |some f=>(iAs L.k l' w.2).th λz=>(L.cl f (toAr w.1::z.1)).th λr=>R.ok (r,z.2)
   |none=>(noX (iAs L.k l' w.2)).th λz=>(noX (bmD y w.1 z.1)).th λr=>R.ok (r,z.2)) _:=h
  cases e2:mtD L.cs w.1 y with
  |none=>
   rw[e2]at h;have h0:=Wx.nox (Ξ':=X0) (Wx.th (x:=noX (iAs L.k l' w.2)) h);have h:Wx X0 (iAs L.k l' w.2) λz=>Wx X0 ((bmD y w.1 z.1).th λr=>R.ok (r,z.2)) λx=>∀v G' H',Po U K Gv Hv Z G H N G' H' x.2->RvR U K Hv H G' H' x.2 Z x.1 v->Q v H':=Wx.mono h0 λz hz=>Wx.ht (Wx.mono (Wx.nox (Wx.th (x:=noX (bmD y w.1 z.1)) hz)) λr hr=>hr);clear h0;let(wr,wρ):=w
   by_cases hs:∃a,wr=.val (.str a)
   ·let(a,rfl):=hs;exact qdJ A gd ho hp hl h1 h2 er e1 h I
   ·have hb:∀as,bmD y wr as=if y = "index" then ixM wr as else .no:=by
     cases wr with
     |val d=>
      cases d with
      |str a=>exact absurd ⟨a,rfl⟩ hs
      |_=>intro as;rfl
     |_=>intro as;rfl
    by_cases hx:y = "index"
    ·subst hx;refine qbC A ho hp hl h1 h2 er e1 (Wx.mono h λz hz=>?_) I;rw[hb,if_pos rfl]at hz;exact hz
    ·refine False.elim ?_
     cases e4:iAs L.k l' wρ with
     |ok z=>rw[e4]at h;have h:Wx _ ((bmD y wr z.1).th _) _:=h;rw[hb,if_neg hx]at h;exact h
     |exc c l=>rw[e4]at h;exact h
     |no=>rw[e4]at h;exact h
  |some f=>
  rw[e2]at h;let(c,ns,ds,e3,e4,e5):=qfF e2;let(C,fa,fd,ps,hC,M,F,B):=gd.mts c y f e5;have h:=Wx.th (x:=iAs L.k l' w.2) h;have hs:=yu h2;have hs0:=hs
  have all:qcX C y (spF U K L.cl f) [] ε (tR U K ε Gv Hv (iR L.k a')) (tAs U K ε Gv Hv (iAs L.k l')) Z H Q:=by
   refine{N,G,er,?_};rw[e1];intro v G1 H1 p1 r1;have r1':=r1;rw[e3]at r1';simp![RvR,Rep]at r1';let(p',dx,C',xs,hc',rfl,h4,hl,h5):=r1';rw[hC]at hc';cases hc';refine{p',dx,_,rfl,p1.er.sub _ _ h4,Qr e4,w.2,G1,p1.er,Wx.mono h λz h vs G2 H2 p2 r2=>?_};show spF U K L.cl f (V.ref p'::(vs++[])) H2 Q ε;rw[List.append_nil];refine{G2,toAr w.1::z.1,p2.er.sub,{_,_,rfl,?_,r2},Wx.mono2 (Wx.th h) (XP.call p2) λr h v G3 H3 hs gs sub new rr=>?_}
   ·rw[e3]at r1 ⊢;exact Rep.same p2.gs r1
   ·let(z1,z2):=ReR.rv (p1.trans p2) hs gs sub new rr;exact h v G3 H3 z1 z2
  cases es with
  |nil=>cases Jr h2;refine qa9 (A.r Gv Hv _ _ h1) (gd.cls c C hC) M F gd.room B .nil gd.ps (ht:=yv ho hs0 hl hp) pins s Z H Q I ?_;let(N',G',er',z):=all;refine{N',G',er',Wx.mono z λx z v G1 H1 p1 r1=>?_};let(a,dx,fs,z1,z2,z3,N2,G2,er2,z):=z v G1 H1 p1 r1;exact{a,dx,fs,z1,z2,z3,z [] G2 H1 (Po.refl er2) rfl}
  |cons e l=>simp![List.any_cons,Bool.or_eq_false_iff]at hs;exact qcZ (A.r Gv Hv _ _ h1) (gd.cls c C hC) M F gd.room B .nil gd.ps (A.as Gv Hv _ _ h2) (qo hs.1) (qO hs.2) (ht:=yv ho hs0 hl hp) pins s Z H Q I all
theorem qdL(gd:Gd U K ε k X L)(A:All U K ε k X L m)(f:Str)(es:List Expr)(p q:Pos)(hok:qJ f=true)(hgl:glB L.sc f=true)(ht:L.cs.tab.contains f=true)(h:(cAs m L es).map (.new f)=some x):PE X (.Call (.Name f p) es [] q) (tR U K ε Gv Hv (iR L.k x)):=by
 let(l',h1,rfl):=map_some h;have hs:=yu h1;rcases gd.mks f ht with ⟨hy,hno⟩|⟨C,fa,fd,ps,sp,M,F,hm,hb,hk,hsp⟩
 ·rintro pins s Z H Q I ⟨N,G,er,h⟩;have h:=Wx.th (x:=ifX L.y (iAs L.k l' N)) h;rw[hy]at h;have h:Wx _ (noX (iAs L.k l' N)) _:=h
  cases e1:iAs L.k l' N with
  |ok x=>rw[e1]at h;have h:Wx _ ((L.nw f x.1).th _) _:=h;rw[hno]at h;exact False.elim h
  |exc c l=>rw[e1]at h;exact False.elim h
  |no=>rw[e1]at h;exact False.elim h
 let(n1,n2,n3):=qy hok
 have rm:Room (k - 1+1) X.A:=by rw[show k - 1+1=k by omega];exact gd.room
 have key:∀Z H Q,tR U K ε Gv Hv (iR L.k (.new f l')) Z H Q->qcY C sp [] ε (tAs U K ε Gv Hv (iAs L.k l')) Z H Q:=λZ H Q ⟨N,G,er,h⟩=>by refine{N,G,er,Wx.mono (Wx.ifx (Wx.th (x:=ifX L.y (iAs L.k l' N)) h)) λx h vs G1 H1 p1 r1=>?_};show∀x dx,H1 x=none->H1 dx=none->dx≠x->sp (.ref x::(vs++[])) _ _ ε;rw[List.append_nil];refine hsp vs H1 Q ε ⟨G1,x.1,p1.er.sub,r1,Wx.mono2 (Wx.th h) (XP.call p1) λr h v G2 H2 hs gs sub new rr=>?_⟩;let(z1,z2):=ReR.rv p1 hs gs sub new rr;exact h v G2 H2 z1 z2
 cases es with
 |nil=>cases Jr h1;refine PE.imp (qba M F rm (gd.glo f hgl) hm hb .nil gd.ps n1) λZ H Q h=>?_;let(N,G,er,h):=key Z H Q h;exact h [] G H (Po.refl er) rfl
 |cons e l=>simp![List.any_cons,Bool.or_eq_false_iff]at hs;exact PE.imp (qc0 M F rm (gd.glo f hgl) hm hb .nil gd.ps (A.as Gv Hv _ _ h1) n1 (qo hs.1) (qO hs.2)) key
end
def gT(U:KC)(K:Frag)(Ξ:XW)(t:Tg):TG:=λv Z H Q=>∃(Gv Hv:Hp) (N:Env) (G:Hp) (d:D),ER U K Gv Hv G H N Z/\Rep U G d v/\Wx Ξ (t.go d N) λN'=>∀Z',ER U K Gv Hv G H N' Z'->Q Z' H
def gNs(U:KC)(K:Frag)(Ξ:XW)(l:List Nat):TGs:=λvs Z H Q=>∃(Gv Hv:Hp) (N:Env) (G:Hp) (ds:List D),ER U K Gv Hv G H N Z/\qx U G ds vs/\Wx Ξ (Jl l ds N) λN'=>∀Z',ER U K Gv Hv G H N' Z'->Q Z' H
def PG.imp{X:Cx}{tg:Expr}{t t':TG}(h:PG X tg t')(i:∀v Z H Q,t v Z H Q->t' v Z H Q):PG X tg t:=λpins s Z H v u Q I r hw=>h pins s Z H v u Q I r (i v Z H Q hw)
def PGs.imp{X:Cx}{tg:List Expr}{t t':TGs}(h:PGs X tg t')(i:∀v Z H Q,t v Z H Q->t' v Z H Q):PGs X tg t:=λpins s Z H v u Q I r hw=>h pins s Z H v u Q I r (i v Z H Q hw)
section
variable{U:KC}{ε:XK}{Ξ:XW}{K:Frag}{Gv Hv:Hp}{k m:Nat}{X:Cx}{L:Ct}{x:E}
def Qs(gd:Gd U K ε k X L){y:Str}{i:Nat}(h:qbo L y=some i):L2.Loc X.env.scope y/\(X.fn y=true\/X.env.scope.names.lookup y=some .local)/\X.N.Nodup/\X.N[i]?=some y:=by unfold qbo at h;let(hc,h):=qf h;rw[Bool.and_eq_true]at hc;let(l1,l2):=gd.loc y hc.1;exact{l1,l2,by rw[gd.hN];exact gd.nd,by rw[gd.hN];exact yr h}
def qfH(gd:Gd U K ε k X L){y:Str}{i:Nat}(h:qbo L y=some i)(pos:Pos):PG X (.Name y pos) (gT U K Ξ (.one i)):=by let(l1,l2,l3,l4):=Qs gd h;refine PG.imp (qcN (i:=i) l3 l4 l1 l2) λv Z H Q hq1=>?_;let(Gv,Hv,N,G,d,er,r,h):=hq1;exact h _ (er.setVal r)
theorem Qt{e:Expr}{es:List Expr}{j:Nat}{p:Pos}{xs:List Str}(h:zh (.Tuple (e::es) j p)=some xs):∃x pos r,e=.Name x pos/\xs=x::r/\zh (.Tuple es j p)=some r:=by
 have q0:zh (.Tuple es j p)=(es.foldr (λe r=>match e,r with |.Name x _,some l=>some (x::l) |_,_=>none) (some []):Option (List Str)):=rfl
 cases e with
 |Name x pos=>
  cases q:(es.foldr (λe r=>match e,r with |.Name x _,some l=>some (x::l) |_,_=>none) (some []):Option (List Str)) with
  |none=>have h':(match (Expr.Name x pos:Expr),(es.foldr (λe r=>match e,r with |.Name x _,some l=>some (x::l) |_,_=>none) (some []):Option (List Str)) with |.Name x _,some l=>some (x::l) |_,_=>none)=some xs:=h;rw[q]at h';cases h'
  |some l=>have h':(match (Expr.Name x pos:Expr),(es.foldr (λe r=>match e,r with |.Name x _,some l=>some (x::l) |_,_=>none) (some []):Option (List Str)) with |.Name x _,some l=>some (x::l) |_,_=>none)=some xs:=h;rw[q]at h';cases h';exact{x,pos,l,rfl,rfl,q0.trans q}
 |_=>cases h
theorem qcr(gd:Gd U K ε k X L){j:Nat}{p:Pos}:∀{es:List Expr} {xs:List Str} {l:List Nat},zh (.Tuple es j p)=some xs->qbp L xs=some l->PGs X es (gNs U K Ξ l)
 | [],xs,l,h,h'=>by
  have e:xs=[]:=by unfold zh at h;cases h;rfl
  subst e;cases h';refine PGs.imp qcO λvs Z H Q hq1=>?_;let(Gv,Hv,N,G,ds,er,r,h):=hq1
  cases ds with
  |nil=>simp![qx]at r;exact{r,h Z er}
  |cons d ds=>exact False.elim h
 | e::es,xs,l,h,h'=>by
  let(x,pos,r,rfl,rfl,h0):=Qt h;let(i,l,h1,h2,rfl):=ql h';refine PGs.imp (qa0 (qfH (Ξ:=Ξ) gd h1 pos) (qcr gd h0 h2)) λvs Z H Q hq1=>?_;let(Gv,Hv,N,G,ds,er,rr,h):=hq1
  cases ds with
  |nil=>exact False.elim h
  |cons d ds=>simp![qx]at rr;let(v,vr,rfl,r1,r2):=rr;exact{v,vr,rfl,Gv,Hv,N,G,d,er,r1,λZ1 er1=>{Gv,Hv,_,G,ds,er1,r2,h}}
theorem Yg{env:PySem.Env}{j:Nat}{p:Pos}:∀{es:List Expr} {xs:List Str} {l:List Nat},zh (.Tuple es j p)=some xs->qbp L xs=some l->(assignEach es env).length=l.length/\(assignEach es env).findIdx? (·.1)=none
 | [],xs,l,h,h'=>by unfold zh at h;cases h;cases h';exact⟨rfl,rfl⟩
 | e::es,xs,l,h,h'=>by let(x,pos,r,rfl,rfl,h0):=Qt h;let(i,l,h1,h2,rfl):=ql h';let(h1,h2):=Yg (env:=env) h0 h2;have e:assignEach (.Name x pos::es) env=(false,assign (.Name x pos) env)::assignEach es env:=rfl;rw[e];refine{by simp[h1],?_};rw[List.findIdx?_cons];simp[h2]
theorem Yh{Ξ:XW}:∀{l:List Nat} {ds:List D} {N:Env} {F:Env->Prop},Wx Ξ (Jl l ds N) F->ds.length=l.length
 |[],[],_,_,_=>rfl
 | [],_::_,_,_,h=>False.elim h
 | _::_,[],_,_,h=>False.elim h
 | i::l,d::ds,N,F,h=>congrArg (· + 1) (Yh (l:=l) (ds:=ds) (N:=N.set i (.val d)) h)
theorem qbD(gd:Gd U K ε k X L)(tg:Expr){t:Tg}(h:cTg L tg=some t):PG X tg (gT U K Ξ t):=by
 cases tg with
 |Name x pos=>let(i,h1,rfl):=map_some h;exact qfH gd h1 pos
 |Tuple es j p=>
  let(hs,h):=qf h
  cases hx:zh (.Tuple es j p) with
  |none=>rw[hx]at h;cases h
  |some xs=>
   rw[hx]at h;let(l,h2,rfl):=map_some h;let(t1,t2):=Yg (env:=X.env) hx h2;refine PG.imp (qeG (n:=l.length) gd.calm (qcr (Ξ:=Ξ) gd hx h2) t1 t2) λv Z H Q hq1=>?_;let(Gv,Hv,N,G,d,er,r,h):=hq1
   cases d with
   |tup ds=>have h:Wx _ (Jl l ds N) _:=h;simp![Rep]at r;let(a,ys,rfl,r1,r2):=r;exact{a,ys,rfl,SqT.of (er.sub _ _ r1),by rw[<-r2.len];exact Yh h,Gv,Hv,N,G,ds,er,r2,h}
   |_=>exact False.elim h
 |_=>cases h
theorem qcs{env:PySem.Env}:∀{names:List (Str×NameKind)} {x:Str},names.lookup x=some .globalImplicit->
  (names.map λ(n,k)=>if (k == NameKind.free&&env.scope.kind == .function&&env.kindOf n == some .cell) then (n,NameKind.cell) else (n,k)).lookup x=some .globalImplicit
 |[],_,h=>by simp at h
 | (n,k)::r,x,h=>by
  simp![List.map_cons]
  by_cases hx:x=n
  ·subst hx;simp[List.lookup_cons]at h;subst h;rw[if_neg (5:)];simp[List.lookup_cons]
  ·have hb:(x == n)=false:=(-hx:)
   rw[List.lookup_cons,hb]at h;have ih:=qcs (env:=env) h
   by_cases hc:(k == NameKind.free&&env.scope.kind == .function&&env.kindOf n == some .cell)=true
   ·rw[if_pos hc];simp![List.lookup_cons,hb];exact ih
   ·rw[if_neg hc];simp![List.lookup_cons,hb];exact ih
def Yi(gd:Gd U K ε k X L){own:List Str}{fr:List Nat}{sc:Scope}(h:j6 L.sc L.N fr sc=true):BlkScope X own fr sc:=by
 unfold j6 at h;simp![Bool.and_eq_true,List.all_eq_true]at h;let((hk,hn),hf):=h;refine{by simpa using hk,λx hx=>by simpa using (hn x hx).1.1,λx hx e=>?_,λx hx e=>?_,λi hi=>?_}
 ·have:=(hn x hx).1.2
  simpa [e] using this
 ·have:=(hn x hx).2
  exact gd.cf x.1 (by simpa [e] using this)
 ·rw[gd.hN]
  simpa using hf i hi
def qfI:zn (CX1 X.prog X.w) X E0:=λpins Z H s e s' I c=>by let(x,T,C,od,H',_,_,_,_,_,_,_,_,_,_,z):=c;exact False.elim z
def yZ(gd:Gd U K ε k X L){own:List Str}{fr:List Nat}{sc:Scope}(B:BlkScope X own fr sc)(hnd:(own++fr.map λi=>L.N.getD i "").Nodup)(cl:List (Str×Addr))(C:Addr)(fp:List Addr)(s2:Shared)(H2:Hp) :
  Gd U K E0 k (blk X (jN X own fr) sc cl C fp s2 H2) { L with N:=own++fr.map λi=>L.N.getD i "",sc:=sc } where
 ps:=qfI
 hN:=by show jN X own fr=_;unfold jN;rw[gd.hN]
 vis:=λx h=>by
  have h:=qcl h;rcases h with h|h|h
  ·exact .inl (lookup_relabel_local h)
  ·exact absurd rfl (B.nocell _ (PySem.mem_of_lookup h))
  ·rcases j5 (env:=X.env) h with z|z
   ·exact .inr (.inl z)
   ·exact .inr (.inr z)
 loc:=λx h=>by
  have h:=Z1 h;rcases h with h|h
  ·have z:(relabel sc X.env).names.lookup x=some .local:=lookup_relabel_local h;exact{.inl z,.inr z}
  ·exact absurd rfl (B.nocell _ (PySem.mem_of_lookup h))
 glo:=λx h=>by unfold glB at h;exact qcs (env:=X.env) (-h:)
 cf:=λx h=>by
  rcases h with h|h
  ·exact absurd rfl (B.nocell _ (PySem.mem_of_lookup h))
  ·exact j5 (env:=X.env) h
 nd:=hnd
 calm:=gd.calm
 hK:=gd.hK
 room:=gd.room
 fns:=gd.fns
 blt:=gd.blt
 gl:=gd.gl
 cls:=gd.cls
 flds:=gd.flds
 xsubs:=gd.xsubs
 mts:=gd.mts
 mks:=gd.mks
 subs:=gd.subs
def qfJ{G H:Hp}{N:Env}{Z:L2.St}(er:ER U K Gv Hv G H N Z)(own:List Str)(fr:List Nat):ER U K G H G H (Q5 own.length fr N) (yK own fr Z):=by
 refine{by simp[Q5,yK],er.sub,λ_ _ e=>e,λ_ _ e=>e,λa o e=>.inl ⟨o,e⟩,λi s e=>?_,λi j a l n e1=>?_}
 ·unfold Q5 at e;unfold yK
  by_cases hi:i < own.length
  ·rw[List.getElem?_append_left (-hi:)]at e;obtain rfl:=List.eq_of_mem_replicate (List.mem_of_getElem? e);trivial
  ·rw[List.getElem?_append_right (-hi:)]at e ⊢;simp![List.length_map,List.length_replicate]at e ⊢;rw[List.getElem?_map]at e ⊢;let(j,e1,rfl):=Option.map_eq_some_iff.mp e;rw[e1];show SlR U K G H H (qim (N.getD j .no)) (some (Z[j]?).join)
   cases q:N[j]? with
   |none=>rw[List.getD_eq_getElem?_getD,q];trivial
   |some s=>
    rw[List.getD_eq_getElem?_getD,q];have w:=er.sl j s q
    cases s with
    |no=>trivial
    |val d=>let(v,z,r):=w;exact{v,by rw[z];rfl,r}
    |own l=>let(a,xs,z,r1,r2,r3,r4):=w;exact{a,xs,by rw[z];rfl,r1,r4}
    |bor l=>let(a,xs,z,r1,r4):=w;exact{a,xs,by rw[z];rfl,er.base _ _ r1,r4}
    |scr l=>let(a,xs,z,r1,r4):=w;exact{a,xs,by rw[z];rfl,er.base.seq r1,r4}
 ·exfalso;unfold Q5 at e1
  by_cases hi:i < own.length
  ·rw[List.getElem?_append_left (-hi:)]at e1
   cases List.eq_of_mem_replicate (List.mem_of_getElem? e1)
  ·rw[List.getElem?_append_right (-hi:),List.getElem?_map]at e1;let(j,_,z):=Option.map_eq_some_iff.mp e1
   cases q:N.getD j .no<;>rw[q]at z<;>cases z
def YW{it:Expr}(h:Yc it=true)(env:PySem.Env):∀x,foldedSetIterable it env x=pure x:=by
 intro x
 cases it<;>first|rfl|(simp[Yc]at h)
def qfK(A:All U K ε k X L m)(e:Expr){x:E}(hx:cX m L e=some x):PE X e (λZ H Q=>∃Gv Hv,tE U K ε Gv Hv (zK x (iR L.k x)) Z H Q):=λpins s Z H Q I ⟨Gv,Hv,h⟩=>A.e Gv Hv e x hx pins s Z H Q I h
def qct(A:All U K ε k X L m)(es:List Expr){x:F}(hx:cF m L es=some x):PIf X es (λZ H Q=>∃Gv Hv,tT U K ε Gv Hv (iF L.k x) Z H Q):=λpins s Z H Q I ⟨Gv,Hv,h⟩=>A.f Gv Hv es x hx pins s Z H Q I h
structure CompS(L:Ct)(m:Nat)(elt tg it:Expr)(ifs:List Expr)(sc:Scope)(own:List Str)(el:E)(src:I)(t:Tg)(c:F):Prop where
 chk:j6 L.sc L.N (yV L.N sc) sc=true
 nd:(own++(yV L.N sc).map λi=>L.N.getD i "").Nodup
 fold:Yc it=true
 src:cC L it (cI m L (qds tg) it)=some src
 tg:cTg { L with N:=own++(yV L.N sc).map λi=>L.N.getD i "",sc:=sc } tg=some t
 c:cF m { L with N:=own++(yV L.N sc).map λi=>L.N.getD i "",sc:=sc } ifs=some c
 el:cX m { L with N:=own++(yV L.N sc).map λi=>L.N.getD i "",sc:=sc } elt=some el
theorem qfL{elt:Expr}{gs:List Comprehension}{sc:Scope}{pos:Pos}(h:cE (m+1) L (.ListComp elt gs sc pos)=some x):∃tg it ifs own el src t c,gs=[⟨tg,it,ifs,0⟩]/\CompS L m elt tg it ifs sc own el src t c/\x=.comp el src t c own.length (yV L.N sc):=by
 match gs,h with
 |[⟨tg,it,ifs,as⟩],h=>
  let(ha,h):=qf h;obtain rfl:as=0:=of_decide_eq_true ha;dsimp only at h
  cases hx:zh tg with
  |none=>rw[hx]at h;cases h
  |some own=>rw[hx]at h;let(hc,h):=qf h;let(p1,p2,h1,h2,rfl):=ql h;let(src,t,h3,h4,rfl):=ql h1;let(c,el,h5,h6,rfl):=ql h2;simp![Bool.and_eq_true]at hc;exact{tg,it,ifs,own,el,src,t,c,rfl,{hc.1.1,of_decide_eq_true hc.1.2,hc.2,h3,h4,h5,h6},rfl}
 |[],h=>cases h
 | _::_::_,h=>cases h
def tC(U:KC)(K:Frag)(ε:XK)(Gv Hv:Hp)(f:Env->R (List D×Env)):TI:=λZ H Q=>∃N G,ER U K Gv Hv G H N Z/\Wx (XP U Gv Hv ε) (f N) λx=>∀J G' H',Po U K Gv Hv Z G H N G' H' x.2->ItR U H' G' J x.1->Q J H'
def qin(gd:Gd U K ε k X L)(A:All U K ε k X L m)(tg it:Expr){src:I}(hs:cC L it (cI m L (qds tg) it)=some src):PI X tg it (tC U K ε Gv Hv (iI L.k src)):=by rintro pins s Z H Q I ⟨N,G,er,h⟩;have hs:cI m L (qds tg) it=some src:=hs;exact A.i Gv Hv tg it src hs pins s Z H Q I ⟨N,G,er,Wx.mono h λx h J G' H' p it1=>h J G' H' p λi G2 H2 g hh sub=>it1 i G2 H2 g (λb o e=>hh b o (p.er.base b o e)) sub⟩
def Qu{elt tg it:Expr}{ifs:List Expr}{sc:Scope}{own:List Str}{el:E}{src:I}{t:Tg}{c:F}(S:CompS L m elt tg it ifs sc own el src t c):∀Z H Q,tR U K ε Gv Hv (iR L.k (.comp el src t c own.length (yV L.N sc))) Z H Q->
  qdd own (yV L.N sc) (tC U K ε Gv Hv (iI L.k src)) (gT U K X0 t) (λZ H Q=>∃Gv Hv,tT U K E0 Gv Hv (iF L.k c) Z H Q) (λZ H Q=>∃Gv Hv,tE U K E0 Gv Hv (zK el (iR L.k el)) Z H Q) Z H Q:=λZ H Q ⟨N,G,er,h⟩=>by
 refine{N,G,er,Wx.mono (Wx.th (x:=iI L.k src N) h) λx h J G1 H1 p1 it1=>?_};let(hz,h):=Wx.iff h;have h:=Wx.nox (Ξ':=X0) (Wx.th h)
 refine{λi mm ys Z' H'=>mm=x.1.length - i/\i<=x.1.length/\∃Nb Gb ds,ER U K G1 H1 Gb H' Nb Z'/\qx U Gb ds ys/\ds.length<=i/\
   Wx X0 (ZY t.go (λN1=>iF L.k c N1) (zK el (iR L.k el)) (x.1.drop i) Nb ds)
    (λl=>∀v G' H',Po U K Gv Hv Z G H N G' H' x.2->RvR U K Hv H G' H' x.2 Z (.tmp l) v->Q v H'),
  {x.1.length,by simp,Nat.zero_le _,Q5 own.length (yV L.N sc) x.2,G1,[],qfJ p1.er own (yV L.N sc),.nil,Nat.le_refl _,?_},?_}
 ·rw[List.drop_zero];exact h
 rintro i mm ys Z' H' ⟨rfl,hi,Nb,Gb,ds,erb,rds,hdl,hw⟩;have it2:=it1 i Gb H' erb.g0 erb.base erb.sub
 by_cases hlt:i < x.1.length
 ·let(go,yl):=it2.1 x.1[i] (List.getElem?_eq_getElem hlt);have hyl:=rds.len;refine .inr ⟨go,by lia,_,λys' Z2 H2 w=>{x.1.length - (i+1),by lia,w},λv H2 hy=>?_⟩;let(G',hs,gs,sub,new,rep):=yl v H2 hy;have p2:=Po.more erb hs gs sub new;rw[List.drop_eq_getElem_cons hlt]at hw;refine{G1,H1,Nb,G',x.1[i],p2.er,rep,Wx.mono (Wx.th hw) λN1 hw Z1 er1=>{G1,H1,N1,G',er1,Wx.mono2 (Wx.th hw) (λ_ _ z=>False.elim z) λbt hw G2 H3 p3=>?_}};let(b,N2):=bt
  cases b with
  |true=>rw[if_pos rfl];refine{G1,H1,N2,G2,p3.er,Wx.mono2 (Wx.th hw) (λ_ _ z=>False.elim z) λy hw w G3 H4 p4 rep4=>{rfl,hlt,y.2,G3,ds++[y.1],p4.er,?_,by simp;lia,(Wx.iff hw).2}};exact(((rds.same gs).same p3.gs).same p4.gs).snoc rep4
  |false=>rw[if_neg (λz=>by cases z)];exact{rfl,hlt,N2,G2,ds,p3.er,(rds.same gs).same p3.gs,by lia,hw}
 ·have e:i=x.1.length:=by lia
  subst e;refine .inl ⟨it2.2 rfl,λp hp=>?_⟩;rw[List.drop_length]at hw;have p2:=p1.trans (Po.more p1.er erb.base erb.g0 erb.sub erb.fresh);let(z1,z2):=p2.er.newList hp rds;exact hw _ _ _ (p2.trans z1) (z2.back p2.hs)
def qdM(gd:Gd U K ε k X L)(A:All U K ε k X L m)(ih:∀ε' X' L',Gd U K ε' k X' L'->All U K ε' k X' L' m)(elt:Expr)(gs:List Comprehension)(sc:Scope)(pos:Pos)(h:cE (m+1) L (.ListComp elt gs sc pos)=some x):PE X (.ListComp elt gs sc pos) (tR U K ε Gv Hv (iR L.k x)):=by
 let(tg,it,ifs,own,el,src,t,c,rfl,S,rfl):=qfL h;have B:BlkScope X own (yV L.N sc) sc:=Yi gd S.chk
 exact PE.imp (qdf own (yV L.N sc) gd.calm B (qin (Gv:=Gv) (Hv:=Hv) gd A tg it S.src) (λcl C fp s2 H2=>qbD (yZ gd B S.nd cl C fp s2 H2) tg S.tg) (λcl C fp s2 H2=>qct (ih _ _ _ (yZ gd B S.nd cl C fp s2 H2)) ifs S.c)
  (λcl C fp s2 H2=>qfK (ih _ _ _ (yZ gd B S.nd cl C fp s2 H2)) elt S.el) (YW S.fold X.env)) (Qu S)
theorem qdN(gd:Gd U K ε k X L)(A:All U K ε k X L m)(f:Str)(es:List Expr)(p q:Pos)(h:cE (m+1) L (.Call (.Name f p) es [] q)=some x):PE X (.Call (.Name f p) es [] q) (tR U K ε Gv Hv (iR L.k x)):=by
 let(hn,h):=qf h;simp![Bool.and_eq_true]at hn;let((h1,h2),h3):=hn
 by_cases hi:f = "isinstance"
 ·subst hi;rw[if_pos rfl]at h
  match es,h with
  |[a,b],h=>
   cases b with
   |Name t tp=>exact qfE gd A a t p tp q h2 h
   |_=>cases h
  |[],h=>cases h
  |[_],h=>cases h
  | _::_::_::_,h=>cases h
 rw[if_neg hi]at h
 by_cases ht:L.tab.contains f=true
 ·rw[if_pos ht]at h;exact qbz gd A f es p q h1 h2 ht h
 rw[if_neg ht]at h
 by_cases hk:L.cs.tab.contains f=true
 ·rw[if_pos hk]at h;exact qdL gd A f es p q h1 h2 hk h
 rw[if_neg hk]at h
 match es,h with
 |[a],h=>exact qbA gd A f a p q h2 h
 |[a,b],h=>exact qbB gd A f a b p q h2 h
 |[],h=>cases h
 | _::_::_::_,h=>cases h
theorem qjG(gd:Gd U K ε k X L)(A:All U K ε k X L m)(ih:∀ε' X' L',Gd U K ε' k X' L'->All U K ε' k X' L' m)(e:Expr)(x:E)(h:cE (m+1) L e=some x):PE X e (tR U K ε Gv Hv (iR L.k x)):=by
 cases e with
 |Name x pos=>exact qbq gd h pos
 |Constant c j pos=>exact qbt c j pos h
 |BinOp a op b pos=>exact qbu A a b op pos h
 |UnaryOp op a pos=>
  cases op with
  |USub=>cases h
  |Not=>exact qdC A a pos h
  |_=>cases h
 |BoolOp op vs pos=>
  match vs,h with
  |[],h=>cases op<;>cases h
  |[a],h=>cases op<;>(let(a',h1,rfl):=map_some h;exact PE.imp (qeC (A.r Gv Hv _ _ h1)) λZ H Q h=>h)
  | a::b::l,h=>
   cases op with
   |And=>exact qft A a b l pos h
   |Or=>exact qhM A a b l pos h
 |Compare a ops bs pos=>
  match ops,bs,h with
  |[op],[b],h=>exact qdD gd A a b op pos h
  |[],_,h=>cases h
  |[_],[],h=>cases h
  | [_],_::_::_,h=>cases h
  | _::_::_,_,h=>cases h
 |IfExp c a b pos=>cases h
 |Subscript a b pos=>exact qfu gd A a b pos h
 |List es pos=>exact qfv A es pos h
 |Tuple es j pos=>exact qfw A es j pos h
 |Call fn es kws q=>
  cases fn with
  |Name f p=>
   cases kws with
   |nil=>exact qdN gd A f es p q h
   |cons kw kws=>cases h
  |Attribute o x ap=>
   cases kws with
   |nil=>exact qdK gd A o x ap es q h
   |cons kw kws=>cases h
  |_=>cases h
 |Attribute o x pos=>exact qfG gd A o x pos h
 |ListComp elt gens sc pos=>exact qdM gd A ih elt gens sc pos h
 |JoinedStr vs pos=>
  match vs,h with
  |[],h=>cases h
  |[_],h=>cases h
  | a::b::l,h=>exact qfx A a b l pos h
 |_=>cases h
theorem all:∀(m:Nat) (ε:XK) (X:Cx) (L:Ct),Gd U K ε k X L->All U K ε k X L m
 |0,_,_,_,_=>qjz
 | m+1,ε,X,L,gd=>
  have A:=all m ε X L gd
  ⟨λGv Hv=>qjG gd A (all m),λGv Hv=>qjA gd A,λGv Hv=>qjD gd A,λGv Hv=>qhO A,λGv Hv=>qhP A,λGv Hv=>qjB A,λGv Hv=>qjC A,λGv Hv=>qjE gd A,λGv Hv=>qjF gd A⟩
end
section
variable(U:KC)(K:Frag)(Gv Hv:Hp)
def FlP(G:Hp)(D:Ends):Fl->Prop
 | .next N'=>∀Z' G' H',ER U K Gv Hv G' H' N' Z'->qv G G'->D.nx Z' H'
 |.ret r=>∀v G' H',qv Hv H'->qv Gv G'->qv G' H'->(∀a o,G' a=some o->(∃o',Gv a=some o')\/Hv a=none)->ReR U G' H' Hv r v->D.rt v H'
def tS(ε:XK)(f:Env->R Fl):TS:=λD Z H=>∃N G,ER U K Gv Hv G H N Z/\Wx (XP U Gv Hv ε) (f N) (FlP U K Gv Hv G D)
end
structure Gs(U:KC)(K:Frag)(ε:XK)(k:Nat)(X:Cx)(L:Ct):Prop extends Gd U K ε k X L where
 own:L.z=false->PassesOwn (model X.prog X.w) X.A X.env X.xe
 rs:L.z=false->jr X ε
 ow:L.z=false->∀x:Addr,PassesOwnAt (model X.prog X.w) (X.A.mark (some (.ref x))) X.A X.env X.xe
 pt:L.z=false->ZV X ε
 ex:X.ex=[]
 stk:X.stack=X.env::X.outer/\X.env.frame=some X.env.locals
 xn0:∀n,L.cs.xn n=some []->X.mg n=some (.ref (L.cs.xa n))/\PySem.W.excIn X.K (L.cs.xa n) bV "ValueError.__new__" = true
 xhs:∀C (t:Str) b,t≠("ValueError" : Str)->L.cs.xs C t=some b->∃D,X.mg t=some (.ref D)/\PySem.W.exmOne X.K (.ref C) (.ref D)=some b
 sceq:X.env.scope=L.sc
 fnk:L.sc.kind=.function
def PS.imp{X:Cx}{st:Stmt}{t t':TS}(h:PS X st t')(i:∀D Z H,t D Z H->t' D Z H):PS X st t:=λpins s Z H D I hw=>h pins s Z H D I (i D Z H hw)
def PSs.imp{X:Cx}{st:List Stmt}{t t':TS}(h:PSs X st t')(i:∀D Z H,t D Z H->t' D Z H):PSs X st t:=λpins s Z H D I hw=>h pins s Z H D I (i D Z H hw)
def Qv{e:Expr}(h:jH e=true)(t:Option Expr)(l:Nat)(env:PySem.Env):swapsWith e t l env=pure false:=by cases e<;>first|rfl|(simp[jH]at h)
section
variable{U:KC}{ε:XK}{K:Frag}{Gv Hv:Hp}{k m w:Nat}{X:Cx}{L:Ct}
def YX{N:Env}{i:Nat}{l:List D}(h:yI N i=some l):N[i]?=some (.own l):=by
 unfold yI at h
 split at h
 ·rename_i e;cases h;exact e
 ·cases h
def ER.ownSlot{G H:Hp}{N:Env}{Z:L2.St}{i:Nat}{l:List D}(er:ER U K Gv Hv G H N Z)(e:N[i]?=some (.own l)):∃a xs,Z[i]?=some (some (.ref a))/\H a=some (.lst xs)/\qx U G l xs:=by let(a,xs,z,h1,h2,h3,h4):=er.sl i _ e;exact⟨a,xs,z,h1,h4⟩
theorem Z8(gd:Gd U K ε k X L)(A:All U K ε k X L m)(x:Str)(a:Expr)(xp ap cp p:Pos){i:Nat}{a':E}(hl:(ap.endLine == cp.line)=true)(s1:qL a=false)(hi:qes L x=some i)(ha:cX m L a=some a') :
  PS X (.Expr (.Call (.Attribute (.Name x xp) "append" ap) [a] [] cp) p) (tS U K Gv Hv ε (iS L.k w (.app i a'))):=by
 have few:((backTo cp (starEach [a] X.env)).all (λx=>!x.1)&&(backToKw cp (keywordEach [] X.env)).all (λx=>x.1.isSome)&&decide (([a]:List Expr).length+([]:List Keyword).length+(if ([]:List Keyword).isEmpty then 0 else 1) < 30))=true:=by rw[qo s1];rfl
 refine PS.imp (z9 (qeX PySem.F.plainAttrs_list PySem.F.slot_list_append PySem.F.type_list_append ZF (qcm gd hi xp) (qg (A.e Gv Hv _ _ ha) qC (qo s1)) rfl few hl (qo s1) rfl) rfl) λD Z H hq1=>?_;let(N,G,er,h):=hq1;have h:Wx _ (α:=Fl) (match yI N i with |none=>R.no |some _=>(zK a' (iR L.k a') N).th λy=>match yI y.2 i with |some l=>if l.length < sizeLine then .ok (.next (y.2.set i (.own (l++[y.1])))) else .no |none=>.no) _:=h
 cases e1:yI N i with
 |none=>rw[e1]at h;exact False.elim h
 |some l0=>
  rw[e1]at h;let(b,xs,z,h1,h2):=er.ownSlot (YX e1);refine{_,z,.inl {rfl,xs,SqL.of h1},N,G,er,Wx.mono (Wx.th h) λy h v G1 H1 p1 r1=>?_}
  cases e2:yI y.2 i with
  |none=>rw[e2]at h;exact False.elim h
  |some l=>rw[e2]at h;let(hz,h):=Wx.iff h;let(b',ys,z',h3,h4):=p1.er.ownSlot (YX e2);rw[z]at z';cases z';refine{b,ys,v,rfl,rfl,h3,by rw[<-h4.len];exact hz,?_};exact h Z G1 _ (p1.er.write (YX e2) z (h4.snoc r1)) p1.gs
theorem qfM(gd:Gd U K ε k X L)(A:All U K ε k X L m)(e:Expr)(p:Pos){z:E}(h:cV m L e=some z):PS X (.Return (some e) p) (tS U K Gv Hv ε (iS L.k w (.ret z))):=by
 have gen:(cE m L e).bind Jn=some z->PS X (.Return (some e) p) (tS U K Gv Hv ε (iS L.k w (.ret z))):=λh=>by
  let(y,h1,h2):=Option.bind_eq_some_iff.mp h;let(rfl,hv):=zx h2;refine PS.imp (Zp (A.r Gv Hv _ _ h1)) λD Z H hq1=>?_;let(N,G,er,h):=hq1;have h:=Wx.th (x:=qbl y (iR L.k y) N) h;rw[qdy hv]at h;refine{N,G,er,Wx.mono (Wx.th h) λx h v G1 H1 p1 r1=>?_};let(rv,N1):=x
  cases rv with
  |val d=>exact h v G1 H1 p1.er.base p1.er.g0 p1.er.sub p1.er.fresh r1
  |tmp l=>let(a,xs,rfl,h1,h2,h3,h4,h5,h6):=r1;exact h _ G1 H1 p1.er.base p1.er.g0 p1.er.sub p1.er.fresh ⟨a,xs,rfl,h1,h3,h4,h6⟩
  |_=>exact False.elim h
 cases e with
 |Name x pos=>
  rcases Jo gd h pos with ⟨i,rfl,P⟩|⟨d,v,rfl,e3,P⟩
  ·refine PS.imp (Zp P) λD Z H hq1=>?_;let(N,G,er,h):=hq1;have h:=Wx.th (x:=slX N i) h;unfold slX at h
   cases q:N[i]? with
   |none=>rw[q]at h;exact False.elim h
   |some s=>
    rw[q]at h;have w:=er.sl i s q
    cases s with
    |val d=>let(v,z,r):=w;exact{v,z,h v G H er.base er.g0 er.sub er.fresh r}
    |own l=>let(a,xs,z,r1,r2,r3,r4):=w;exact{_,z,h _ G H er.base er.g0 er.sub er.fresh ⟨a,xs,rfl,r1,r2,r3,r4⟩}
    |_=>exact False.elim h
  ·refine PS.imp (Zp P) λD Z H hz7=>?_;let(N,G,er,h):=hz7;exact h v G H er.base er.g0 er.sub er.fresh (e3 G)
 |_=>exact gen h
def AsR(U:KC)(K:Frag)(Hv G H:Hp)(N:Env)(Z:L2.St):Sl->V->Prop
 |.val d,v=>Rep U G d v
 |.own l,v=>∃a xs,v=.ref a/\H a=some (.lst xs)/\Hv a=none/\G a=none/\¬ Q3 N Z a/\qx U G l xs
 |_,_=>False
def tA(U:KC)(K:Frag)(ε:XK)(Gv Hv:Hp)(f:Env->R (Sl×Env)):TE:=λZ H Q=>∃N G,ER U K Gv Hv G H N Z/\Wx (XP U Gv Hv ε) (f N) λs=>∀v G' H',Po U K Gv Hv Z G H N G' H' s.2->AsR U K Hv G' H' s.2 Z s.1 v->Q v H'
theorem qdO{G H:Hp}{N:Env}{Z:L2.St}{s:Sl}{v:V}{i:Nat}(er:ER U K Gv Hv G H N Z)(h:AsR U K Hv G H N Z s v):ER U K Gv Hv G H (N.set i s) (Z.set i (some v)):=by
 cases s with
 |val d=>exact er.setVal h
 |own l=>let(a,xs,rfl,h1,h2,h3,h4,h5):=h;exact er.setOwn h1 h2 h3 h4 h5
 |_=>exact False.elim h
theorem qio{z:E}(hv:∀i,z≠.var i)(Z:L2.St)(H:Hp)(Q:VK)(h:tA U K ε Gv Hv (Q6 z (iR L.k z)) Z H Q):tR U K ε Gv Hv (iR L.k z) Z H Q:=by
 let(N,G,er,h):=h;rw[qdz hv]at h;refine{N,G,er,Wx.mono (Wx.th h) λx h v G1 H1 p1 r1=>?_};let(rv,N1):=x
 cases rv with
 |val d=>exact h v G1 H1 p1 r1
 |tmp l=>let(a,xs,rfl,h1,h2,h3,h4,h5,h6):=r1;exact h _ G1 H1 p1 ⟨a,xs,rfl,h1,h3,h4,h5,h6⟩
 |_=>exact False.elim h
theorem qip(gd:Gd U K ε k X L)(A:All U K ε k X L m)(e:Expr){z:E}(h:cV m L e=some z):PE X e (tA U K ε Gv Hv (Q6 z (iR L.k z))):=by
 have gen:(cE m L e).bind Jn=some z->PE X e (tA U K ε Gv Hv (Q6 z (iR L.k z))):=λh=>by let(y,h1,h2):=Option.bind_eq_some_iff.mp h;let(rfl,hv):=zx h2;exact PE.imp (A.r Gv Hv _ _ h1) (qio hv)
 cases e with
 |Name x pos=>
  have P:=Qo (Gv:=Gv) (Hv:=Hv) gd h pos;rcases Jo gd h pos with ⟨i,rfl,_⟩|⟨d,v,rfl,_,_⟩
  ·refine PE.imp P λZ H Q hq1=>?_;let(N,G,er,h):=hq1;exact{N,G,er,Wx.mono (Wx.th (x:=slE N i) h) λy h v G1 H1 p1 r1=>h v G1 H1 p1 r1}
  ·refine PE.imp P λZ H Q hz8=>?_;let(N,G,er,h):=hz8;exact⟨N,G,er,h⟩
 |_=>exact gen h
theorem qfN(gs:Gs U K ε k X L)(A:All U K ε k X L m)(x:Str)(e:Expr)(xp p:Pos){i:Nat}{z:E}(hi:qbo L x=some i)(hz:cV m L e=some z):PS X (.Assign [.Name x xp] e p) (tS U K Gv Hv ε (iS L.k w (.set i z))):=by
 have gd:=gs.toGd;let(l1,l2,hN,hxi):=Qs gd hi
 have fin:∀(D:Ends) (Z:L2.St) (H:Hp),tS U K Gv Hv ε (iS L.k w (.set i z)) D Z H->tA U K ε Gv Hv (Q6 z (iR L.k z)) Z H (λy H1=>qaZ i y Z H1 D.nx):=λD Z H ⟨N,G,er,h⟩=>{N,G,er,Wx.mono (Wx.th (x:=Q6 z (iR L.k z) N) h) λs h v G1 H1 p1 r1=>h _ G1 H1 (qdO p1.er r1) p1.gs}
 by_cases hn:jH e=true
 ·exact PS.imp (Zq (i:=i) hN hxi l1 (qip gd A e hz) (Qv hn _ _ _) l2) fin
 cases e with
 |ListComp elt gens sc cp=>
  have hsw:∀b:Bool,(X.env.blockKind == .function&&X.env.kindOf x == some .local&&xp.line == cp.line&&!(sc.names.any λ(n,k)=>n == x&&(k == .local||k == .cell)))=b->swapsWith (.ListComp elt gens sc cp) (some (.Name x xp)) p.line X.env=pure b:=λb hb=>by rw[<-hb];rfl
  cases hb:(X.env.blockKind == .function&&X.env.kindOf x == some .local&&xp.line == cp.line&&!(sc.names.any λ(n,k)=>n == x&&(k == .local||k == .cell))) with
  |false=>exact PS.imp (Zq (i:=i) hN hxi l1 (qip gd A _ hz) (hsw false hb) l2) fin
  |true=>
   have hloc:X.env.scope.names.lookup x=some .local:=by
    simp![Bool.and_eq_true]at hb
    have:=hb.1.1.2
    unfold PySem.Env.kindOf at this
    simpa using this
   let(y,h1,h2):=Option.bind_eq_some_iff.mp hz;let(rfl,hv):=zx h2
   cases m with
   |zero=>cases h1
   |succ m=>
    let(tg,it,ifs,own,el,src,t,c,rfl,S,rfl):=qfL h1;have B:BlkScope X own (yV L.N sc) sc:=Yi gd S.chk
    exact PS.imp (qdg (i:=i) own (yV L.N sc) hN hxi hloc gd.calm B (qin (Gv:=Gv) (Hv:=Hv) gd (all m _ X L gd) tg it S.src) (λcl C fp s2 H2=>qbD (yZ gd B S.nd cl C fp s2 H2) tg S.tg) (λcl C fp s2 H2=>qct (all m _ _ _ (yZ gd B S.nd cl C fp s2 H2)) ifs S.c)
     (λcl C fp s2 H2=>qfK (all m _ _ _ (yZ gd B S.nd cl C fp s2 H2)) elt S.el) (hsw true hb) (YW S.fold X.env)) λD Z H h=>Qu S Z H _ (qio hv Z H _ (fin D Z H h))
 |SetComp=>cases m<;>cases hz
 |DictComp=>cases m<;>cases hz
 |_=>exact absurd rfl hn
theorem qbE(gs:Gs U K ε k X L)(A:All U K ε k X L m)(hz:L.z=false)(n:Str)(e:Expr)(es:List Expr)(np cp p:Pos){l:Es}(hc:xnB L n=true)(h1:cEs m L (e::es)=some l) :
  PS X (.Raise (some (.Call (.Name n np) (e::es) [] cp)) none p) (tS U K Gv Hv ε (iS L.k w (.rai n l))):=by
 rw[xnB,Bool.and_eq_true]at hc;let(n1,n2,n3):=qy hc.1;have gd:=gs.toGd;have hg:Gl X n:=gd.glo n hc.2;have hs:=Z6 h1;simp![List.any_cons,Bool.or_eq_false_iff]at hs;have pa:PA X (e::es) (tEs U K ε Gv Hv (iEs L.k l)):=A.es Gv Hv _ _ h1;intro pins s Z H D I hq;let(N,G,er,hw):=hq;have hw:=Wx.nox (Ξ':=X0) (Wx.th (x:=noX (iEs L.k l N)) hw)
 have no:(∀v,mkX L.x L.cs n v=.no)->False:=λq=>by
  cases e1:iEs L.k l N with
  |ok v=>rw[e1]at hw;have hv:Wx (XP U Gv Hv ε) (mkX L.x L.cs n v.1) _:=hw;rw[q]at hv;exact hv
  |exc c l=>rw[e1]at hw;exact hw
  |no=>rw[e1]at hw;exact hw
 cases e0:L.cs.xn n with
 |none=>exact(no λv=>by unfold mkX;rw[e0]).elim
 |some ns=>
  cases ns with
  |nil=>
   let(hm,hk):=gs.xn0 n e0;refine j8 (qbg gs.ex (gs.rs hz)) gd.calm hg hm hk PySem.F.excBase_ValueError pa (qo hs.1) (qO hs.2) n1 pins s Z H D I ⟨N,G,er,Wx.mono2 hw (λ_ _ z=>False.elim z) λv hv vs G1 H1 p1 r1=>?_⟩;have hv:Wx (XP U Gv Hv ε) (mkX L.x L.cs n v.1) _:=hv;unfold mkX at hv;rw[e0]at hv;dsimp only at hv
   by_cases hl:v.1.length<=sizeLine
   ·rw[if_pos hl]at hv;exact{by rw[<-r1.len];exact hl,hv none G1 H1 p1.er.base p1.er.g0 p1.er.sub p1.er.fresh (.inl ⟨rfl,rfl⟩)}
   ·rw[if_neg hl]at hv;exact False.elim hv
  |cons a ns=>exact(no λv=>by unfold mkX;rw[e0]).elim
end
structure AllS(U:KC)(K:Frag)(ε:XK)(X:Cx)(L:Ct)(m w:Nat):Prop where
 s:∀Gv Hv st x,cS m L st=some x->PS X st (tS U K Gv Hv ε (iS L.k w x))
 ss:∀Gv Hv l x,cSs m L l=some x->PSs X l (tS U K Gv Hv ε (iSs L.k w x))
noncomputable abbrev atX(X:Cx)(pins:PP)(E1:PQ):Cx:={ X with pn:=X.pn++pins,xe:=E1 }
section
variable{U:KC}{ε:XK}{K:Frag}{Gv Hv:Hp}{k m w:Nat}{X:Cx}{L:Ct}{pins pins':PP}{E1:PQ}{Z:L2.St}{H:Hp}{s:Shared}
def qfO(ok:X.Ok):(atX X pins E1).Ok:=⟨ok.mod,ok.kind,ok.glob,ok.blt,ok.above,ok.inj,ok.has,ok.cab,ok.hd,ok.frames,ok.stk,ok.exf,ok.bs,ok.bsz,ok.noex,ok.exfs,ok.funs,ok.frf⟩
def qfP(ok:(atX X pins E1).Ok):X.Ok:=⟨ok.mod,ok.kind,ok.glob,ok.blt,ok.above,ok.inj,ok.has,ok.cab,ok.hd,ok.frames,ok.stk,ok.exf,ok.bs,ok.bsz,ok.noex,ok.exfs,ok.funs,ok.frf⟩
def qfQ(I:L2.Inv X pins Z H s):L2.Inv (atX X pins E1) [] Z H s:={qfO I.ok,I.os,I.bare,I.base,I.loc,I.cell,I.free,I.freeC,λp hp=>I.pin p (-hp:),I.hok,I.len}
def Yj(I:L2.Inv (atX X pins E1) pins' Z H s):L2.Inv X pins Z H s:={qfP I.ok,I.os,I.bare,I.base,I.loc,I.cell,I.free,I.freeC,λp hp=>I.pin p (List.mem_append_left _ hp),I.hok,I.len}
theorem qfR{D:Ends}{f:Flow}(h:SP (atX X pins E1) [] D f s):SP X pins D f s:=by
 cases f with
 |next=>let(Z',H',I,q):=h;exact{Z',H',Yj I,q}
 |brk=>let(Z',H',I,q):=h;exact{Z',H',Yj I,q}
 |cont=>let(Z',H',I,q):=h;exact{Z',H',Yj I,q}
 |ret u=>let(v,Z',H',I,r,q):=h;exact{v,Z',H',Yj I,r,q}
def qfS{E1:PQ}{ε':XK}(gs:Gs U K ε k X L)(ps:zn (CX1 X.prog X.w) (atX X pins E1) ε'):Gs U K ε' k (atX X pins E1) { L with z:=true }:=
 { ps:=ps,own:=λz=>(by cases z),rs:=λz=>(by cases z),ow:=λz=>(by cases z),pt:=λz=>(by cases z),ex:=gs.ex,stk:=gs.stk,xn0:=gs.xn0,xhs:=gs.xhs,hN:=gs.hN,vis:=gs.vis,loc:=gs.loc,glo:=gs.glo,cf:=gs.cf,nd:=gs.nd,calm:=gs.calm,hK:=gs.hK,room:=gs.room,fns:=gs.fns,blt:=gs.blt,gl:=gs.gl,cls:=gs.cls,flds:=gs.flds,mts:=gs.mts,mks:=gs.mks,xsubs:=gs.xsubs,subs:=gs.subs,sceq:=gs.sceq,fnk:=gs.fnk }
theorem qhR(gs:Gs U K ε k X L){x T C:Addr}{od:Option Addr}{G2:Hp}{hh:Heap}{l:List (Str×D)}{D:Ends}{G:Hp}{n:Nat}{Ξ:XW}(hn:Z.length=n)(Hd:Held X pins Z H s x T C od hh)
  (h1:qv Hv H) (h2:qv Gv G2) (h3:qv G2 H) (h4:∀a o,G2 a=some o->(∃o',Gv a=some o')\/Hv a=none) (h5:qhJ U G2 od l) (g:qv G G2) :
  ∀(hs:List ExceptHandler) (hs':List (Str×Nat×Nat)),cHs L hs=some hs'->Wx Ξ (ju L.cs n C l hs') (FlP U K Gv Hv G D)->wpAny (model X.prog X.w) X.A (handleBy (.ref x) X.env hs) (SP X pins D) X.xe { s with heap:=hh }:=by
 intro hs
 induction hs with
 |nil=>intro hs' hc hw;cases hc;exact False.elim hw
 |cons hd hs ih=>
  intro hs' hc hw
  ·let((t,n,v,n2),hH,hc):=qk hc;let(tp,vp,np,ap,hp,rfl):=qhI hH;let(hb,hc):=qf hc;let(q,r',h6,h7,rfl):=ql hc;let(i,j,h8,h9,rfl):=ql h6;simp![Bool.and_eq_true,decide_eq_true_eq,beq_iff_eq]at hb;let((((((b1,b2),b3),b4),b5),b6),b7):=hb;subst b1;have hg:Gl X t:=gs.glo t b5;let(n1,n2',n3):=qy b4;let(m1,m2,m3):=qy b6;have hw:Wx Ξ (match L.cs.xs C t with |some true=>R.ok (Fl.next ((List.replicate n Sl.no).set j (.val (.exc C (l.map (·.1)) (l.map (·.2)))))) |some false=>ju L.cs n C l r' |none=>.no) (FlP U K Gv Hv G D):=hw
   cases ex:L.cs.xs C t with
   |none=>rw[ex]at hw;exact False.elim hw
   |some b=>
    let(Dc,hm,hq):=gs.xhs C t b b3 ex
    cases b with
    |false=>rw[ex]at hw;exact yq Hd gs.ex hg hm hq (ih r' h7 hw) n1
    |true=>
     rw[ex]at hw;let(i1,i2,hN,hxi):=Qs gs.toGd h8;let(j1,j2,_,hxj):=Qs gs.toGd h9;have hN:X.N.Nodup:=hN;have hxi:X.N[i]?=some n2:=hxi;have hxj:X.N[j]?=some v:=hxj;have hl:X.env.scope.names.lookup n2=some .local:=by rw[show X.env.scope=L.sc from gs.sceq];exact b7
     have hij:i≠j:=λz=>by rw[z,hxj]at hxi;exact b2 (Option.some.inj hxi)
     have hlen:X.N.length=n:=by rw[<-hn];exact Hd.inv.len.symm
     have hi:i < n:=by rw[<-hlen];exact(List.getElem?_eq_some_iff.mp hxi).1
     have hj:j < n:=by rw[<-hlen];exact(List.getElem?_eq_some_iff.mp hxj).1
     refine QZ Hd gs.ex hg hm hq hN hxi hl (qX (Zq (X:=X.mark (.ref x)) (i:=j) hN hxj j1 (Qc (X:=X.mark (.ref x)) (i:=i) hxi (.inl hl) m1 m2) (Qv rfl _ _ _) j2)) ⟨.ref x,by rw[List.getElem?_set_self (by rw[hn];exact hi)],?_⟩ n1;have hHx:H x=none:=Hd.mine.hx;have gx2:G2 x=none:=qv.none h3 hHx;have gs2:qv G2 (upd G2 x (qbe x C od)):=qv.upd gx2;refine hw _ (upd G2 x (qbe x C od)) _ ⟨by simp[hn],λb o q=>?_,λb o q=>?_,λb o q=>gs2 b o (h2 b o q),λb o q=>?_,λi' sl q=>?_,λi1' j1' a l' m' q1=>?_⟩ λb o q=>gs2 b o (g b o q)
     ·by_cases hb:b=x
      ·subst hb;rw[qm]at q ⊢;exact q
      ·rw[qh hb]at q ⊢;exact h3 b o q
     ·rw[qh (λz=>by rw[z]at q;have:=h1 _ _ q;rw[hHx]at this;cases this)];exact h1 b o q
     ·by_cases hb:b=x
      ·subst hb;exact .inr (qv.none h1 hHx)
      ·rw[qh hb]at q;exact h4 b o q
     ·by_cases he:j=i'
      ·subst he;rw[List.getElem?_set_self (-hj:)]at q;cases q;refine{.ref x,?_,?_}
       ·rw[List.getElem?_set_ne hij,List.getElem?_set_self (by simp[hn];exact hj)]
       ·simp![Rep];rcases h5 with ⟨z1,z2⟩|⟨dd,xs,z1,z2,z3⟩
        ·exact{x,od,[],rfl,qm,.inl {z1,by rw[z2];rfl},by rw[z2];exact .nil}
        ·exact{x,od,xs,rfl,qm,.inr {dd,z1,gs2 _ _ z2},z3.same gs2}
      ·rw[List.getElem?_set_ne he]at q
       have:=List.eq_of_mem_replicate (List.mem_of_getElem? q)
       subst this;trivial
     ·exfalso
      by_cases he:j=i1'
      ·subst he;rw[List.getElem?_set_self (-hj:)]at q1;cases q1
      ·rw[List.getElem?_set_ne he]at q1
       have:=List.eq_of_mem_replicate (List.mem_of_getElem? q1)
       cases this
def ER.now{G:Hp}{N:Env}(er:ER U K Gv Hv G H N Z):ER U K G Hv G H N Z:={er.len,er.sub,er.base,λ_ _ e=>e,λa o e=>.inl ⟨o,e⟩,er.sl,er.ap}
def ER.thn{G G' H':Hp}{N N':Env}{Z':L2.St}(er:ER U K Gv Hv G H N Z)(e:ER U K G Hv G' H' N' Z'):ER U K Gv Hv G' H' N' Z':=
 ⟨e.len,e.sub,e.base,λb o q=>e.g0 b o (er.g0 b o q),λa o q=>by
  rcases e.fresh a o q with ⟨o',z⟩|z
  ·exact er.fresh a o' z
  ·exact .inr z,e.sl,e.ap⟩
def qfT(gs:Gs U K ε k X L)(S:∀ε' X',Gs U K ε' k X' { L with z:=true }->AllS U K ε' X' { L with z:=true } m w)(body:List Stmt)(h0:ExceptHandler)(hs:List ExceptHandler)(p:Pos){b:Ss}(h1:cSs m { L with z:=true } body=some b) :
  PS X (.Try body (h0::hs) [] [] p) (tS U K Gv Hv ε (iS L.k w (.try_ b ((cHs L (h0::hs)).getD [])))):=by
 intro pins s Z H D I hq;let(N,G,er,hw):=hq;generalize hg:(cHs L (h0::hs)).getD []=hs' at hw;have hw:Wx (XP U Gv Hv ε) (match iSs L.k w b N with |.exc C l=>ju L.cs N.length C l hs' |r=>r) (FlP U K Gv Hv G D):=hw
 let E':XK:=λcv od H2=>∃C l G2,cv=.ref C/\qv Hv H2/\qv G G2/\qv G2 H2/\(∀a o,G2 a=some o->(∃o',G a=some o')\/Hv a=none)/\qhJ U G2 od l/\Wx (XP U Gv Hv ε) (ju L.cs N.length C l hs') (FlP U K Gv Hv G D)
 let E1:Value->Shared->Prop:=λe s'=>∃pins' Z' H1 s1,L2.Inv (atX X pins (λ_ _=>True)) pins' Z' H1 s1/\CX1 X.prog X.w X.stack H1 s1 E' e s'
 have gs':Gs U K E' k (atX X pins E1) { L with z:=true }:=qfS gs λpins' Z' H1 s1 e s' I' c=>{pins',Z',H1,s1,{⟨I'.ok.mod,I'.ok.kind,I'.ok.glob,I'.ok.blt,I'.ok.above,I'.ok.inj,I'.ok.has,I'.ok.cab,I'.ok.hd,I'.ok.frames,I'.ok.stk,I'.ok.exf,I'.ok.bs,I'.ok.bsz,I'.ok.noex,I'.ok.exfs,I'.ok.funs,I'.ok.frf⟩,I'.os,I'.bare,I'.base,I'.loc,I'.cell,I'.free,I'.freeC,I'.pin,I'.hok,I'.len},c}
 have B:=(S _ _ gs').ss G Hv body b h1 [] s Z H D (qfQ I) ⟨N,G,er.now,by
  show Wx (XP U G Hv E') (iSs L.k w b N) _
  cases e1:iSs L.k w b N with
  |ok f=>
   rw[e1]at hw
   cases f with
   | next N'=>exactλZ' G' H' q g=>hw Z' G' H' (er.thn q) g
   |ret r=>
    refineλv G' H' q1 q2 q3 q4=>hw v G' H' q1 (λb o q=>q2 b o (er.g0 b o q)) q3 λa o q=>?_;rcases q4 a o q with ⟨o',z⟩|z
    ·exact er.fresh a o' z
    ·exact .inr z
  |no=>rw[e1]at hw;exact hw
  |exc C l=>rw[e1]at hw;exactλod G' H' q1 q2 q3 q4 q5=>⟨C,l,G',rfl,q1,q2,q3,q4,q5,hw⟩⟩
 refine wpAny_Try_except (wpAny_mono B (λf s1 q=>?_) λe s1 hq=>?_)
 ·have q:=qfR q
  cases f with
  |next=>exact wpAny_execs_nil q
  |_=>exact q
 ·let(pins',Z',H1,s2,I2,c):=hq
  exact qij (D:=D) gs.stk gs.ex (Yj I2) c λx T C od H2 hh q Hd=>by
   let(C',l,G2,ec,q1,q2,q3,q4,q5,q6):=q;cases ec
   cases h2:cHs L (h0::hs) with
   |none=>rw[h2]at hg;subst hg;exact False.elim q6
   |some hs2=>
    rw[h2]at hg;subst hg
    exact qhR gs (by rw[er.len,I.len];exact Hd.inv.len) Hd q1 (λb o q=>q2 b o (er.g0 b o q)) q3 (λa o q=>by
     rcases q4 a o q with ⟨o',z⟩|z
     ·exact er.fresh a o' z
     ·exact .inr z) q5 q2 (h0::hs) hs2 h2 q6
end
section
variable{U:KC}{ε:XK}{K:Frag}{Gv Hv:Hp}{k m w:Nat}{X:Cx}{L:Ct}
def qfU(gd:Gd U K ε k X L):Gd U K E0 k X.nox L:=
 {ps:=λ_ _ _ _ _ _ _ c=>(by let(x,T,C,od,H',_,_,_,_,_,_,_,_,_,_,z):=c;exact z.elim)
  hN:=gd.hN,vis:=gd.vis,loc:=gd.loc,glo:=gd.glo,cf:=gd.cf,nd:=gd.nd,calm:=gd.calm,hK:=gd.hK,room:=gd.room,fns:=gd.fns,blt:=gd.blt,gl:=gd.gl,cls:=gd.cls,flds:=gd.flds,mts:=gd.mts,mks:=gd.mks,xsubs:=gd.xsubs,subs:=gd.subs }
theorem Qw{EX:XK}{r':Xa}{N N1:Env}{G H G1 H1:Hp}{Z:L2.St}{rv:Rv}{v:V}{Q:List V->Hp->Prop}(p1:Po U K Gv Hv Z G H N G1 H1 N1)(r1:RvR U K Hv H G1 H1 N1 Z rv v)
  (h:Wx (XP U Gv Hv EX) ((iXa L.k r' N1).th λy=>.ok (toAr rv::y.1,y.2)) λx=>∀vs G' H',Po U K Gv Hv Z G H N G' H' x.2->zN U K G' H' x.1 vs->Q vs H'):tAs U K EX Gv Hv (iXa L.k r') Z H1 λvs H2=>Q (v::vs) H2:=by
 have h:=Wx.th h
 cases rv with
 |val d=>exact{N1,G1,p1.er,Wx.mono h λy h vs G2 H2 p2 r2=>h _ G2 H2 (p1.trans p2) {v,vs,rfl,Rep.same p2.gs r1,r2}}
 |tmp ds=>let(a,xs,rfl,h1,h2,h3,h4,h5,h6):=r1;have p1':=p1.freeze h1 h2 h3 h4 h5;refine{N1,_,p1'.er,Wx.mono h λy h vs G2 H2 p2 r2=>h _ G2 H2 (p1'.trans p2) {_,vs,rfl,?_,r2}};show Rep U G2 (.lst ds) (.ref a);simp![Rep];exact{a,xs,rfl,p2.gs _ _ qm,(h6.same (qv.upd h4)).same p2.gs}
 |cell ds=>let(a,xs,rfl,h1,h6):=r1;exact{N1,G1,p1.er,Wx.mono h λy h vs G2 H2 p2 r2=>h _ G2 H2 (p1.trans p2) {_,vs,rfl,{a,xs,rfl,p2.hs _ _ h1,h6.same p2.gs},r2}}
 |scr ds=>let(a,xs,rfl,h1,h6):=r1;exact{N1,G1,p1.er,Wx.mono h λy h vs G2 H2 p2 r2=>h _ G2 H2 (p1.trans p2) {_,vs,rfl,{a,xs,rfl,p2.hs.seq h1,h6.same p2.gs},r2}}
theorem qdP(gd:Gd U K ε k X L)(A0:All U K E0 k X.nox L m):∀es xa,cXa m L es=some xa->PAx X es (λEX=>tAs U K EX Gv Hv (iXa L.k xa))
 |[],_,h=>by cases h;refine PAx.imp qdm λEX Z H Q hq=>?_;let(N,G,er,h):=hq;exact h [] G H (Po.refl er) rfl
 | e::l,xa,h=>by
  let(hs,h):=qf h;have hs:qL e=false:=(-hs:)
  have lf:o2 (cE m L e) (cXa m L l) Xa.leaf=some xa->PAx X (e::l) (λEX=>tAs U K EX Gv Hv (iXa L.k xa)):=λh=>by let(a',l',h1,h2,rfl):=ql h;refine PAx.imp (Qk (qbi (A0.r Gv Hv _ _ h1)) (qdP gd A0 l l' h2) (qo hs)) λEX Z H Q hq1=>?_;let(N,G,er,h):=hq1;exact{N,G,er,Wx.nox (Wx.mono (Wx.th (x:=noX (iR L.k a' N)) h) λx h v G1 H1 p1 r1=>Qw p1 r1 h)}
  have h:(match caV e with |some t=>_ |none=>_)=_:=h
  cases ec:caV e with
  |none=>rw[ec]at h;exact lf h
  |some t=>
   rw[ec]at h;have h:(if _ then _ else _)=_:=h
   by_cases hc:(qJ t.1&&glB L.sc t.1&&(J9 L.N t.1).isNone&&L.tab.contains t.1&&!t.2.isEmpty)=true
   ·rw[if_pos hc]at h;let(a',l',h1,h2,rfl):=ql h;let(gp,gq,eg):=ZX ec;let(g,as):=t;simp![Bool.and_eq_true]at hc;let((((c1,c2),c3),c4),c5):=hc;let(n1,n2,n3):=qy c1;let(fa,fd,ps,F,hm,hk,hb):=gd.fns g c4;have ns:=yu h1
    cases as with
    |nil=>cases c5
    |cons e1 es1=>simp![List.any_cons,Bool.or_eq_false_iff]at ns;subst eg;have P:=J7 (p:=gp) (pos:=gq) F gd.room (gd.glo g c2) hm hk hb .nil (qe7 (A0.as Gv Hv _ _ h1)) n1 (qo ns.1) (qO ns.2);refine PAx.imp (Qk P (qdP gd A0 l l' h2) (qo hs)) λEX Z H Q hq1=>?_;let(N,G,er,h):=hq1;refine{N,G,er,Wx.nox (Wx.mono (Wx.th (x:=noX (iAs L.k a' N)) h) λx h vs G1 H1 p1 r1=>?_)};show spF U K L.cl g (vs++[]) H1 _ EX;rw[List.append_nil];refine{G1,x.1,p1.er.sub,r1,Wx.mono2 (Wx.th h) (XP.call p1) λr h v G2 H2 hs gs sub new rr=>?_};let(z1,z2):=ReR.rv p1 hs gs sub new rr;exact Qw z1 z2 h
   ·rw[if_neg hc]at h;exact lf h
theorem Z9:∀{es:List Expr} {xa:Xa},cXa m L es=some xa->es.any qL=false
 |[],_,_=>rfl
 | e::l,xa,h=>by
  let(hs,h):=qf h;have hs:qL e=false:=(-hs:)
  have h:(match caV e with |some t=>_ |none=>_)=_:=h
  have key:∃x,cXa m L l=some x:=by
   cases ec:caV e with
   |none=>rw[ec]at h;let(_,y,_,h2,_):=ql h;exact⟨y,h2⟩
   |some t=>
    rw[ec]at h;have h:(if _ then _ else _)=_:=h
    by_cases hc:(qJ t.1&&glB L.sc t.1&&(J9 L.N t.1).isNone&&L.tab.contains t.1&&!t.2.isEmpty)=true
    ·rw[if_pos hc]at h;let(_,y,_,h2,_):=ql h;exact⟨y,h2⟩
    ·rw[if_neg hc]at h;let(_,y,_,h2,_):=ql h;exact⟨y,h2⟩
  let(y,h2):=key;rw[List.any_cons,hs,Z9 h2];rfl
theorem qbF{r:R Rv}(h:qbm r=true):∃z,r=.ok (.val (.str z))/\(reprText z).length<=80000:=by
 cases r with
 |ok r=>cases r with
  |val d=>cases d with
   |str z=>exact{z,rfl,of_decide_eq_true h}
   |_=>cases h
  |_=>cases h
 |_=>cases h
theorem qdQ{N:Env}{i:Nat}{d:D}(h:slR N i=.ok (.val d)):N[i]?=some (.val d):=by
 unfold slR at h
 cases e:N[i]? with
 |none=>rw[e]at h;cases h
 |some s=>
  rw[e]at h
  cases s<;>cases h
  rfl
theorem jv(gs:Gs U K ε k X L){C:Addr}{l:List (Str×D)}{c n:Str}(hv:c≠("ValueError" : Str)){F:Fl->Prop}(h:Wx (XP U Gv Hv ε) (yW L.cs C l c n) F) :
  XP U Gv Hv (λcv od H2=>∃C b Dc,cv=.ref C/\X.mg c=some (.ref Dc)/\PySem.W.exmOne X.K (.ref C) (.ref Dc)=some b/\(b=true->∃Cn,X.mg n=some (.ref Cn)/\PySem.W.excIn X.K Cn bV "ValueError.__new__" = true/\ε (.ref Cn) none H2)/\(b=false->ε (.ref C) od H2)) C l:=by
 intro od G' H' h1 h2 h3 h4 h5;unfold yW at h
 cases e:L.cs.xs C c with
 |none=>rw[e]at h;exact False.elim h
 |some b=>
  let(Dc,m1,m2):=gs.xhs C c b hv e;rw[e]at h;refine{C,b,Dc,rfl,m1,m2,λhb=>?_,λhb=>?_}
  ·subst hb;have h:Wx (XP U Gv Hv ε) (match L.cs.xn n with |some []=>R.exc (L.cs.xa n) [] |_=>.no) F:=h
   cases e2:L.cs.xn n with
   |none=>rw[e2]at h;exact False.elim h
   |some ns=>
    cases ns with
    |cons _ _=>rw[e2]at h;exact False.elim h
    |nil=>rw[e2]at h;let(q1,q2):=gs.xn0 n e2;exact{_,q1,q2,h none G' H' h1 h2 h3 h4 (.inl ⟨rfl,rfl⟩)}
  ·subst hb;exact h od G' H' h1 h2 h3 h4 h5
theorem qdR(gs:Gs U K ε k X L)(hz:L.z=false){body:List Stmt}{hs:List ExceptHandler}{q:(Str×List Expr)×Str×Str×Str}{x:S}{p:Pos}(e:trV body hs=some q)(h:cTr m L q=some x):PS X (.Try body hs [] [] p) (tS U K Gv Hv ε (iS L.k w x)):=by
 let(fp,qp,rp,cp,hpos,np,cpos,rpos,kp,p1,np2,p2,p3,j,jj,zc,hzc,e1,e2):=qfi e;let((f,es),c,n,v):=q;let(hc,h):=qf h;let(a,i,h1,h2,rfl):=ql h;simp![Bool.and_eq_true,decide_eq_true_eq]at hc;let((((((((((c1,c2),c3),c4),c5),c6),c7),c8),c9),d1),d2):=hc;subst e1 e2;let(f1,f2,f3):=qy c1;let(g1,g2,g3):=qy c5;let(n1,n2,n3):=qy c8;let(v1,v2,v3):=qy d1;let(fa,fd,ps,F,hm,hk,hb):=gs.fns f c3;have A0:All U K E0 k X.nox L m:=all m E0 X.nox L (qfU gs.toGd);have PX:=qdP (Gv:=Gv) (Hv:=Hv) gs.toGd A0 es a h1;have ns:es.any qL=false:=Z9 h1
 have hNi:X.N[i]?=some v:=by
  have:=gs.hN
  rw[this];exact yr h2
 cases es with
 |nil=>cases c4
 |cons e0 es0=>
 simp![List.any_cons,Bool.or_eq_false_iff]at ns;refine PS.imp (qdn (bB:=bV) (nid:="ValueError.__new__") (J7 (p:=fp) (pos:=qp) F gs.room (gs.glo f c2) hm hk hb .nil PX f1 (qo ns.1) (qO ns.2)) gs.stk gs.ex (gs.glo c c6) (gs.ow hz) (gs.rs hz) (gs.pt hz) (gs.glo n c9) PySem.F.excBase_ValueError hNi (gs.vis v d2) hzc g1 n1 v1 v2) λD Z H hq=>?_;let(N,G,er,hw):=hq;let(hmsg,hw):=Wx.iff hw;let(z,hz1,hz2):=qbF hmsg;have hr:=er.sl i _ (qdQ hz1);let(u,hu,ru):=hr;simp![Rep]at ru;subst ru;refine{z,hu,hz2,N,G,er,?_}
 cases ea:iXa L.k a N with
 |no=>rw[ea]at hw;exact False.elim hw
 |exc C l=>rw[ea]at hw;exact jv gs c7 hw
 |ok y=>
  rw[ea]at hw;intro vs G1 H1 q1 r1;show spF U K L.cl f (vs++[]) H1 _ _;rw[List.append_nil];refine{G1,y.1,q1.er.sub,r1,?_};have hw:Wx (XP U Gv Hv ε) (match (L.cl f y.1).th qeu with |.exc C l=>yW L.cs C l c n |r=>r) (FlP U K Gv Hv G D):=hw
  cases ef:L.cl f y.1 with
  |no=>rw[ef]at hw;exact False.elim hw
  |exc C l=>rw[ef]at hw;exact XP.call q1 C l (jv gs c7 hw)
  |ok r=>
   rw[ef]at hw;intro v' G2 H2 hs' gs' sub new rr;let(z1,z2):=ReR.rv q1 hs' gs' sub new rr
   cases r with
   |val d=>exact hw v' G2 H2 z1.er.base z1.er.g0 z1.er.sub z1.er.fresh z2
   |tmp l=>let(a',xs,rfl,h1,h2,h3,h4,h5,h6):=z2;exact hw _ G2 H2 z1.er.base z1.er.g0 z1.er.sub z1.er.fresh ⟨a',xs,rfl,h1,h3,h4,h6⟩
   |cell l=>exact False.elim hw
   |scr l=>exact False.elim hw
theorem FlP.back{G G1:Hp}{D:Ends}{f:Fl}(h:FlP U K Gv Hv G D f)(g:qv G G1):FlP U K Gv Hv G1 D f:=by
 cases f with
 |next N=>exactλZ' G' H' er g'=>h Z' G' H' er λb o e=>g' b o (g b o e)
 |ret r=>exact h
def qbG{e:Expr}(h:ZZ e=true)(es:List Expr)(j:Nat)(p:Pos)(env:PySem.Env):swappedStores [.Tuple es j p] e env=pure none:=by cases e<;>first|rfl|(simp[ZZ]at h)
def qaa(gd:Gd U K ε k X L)(A:All U K ε k X L m)(es:List Expr)(j:Nat)(tp:Pos)(e:Expr)(p:Pos){x:S}(h:cS (m+1) L (.Assign [.Tuple es j tp] e p)=some x):PS X (.Assign [.Tuple es j tp] e p) (tS U K Gv Hv ε (iS L.k w x)):=by let(hc,h):=qf h;let(t,a',h1,h2,rfl):=ql h;rw[Bool.and_eq_true]at hc;refine PS.imp (qeH (A.e Gv Hv _ _ h2) (qbD (Ξ:=XP U Gv Hv ε) gd (.Tuple es j tp) h1) (show swapsWithSole [.Tuple es j tp] e p.line X.env=pure false from Qv hc.1 (some (.Tuple es j tp)) p.line X.env) (qbG hc.2 es j tp _) rfl) λD Z H hq1=>?_;let(N,G,er,h):=hq1;refine{N,G,er,Wx.mono (Wx.th (x:=zK a' (iR L.k a') N) h) λx h v G1 H1 p1 r1=>?_};exact{Gv,Hv,x.2,G1,x.1,p1.er,r1,Wx.mono (Wx.th h) λN1 h Z1 er1=>h Z1 G1 H1 er1 p1.gs}
theorem qhS(A:All U K ε k X L m)(S:AllS U K ε X L m w)(c:Expr)(a b:List Stmt)(p:Pos){x:DE.S}(h:cS (m+1) L (.If c a b p)=some x):PS X (.If c a b p) (tS U K Gv Hv ε (iS L.k w x)):=by
 let(c',q,h1,h2,rfl):=ql h;let(a',b',h3,h4,rfl):=ql h2;refine PS.imp (JP (A.t Gv Hv _ _ h1) (S.ss Gv Hv _ _ h3) (S.ss Gv Hv _ _ h4)) λD Z H hq1=>?_;let(N,G,er,h):=hq1;refine{N,G,er,Wx.mono (Wx.th (x:=iT L.k c' N) h) λt h G1 H1 p1=>?_};let(d,N1):=t
 cases d with
 |true=>rw[if_pos rfl];exact{N1,G1,p1.er,Wx.mono h λf hf=>hf.back p1.gs}
 |false=>rw[if_neg (λz=>by cases z)];exact{N1,G1,p1.er,Wx.mono h λf hf=>hf.back p1.gs}
def qfV(gs:Gs U K ε k X L)(A:All U K ε k X L m)(S:AllS U K ε X L m w)(tg it:Expr)(body:List Stmt)(p:Pos){x:DE.S}(h:cS (m+1) L (.For tg it body [] p)=some x):PS X (.For tg it body [] p) (tS U K Gv Hv ε (iS L.k w x)):=by
 let(hf,h):=qf h;rw[Bool.and_eq_true]at hf;let(hz,hf):=hf;have hz:L.z=false:=(-hz:)
 let(q,b',h1,h2,rfl):=ql h;let(t,src,h3,h4,rfl):=ql h1;refine PS.imp (qeI (gs.own hz) gs.calm (A.i Gv Hv _ _ _ h4) (qbD (Ξ:=XP U Gv Hv ε) gs.toGd tg h3) (S.ss Gv Hv _ _ h2) (YW hf X.env)) λD Z H hq1=>?_;let(N,G,er,h):=hq1;refine{N,G,er,Wx.mono (Wx.th (x:=iI L.k src N) h) λx h J G1 H1 p1 it1=>?_}
 refine{λi mm Z' H'=>mm=x.1.length - i/\i<=x.1.length/\∃Nb Gb,ER U K Gv Hv Gb H' Nb Z'/\qv G1 Gb/\Wx (XP U Gv Hv ε) (qg0 (λd N1=>(t.go d N1).th λN2=>iSs L.k w b' N2) (x.1.drop i) Nb) (FlP U K Gv Hv G D),
  {x.1.length,by simp,Nat.zero_le _,x.2,G1,p1.er,λ_ _ e=>e,by rw[List.drop_zero];exact h},?_}
 rintro i mm Z' H' ⟨rfl,hi,Nb,Gb,erb,g1,hw⟩;have it2:=it1 i Gb H' g1 erb.base erb.sub
 by_cases hlt:i < x.1.length
 ·let(go,yl):=it2.1 x.1[i] (List.getElem?_eq_getElem hlt);refine .inr ⟨go,_,λZ2 H2 w=>{x.1.length - (i+1),by omega,w},λv H2 hy=>?_⟩;let(G',hs,gss,sub,new,rep):=yl v H2 hy;have p2:=Po.more erb hs gss sub new;rw[List.drop_eq_getElem_cons hlt]at hw;refine{Gv,Hv,Nb,G',x.1[i],p2.er,rep,Wx.mono (Wx.th (Wx.th hw)) λN2 hw Z2 er2=>{N2,G',er2,Wx.mono hw λf hf=>?_}}
  cases f with
  |next N3=>exactλZ3 G3 H3 er3 g3=>{rfl,hlt,N3,G3,er3,λb o e=>g3 b o (gss b o (g1 b o e)),hf}
  |ret r=>exact hf
 ·have e:i=x.1.length:=by omega
  subst e;rw[List.drop_length]at hw;exact .inl ⟨it2.2 rfl,hw Z' Gb H' erb λb o e=>g1 b o (p1.gs b o e)⟩
theorem qdS(gd:Gd U K ε k X L)(A:All U K ε k X L m)(e:Expr)(p:Pos){x:S}(h:cS (m+1) L (.Expr e p)=some x):PS X (.Expr e p) (tS U K Gv Hv ε (iS L.k w x)):=by
 have gen:oif (jH e) ((cE m L e).map .expr)=some x->PS X (.Expr e p) (tS U K Gv Hv ε (iS L.k w x)):=λh=>by let(hn,h):=qf h;let(a',h1,rfl):=map_some h;refine PS.imp (z9 (A.r Gv Hv _ _ h1) (Qv hn _ _ _)) λD Z H hq1=>?_;let(N,G,er,h):=hq1;exact{N,G,er,Wx.mono (Wx.th (x:=iR L.k a' N) h) λx h v G1 H1 p1 r1=>h Z G1 H1 p1.er p1.gs}
 cases e with
 |Call fn es kws cp=>
  cases fn with
  |Attribute o meth ap=>
   cases o with
   |Name y yp=>
    cases kws with
    |cons kw kws=>exact match es,h,gen with |[],h,gen=>gen h |[_],h,gen=>gen h|_::_::_,h,gen=>gen h
    |nil=>
     match es,h,gen with
     |[a],h,gen=>
      let(hc,h):=qf h;rw[Bool.and_eq_true]at hc;have hs:qL a=false:=(-hc.2:)
      by_cases h1:meth = "append"
      ·subst h1;rw[if_pos rfl]at h;let(i,a',h2,h3,rfl):=ql h;exact Z8 gd A y a yp ap cp p hc.1 hs h2 h3
      rw[if_neg h1]at h;cases h
     |[],h,gen=>cases h
     | _::_::_,h,gen=>exact gen h
   |_=>exact gen h
  |_=>exact gen h
 |_=>exact gen h
theorem qjH(gs:Gs U K ε k X L)(A:All U K ε k X L m)(S:AllS U K ε X L m w)(Sz:∀ε' X',Gs U K ε' k X' { L with z:=true }->AllS U K ε' X' { L with z:=true } m w)(st:Stmt)(x:DE.S)(h:cS (m+1) L st=some x):PS X st (tS U K Gv Hv ε (iS L.k w x)):=by
 cases st with
 |Pass p=>cases h;exact PS.imp qcL λD Z H ⟨N,G,er,h⟩=>h Z G H er λ_ _ e=>e
 |Raise ex ca p=>
  have stuck:∀{y:DE.S},y=.stuck->PS X (.Raise ex ca p) (tS U K Gv Hv ε (iS L.k w y)):=λ{y} e=>by subst e;refineλpins s Z H D I hz1=>?_;let(N,G,er,h):=hz1;exact False.elim h
  replace h:=(Option.some.inj h).symm
  cases e:ex.bind cN with
  |none=>rw[e]at h;exact stuck h
  |some t=>
   rw[e]at h
   cases ca with
   |some _=>exact stuck h
   |none=>
    dsimp only at h
    by_cases hc:(!L.z&&xnB L t.1)=true
    case neg=>rw[if_neg hc]at h;exact stuck h
    rw[if_pos hc]at h;simp![Bool.and_eq_true,Bool.not_eq_true']at hc
    cases e2:cEs m L (t.2.1::t.2.2) with
    |none=>rw[e2]at h;exact stuck h
    |some l=>rw[e2]at h;subst h;let(y,rfl,e):=qk e;let(np,cp,rfl):=qhG e;exact qbE gs A hc.1 t.1 t.2.1 t.2.2 np cp p hc.2 e2
 |Expr e p=>exact qdS gs.toGd A e p h
 |Return o p=>
  cases o with
  |some e=>let(y,h1,rfl):=map_some h;exact qfM gs.toGd A e p h1
  |none=>cases h;exact PS.imp qcM λD Z H ⟨N,G,er,h⟩=>h .non G H er.base er.g0 er.sub er.fresh (by simp![ReR,Rep])
 |Assign tgs e p=>
  match tgs,h with
  |[],h=>cases h
  | _::_::_,h=>cases h
  |[tg],h=>
   cases tg with
   |Name x xp=>let(i,z,h1,h2,rfl):=ql h;exact qfN gs A x e xp p h1 h2
   |Tuple es j tp=>exact qaa gs.toGd A es j tp e p h
   |Subscript o i sp=>cases h
   |_=>cases h
 |If c a b p=>exact qhS A S c a b p h
 |Try body hs orelse fin p=>
  cases hs with
  |nil=>cases h
  |cons h0 hs=>
   cases orelse with
   |cons _ _=>cases h
   |nil=>
    cases fin with
    |cons _ _=>cases h
    |nil=>
     let(hz,h):=qf h;have h:(match trV body (h0::hs) with |some q=>_ |none=>_)=_:=h
     cases e:trV body (h0::hs) with
     |some q=>rw[e]at h;exact qdR gs (-hz:) e h
     |none=>
     rw[e]at h;let(b,h1,rfl):=map_some h;exact qfT gs Sz body h0 hs p h1
 |For tg it body orelse p=>
  cases orelse with
  |nil=>exact qfV gs A S tg it body p h
  |cons s l=>cases h
 |While c body orelse p=>cases h
 |_=>cases h
theorem qhT(S:AllS U K ε X L m w):∀l x,cSs (m+1) L l=some x->PSs X l (tS U K Gv Hv ε (iSs L.k w x))
 |[],_,h=>by cases h;exact PSs.imp zL λD Z H ⟨N,G,er,h⟩=>h Z G H er λ_ _ e=>e
 | st::l,_,h=>by
  let(s',l',h1,h2,rfl):=ql h;refine PSs.imp (qK (S.s Gv Hv _ _ h1) (S.ss Gv Hv _ _ h2)) λD Z H hq1=>?_;let(N,G,er,h):=hq1;refine{N,G,er,Wx.mono (Wx.th (x:=iS L.k w s' N) h) λf hf=>?_}
  cases f with
  |next N1=>exactλZ1 G1 H1 er1 g1=>{N1,G1,er1,Wx.mono hf λf hf=>hf.back g1}
  |ret r=>exact hf
theorem qhU:∀(m:Nat) (ε:XK) (X:Cx) (L:Ct),Gs U K ε k X L->AllS U K ε X L m w
 |0,_,_,_,_=>{(λ_ _ _ _ h=>nomatch h),(λ_ _ _ _ h=>nomatch h)}
 | m+1,ε,X,L,gs=>
  have S:=qhU m ε X L gs
  ⟨λGv Hv=>qjH gs (all m _ X L gs.toGd) S λε' X' g=>qhU m ε' X' _ g,λGv Hv=>qhT S⟩
end
def yN(st:Stmt):List Str:=(qY st).args.map (·.arg)
def fnN(st:Stmt):List Str:=yN st++(qj st).names.filterMap λx=>if ((x.2 == .local||x.2 == .cell)&&!(yN st).contains x.1)=true then some x.1 else none
def jI(st:Stmt):Bool:=(qj st).kind == .function&&!(qj st).isCoroutine&&!(qj st).isGenerator&&decide (fnN st).Nodup&&(yN st).all (qfd (qj st))&&(qj st).names.all λy=>y.2 != .free
def toSl:Ar->Sl
 |.val d=>.val d
 |.bor l=>.bor l
 |.scr l=>.scr l
def jb(N:List Str)(args:List Ar):Env:=args.map toSl++List.replicate (N.length - args.length) .no
structure Pg where
 defs:List (Str×Stmt)
 gl:Str->Option D
 m:Nat
 w:Nat
 meths:List (Str×Stmt):=[]
 cs:Cs:=Cs.non
 nw:Nat->Str->List Ar->R Rv:=λ_ _ _=>.no
 xx:Xs:={}
def Pg.ct(pg:Pg)(k:Nat)(cl:Str->List Ar->R Rv)(st:Stmt):Ct:={fnN st,qj st,pg.defs.map (·.1),pg.gl,cl,pg.cs,pg.nw k,false,decide (2<=k),decide (12<=k)}
def flR:Fl->R Rv
 |.next _=>.ok (.val .non)
 |.ret r=>.ok r
def evF(pg:Pg)(k:Nat)(cl:Str->List Ar->R Rv)(st:Stmt)(args:List Ar):R Rv:=
 if (jI st&&args.length == (yN st).length)=true then (match cSs pg.m (pg.ct k cl st) (qD st) with
  |some b=>(iSs (pg.ct k cl st).k pg.w b (jb (fnN st) args)).th flR
  |none=>.no) else .no
def clK(pg:Pg):Nat->Str->List Ar->R Rv
 |0,_,_=>.no
 | k+1,f,args=>match (pg.defs++pg.meths).lookup f with
  |some st=>evF pg k (clK pg k) st args
  |none=>.no
def FnF(K:Frag)(mg:PR)(f:Str)(st:Stmt):Prop:=∃fa fd,Fun K f f st fa fd/\mg f=some (.ref fa)/\qR K fd (yN st) []
inductive AllF(K:Frag)(mg:PR):List (Str×Stmt)->Prop where
 | nil:AllF K mg []
 | cons {f:Str} {st:Stmt} {l:List (Str×Stmt)} (h:FnF K mg f st) (t:AllF K mg l):AllF K mg ((f,st)::l)
theorem AllF.mem{K:Frag}{mg:PR}:∀{l:List (Str×Stmt)} {f:Str} {st:Stmt},AllF K mg l->(f,st)∈l->FnF K mg f st
 |_,_,_,.nil,h=>by cases h
 |_,_,_,.cons h t,m=>by
  cases m with
  |head=>exact h
  |tail _ m=>exact t.mem m
def yw(P:Program)(wd:World)(U:KC)(K:Frag)(mg:PR)(base:Heap)(pg:Pg)(k:Nat):Prop:=
 (∀(f:Str) (st:Stmt),pg.defs.lookup f=some st->∃fa fd,FnOk P wd K mg base (CX1 P wd) k fa fd (yN st) (spF U K (clK pg k) f)/\mg f=some (.ref fa)/\PySem.W.keepIn K (.ref fa)=true/\qR K fd (yN st) [])/\
 (∀(f:Str) (st:Stmt),pg.meths.lookup f=some st->pg.defs.lookup f=none->∀nm fa fd,Fun K nm f st fa fd->FnOk P wd K mg base (CX1 P wd) k fa fd (yN st) (spF U K (clK pg k) f))
structure PgOk(U:KC)(K:Frag)(mg:PR)(pg:Pg):Prop where
 fn:AllF K mg pg.defs
 blt:∀f∈Z0,mg f=none
 gl:∀x d,pg.gl x=some d->∃v u,mg x=some u/\qQ v u/\∀G,Rep U G d v
 cls:∀c C,U c=some C->Cls K C
 flds:∀c x C,pg.cs.fld c x=true->U c=some C->zm K C x
 mts:∀c x f,pg.cs.mt c x=some f->∃C fa fd st nm,U c=some C/\Meth K C x fa/\pg.meths.lookup f=some st/\pg.defs.lookup f=none/\Fun K nm f st fa fd/\qR K fd (yN st) []
 mks:∀P wd base k,(∀j,j < k->yw P wd U K mg base pg j)->∀f,pg.cs.tab.contains f=true->(¬ 12<=k/\∀args,pg.nw k f args=.no)\/∃C fa fd ps sp,Mk K C fa/\FnOk P wd K mg base (CX1 P wd) (k - 1) fa fd ps sp/\mg f=some (.ref C)/\qR K fd ps []/\0 < k/\
  ∀vs H Q E,spF U K (pg.nw k) f vs H Q E->∀x dx,H x=none->H dx=none->dx≠x->sp (.ref x::vs) (upd (upd H dx (.own x)) x (.ins C dx [])) (λv H2=>v=.non/\Q (.ref x) H2) E
 xsubs:∀C t b,pg.cs.xs C t=some b->ExcIs K C/\((∃T,mg t=some (.ref T)/\PySem.W.kitOne K (.ref C) (.ref T)=some b)\/(mg t=none/\t = "ValueError"/\PySem.W.kitOne K (.ref C) (.type "ValueError")=some b)):=by exactλ_ _ _ h=>by cases h
 xn0:∀n,pg.cs.xn n=some []->mg n=some (.ref (pg.cs.xa n))/\PySem.W.excIn K (pg.cs.xa n) bV "ValueError.__new__" = true:=by exactλ_ h=>by cases h
 xhs:∀C (t:Str) b,t≠("ValueError" : Str)->pg.cs.xs C t=some b->∃D,mg t=some (.ref D)/\PySem.W.exmOne K (.ref C) (.ref D)=some b:=by exactλ_ _ _ _ h=>by cases h
 subs:∀c t b,pg.cs.sub c t=some b->∃C T,U c=some C/\(∀H p dx fs,H p=some (HO.ins C dx fs)->TyOf K H (.ref p) (.ref C))/\mg t=some (.ref T)/\PySem.W.kitOne K (.ref C) (.ref T)=some b
section
variable{P:Program}{wd:World}{U:KC}{K:Frag}{mg:PR}{base:Heap}{pg:Pg}
theorem zN.len{G H:Hp}:∀{args:List Ar} {vs:List V},zN U K G H args vs->args.length=vs.length
 |[],vs,h=>by simp![zN]at h;subst h;rfl
 | a::l,vs,h=>by simp![zN]at h;let(v,r,rfl,_,h2):=h;simp[zN.len h2]
theorem zN.at{G H:Hp}:∀{args:List Ar} {vs:List V} {i:Nat} {a:Ar},zN U K G H args vs->args[i]?=some a->∃v,vs[i]?=some v/\ArR U K G H a v
 |[],vs,i,a,h,e=>by simp at e
 | b::l,vs,0,a,h,e=>by simp![zN]at h;let(v,r,rfl,h1,h2):=h;simp at e;subst e;exact⟨v,rfl,h1⟩
 | b::l,vs,i+1,a,h,e=>by simp![zN]at h;let(v,r,rfl,h1,h2):=h;let(v',e1,e2):=zN.at (i:=i) h2 (-e:);exact{v',(-e1:),e2}
def qbH{G H:Hp}{args:List Ar}{vs:List V}{N:List Str}(sub:qv G H)(h:zN U K G H args vs):ER U K G H G H (jb N args) (L2.jX N vs):=by
 have hl:=h.len;refine{by simp[jb,L2.jX,hl],sub,λ_ _ e=>e,λ_ _ e=>e,λa o e=>.inl ⟨o,e⟩,λi s e=>?_,λi j a l n e1=>?_}
 ·unfold jb at e;unfold L2.jX
  by_cases hi:i < args.length
  ·rw[List.getElem?_append_left (-hi:),List.getElem?_map]at e;let(b,e1,rfl):=Option.map_eq_some_iff.mp e;let(v,e2,e3):=h.at e1;rw[List.getElem?_append_left (by rw[List.length_map,<-hl];exact hi),List.getElem?_map,e2]
   cases b with
   |val d=>exact⟨v,rfl,e3⟩
   |bor l=>let(a,xs,rfl,h1,h2):=e3;exact⟨a,xs,rfl,h1,h2⟩
   |scr l=>let(a,xs,rfl,h1,h2):=e3;exact⟨a,xs,rfl,h1,h2⟩
  ·rw[List.getElem?_append_right (-hi:)]at e
   have:s=.no:=by
    have:=List.mem_of_getElem? e
    exact List.eq_of_mem_replicate this
   subst this;trivial
 ·exfalso;unfold jb at e1
  by_cases hi:i < args.length
  ·rw[List.getElem?_append_left (-hi:),List.getElem?_map]at e1;let(b,_,z):=Option.map_eq_some_iff.mp e1
   cases b<;>cases z
  ·rw[List.getElem?_append_right (-hi:)]at e1
   have:=List.eq_of_mem_replicate (List.mem_of_getElem? e1)
   cases this
def y4{st:Stmt}(h:jI st=true):FnScope (fnN st) (yN st) (qj st):=by unfold jI at h;simp![Bool.and_eq_true,Bool.not_eq_true',List.all_eq_true]at h;let(((((h1,h2),h3),h4),h5),h6):=h;refine{by simpa using h1,h2,h3,of_decide_eq_true h4,by simp[fnN],λx hx=>Z1 (h5 x hx),λy hy=>by simpa using h6 y hy}
def j9{k:Nat}{f:Str}{st:Stmt}{args:List Ar}(h:(pg.defs++pg.meths).lookup f=some st):clK pg (k+1) f args=evF pg k (clK pg k) st args:=by show(match (pg.defs++pg.meths).lookup f with |some st=>_ |none=>R.no)=_;rw[h]
theorem qab{f:Str}{st:Stmt}:∀{l m:List (Str×Stmt)},l.lookup f=some st->(l++m).lookup f=some st
 |[],m,h=>by cases h
 | (g,s)::l,m,h=>by
  rw[List.lookup_cons]at h;rw[List.cons_append,List.lookup_cons]
  cases e:(f == g) with
  |true=>rw[e]at h;exact h
  |false=>rw[e]at h;exact qab h
theorem qcu{f:Str}:∀{l m:List (Str×Stmt)},l.lookup f=none->(l++m).lookup f=m.lookup f
 |[],m,h=>rfl
 | (g,s)::l,m,h=>by
  rw[List.lookup_cons]at h;rw[List.cons_append,List.lookup_cons]
  cases e:(f == g) with
  |true=>rw[e]at h;cases h
  |false=>rw[e]at h;exact qcu h
theorem Yk{f:Str}:∀{l:List (Str×Stmt)},(l.map (·.1)).contains f=true->∃st,l.lookup f=some st
 |[],h=>by simp at h
 | (g,st)::l,h=>by
  by_cases e:f=g
  ·subst e;exact{st,by simp[List.lookup_cons]}
  ·have hb:(f == g)=false:=(-e:)
   let(s,hs):=Yk (l:=l) (f:=f) (by simp![List.map_cons,List.contains_cons,hb,Bool.false_or]at h;exact h)
   exact{s,by rw[List.lookup_cons,hb];exact hs}
def qhV(ok:PgOk U K mg pg){k:Nat}(ih:∀j,j<=k->yw P wd U K mg base pg j){f:Str}{st:Stmt}{fa:Addr}{cdv:Value}{A:Around}{outer:List PySem.Env}{s:Shared}{H:Hp}{E:XK}(S:FnScope (fnN st) (yN st) (qj st))(hr:Room k (A.deeper (envOfC f (qj st) s.heap.objs.size fa cdv))) :
  Gs U K E k (YO (CX1 P wd) P wd K mg base (fnN st) f (qj st) fa cdv A outer s H E) (pg.ct k (clK pg k) st):=
 {ps:=YU λ_ _ _ q=>q
  hN:=rfl
  vis:=λx h=>qcl h
  loc:=λx h=>{Z1 h,.inl rfl}
  glo:=λx h=>by have h:((qj st).names.lookup x == some NameKind.globalImplicit)=true:=h;exact(by simpa using h:(qj st).names.lookup x=some .globalImplicit)
  cf:=λx h=>h
  nd:=S.nd
  calm:=rfl
  hK:=rfl
  room:=hr
  fns:=λg hg=>by let(st',hl):=Yk (l:=pg.defs) hg;let(ga,gd,G1,G2,G3,G4):=(ih k (Nat.le_refl k)).1 g st' hl;exact{ga,gd,yN st',G1,G2,G3,G4}
  blt:=ok.blt
  gl:=ok.gl
  cls:=ok.cls
  flds:=ok.flds
  mts:=λc x f h=>by let(C,fa,fd,st',nm,m1,m2,m3,m4,m5,m6):=ok.mts c x f h;exact{C,fa,fd,_,m1,m2,(ih k (Nat.le_refl k)).2 f st' m3 m4 nm fa fd m5,m6}
  mks:=λf hf=>(ok.mks P wd base k (λj hj=>ih j (Nat.le_of_lt hj)) f hf).imp (λz=>{decide_eq_false z.1,z.2}) id
  xsubs:=ok.xsubs
  subs:=ok.subs
  own:=λ_=>PassesOwn.leaving
  rs:=λ_=>ZU
  ow:=λ_ _=>PassesOwnAt.leaving
  pt:=λ_=>ZW
  ex:=rfl
  stk:=⟨rfl,rfl⟩
  xn0:=ok.xn0
  xhs:=ok.xhs
  sceq:=rfl
  fnk:=S.kind }
def Qx{k:Nat}{fa:Addr}{fd:FuncData}{ps:List Str}{sp sp':Sp}(F:FnOk P wd K mg base (CX1 P wd) k fa fd ps sp)(h:∀vs H Q E,sp' vs H Q E->sp vs H Q E0):FnOk P wd K mg base CX0 k fa fd ps sp':=
 ⟨λvs H Q E q=>F.len vs H Q E0 (h vs H Q E q),λA outer s H args us vs Q E hr he hb hv hs=>codeAny_mono (F.run A outer s H args us vs Q E0 hr he hb hv (h vs H Q E hs)) λr s' q=>by
  cases r with
  |error e=>let(x,T,C,od,H',_,_,_,_,_,_,_,_,_,_,z):=(show CX1 P wd outer H s E0 e s' from q);exact z.elim
  |ok fl=>cases fl<;>exact q⟩
def qac{k:Nat}{st:Stmt}{args:List Ar}{cl:Str->List Ar->R Rv}{Ξ:XW}{g:Rv->Prop}(z:Wx Ξ (evF pg k cl st args) g):(jI st=true/\args.length=(yN st).length)/\
  Wx Ξ (match cSs pg.m (pg.ct k cl st) (qD st) with |some b=>(iSs (pg.ct k cl st).k pg.w b (jb (fnN st) args)).th flR |none=>.no) g:=by
 unfold evF at z;let(hc,z):=Wx.iff z;simp![Bool.and_eq_true,beq_iff_eq]at hc;exact⟨hc,z⟩
def YY(ok:PgOk U K mg pg){k:Nat}(ih:∀j,j<=k->yw P wd U K mg base pg j){nm f:Str}{st:Stmt}{fa:Addr}{fd:FuncData}(F:Fun K nm f st fa fd)(h:(pg.defs++pg.meths).lookup f=some st):FnOk P wd K mg base (CX1 P wd) (k+1) fa fd (yN st) (spF U K (clK pg (k+1)) f):=by
 by_cases hc:jI st=true
 case neg=>
  have no:∀{vs:List V} {H:Hp} {Q:VK} {E:XK},spF U K (clK pg (k+1)) f vs H Q E->False:=λ{vs H Q E} ⟨G,args,_,_,z⟩=>by rw[j9 h]at z;exact hc (qac z).1.1
  exact{λvs H Q E z=>(no z).elim,λA outer s H args us vs Q E _ _ _ _ z=>(no z).elim}
 refine F.okx (y4 hc) (λvs H Q E z=>?_) (λcdv A outer s H vs Q E hr z=>?_)
 ·let(G,args,_,ha,z):=z;rw[j9 h]at z;rw[<-ha.len];exact(qac z).1.2
 ·let(G,args,sub,ha,z):=z;rw[j9 h]at z;have z:=(qac z).2;have gs:Gs U K E k (YO (CX1 P wd) P wd K mg base (fnN st) f (qj st) fa cdv A outer s H E) (pg.ct k (clK pg k) st):=qhV ok ih (y4 hc) hr
  cases hb:cSs pg.m (pg.ct k (clK pg k) st) (qD st) with
  |none=>rw[hb]at z;exact z.elim
  |some b=>
   rw[hb]at z;refine{_,(qhU (w:=pg.w) pg.m _ _ _ gs).ss G H (qD st) b hb,jb (fnN st) args,G,qbH sub ha,Wx.mono (Wx.th z) λfl hf=>?_}
   cases fl with
   |next N=>exactλZ' G' H' er g'=>hf .non G' H' er.base er.g0 er.sub er.fresh (by simp![ReR,Rep])
   |ret r=>exact hf
theorem qfW(ok:PgOk U K mg pg):∀k j:Nat,j<=k->yw P wd U K mg base pg j:=by
 have zero:yw P wd U K mg base pg 0:=by
  refine{λf st h=>?_,λf st h _ nm fa fd F=>{λvs H Q E ⟨G,args,_,_,z⟩=>False.elim z,λA outer s H args us vs Q E _ _ _ _ ⟨G,args',_,_,z⟩=>False.elim z}}
  ·let(fa,fd,F,hm,hb):=ok.fn.mem (PySem.mem_of_lookup h);refine{fa,fd,{λvs H Q E hz2=>?_,λA outer s H args us vs Q E _ _ _ _ ⟨G,args',_,_,z⟩=>False.elim z},hm,F.kp,hb};let(G,args,_,_,z):=hz2;exact False.elim z
 intro k
 induction k with
 |zero=>intro j hj;rw[Nat.le_zero.mp hj];exact zero
 |succ k ih=>
  intro j hj;rcases Nat.lt_or_ge j (k+1) with h|h
  ·exact ih j (Nat.le_of_lt_succ h)
  ·obtain rfl:j=k+1:=Nat.le_antisymm hj h;refine{λf st h=>?_,λf st h h0 nm fa fd F=>?_}
   ·let(fa,fd,F,hm,hb):=ok.fn.mem (PySem.mem_of_lookup h);exact{fa,fd,YY ok ih F (qab h),hm,F.kp,hb}
   ·exact YY ok ih F ((qcu h0).trans h)
theorem Yl(G:Hp):∀ns:List Int,qx U G (ns.map D.int) (ns.map V.int)
 |[]=>.nil
 | n::ns=>.cons (by simp![Rep]) (Yl G ns)
def spL(U:KC)(K:Frag)(pg:Pg)(k:Nat):Sp:=λvs H Q _=>spF U K (clK pg k) "law" vs H Q E0
def qfX{st:Stmt}{k:Nat}{fa:Addr}{fd:FuncData}(ok:PgOk U K mg pg)(F:Fun K "law" "law" st fa fd)(hl:pg.defs.lookup ("law" : Str)=some st)(hp:yN st=(["_law_script"]:List Str)) :
  FnOk P wd K mg base CX0 (k+1) fa fd (["_law_script"]:List Str) (spL U K pg (k+1)):=by
 have:=YY (P:=P) (wd:=wd) (base:=base) ok (qfW ok k) F (qab hl)
 rw[hp]at this;exact Qx this λ_ _ _ _ z=>z
def qfY{k:Nat}{H:Hp}{a:Addr}{ns:List Int}(hq:SqL K H a (ns.map V.int))(h:clK pg k "law" [.scr (ns.map D.int)]=.ok (.val (.bl true))):spL U K pg k [.ref a] H (λv _=>v=.bl true) λ_ _ _=>False:=by
 refine{λ_=>none,[.scr (ns.map D.int)],λ_ _ e=>(by cases e),⟨_,_,rfl,⟨a,_,rfl,hq,Yl _ ns⟩,rfl⟩,?_};rw[h];intro v G' H' _ _ _ _ r
 simpa only[ReR,Rep] using r
end
def qjI(pg:Pg)(k:Nat)(cl:Str->List Ar->R Rv)(st:Stmt):Option (Nat×Nat×Ss):=oif (jI st) ((cSs pg.m (pg.ct k cl st) (qD st)).map λb=>((yN st).length,(fnN st).length,b))
def slN(n:Nat)(args:List Ar):Env:=args.map toSl++List.replicate (n - args.length) .no
def runD(cl:Cl)(w:Nat)(c:Nat×Nat×Ss)(args:List Ar):R Rv:=if args.length=c.1 then (iSs cl w c.2.2 (slN c.2.1 args)).th flR else .no
def Pg.kk(pg:Pg)(k:Nat):Cl:={clK pg k,pg.cs,pg.nw k,decide (2<=k),decide (12<=k)}
@[simp] def qjJ{pg:Pg}{k:Nat}:(pg.kk (k+2)).x=true:=decide_eq_true (Nat.le_add_left 2 k)
def qF{pg:Pg}{f:Str}{st:Stmt}{c:Nat×Nat×Ss}(hl:(pg.defs++pg.meths).lookup f=some st)(hc:∀k cl,qjI pg k cl st=some c)(k:Nat)(args:List Ar):clK pg (k+1) f args=runD (pg.kk k) pg.w c args:=by
 let(h1,h2):=qf (hc k (clK pg k));let(b,h3,rfl):=map_some h2;rw[j9 hl];unfold evF runD
 by_cases hn:args.length=(yN st).length
 ·rw[if_pos (by rw[h1,hn];simp),if_pos hn];rw[h3];rfl
 ·rw[if_neg (by simp[hn]),if_neg hn]
variable{cl:Cl}{w:Nat}
def th_ok{α M:Type}(a:α)(f:α->R M):(R.ok a).th f=f a:=(rfl)
def of_some{α:Type}(a:α):R.of (some a)=.ok a:=(rfl)
def Ym(cl:Cl)(w:Nat)(tg:Tg)(b:Ss)(l:List D)(N:Env):R Fl:=qg0 (λd N1=>(tg.go d N1).th λN2=>iSs cl w b N2) l N
def jw(cl:Cl)(e:E)(tg:Tg)(c:F)(l:List D)(N:Env)(acc:List D):R (List D):=ZY tg.go (λN1=>iF cl c N1) (zK e (iR cl e)) l N acc
def qbI(f:Fl)(g:Env->R Fl):R Fl:=match f with
 |.next N1=>g N1
 |.ret r=>.ok (.ret r)
section
variable(cl:Cl)(w:Nat)(N:Env)
def qbJ(tg:Tg)(b:Ss):Ym cl w tg b [] N=.ok (.next N):=(rfl)
def qad(tg:Tg)(b:Ss)(d:D)(l:List D):Ym cl w tg b (d::l) N=((tg.go d N).th λN2=>iSs cl w b N2).th λf=>qbI f λN1=>Ym cl w tg b l N1:=(rfl)
def Yn(e:E)(tg:Tg)(c:F)(acc:List D):jw cl e tg c [] N acc=.ok acc:=(rfl)
def Q8(e:E)(tg:Tg)(c:F)(d:D)(l acc:List D):jw cl e tg c (d::l) N acc=(tg.go d N).th λN1=>(iF cl c N1).th λbt=>if bt.1=true then (zK e (iR cl e) bt.2).th λx=>if acc.length < sizeLine then jw cl e tg c l x.2 (acc++[x.1]) else .no else jw cl e tg c l bt.2 acc:=(rfl)
def qfZ(i:Nat)(e:E):iS cl w (.app i e) N=(match yI N i with
  |none=>.no
  |some _=>(zK e (iR cl e) N).th λy=>(match yI y.2 i with
   |some l=>if l.length < sizeLine then .ok (.next (y.2.set i (.own (l++[y.1])))) else .no
   |none=>.no)):=(rfl)
def qf0(e:E):iS cl w (.ret e) N=(qbl e (iR cl e) N).th λr=>.ok (.ret r):=(rfl)
def qf1(i:Nat)(e:E):iS cl w (.set i e) N=(Q6 e (iR cl e) N).th λs=>.ok (.next (s.2.set i s.1)):=(rfl)
def qdT(tg:Tg)(e:E):iS cl w (.setT tg e) N=(zK e (iR cl e) N).th λx=>(tg.go x.1 x.2).th λN1=>.ok (.next N1):=(rfl)
def qf2(c:T)(a b:Ss):iS cl w (.ite c a b) N=(iT cl c N).th λt=>if t.1=true then iSs cl w a t.2 else iSs cl w b t.2:=(rfl)
def qf3(tg:Tg)(src:I)(b:Ss):iS cl w (.for_ tg src b) N=(iI cl src N).th λx=>Ym cl w tg b x.1 x.2:=(rfl)
def qg4(cl:Cl)(hs:List (Str×Nat×Nat))(n:Nat)(r:R Fl):R Fl:=match r with
 |.exc C l=>ju cl.cs n C l hs
 |r=>r
def qf4(n:Str)(l:Es):iS cl w (.rai n l) N=(noX (iEs cl l N)).th λx=>mkX cl.x cl.cs n x.1:=(rfl)
def qf5(b:Ss)(hs:List (Str×Nat×Nat)):iS cl w (.try_ b hs) N=qg4 cl hs N.length (iSs cl w b N):=by
 show(match iSs cl w b N with |.exc C l=>_ |r=>r)=_
 cases iSs cl w b N<;>rfl
def qbK(s:S)(l:Ss):iSs cl w (.cons s l) N=(iS cl w s N).th λf=>qbI f λN1=>iSs cl w l N1:=(rfl)
def qf6(op:Operator)(a b:E):iR cl (.bin op a b) N=(iR cl a N).th λx=>(iR cl b x.2).th λy=>(Qm op x.1 y.1).th λr=>.ok (r,y.2):=(rfl)
def qf7(a:E):iR cl (.not a) N=(iR cl a N).th λx=>match x.1 with
  |.val (.bl b)=>.ok (.val (.bl (!b)),x.2)
  |_=>.no:=(rfl)
def qf8(a b:E):iR cl (.and a b) N=(iR cl a N).th λx=>match x.1 with
  |.val (.bl true)=>iR cl b x.2
  |.val (.bl false)=>.ok (.val (.bl false),x.2)
  |_=>.no:=(rfl)
def qhW(a b:E):iR cl (.or a b) N=(iR cl a N).th λx=>match x.1 with
  |.val (.bl false)=>iR cl b x.2
  |.val (.bl true)=>.ok (.val (.bl true),x.2)
  |_=>.no:=(rfl)
def qf9(op:CmpOp)(a b:E):iR cl (.cmp op a b) N=(iR cl a N).th λx=>(iR cl b x.2).th λy=>(R.of (yL op x.1 y.1)).th λr=>.ok (.val (.bl r),y.2):=(rfl)
def qga(a i:E):iR cl (.idx a i) N=(iR cl a N).th λx=>(iR cl i x.2).th λy=>(idxD x.1 y.1).th λr=>.ok (r,y.2):=(rfl)
def qgb(a:E)(lo hi:O):iR cl (.sli a lo hi) N=(iR cl a N).th λx=>(iO cl lo x.2).th λl=>(iO cl hi l.2).th λh=>(sliceD x.1 l.1 h.1).th λr=>.ok (r,h.2):=(rfl)
def qgc(l:Es):iR cl (.lst l) N=(iEs cl l N).th λx=>if x.1.length<=sizeLine then .ok (.tmp x.1,x.2) else .no:=(rfl)
def qgd(l:Es):iR cl (.tup l) N=(iEs cl l N).th λx=>if x.1.length<=sizeLine then .ok (.val (.tup x.1),x.2) else .no:=(rfl)
def qdU(f:Str)(l:Es):iR cl (.call f l) N=(iAs cl l N).th λx=>(cl f x.1).th λr=>.ok (r,x.2):=(rfl)
def qhX(f:B1)(a:E):iR cl (.b1 f a) N=(iR cl a N).th λx=>(f.go x.1).th λr=>.ok (r,x.2):=(rfl)
def qhY(f:B2)(a b:E):iR cl (.b2 f a b) N=(iR cl a N).th λx=>(noX (iR cl b x.2)).th λy=>(f.go x.1 y.1).th λr=>.ok (r,y.2):=(rfl)
def qge(t:Ty)(a:E):iR cl (.isi t a) N=(iR cl a N).th λx=>(R.of (t.go x.1)).th λb=>.ok (.val (.bl b),x.2):=(rfl)
def qgf(t:Str)(a:E):iR cl (.isc t a) N=(noX (iR cl a N)).th λx=>(R.of (Qn cl.cs x.1 t)).th λb=>.ok (.val (.bl b),x.2):=(rfl)
def qgg(a:E)(x:Str):iR cl (.fld a x) N=(noX (iR cl a N)).th λy=>(R.of (qaW cl.cs y.1 x)).th λd=>.ok (.val d,y.2):=(rfl)
def goM(cl:Cl)(x:Str)(l:Es)(v:Rv)(N:Env):Option Str->R (Rv×Env)
 |some f=>(iAs cl l N).th λz=>(cl f (toAr v::z.1)).th λr=>.ok (r,z.2)
 |none=>(noX (iAs cl l N)).th λz=>(noX (bmD x v z.1)).th λr=>.ok (r,z.2)
def qgh(l:Es):iR cl (.fst l) N=(noX (iEs cl l N)).th λx=>(R.of (yM Str.empty x.1)).th λz=>.ok (.val (.str z),x.2):=(rfl)
def qgi(a:E)(x:Str)(l:Es):iR cl (.met a x l) N=(iR cl a N).th λy=>goM cl x l y.1 y.2 (mtD cl.cs y.1 x):=by
 show(iR cl a N).th _=_
 congr 1
def qgj(f:Str)(l:Es):iR cl (.new f l) N=(ifX cl.y (iAs cl l N)).th λx=>(cl.nw f x.1).th λr=>.ok (r,x.2):=(rfl)
def qdV(e:E)(src:I)(tg:Tg)(c:F)(n:Nat)(fr:List Nat):iR cl (.comp e src tg c n fr) N=(iI cl src N).th λx=>if x.1.length<=sizeLine then (noX (jw cl e tg c x.1 (Q5 n fr x.2) [])).th λl=>.ok (.tmp l,x.2) else .no:=(rfl)
def qgk(a:T):iT cl (.not a) N=(iT cl a N).th λt=>.ok (!t.1,t.2):=(rfl)
def qgl(a b:T):iT cl (.and a b) N=(iT cl a N).th λt=>if t.1=true then iT cl b t.2 else .ok (false,t.2):=(rfl)
def qhZ(a b:T):iT cl (.or a b) N=(iT cl a N).th λt=>if t.1=true then .ok (true,t.2) else iT cl b t.2:=(rfl)
def qgm(op:CmpOp)(a b:E):iT cl (.cmp op a b) N=(iR cl a N).th λx=>(iR cl b x.2).th λy=>(R.of (yL op x.1 y.1)).th λr=>.ok (r,y.2):=(rfl)
def qgn(a:E):iT cl (.val a) N=(iR cl a N).th λx=>(R.of (truthD x.1)).th λb=>.ok (b,x.2):=(rfl)
def qbL(e:E)(l:Es):iEs cl (.cons e l) N=(zK e (iR cl e) N).th λx=>(iEs cl l x.2).th λy=>.ok (x.1::y.1,y.2):=(rfl)
def qbM(e:E)(l:Es):iAs cl (.cons e l) N=(iR cl e N).th λx=>(iAs cl l x.2).th λy=>.ok (toAr x.1::y.1,y.2):=(rfl)
def qdW(e:E):iO cl (.some e) N=(iR cl e N).th λx=>match x.1 with
  |.val (.int i)=>.ok (some i,x.2)
  |_=>.no:=(rfl)
def qgo(a:E):iI cl (.seq a) N=(YL a (iR cl a) N).th λx=>.ok (x.1.2,x.2):=(rfl)
def qgp(a:E):iI cl (.rng a) N=(iR cl a N).th λx=>(match x.1.int? with
  |some n=>if zi n=true then .ok (zw 0 n,x.2) else .no
  |none=>.no):=(rfl)
variable(s:Sl)(i:Nat)(d:D)(l:List D)
def slR_s:slR (s::N) (i+1)=slR N i:=(rfl)
def slR_v:slR (.val d::N) 0=.ok (.val d):=(rfl)
def slR_o:slR (.own l::N) 0=.ok (.cell l):=(rfl)
def slR_b:slR (.bor l::N) 0=.ok (.cell l):=(rfl)
def slR_c:slR (.scr l::N) 0=.ok (.scr l):=(rfl)
def slX_s:slX (s::N) (i+1)=slX N i:=(rfl)
def slX_v:slX (.val d::N) 0=.ok (.val d):=(rfl)
def slX_o:slX (.own l::N) 0=.ok (.tmp l):=(rfl)
theorem qh0:slE (s::N) (i+1)=(slE N i).th λx=>.ok (x.1,s::x.2):=by
 show(match N[i]? with |some (.val d)=>_ |some (.own l)=>_ |_=>_)=R.th (match N[i]? with |some (.val d)=>_ |some (.own l)=>_ |_=>_) _
 cases N[i]? with
 |none=>rfl
 |some z=>cases z<;>rfl
theorem qh1:slL (s::N) (i+1)=(slL N i).th λx=>.ok (x.1,s::x.2):=by
 show(match N[i]? with |some (.val (.lst l))=>_ |some (.val (.tup l))=>_ |some (.val (.str z))=>_ |some (.own l)=>_ |some (.bor l)=>_ |some (.scr l)=>_ |_=>_)=R.th (match N[i]? with |some (.val (.lst l))=>_ |some (.val (.tup l))=>_ |some (.val (.str z))=>_ |some (.own l)=>_ |some (.bor l)=>_ |some (.scr l)=>_ |_=>_) _
 cases N[i]? with
 |none=>rfl
 |some z=>
  cases z with
  |val d=>cases d<;>rfl
  |_=>rfl
def ownI_s:yI (s::N) (i+1)=yI N i:=(rfl)
def ownI_o:yI (.own l::N) 0=some l:=(rfl)
end
def Jt{a b:Str}(ha:PyData.strOk a=true)(hb:PyData.strOk b=true):eqD (.str a) (.str b)=some (a == b):=by unfold eqD;simp![toP];rw[show SeqAt.shaped (.str a)=true by unfold SeqAt.shaped;simp[PyData.canLay0,PyData.depth,ha],show SeqAt.shaped (.str b)=true by unfold SeqAt.shaped;simp[PyData.canLay0,PyData.depth,hb]];simp[PyData.eqv]
def qgq(n:Int):SeqAt.shaped (.int n)=true:=by unfold SeqAt.shaped;simp[PyData.canLay0,PyData.depth]
def qgr{a:Str}(ha:PyData.strOk a=true):SeqAt.shaped (.str a)=true:=by unfold SeqAt.shaped;simp[PyData.canLay0,PyData.depth,ha]
def qP(a b:Int):eqD (.int a) (.int b)=some (a == b):=by unfold eqD;simp![toP,qgq,Bool.and_self,if_true,PyData.eqv]
def qdX{α:Type}{l:List α}{i:Int}{j:Nat}(h:i=(j:Int))(hj:j < l.length):atI l i=some l[j]:=by subst h;unfold atI ixN;rw[if_pos (1:),if_pos (1:)];simp[hj]
def kk_f(pg:Pg)(k:Nat)(f:Str)(args:List Ar):(pg.kk k).f f args=clK pg k f args:=(rfl)
def kk_x2(pg:Pg)(k:Nat):(pg.kk (k+2)).x=true:=qjJ
def kk_cs(pg:Pg)(k:Nat):(pg.kk k).cs=pg.cs:=(rfl)
def qgs{α:Type}{l:List α}{j:Nat}{x:α}(h:l[j]?=some x):atI l (j:Int)=some x:=by let(h1,h2):=List.getElem?_eq_some_iff.mp h;rw[qdX rfl h1,h2]
def rgF(i:Int):Nat->List D
 |0=>[]
 | n+1=>.int i::rgF (i+1) n
theorem qcv:∀(n:Nat) (lo:Int) (s:Nat),(List.range' s n).map (λi:Nat=>D.int (lo+i))=rgF (lo+s) n
 |0,_,_=>rfl
 | n+1,lo,s=>by rw[List.range'_succ,List.map_cons,qcv n lo (s+1)];show _=D.int (lo+s)::rgF (lo+s+1) n;rw[show lo+((s+1:Nat):Int)=lo+s+1 by lia]
def zO(lo hi:Int):zw lo hi=rgF lo (hi - lo).toNat:=by
 unfold zw;rw[List.range_eq_range',qcv]
 congr 1
 lia
def qe{α M γ:Type}(x:R α)(f:α->R M)(g:M->R γ):(x.th f).th g=x.th λa=>(f a).th g:=by cases x<;>rfl
def qG{α:Type}(x:R α):x.th R.ok=x:=by cases x<;>rfl
section
variable{M:Type}(cl:Cl)(w:Nat)
def yP(N:Env)(K:Rv×Env->R M)(r:Rv):R M:=K (r,N)
def kBl(N:Env)(K:Rv×Env->R M)(b:Bool):R M:=K (.val (.bl b),N)
def kBo(N:Env)(K:Bool×Env->R M)(b:Bool):R M:=K (b,N)
def qh2(N:Env)(K:Rv×Env->R M)(l:List D):R M:=K (.tmp l,N)
def kB2(op:Operator)(u:Rv)(K:Rv×Env->R M)(y:Rv×Env):R M:=(Qm op u y.1).th (yP y.2 K)
def kB1(op:Operator)(b:E)(K:Rv×Env->R M)(x:Rv×Env):R M:=(iR cl b x.2).th (kB2 op x.1 K)
def kNeg(K:Rv×Env->R M)(x:Rv×Env):R M:=R.th (match x.1 with
  |.val (.int i)=>.ok (.val (.int (-i)),x.2)
  |_=>.no) K
def qiq(K:Rv×Env->R M)(x:Rv×Env):R M:=R.th (match x.1 with
  |.val (.bl b)=>.ok (.val (.bl (!b)),x.2)
  |_=>.no) K
def qir(b:E)(K:Rv×Env->R M)(x:Rv×Env):R M:=R.th (match x.1 with
  |.val (.bl true)=>iR cl b x.2
  |.val (.bl false)=>.ok (.val (.bl false),x.2)
  |_=>.no) K
def kOr(b:E)(K:Rv×Env->R M)(x:Rv×Env):R M:=R.th (match x.1 with
  |.val (.bl false)=>iR cl b x.2
  |.val (.bl true)=>.ok (.val (.bl true),x.2)
  |_=>.no) K
def kC2(op:CmpOp)(u:Rv)(K:Rv×Env->R M)(y:Rv×Env):R M:=(R.of (yL op u y.1)).th (kBl y.2 K)
def kC1(op:CmpOp)(b:E)(K:Rv×Env->R M)(x:Rv×Env):R M:=(iR cl b x.2).th (kC2 op x.1 K)
def kI2(u:Rv)(K:Rv×Env->R M)(y:Rv×Env):R M:=(idxD u y.1).th (yP y.2 K)
def kI1(b:E)(K:Rv×Env->R M)(x:Rv×Env):R M:=(iR cl b x.2).th (kI2 x.1 K)
def kS3(v:Rv)(l:Option Int)(K:Rv×Env->R M)(h:Option Int×Env):R M:=(sliceD v l h.1).th (yP h.2 K)
def kS2(v:Rv)(hi:O)(K:Rv×Env->R M)(l:Option Int×Env):R M:=(iO cl hi l.2).th (kS3 v l.1 K)
def kS1(lo hi:O)(K:Rv×Env->R M)(x:Rv×Env):R M:=(iO cl lo x.2).th (kS2 cl x.1 hi K)
def qis(K:Rv×Env->R M)(x:List D×Env):R M:=if x.1.length<=sizeLine then K (.tmp x.1,x.2) else .no
def qit(K:Rv×Env->R M)(x:List D×Env):R M:=if x.1.length<=sizeLine then K (.val (.tup x.1),x.2) else .no
def qgt(f:Str)(K:Rv×Env->R M)(x:List Ar×Env):R M:=(cl f x.1).th (yP x.2 K)
def kF1(f:B1)(K:Rv×Env->R M)(x:Rv×Env):R M:=(f.go x.1).th (yP x.2 K)
def kG2(f:B2)(u:Rv)(K:Rv×Env->R M)(y:Rv×Env):R M:=(f.go u y.1).th (yP y.2 K)
def kG1(f:B2)(b:E)(K:Rv×Env->R M)(x:Rv×Env):R M:=(noX (iR cl b x.2)).th (kG2 f x.1 K)
def qiu(t:Str)(K:Rv×Env->R M)(x:Rv×Env):R M:=(R.of (Qn cl.cs x.1 t)).th (kBl x.2 K)
def qh3(N:Env)(K:Rv×Env->R M)(d:D):R M:=K (.val d,N)
def qiv(x:Str)(K:Rv×Env->R M)(y:Rv×Env):R M:=(R.of (qaW cl.cs y.1 x)).th (qh3 y.2 K)
def qh4(f:Str)(v:Rv)(K:Rv×Env->R M)(z:List Ar×Env):R M:=(cl f (toAr v::z.1)).th (yP z.2 K)
def qh5(v:Rv)(l:Es)(N:Env)(K:Rv×Env->R M)(f:Str):R M:=(iAs cl l N).th (qh4 cl f v K)
def qh6(x:Str)(v:Rv)(K:Rv×Env->R M)(z:List Ar×Env):R M:=(noX (bmD x v z.1)).th (yP z.2 K)
def qh7(N:Env)(K:Rv×Env->R M)(z:Str):R M:=K (.val (.str z),N)
def qiw(K:Rv×Env->R M)(x:List D×Env):R M:=(R.of (yM Str.empty x.1)).th (qh7 x.2 K)
def qg5(x:Str)(v:Rv)(l:Es)(N:Env)(K:Rv×Env->R M)(o:Option Str):R M:=match o with
 |some f=>qh5 cl v l N K f
 |none=>(noX (iAs cl l N)).th (qh6 x v K)
def qh8(x:Str)(l:Es)(K:Rv×Env->R M)(y:Rv×Env):R M:=qg5 cl x y.1 l y.2 K (mtD cl.cs y.1 x)
def qix(f:Str)(K:Rv×Env->R M)(x:List Ar×Env):R M:=(cl.nw f x.1).th (yP x.2 K)
def qiy(t:Ty)(K:Rv×Env->R M)(x:Rv×Env):R M:=(R.of (t.go x.1)).th (kBl x.2 K)
def qgu(e:E)(tg:Tg)(c:F)(n:Nat)(fr:List Nat)(K:Rv×Env->R M)(x:List D×Env):R M:=if x.1.length<=sizeLine then (noX (jw cl e tg c x.1 (Q5 n fr x.2) [])).th (qh2 x.2 K) else .no
def kTn(K:Bool×Env->R M)(t:Bool×Env):R M:=K (!t.1,t.2)
def kTa(b:T)(K:Bool×Env->R M)(t:Bool×Env):R M:=if t.1=true then (iT cl b t.2).th K else K (false,t.2)
def kTo(b:T)(K:Bool×Env->R M)(t:Bool×Env):R M:=if t.1=true then K (true,t.2) else (iT cl b t.2).th K
def kD2(op:CmpOp)(u:Rv)(K:Bool×Env->R M)(y:Rv×Env):R M:=(R.of (yL op u y.1)).th (kBo y.2 K)
def kD1(op:CmpOp)(b:E)(K:Bool×Env->R M)(x:Rv×Env):R M:=(iR cl b x.2).th (kD2 op x.1 K)
def kTv(K:Bool×Env->R M)(x:Rv×Env):R M:=(R.of (truthD x.1)).th (kBo x.2 K)
def kE2(d:D)(K:List D×Env->R M)(y:List D×Env):R M:=K (d::y.1,y.2)
def kE1(l:Es)(K:List D×Env->R M)(x:D×Env):R M:=(iEs cl l x.2).th (kE2 x.1 K)
def kA2(v:Rv)(K:List Ar×Env->R M)(y:List Ar×Env):R M:=K (toAr v::y.1,y.2)
def kA1(l:Es)(K:List Ar×Env->R M)(x:Rv×Env):R M:=(iAs cl l x.2).th (kA2 x.1 K)
def kO(K:Option Int×Env->R M)(x:Rv×Env):R M:=R.th (match x.1 with
  |.val (.int i)=>.ok (some i,x.2)
  |_=>.no) K
def qiz(K:List D×Env->R M)(x:(Sk×List D)×Env):R M:=K (x.1.2,x.2)
def qiA(K:List D×Env->R M)(x:Rv×Env):R M:=R.th (match x.1.int? with
  |some n=>if zi n=true then .ok (zw 0 n,x.2) else .no
  |none=>.no) K
def qiB(K:D×Env->R M)(x:Rv×Env):R M:=(qdu x).th K
def qdY(K:(Sk×List D)×Env->R M)(x:Rv×Env):R M:=(qg1 x).th K
def kX(K:Rv->R M)(x:Rv×Env):R M:=R.th (match x.1 with
  |.val d=>.ok (.val d)
  |.tmp l=>.ok (.tmp l)
  |_=>.no) K
def kAv(K:Sl×Env->R M)(x:D×Env):R M:=K (.val x.1,x.2)
def kAx(K:Sl×Env->R M)(x:Rv×Env):R M:=R.th (match x.1 with
  |.val d=>.ok (.val d,x.2)
  |.tmp l=>.ok (.own l,x.2)
  |_=>.no) K
def qdZ{α:Type}(s:Sl)(K:α×Env->R M)(x:α×Env):R M:=K (x.1,s::x.2)
def oGo(o:Option (List D))(x:R M):R M:=match o with
 |none=>.no
 |some _=>x
def qd0(i:Nat)(d:D)(N:Env)(K:Fl->R M)(o:Option (List D)):R M:=R.th (match o with
   |some l=>if l.length < sizeLine then .ok (.next (N.set i (.own (l++[d])))) else .no
   |none=>.no) K
def qiC(i:Nat)(K:Fl->R M)(y:D×Env):R M:=qd0 i y.1 y.2 K (yI y.2 i)
def kRt(K:Fl->R M)(r:Rv):R M:=K (.ret r)
def qiD(i:Nat)(K:Fl->R M)(s:Sl×Env):R M:=K (.next (s.2.set i s.1))
def kNx(K:Fl->R M)(N:Env):R M:=K (.next N)
def kST(tg:Tg)(K:Fl->R M)(x:D×Env):R M:=(tg.go x.1 x.2).th (kNx K)
def qiE(a b:Ss)(K:Fl->R M)(t:Bool×Env):R M:=if t.1=true then (iSs cl w a t.2).th K else (iSs cl w b t.2).th K
def qiF(tg:Tg)(b:Ss)(K:Fl->R M)(x:List D×Env):R M:=(Ym cl w tg b x.1 x.2).th K
def qd1(l:Ss)(K:Fl->R M)(f:Fl):R M:=(qbI f λN1=>iSs cl w l N1).th K
def qg6(tg:Tg)(b:Ss)(l:List D)(K:Fl->R M)(f:Fl):R M:=(qbI f λN1=>Ym cl w tg b l N1).th K
def qiG(tg:Tg)(b:Ss)(l:List D)(K:Fl->R M)(N:Env):R M:=(iSs cl w b N).th (qg6 cl w tg b l K)
def kP3(e:E)(tg:Tg)(c:F)(l acc:List D)(K:List D->R M)(x:D×Env):R M:=if acc.length < sizeLine then (jw cl e tg c l x.2 (acc++[x.1])).th K else .no
def kP2(e:E)(tg:Tg)(c:F)(l acc:List D)(K:List D->R M)(t:Bool×Env):R M:=if t.1=true then (zK e (iR cl e) t.2).th (kP3 cl e tg c l acc K) else (jw cl e tg c l t.2 acc).th K
def kP1(e:E)(tg:Tg)(c:F)(l acc:List D)(K:List D->R M)(N:Env):R M:=(iF cl c N).th (kP2 cl e tg c l acc K)
def zZ{α:Type}{c:Prop}[Decidable c](x y:R α)(K:α->R M):(if c then x else y).th K=if c then x.th K else y.th K:=by split<;>rfl
def qE{α:Type}(x:R α){f g:α->R M}(h:∀a,f a=g a):x.th f=x.th g:=by cases x<;>first|rfl|exact h _
section
variable(N:Env)(K:Rv×Env->R M)
def xR_var(i:Nat):(iR cl (.var i) N).th K=(slR N i).th (yP N K):=(qe (slR N i) _ _)
def xR_con(d:D):(iR cl (.con d) N).th K=K (.val d,N):=(rfl)
def xR_bin(op:Operator)(a b:E):(iR cl (.bin op a b) N).th K=(iR cl a N).th (kB1 cl op b K):=by rw[qf6,qe];refine qE _ λx=>?_;rw[qe];refine qE _ λy=>?_;rw[qe];rfl
def xR_not(a:E):(iR cl (.not a) N).th K=(iR cl a N).th (qiq K):=by rw[qf7,qe];rfl
def xR_one(a:E):(iR cl (.one a) N).th K=(iR cl a N).th K:=(rfl)
def xR_and(a b:E):(iR cl (.and a b) N).th K=(iR cl a N).th (qir cl b K):=by rw[qf8,qe];rfl
def xR_or(a b:E):(iR cl (.or a b) N).th K=(iR cl a N).th (kOr cl b K):=by rw[qhW,qe];rfl
def xR_cmp(op:CmpOp)(a b:E):(iR cl (.cmp op a b) N).th K=(iR cl a N).th (kC1 cl op b K):=by rw[qf9,qe];refine qE _ λx=>?_;rw[qe];refine qE _ λy=>?_;rw[qe];rfl
def xR_idx(a b:E):(iR cl (.idx a b) N).th K=(iR cl a N).th (kI1 cl b K):=by rw[qga,qe];refine qE _ λx=>?_;rw[qe];refine qE _ λy=>?_;rw[qe];rfl
def xR_sli(a:E)(lo hi:O):(iR cl (.sli a lo hi) N).th K=(iR cl a N).th (kS1 cl lo hi K):=by rw[qgb,qe];refine qE _ λx=>?_;rw[qe];refine qE _ λy=>?_;rw[qe];refine qE _ λz=>?_;rw[qe];rfl
def xR_lst(l:Es):(iR cl (.lst l) N).th K=(iEs cl l N).th (qis K):=by rw[qgc,qe];refine qE _ λx=>?_;rw[zZ];rfl
def xR_tup(l:Es):(iR cl (.tup l) N).th K=(iEs cl l N).th (qit K):=by rw[qgd,qe];refine qE _ λx=>?_;rw[zZ];rfl
def xR_call(f:Str)(l:Es):(iR cl (.call f l) N).th K=(iAs cl l N).th (qgt cl f K):=by rw[qdU,qe];refine qE _ λx=>?_;rw[qe];rfl
def xR_b1(f:B1)(a:E):(iR cl (.b1 f a) N).th K=(iR cl a N).th (kF1 f K):=by rw[qhX,qe];refine qE _ λx=>?_;rw[qe];rfl
def xR_b2(f:B2)(a b:E):(iR cl (.b2 f a b) N).th K=(iR cl a N).th (kG1 cl f b K):=by rw[qhY,qe];refine qE _ λx=>?_;rw[qe];refine qE _ λy=>?_;rw[qe];rfl
def xR_isc(t:Str)(a:E):(iR cl (.isc t a) N).th K=(noX (iR cl a N)).th (qiu cl t K):=by rw[qgf,qe];refine qE _ λx=>?_;rw[qe];rfl
def xR_fld(a:E)(x:Str):(iR cl (.fld a x) N).th K=(noX (iR cl a N)).th (qiv cl x K):=by rw[qgg,qe];refine qE _ λy=>?_;rw[qe];rfl
theorem xR_met(a:E)(x:Str)(l:Es):(iR cl (.met a x l) N).th K=(iR cl a N).th (qh8 cl x l K):=by
 rw[qgi,qe];refine qE _ λy=>?_;unfold qh8
 cases mtD cl.cs y.1 x with
 |some f=>unfold goM;rw[qe];refine qE _ λz=>?_;rw[qe];rfl
 |none=>unfold goM;rw[qe];refine qE _ λz=>?_;rw[qe];rfl
def xR_fst(l:Es):(iR cl (.fst l) N).th K=(noX (iEs cl l N)).th (qiw K):=by rw[qgh,qe];refine qE _ λx=>?_;rw[qe];rfl
def xR_new(f:Str)(l:Es):(iR cl (.new f l) N).th K=(ifX cl.y (iAs cl l N)).th (qix cl f K):=by rw[qgj,qe];refine qE _ λx=>?_;rw[qe];rfl
def xR_isi(t:Ty)(a:E):(iR cl (.isi t a) N).th K=(iR cl a N).th (qiy t K):=by rw[qge,qe];refine qE _ λx=>?_;rw[qe];rfl
def xR_comp(e:E)(src:I)(tg:Tg)(c:F)(n:Nat)(fr:List Nat):(iR cl (.comp e src tg c n fr) N).th K=(iI cl src N).th (qgu cl e tg c n fr K):=by rw[qdV,qe];refine qE _ λx=>?_;rw[zZ,qe];rfl
def n_ok{α:Type}(a:α):noX (R.ok a)=.ok a:=(rfl)
def n_R(e:E):noX (iR cl e N)=noX ((iR cl e N).th R.ok):=by rw[qG]
def n_Es(l:Es):noX (iEs cl l N)=noX ((iEs cl l N).th R.ok):=by rw[qG]
def ix_tt{α:Type}(r:R α):ifX true r=r:=(rfl)
def n_As(l:Es):noX (iAs cl l N)=noX ((iAs cl l N).th R.ok):=by rw[qG]
theorem n_var(i:Nat):(noX (iR cl (.var i) N)).th K=(slR N i).th (yP N K):=by
 show(noX ((slR N i).th _)).th K=_
 cases e:slR N i with
 |ok r=>rfl
 |no=>rfl
 |exc c l=>unfold slR at e;split at e<;>cases e
end
section
variable(N:Env)(K:Rv×Env->R M)(v u:Rv)
def yRet:yP N K v=K (v,N):=(rfl)
def yBl(b:Bool):kBl N K b=K (.val (.bl b),N):=(rfl)
def yTmp(l:List D):qh2 N K l=K (.tmp l,N):=(rfl)
def yB1(op:Operator)(b:E):kB1 cl op b K (v,N)=(iR cl b N).th (kB2 op v K):=(rfl)
def yB2(op:Operator):kB2 op u K (v,N)=(Qm op u v).th (yP N K):=(rfl)
def yNot(b:Bool):qiq K (.val (.bl b),N)=K (.val (.bl (!b)),N):=(rfl)
def yAnd(b:E)(t:Bool):qir cl b K (.val (.bl t),N)=if t=true then (iR cl b N).th K else K (.val (.bl false),N):=by cases t<;>rfl
def yOr(b:E)(t:Bool):kOr cl b K (.val (.bl t),N)=if t=true then K (.val (.bl true),N) else (iR cl b N).th K:=by cases t<;>rfl
def yC1(op:CmpOp)(b:E):kC1 cl op b K (v,N)=(iR cl b N).th (kC2 op v K):=(rfl)
def yC2(op:CmpOp):kC2 op u K (v,N)=(R.of (yL op u v)).th (kBl N K):=(rfl)
def yI1(b:E):kI1 cl b K (v,N)=(iR cl b N).th (kI2 v K):=(rfl)
def yI2:kI2 u K (v,N)=(idxD u v).th (yP N K):=(rfl)
def yS1(lo hi:O):kS1 cl lo hi K (v,N)=(iO cl lo N).th (kS2 cl v hi K):=(rfl)
def yS2(hi:O)(l:Option Int):kS2 cl v hi K (l,N)=(iO cl hi N).th (kS3 v l K):=(rfl)
def yS3(l h:Option Int):kS3 v l K (h,N)=(sliceD v l h).th (yP N K):=(rfl)
def yLst(l:List D):qis K (l,N)=if l.length<=sizeLine then K (.tmp l,N) else .no:=(rfl)
def yTup(l:List D):qit K (l,N)=if l.length<=sizeLine then K (.val (.tup l),N) else .no:=(rfl)
def yCall(f:Str)(l:List Ar):qgt cl f K (l,N)=(cl f l).th (yP N K):=(rfl)
def yF1(f:B1):kF1 f K (v,N)=(f.go v).th (yP N K):=(rfl)
def yG1(f:B2)(b:E):kG1 cl f b K (v,N)=(noX (iR cl b N)).th (kG2 f v K):=(rfl)
def yG2(f:B2):kG2 f u K (v,N)=(f.go u v).th (yP N K):=(rfl)
def yIsc(t:Str):qiu cl t K (v,N)=(R.of (Qn cl.cs v t)).th (kBl N K):=(rfl)
def yDat(d:D):qh3 N K d=K (.val d,N):=(rfl)
def yFld(x:Str):qiv cl x K (v,N)=(R.of (qaW cl.cs v x)).th (qh3 N K):=(rfl)
def yMt3(f:Str)(l:List Ar):qh4 cl f v K (l,N)=(cl f (toAr v::l)).th (yP N K):=(rfl)
def yMt2(f:Str)(l:Es):qh5 cl v l N K f=(iAs cl l N).th (qh4 cl f v K):=(rfl)
def yMt1(x:Str)(l:Es):qh8 cl x l K (v,N)=qg5 cl x v l N K (mtD cl.cs v x):=(rfl)
def yMtO(x:Str)(l:Es)(f:Str):qg5 cl x v l N K (some f)=qh5 cl v l N K f:=(rfl)
def yMtN(x:Str)(l:Es):qg5 cl x v l N K none=(noX (iAs cl l N)).th (qh6 x v K):=(rfl)
def yMtI(x:Str)(l:List Ar):qh6 x v K (l,N)=(noX (bmD x v l)).th (yP N K):=(rfl)
def yStr(z:Str):qh7 N K z=K (.val (.str z),N):=(rfl)
def yFst(l:List D):qiw K (l,N)=(R.of (yM Str.empty l)).th (qh7 N K):=(rfl)
def bm_s(x a:Str)(as:List Ar):bmD x (.val (.str a)) as=Zl x a as:=(rfl)
def yMts(cs:Cs)(z x:Str):mtD cs (.val (.str z)) x=none:=(rfl)
def sm_split(a b:Str):Zl "split" a [.val (.str b)]=if (b.length == 0)=false/\a.length+2<=sizeLine then .ok (.tmp ((Txt.split a b).map D.str)) else .no:=(rfl)
def sm_part(a b:Str):Zl "partition" a [.val (.str b)]=if (b.length == 0)=false/\a.length<=sizeLine then .ok (.val (.tup [.str (Txt.partition a b).1,.str (Txt.partition a b).2.1,.str (Txt.partition a b).2.2])) else .no:=(rfl)
theorem Yo:∀zs:List Str,Yb (zs.map D.str)=some zs
 |[]=>rfl
 | z::zs=>by show(Yb (zs.map D.str)).map (z :: ·)=_;rw[Yo zs];rfl
def qae{a:Str}{zs:List Str}{ar:Ar}(h:ar=.val (.lst (zs.map D.str))\/ar=.bor (zs.map D.str))(hz:(zs.map (·.length)).sum+zs.length * a.length<=16777216):Zl "join" a [ar]=.ok (.val (.str (Txt.join a zs))):=by
 have e:Q4 "join" a (zs.map D.str)=.ok (.val (.str (Txt.join a zs))):=by unfold Q4;rw[if_pos rfl,Yo];exact if_pos hz
 rcases h with rfl|rfl
 ·exact e
 ·exact e
def qgv{z:Str}{n:Int}(h:PySem.intText? z=some n)(hz:z.length<=640):intD (.val (.str z))=.ok (.val (.int n)):=by show(match PySem.intText? z with |some n=>if z.length<=640 then R.ok (Rv.val (.int n)) else .no |none=>.no)=_;rw[h];exact if_pos hz
def jx(acc:Str):yM acc []=some acc:=(rfl)
def qU{acc z:Str}{l:List D}(h1:z.length<=3000)(h2:(acc++z).length<=sizeLine):yM acc (.str z::l)=yM (acc++z) l:=by show((if z.length<=3000 then some z else none).bind λy=>if (acc++y).length<=sizeLine then yM (acc++y) l else none)=_;rw[if_pos h1];exact if_pos h2
def ya{acc:Str}{n:Int}{l:List D}(h1:n.natAbs.log2 < 1920)(h2:(acc++Str.ofString (toString n)).length<=sizeLine):yM acc (.int n::l)=yM (acc++Str.ofString (toString n)) l:=by show((if n.natAbs.log2 < 1920 then some (Str.ofString (toString n)) else none).bind λy=>if (acc++y).length<=sizeLine then yM (acc++y) l else none)=_;rw[if_pos h1];exact if_pos h2
def yNew(f:Str)(l:List Ar):qix cl f K (l,N)=(cl.nw f l).th (yP N K):=(rfl)
def yIsi(t:Ty):qiy t K (v,N)=(R.of (t.go v)).th (kBl N K):=(rfl)
def yComp(e:E)(tg:Tg)(c:F)(n:Nat)(fr:List Nat)(l:List D):qgu cl e tg c n fr K (l,N)=if l.length<=sizeLine then (noX (jw cl e tg c l (Q5 n fr N) [])).th (qh2 N K) else .no:=(rfl)
end
section
variable(N:Env)(K:Bool×Env->R M)(v u:Rv)(t:Bool)
def xT_not(a:T):(iT cl (.not a) N).th K=(iT cl a N).th (kTn K):=by rw[qgk,qe];rfl
def xT_one(a:T):(iT cl (.one a) N).th K=(iT cl a N).th K:=(rfl)
def xT_and(a b:T):(iT cl (.and a b) N).th K=(iT cl a N).th (kTa cl b K):=by rw[qgl,qe];refine qE _ λt=>?_;rw[zZ];rfl
def xT_or(a b:T):(iT cl (.or a b) N).th K=(iT cl a N).th (kTo cl b K):=by rw[qhZ,qe];refine qE _ λt=>?_;rw[zZ];rfl
def xT_cmp(op:CmpOp)(a b:E):(iT cl (.cmp op a b) N).th K=(iR cl a N).th (kD1 cl op b K):=by rw[qgm,qe];refine qE _ λx=>?_;rw[qe];refine qE _ λy=>?_;rw[qe];rfl
def xT_val(a:E):(iT cl (.val a) N).th K=(iR cl a N).th (kTv K):=by rw[qgn,qe];refine qE _ λx=>?_;rw[qe];rfl
def yBo:kBo N K t=K (t,N):=(rfl)
def yTn:kTn K (t,N)=K (!t,N):=(rfl)
def yTa(b:T):kTa cl b K (t,N)=if t=true then (iT cl b N).th K else K (false,N):=(rfl)
def yTo(b:T):kTo cl b K (t,N)=if t=true then K (true,N) else (iT cl b N).th K:=(rfl)
def yD1(op:CmpOp)(b:E):kD1 cl op b K (v,N)=(iR cl b N).th (kD2 op v K):=(rfl)
def yD2(op:CmpOp):kD2 op u K (v,N)=(R.of (yL op u v)).th (kBo N K):=(rfl)
def yTv:kTv K (v,N)=(R.of (truthD v)).th (kBo N K):=(rfl)
def xF_yes:(iF cl .yes N).th K=K (true,N):=(rfl)
end
section
variable(N:Env)
def xEs_nil(K:List D×Env->R M):(iEs cl .nil N).th K=K ([],N):=(rfl)
def xEs_cons(K:List D×Env->R M)(e:E)(l:Es):(iEs cl (.cons e l) N).th K=(zK e (iR cl e) N).th (kE1 cl l K):=by rw[qbL,qe];refine qE _ λx=>?_;rw[qe];rfl
def yE1(K:List D×Env->R M)(l:Es)(d:D):kE1 cl l K (d,N)=(iEs cl l N).th (kE2 d K):=(rfl)
def yE2(K:List D×Env->R M)(d:D)(ds:List D):kE2 d K (ds,N)=K (d::ds,N):=(rfl)
def xAs_nil(K:List Ar×Env->R M):(iAs cl .nil N).th K=K ([],N):=(rfl)
def xAs_cons(K:List Ar×Env->R M)(e:E)(l:Es):(iAs cl (.cons e l) N).th K=(iR cl e N).th (kA1 cl l K):=by rw[qbM,qe];refine qE _ λx=>?_;rw[qe];rfl
def yA1(K:List Ar×Env->R M)(l:Es)(v:Rv):kA1 cl l K (v,N)=(iAs cl l N).th (kA2 v K):=(rfl)
def yA2(K:List Ar×Env->R M)(v:Rv)(l:List Ar):kA2 v K (l,N)=K (toAr v::l,N):=(rfl)
def xO_none(K:Option Int×Env->R M):(iO cl .none N).th K=K (none,N):=(rfl)
def xO_some(K:Option Int×Env->R M)(e:E):(iO cl (.some e) N).th K=(iR cl e N).th (kO K):=by rw[qdW,qe];rfl
def yO(K:Option Int×Env->R M)(i:Int):kO K (.val (.int i),N)=K (some i,N):=(rfl)
variable(K:List D×Env->R M)
def xI_seq(a:E):(iI cl (.seq a) N).th K=(YL a (iR cl a) N).th (qiz K):=by rw[qgo,qe];rfl
def xI_rng(a:E):(iI cl (.rng a) N).th K=(iR cl a N).th (qiA K):=by rw[qgp,qe];rfl
def ySeq(s:Sk)(l:List D):qiz K ((s,l),N)=K (l,N):=(rfl)
def yRng(n:Int):qiA K (.val (.int n),N)=if zi n=true then K (zw 0 n,N) else .no:=by show R.th (if zi n=true then _ else _) K=_;rw[zZ];rfl
end
section
variable(N:Env)(s:Sl)(i:Nat)(d:D)(l:List D)
def yVal(K:D×Env->R M):qiB K (.val d,N)=K (d,N):=(rfl)
def yValLt(K:(Sk×List D)×Env->R M):qdY K (.val (.tup l),N)=K ((.tup,l),N):=(rfl)
def yValLm(K:(Sk×List D)×Env->R M):qdY K (.tmp l,N)=K ((.lst,l),N):=(rfl)
def yX(K:Rv->R M):kX K (.val d,N)=K (.val d):=(rfl)
def yAv(K:Sl×Env->R M):kAv K (d,N)=K (.val d,N):=(rfl)
def yAx(K:Sl×Env->R M):kAx K (.val d,N)=K (.val d,N):=(rfl)
def yAxt(K:Sl×Env->R M):kAx K (.tmp l,N)=K (.own l,N):=(rfl)
def yCons{α:Type}(K:α×Env->R M)(x:α):qdZ s K (x,N)=K (x,s::N):=(rfl)
def xE_s(K:D×Env->R M):(slE (s::N) (i+1)).th K=(slE N i).th (qdZ s K):=by rw[qh0,qe];rfl
def xE_v(K:D×Env->R M):(slE (.val d::N) 0).th K=K (d,.val d::N):=(rfl)
def xE_o(K:D×Env->R M):(slE (.own l::N) 0).th K=K (.lst l,.val (.lst l)::N):=(rfl)
variable(K:(Sk×List D)×Env->R M)
def xL_s:(slL (s::N) (i+1)).th K=(slL N i).th (qdZ s K):=by rw[qh1,qe];rfl
def xL_l:(slL (.val (.lst l)::N) 0).th K=K ((.lst,l),.val (.lst l)::N):=(rfl)
def xL_z(z:Str):(slL (.val (.str z)::N) 0).th K=K ((.str,qaT z),.val (.str z)::N):=(rfl)
end
section
variable(N:Env)(K:Fl->R M)(i:Nat)
def oGo_some(l:List D)(x:R M):oGo (some l) x=x:=(rfl)
theorem xS_app(e:E):(iS cl w (.app i e) N).th K=oGo (yI N i) ((zK e (iR cl e) N).th (qiC i K)):=by
 rw[qfZ]
 cases yI N i with
 |none=>rfl
 |some l=>show R.th (R.th (zK e (iR cl e) N) _) K=_;rw[qe];rfl
def yApp(d:D):qiC i K (d,N)=qd0 i d N K (yI N i):=(rfl)
def yApp2(d:D)(l:List D):qd0 i d N K (some l)=if l.length < sizeLine then K (.next (N.set i (.own (l++[d])))) else .no:=by show R.th (if l.length < sizeLine then _ else _) K=_;rw[zZ];rfl
def xS_ret(e:E):(iS cl w (.ret e) N).th K=(qbl e (iR cl e) N).th (kRt K):=by rw[qf0,qe];rfl
def yRt(r:Rv):kRt K r=K (.ret r):=(rfl)
def xS_set(e:E):(iS cl w (.set i e) N).th K=(Q6 e (iR cl e) N).th (qiD i K):=by rw[qf1,qe];rfl
def ySet(s:Sl):qiD i K (s,N)=K (.next (N.set i s)):=(rfl)
def xS_setT(tg:Tg)(e:E):(iS cl w (.setT tg e) N).th K=(zK e (iR cl e) N).th (kST tg K):=by rw[qdT,qe];refine qE _ λx=>?_;rw[qe];rfl
def yST(tg:Tg)(d:D):kST tg K (d,N)=(tg.go d N).th (kNx K):=(rfl)
def yNx:kNx K N=K (.next N):=(rfl)
def xS_ite(c:T)(a b:Ss):(iS cl w (.ite c a b) N).th K=(iT cl c N).th (qiE cl w a b K):=by rw[qf2,qe];refine qE _ λt=>?_;rw[zZ];rfl
def yIte(a b:Ss)(t:Bool):qiE cl w a b K (t,N)=if t=true then (iSs cl w a N).th K else (iSs cl w b N).th K:=(rfl)
def xS_for(tg:Tg)(src:I)(b:Ss):(iS cl w (.for_ tg src b) N).th K=(iI cl src N).th (qiF cl w tg b K):=by rw[qf3,qe];rfl
def yFor(tg:Tg)(b:Ss)(l:List D):qiF cl w tg b K (l,N)=(Ym cl w tg b l N).th K:=(rfl)
def qiH(n:Str)(K:Fl->R M)(x:List D×Env):R M:=(mkX cl.x cl.cs n x.1).th K
def xS_rai(n:Str)(l:Es):(iS cl w (.rai n l) N).th K=(noX (iEs cl l N)).th (qiH cl n K):=by rw[qf4,qe];rfl
def yRai(n:Str)(l:List D):qiH cl n K (l,N)=(mkX cl.x cl.cs n l).th K:=(rfl)
def xS_try(b:Ss)(hs:List (Str×Nat×Nat)):(iS cl w (.try_ b hs) N).th K=(qg4 cl hs N.length ((iSs cl w b N).th R.ok)).th K:=by rw[qf5,qG]
def yTry_ok(hs:List (Str×Nat×Nat))(n:Nat)(f:Fl):qg4 cl hs n (.ok f)=.ok f:=(rfl)
def yTry_exc(hs:List (Str×Nat×Nat))(n:Nat)(C:Addr)(l:List (Str×D)):qg4 cl hs n (.exc C l)=ju cl.cs n C l hs:=(rfl)
def th_exc{α:Type}(c:Addr)(l:List (Str×D))(K:α->R M):(R.exc c l:R α).th K=.exc c l:=(rfl)
def xSs_nil:(iSs cl w .nil N).th K=K (.next N):=(rfl)
def xSs_cons(s:S)(l:Ss):(iSs cl w (.cons s l) N).th K=(iS cl w s N).th (qd1 cl w l K):=by rw[qbK,qe];rfl
def yNext(l:Ss):qd1 cl w l K (.next N)=(iSs cl w l N).th K:=(rfl)
def yNextr(l:Ss)(r:Rv):qd1 cl w l K (.ret r)=K (.ret r):=(rfl)
def xFo_cons(tg:Tg)(b:Ss)(d:D)(l:List D):(Ym cl w tg b (d::l) N).th K=(tg.go d N).th (qiG cl w tg b l K):=by rw[qad,qe,qe];refine qE _ λN2=>?_;rfl
def yFo1(tg:Tg)(b:Ss)(l:List D):qiG cl w tg b l K N=(iSs cl w b N).th (qg6 cl w tg b l K):=(rfl)
def yFo2(tg:Tg)(b:Ss)(l:List D):qg6 cl w tg b l K (.next N)=(Ym cl w tg b l N).th K:=(rfl)
def yFo2r(tg:Tg)(b:Ss)(l:List D)(r:Rv):qg6 cl w tg b l K (.ret r)=K (.ret r):=(rfl)
end
section
variable(N:Env)(K:List D->R M)(e:E)(tg:Tg)(c:F)(l acc:List D)(d:D)
def xP_cons:(jw cl e tg c (d::l) N acc).th K=(tg.go d N).th (kP1 cl e tg c l acc K):=by
 rw[Q8,qe];refine qE _ λN1=>?_;rw[qe];refine qE _ λbt=>?_;rw[zZ,qe];show(if bt.1=true then _ else _)=(if bt.1=true then _ else _)
 by_cases h:bt.1=true
 ·rw[if_pos h,if_pos h];refine qE _ λx=>?_;rw[zZ];rfl
 ·rw[if_neg h,if_neg h]
def yP1:kP1 cl e tg c l acc K N=(iF cl c N).th (kP2 cl e tg c l acc K):=(rfl)
def yP2(t:Bool):kP2 cl e tg c l acc K (t,N)=if t=true then (zK e (iR cl e) N).th (kP3 cl e tg c l acc K) else (jw cl e tg c l N acc).th K:=(rfl)
def yP3:kP3 cl e tg c l acc K (d,N)=if acc.length < sizeLine then (jw cl e tg c l N (acc++[d])).th K else .no:=(rfl)
end
end
def vc:E->Bool
 |.var _=>true
 |.con _=>true
 |_=>false
def vc_bin(op:Operator)(a b:E):vc (.bin op a b)=false:=(rfl)
def vc_and(a b:E):vc (.and a b)=false:=(rfl)
def vc_or(a b:E):vc (.or a b)=false:=(rfl)
def vc_cmp(op:CmpOp)(a b:E):vc (.cmp op a b)=false:=(rfl)
def vc_idx(a b:E):vc (.idx a b)=false:=(rfl)
def vc_lst(l:Es):vc (.lst l)=false:=(rfl)
def vc_fst(l:Es):vc (.fst l)=false:=(rfl)
def vc_tup(l:Es):vc (.tup l)=false:=(rfl)
def vc_call(f:Str)(l:Es):vc (.call f l)=false:=(rfl)
def vc_b1(f:B1)(a:E):vc (.b1 f a)=false:=(rfl)
def vc_fld(a:E)(x:Str):vc (.fld a x)=false:=(rfl)
def vc_met(a:E)(x:Str)(l:Es):vc (.met a x l)=false:=(rfl)
def vc_new(f:Str)(l:Es):vc (.new f l)=false:=(rfl)
def vc_comp(e:E)(src:I)(tg:Tg)(c:F)(n:Nat)(fr:List Nat):vc (.comp e src tg c n fr)=false:=(rfl)
section
variable{M:Type}(r:Env->R (Rv×Env))(N:Env)
def eE_g{e:E}(h:vc e=false)(K:D×Env->R M):(zK e r N).th K=(r N).th (qiB K):=by rw[show zK e r N=(r N).th qdu from(by cases e<;>first|rfl|(cases h)),qe];rfl
def eL_g{e:E}(h:vc e=false)(K:(Sk×List D)×Env->R M):(YL e r N).th K=(r N).th (qdY K):=by rw[show YL e r N=(r N).th qg1 from(by cases e<;>first|rfl|(cases h)),qe];rfl
def eX_g{e:E}(h:vc e=false)(K:Rv->R M):(qbl e r N).th K=(r N).th (kX K):=by rw[show qbl e r N=(r N).th λx=>match x.1 with |.val d=>R.ok (.val d) |.tmp l=>.ok (.tmp l) |_=>.no from(by cases e<;>first|rfl|(cases h)),qe];rfl
def eA_g{e:E}(h:vc e=false)(K:Sl×Env->R M):(Q6 e r N).th K=(r N).th (kAx K):=by rw[show Q6 e r N=(r N).th λx=>match x.1 with |.val d=>R.ok (.val d,x.2) |.tmp l=>.ok (.own l,x.2) |_=>.no from(by cases e<;>first|rfl|(cases h)),qe];rfl
def eE_var(K:D×Env->R M)(i:Nat):(zK (.var i) r N).th K=(slE N i).th K:=(rfl)
def eE_con(K:D×Env->R M)(d:D):(zK (.con d) r N).th K=K (d,N):=(rfl)
def eL_var(K:(Sk×List D)×Env->R M)(i:Nat):(YL (.var i) r N).th K=(slL N i).th K:=(rfl)
def eX_var(K:Rv->R M)(i:Nat):(qbl (.var i) r N).th K=(slX N i).th K:=(rfl)
def eX_con(K:Rv->R M)(d:D):(qbl (.con d) r N).th K=K (.val d):=(rfl)
def eA_var(K:Sl×Env->R M)(i:Nat):(Q6 (.var i) r N).th K=(slE N i).th (kAv K):=qe (slE N i) _ _
def eA_con(K:Sl×Env->R M)(d:D):(Q6 (.con d) r N).th K=K (.val d,N):=(rfl)
end
def bAdd(a b:Int):Qm .Add (.val (.int a)) (.val (.int b))=.ok (.val (.int (a+b))):=(rfl)
def bAdds(a b:Str):Qm .Add (.val (.str a)) (.val (.str b))=if a.length+b.length<=sizeLine then .ok (.val (.str (a++b))) else .no:=(rfl)
def bAddct(a b:List D):Qm .Add (.cell a) (.tmp b)=if a.length+b.length<=sizeLine then .ok (.tmp (a++b)) else .no:=(rfl)
def bSub(a b:Int):Qm .Sub (.val (.int a)) (.val (.int b))=.ok (.val (.int (a - b))):=(rfl)
def bMult(a b:Int):Qm .Mult (.val (.int a)) (.val (.int b))=if Ql a b=true then .ok (.val (.int (a * b))) else .no:=(rfl)
def bDiv(a b:Int):Qm .FloorDiv (.val (.int a)) (.val (.int b))=if 0 < b/\b < 1073741824 then .ok (.val (.int (a / b))) else if b < 0/\-1073741824 < b then .ok (.val (.int (a.fdiv b))) else .no:=(rfl)
def bMod(a b:Int):Qm .Mod (.val (.int a)) (.val (.int b))=if 0 < b then .ok (.val (.int (a % b))) else if b < 0 then .ok (.val (.int (a.fmod b))) else .no:=(rfl)
def bPow(a b:Int):Qm .Pow (.val (.int a)) (.val (.int b))=if 0<=b/\b<=1000000/\a.natAbs < 2 ^ 64 then .ok (.val (.int (a ^ b.toNat))) else .no:=(rfl)
def cEq(x y:Rv):yL .Eq x y=eqD x.data y.data:=(rfl)
def cNe(x y:Rv):yL .NotEq x y=(eqD x.data y.data).map (!·):=(rfl)
def cLt(a b:Int):yL .Lt (.val (.int a)) (.val (.int b))=some (decide (a < b)):=(rfl)
def cLe(a b:Int):yL .LtE (.val (.int a)) (.val (.int b))=some (decide (a<=b)):=(rfl)
def cGt(a b:Int):yL .Gt (.val (.int a)) (.val (.int b))=some (decide (b < a)):=(rfl)
def cIs(x:Rv):yL .Is x (.val .non)=some x.non?:=(rfl)
def cIn(x y:Rv):yL .In x y=qaV x y:=(rfl)
def cNi(x y:Rv):yL .NotIn x y=(qaV x y).map (!·):=(rfl)
def mIn(a b:Str):qaV (.val (.str a)) (.val (.str b))=some (qaU a b):=(rfl)
def rgoV(i:Nat)(d:D)(N:Env):Tg.go (.one i) d N=.ok (N.set i (.val d)):=(rfl)
def rgoT(l:List Nat)(ds:List D)(N:Env):Tg.go (.many l) (.tup ds) N=Jl l ds N:=(rfl)
def setIs_nil(N:Env):Jl [] [] N=.ok N:=(rfl)
def setIs_cons(i:Nat)(l:List Nat)(d:D)(ds:List D)(N:Env):Jl (i::l) (d::ds) N=Jl l ds (N.set i (.val d)):=(rfl)
section
variable{α M:Type}(f:α->M)(a b:α)(l m:List α)(n:Nat)
def g_mapc:List.map f (a::l)=f a::List.map f l:=(rfl)
def g_mapn:List.map f []=[]:=(rfl)
def g_lenc:(a::l).length=l.length+1:=(rfl)
def g_lenn:([]:List α).length=0:=(rfl)
def g_rep0:List.replicate 0 a=[]:=(rfl)
def g_reps:List.replicate (n+1) a=a::List.replicate n a:=(rfl)
def g_appc:(a::l)++m=a::(l++m):=(rfl)
def g_appn:[]++m=m:=(rfl)
def g_set0:(a::l).set 0 b=b::l:=(rfl)
def g_sets:(a::l).set (n+1) b=a::l.set n b:=(rfl)
def g_nott:(!true)=false:=(rfl)
def g_notf:(!false)=true:=(rfl)
def g_omap:Option.map f (some a)=some (f a):=(rfl)
def g_fe:(false=true)=False:=Bool.false_eq_true
def g_and(p:Prop):(p/\p)=p:=and_self p
def g_dt(h:Decidable True):@decide True h=true:=decide_true ..
def g_df(h:Decidable False):@decide False h=false:=decide_false ..
end
def aL(b:Bool)(l:List D):Ar:=match b with
 |true=>.bor l
 |false=>.val (.lst l)
def rA(b:Bool)(l:List D):Rv:=match b with
 |true=>.cell l
 |false=>.val (.lst l)
def pS(b:Bool)(l:List D):Sl:=match b with
 |true=>.bor l
 |false=>.val (.lst l)
section
variable{M:Type}(b:Bool)(l:List D)(N:DE.Env)
def sA_p:toSl (aL b l)=pS b l:=by cases b<;>rfl
def sA_R:slR (pS b l::N) 0=.ok (rA b l):=by cases b<;>rfl
def sA_L(K:(Sk×List D)×DE.Env->R M):(slL (pS b l::N) 0).th K=K ((.lst,l),pS b l::N):=by cases b<;>rfl
def rA_l:(rA b l).list?=some l:=by cases b<;>rfl
def rA_s:(rA b l).str?=none:=by cases b<;>rfl
def rA_t:(rA b l).tup?=none:=by cases b<;>rfl
def rA_y:Ty.list.go (rA b l)=some true:=by cases b<;>rfl
end
noncomputable abbrev RW(pg:Pg)(f:Str)(c:Nat×Nat×Ss):Prop:=∀(k:Nat) (args:List Ar),clK pg (k+1) f args=runD (pg.kk k) 1000 c args
noncomputable abbrev USs(b c:Ss):Prop:=∀{M:Type} (cl:Cl) (w:Nat) (N:DE.Env) (K:Fl->R M),(iSs cl w b N).th K=(iSs cl w c N).th K
noncomputable abbrev UE(b c:E):Prop:=∀{M:Type} (cl:Cl) (N:DE.Env) (K:D×DE.Env->R M),(zK b (iR cl b) N).th K=(zK c (iR cl c) N).th K
end DE
namespace DG
open PySem L2 DE
def rk(c:Str):Bool:=c == "Within" || c == "Since" || c == "InRow"
def pcs(x:Xs:={}):Cs where
 toXs:=x
 tab:=["Within","Since","InRow","Book"]
 fld:=λc x=>(rk c&&(x == "lands" || x == "most" || (x == "span" && c == "Within")||(x == "leave" && c != "Within")))||(c == "Book" && (x == "kept_rules" || x == "kept_papers"))
 mt:=λc x=>if rk c&&x == "weight" then some "Rule.weight" else if c == "Book" && x == "rules" then some "Book.rules" else if c == "Book" && x == "lifted" then some "Book.lifted" else if c == "Book" && x == "papers" then some "Book.papers" else none
 sub:=λc t=>if rk c&&t == "Within" then some (c == "Within") else if rk c&&t == "Since" then some (c != "Within") else none
def jy(s:Str):Bool:=decide (1<=s.length)&&decide (s.length<=8)&&s.cps.toList.all λc=>decide (97<=c)&&decide (c<=122)
def YZ:D->Option (Str×Int)
 |.tup [.str s,.int w]=>if jy s&&decide (1<=w)&&decide (w<=9) then some (s,w) else none
 |_=>none
def zH:List Str->List D->Bool
 |_,[]=>true
 | acc,d::l=>match YZ d with
  |some p=>!acc.contains p.1&&zH (acc++[p.1]) l
  |none=>false
def qi(l:List D):Bool:=decide (1<=l.length)&&decide (l.length<=6)&&zH [] l
def btw(n a b:Int):Bool:=decide (a<=n)&&decide (n<=b)
def arL:Ar->Option (List D)
 |.val (.lst l)=>some l
 |.bor l=>some l
 |_=>none
def arI:Ar->Option Int
 |.val (.int n)=>some n
 |_=>none
def jP:List Ar->Option (List (Str×D))
 |[a,b]=>match arL a,arI b with
  |some l,some m=>if (qi l&&btw m 0 1000000000)=true then some [("lands",.tup l),("most",.int m)] else none
  |_,_=>none
 |_=>none
def zo(x:Str):List Ar->Option (List (Str×D))
 |[a,b,c]=>match arL a,arI b,arI c with
  |some l,some m,some s=>if (qi l&&btw m 0 1000000000&&btw s 1 1000000000)=true then some [("lands",.tup l),("most",.int m),(x,.int s)] else none
  |_,_,_=>none
 |_=>none
def Ju:List Ar->Option (List (Str×D))
 |[a,b]=>match arL a,arI b with
  |some l,some m=>if (qi l&&btw m 0 1000000000)=true then some [("lands",.tup l),("most",.int m),("leave",.int 1)] else none
  |_,_=>none
 |_=>none
def yx:Nat×Nat×Ss:=(1,1,%[.ite (.or (.not (.val (.isi Ty.tuple (.var 0)))) (.one (.cmp .NotEq (.b1 .len (.var 0)) (.con (.int 2))))) %[.ret (.con (.bl false))|0] .nil,.ret (.and (.call "is_name" %[.idx (.var 0) (.con (.int 0))|0]) (.one (.call "is_between" %[.idx (.var 0) (.con (.int 1)),.con (.int 1),.con (.int 9)|0])))|0])
noncomputable abbrev z4:Ss:=%[.ite (.or (.not (.val (.call "is_land" %[2|0]))) (.one (.cmp .In (.idx (.var 2) (.con (.int 0))) (.var 1)))) %[.ret (.con (.bl false))|0] .nil,.app 1 (.idx (.var 2) (.con (.int 0)))|0]
def zA:Ss:=z4
def zj:USs zA z4:=λ_ _ _ _=>(rfl)
def zk:Nat×Nat×Ss:=(1,3,%[.ite (.or (.not (.val (.isi Ty.list (.var 0)))) (.or (.cmp .Lt (.b1 .len (.var 0)) (.con (.int 1))) (.one (.cmp .Gt (.b1 .len (.var 0)) (.con (.int 6)))))) %[.ret (.con (.bl false))|0] .nil,.set 1 (.lst .nil),.for_ (.one 2) (.seq (.var 0)) zA,.ret (.con (.bl true))|0])
end DG
namespace FA
open PySem L2 DE DG
def zq:Nat×Nat×Ss:=(2,2,%[.ite (.cmp .Lt (.var 1) (.b1 .len (.var 0))) %[.ret (.idx (.var 0) (.var 1))|0] .nil,.ret (.con (.int 0))|0])
class LC(pg:Pg):Prop where
 r__law_cell_at:RW pg "_law_cell_at" zq
noncomputable abbrev zP:Ss:=%[.set 9 (.bin .Add (.bin .Add (.bin .FloorDiv (.var 0) (.con (.int 64))) (.bin .Mult (.bin .Mult (.con (.int 5)) (.var 8)) (.var 8))) (.bin .Mult (.bin .Mult (.con (.int 3)) (.var 6)) (.b1 .int (.cmp .Eq (.var 8) (.var 4))))),.set 7 (.bin .Add (.var 7) (.idx (.var 2) (.bin .Mod (.var 9) (.con (.int 26)))))|0]
def qV:Ss:=zP
def jZ:USs qV zP:=λ_ _ _ _=>(rfl)
noncomputable abbrev zQ:Ss:=%[.set 7 (.con (.str "")),.for_ (.one 8) (.rng (.var 3)) qV,.app 5 (.var 7)|0]
def zr:Ss:=zQ
def j0:USs zr zQ:=λ_ _ _ _=>(rfl)
def jQ:Nat×Nat×Ss:=(2,10,%[.set 2 (.con (.str "abcdefghijklmnopqrstuvwxyz")),.set 3 (.bin .Add (.con (.int 1)) (.bin .Mod (.var 0) (.con (.int 8)))),.set 4 (.bin .Mod (.bin .FloorDiv (.var 0) (.con (.int 8))) (.var 3)),.set 5 (.lst .nil),.for_ (.one 6) (.rng (.var 1)) zr,.ret (.var 5)|0])
class LN(pg:Pg):Prop where
 r__law_lands:RW pg "_law_lands" jQ
end FA
namespace DG
open PySem L2 DE
section
variable{pg:Pg}
def Jv(c:Nat):Prop:=97<=c/\c < 123
structure NameOk(z:Str):Prop where
 one:1<=z.cps.size
 eight:z.cps.size<=8
 lets:∀c∈z.cps.toList,Jv c
end
def NameOk.of{z:Str}(h:jy z=true):NameOk z:=by
 unfold jy at h;simp![Bool.and_eq_true,decide_eq_true_eq,List.all_eq_true]at h;refine{h.1.1,h.1.2,λc hc=>?_}
 have:=h.2 c hc
 unfold Jv
 lia
theorem qgw(d:D):(YZ d).elim True λp=>d=.tup [.str p.1,.int p.2]/\NameOk p.1/\1<=p.2/\p.2<=9:=by
 cases d with
 |tup l=>cases l with
  |nil=>exact True.intro
  |cons a l=>cases a with
   |str x=>cases l with
    |nil=>exact True.intro
    |cons b l=>cases b with
     |int y=>cases l with
      |nil=>
       show(if (jy x&&decide (1<=y)&&decide (y<=9))=true then some (x,y) else none).elim True _
       by_cases hc:(jy x&&decide (1<=y)&&decide (y<=9))=true
       ·rw[if_pos hc];simp![Bool.and_eq_true,decide_eq_true_eq]at hc;exact{rfl,NameOk.of hc.1.1,hc.1.2,hc.2}
       ·rw[if_neg hc];exact True.intro
      |cons _ _=>exact True.intro
     |_=>exact True.intro
   |_=>exact True.intro
 |_=>exact True.intro
def Qy{d:D}{p:Str×Int}(h:YZ d=some p):d=.tup [.str p.1,.int p.2]/\NameOk p.1/\1<=p.2/\p.2<=9:=by have b:=qgw d;rw[h]at b;exact b
def qbN(s:Str)(acc:List Str):inD (.str s) (acc.map D.str)=some (acc.contains s):=by
 have e:∀acc:List Str,inV (V.str s) (acc.map V.str)=acc.contains s:=by
  intro acc
  induction acc with
  |nil=>rfl
  |cons z l ih=>
   rw[List.map_cons,List.contains_cons,<-ih];show(eqV (V.str z) (V.str s)||_)=_
   congr 1
   exact BEq.comm
 unfold inD;rw[if_pos (by simp[jY]),show(acc.map D.str).map flV=acc.map V.str by simp[flV]];exact congrArg some (e acc)
def Yp(s:Str)(acc:List Str):qaV (.val (.str s)) (.cell (acc.map D.str))=some (acc.contains s):=qbN s acc
end DG
namespace FA
open PySem L2 DE DG
open LC LN
def Qz{i j:Int}(h1:-(2 ^ 64) < j)(h2:j < 2 ^ 64):Ql i j=true:=by unfold Ql;rw[decide_eq_true h1,decide_eq_true h2];simp
def qcw{i j:Int}(h1:-(2 ^ 64) < i)(h2:i < 2 ^ 64):Ql i j=true:=by unfold Ql;rw[decide_eq_true h1,decide_eq_true h2];simp
def zI(ns:List Int)(i:Nat):Int:=ns.getD i 0
section
variable{pg:Pg}[LC pg]
def Y0(k:Nat)(ns:List Int)(i:Nat):clK pg (k+1) "_law_cell_at" [.scr (ns.map D.int),.val (.int (i:Int))]=.ok (.val (.int (zI ns i))):=by
 rw[r__law_cell_at]
 by_cases h:i < ns.length
 ·have h1:(i:Int) < ((ns.map D.int).length:Int):=by rw[List.length_map];lia
  have h2:atI (ns.map D.int) (i:Int)=some (.int (zI ns i)):=qgs (by simp[h,zI]);simp?![zq,Nat.reduceAdd,Nat.reduceSub,h1,h2,decide_true]
 ·have h1:¬ (i:Int) < ((ns.map D.int).length:Int):=by rw[List.length_map];lia
  have h2:zI ns i=0:=by simp[zI,h]
  simp?![zq,Nat.reduceAdd,Nat.reduceSub,h1,h2,decide_false]
end
def qgx(i:Int)(h0:0<=i)(h1:i < 26):atI (Str.cps "abcdefghijklmnopqrstuvwxyz").toList i=some (97+i.toNat)/\Jv (97+i.toNat):=by
 have key:∀j:Fin 26,atI (Str.cps "abcdefghijklmnopqrstuvwxyz").toList (j.val:Int)=some (97+j.val):=(3:)
 let(j,rfl):=Int.eq_ofNat_of_zero_le h0;exact{key {j,by lia},by unfold Jv;simp;lia}
def qbO(z:Str)(c:Nat):(z++(⟨#[c]⟩:Str)).cps.toList=z.cps.toList++[c]:=by show(z.cps ++ #[c]).toList=_;simp
def ltr(cell at' k:Int)(j:Nat):Nat:=97+((cell / 64+5 * (j:Int) * (j:Int)+3 * k * (if ((j:Int) == at')=true then 1 else 0)) % 26).toNat
def qd2(cell at' k:Int)(j:Nat):Jv (ltr cell at' k j):=by
 unfold Jv ltr
 lia
def Nm(cell at' k:Int)(j:Nat)(z:Str):Prop:=z.cps.toList=(List.range j).map (ltr cell at' k)
def Nm.ok{cell at' k:Int}{m:Nat}{z:Str}(h:Nm cell at' k m z)(h1:1<=m)(h8:m<=8):NameOk z:=by
 have e:z.cps.size=m:=by rw[<-Array.length_toList,h];simp
 refine{by lia,by lia,λc hc=>?_};rw[h]at hc;let(j,_,rfl):=List.mem_map.mp hc;exact qd2 ..
def Q9(cl:Cl)(v1 v3 v5 s9:Sl)(cell at' k:Int)(j:Nat)(z:Str)(hj:j < 8)(hz:z.cps.size < 8) :
  ∃s9',iSs cl 1000 qV [.val (.int cell),v1,.val (.str "abcdefghijklmnopqrstuvwxyz"),v3,.val (.int at'),v5,.val (.int k),.val (.str z),.val (.int j),s9]=.ok (.next [.val (.int cell),v1,.val (.str "abcdefghijklmnopqrstuvwxyz"),v3,.val (.int at'),v5,.val (.int k),.val (.str (z++(⟨#[ltr cell at' k j]⟩:Str))),.val (.int j),s9']):=by
 have m1:Ql 5 (j:Int)=true:=qcw (2:) (2:);have m2:Ql (5 * (j:Int)) (j:Int)=true:=Qz (1:) (1:);have m3:Ql 3 k=true:=qcw (2:) (2:);have m4:Ql (3 * k) (if ((j:Int) == at')=true then 1 else 0)=true:=Qz (by split<;>decide) (by split<;>decide);have h1:=(qgx ((cell / 64+5 * j * j+3 * k * (if ((j:Int) == at')=true then 1 else 0)) % 26) (Int.emod_nonneg _ (2:)) (Int.emod_lt_of_pos _ (2:))).1
 have hl:z.length+(⟨#[ltr cell at' k j]⟩:Str).length<=sizeLine:=by
  show z.cps.size+1<=2 ^ 24
  lia
 have h26:("abcdefghijklmnopqrstuvwxyz" : Str).length<=sizeLine:=(3:)
 refine{.val (.int (cell / 64+5 * j * j+3 * k * (if ((j:Int) == at')=true then 1 else 0))),?_};unfold ltr at hl ⊢;simp?[jZ,m1,m2,m3,m4,qP,h1,hl,h26]
theorem qbP(cl:Cl)(v1 v3 v5:Sl)(cell at' k:Int)(n:Nat):∀(j:Nat) (z:Str) (s8 s9:Sl),j+n<=8->Nm cell at' k j z->
  ∃z' s8' s9',Ym cl 1000 (.one 8) qV (rgF (j:Int) n) [.val (.int cell),v1,.val (.str "abcdefghijklmnopqrstuvwxyz"),v3,.val (.int at'),v5,.val (.int k),.val (.str z),s8,s9]=.ok (.next [.val (.int cell),v1,.val (.str "abcdefghijklmnopqrstuvwxyz"),v3,.val (.int at'),v5,.val (.int k),.val (.str z'),s8',s9'])/\Nm cell at' k (j+n) z':=by
 induction n with
 |zero=>exactλj z s8 s9 _ hz=>⟨z,s8,s9,rfl,hz⟩
 |succ n ih=>
  intro j z s8 s9 hn hz;have sz:z.cps.size=j:=by rw[<-Array.length_toList,hz];simp
  let(t9,st):=Q9 cl v1 v3 v5 s9 cell at' k j z (1:) (1:)
  let(z',s8',s9',ih,e1):=ih (j+1) (z++(⟨#[ltr cell at' k j]⟩:Str)) (.val (.int j)) t9 (1:) (by
   unfold Nm at hz ⊢;rw[qbO,hz,List.range_succ,List.map_append]
   rfl)
  refine{z',s8',s9',?_,by rw[show j+(n+1)=j+1+n by lia];exact e1};rw[show((j+1:Nat):Int)=(j:Int)+1 from by lia]at ih;refine(qG _).symm.trans ?_;rw[rgF];simp![xFo_cons,rgoV,List.set_cons_succ,List.set_cons_zero,th_ok,yFo1,st,yFo2,ih]
def Nms(cell at':Int)(m:Nat)(zs:List Str):Prop:=∀(i:Nat) (z:Str),zs[i]?=some z->Nm cell at' (i:Int) m z
theorem Yq(cl:Cl)(v1:Sl)(cell at':Int)(m:Nat)(hm:1<=m/\m<=8):∀(n:Nat) (zs:List Str) (s6 s7 s8 s9:Sl),zs.length+n < 1000->Nms cell at' m zs->
  ∃(zs':List Str) (s6' s7' s8' s9':Sl),Ym cl 1000 (.one 6) zr (rgF (zs.length:Int) n) [.val (.int cell),v1,.val (.str "abcdefghijklmnopqrstuvwxyz"),.val (.int (m:Int)),.val (.int at'),.own (zs.map D.str),s6,s7,s8,s9]=.ok (.next [.val (.int cell),v1,.val (.str "abcdefghijklmnopqrstuvwxyz"),.val (.int (m:Int)),.val (.int at'),.own (zs'.map D.str),s6',s7',s8',s9'])/\zs'.length=zs.length+n/\Nms cell at' m zs'
 |0,zs,s6,s7,s8,s9,_,hz=>⟨zs,s6,s7,s8,s9,rfl,rfl,hz⟩
 | n+1,zs,s6,s7,s8,s9,hl,hz=>by
  let(z,s8',s9',e,h1):=qbP cl v1 (.val (.int (m:Int))) (.own (zs.map D.str)) cell at' (zs.length:Int) m 0 "" s8 s9 (1:) rfl;rw[Nat.zero_add]at h1
  let(zs',t6,t7,t8,t9,ih,h3,h4):=Yq cl v1 cell at' m hm n (zs++[z]) (.val (.int (zs.length:Int))) (.val (.str z)) s8' s9' (by simp;lia) (λi x hx=>by
   by_cases q:i < zs.length
   ·rw[List.getElem?_append_left q]at hx;exact hz i x hx
   ·rw[List.getElem?_append_right (1:)]at hx
    have:i - zs.length=0:=by
     have:=(List.getElem?_eq_some_iff.mp hx).1
     simp at this
     lia
    rw[this]at hx;simp at hx;subst hx
    have:i=zs.length:=by lia
    subst this;exact h1)
  refine{zs',t6,t7,t8,t9,?_,by rw[h3];simp;lia,h4}
  have hs:zi (m:Int)=true:=by
   unfold zi;simp
   lia
  have hz':(zs.map D.str).length < sizeLine:=by
   rw[List.length_map];show _ < 2 ^ 24
   lia
  rw[List.length_append,List.length_singleton,show((zs.length+1:Nat):Int)=(zs.length:Int)+1 from by lia]at ih;refine(qG _).symm.trans ?_;rw[rgF];rw[show((0:Nat):Int)=0 from rfl]at e;simp![List.map_append,List.map_cons,List.map_nil]at ih;simp?![j0,hs,zO,Int.sub_zero,Int.toNat_natCast,e,hz',ih]
end FA
namespace DE
open PySem L2
def isX(n t:Str):Bool:=t == n||t == "DayError"
def qcx(l:List (Str×Addr×List Str))(er:List (Str×Addr)):Xs where
 xa n:=((l.lookup n).map (·.1)).getD 0
 xn n:=(l.lookup n).map (·.2)
 xs C t:=(l.find? λe=>e.2.1 == C).bind λe=>if t == "ValueError" then some true else (er.lookup t).map λ_=>isX e.1 t
 xg C x:=l.any λe=>e.2.1 == C&&e.2.2.contains x
end DE
namespace DG
open PySem L2 DE
def kvS(d:D):Bool:=match kvD d with
 |some p=>decide (p.1.length<=3000)
 |none=>false
def wfR:List Ar->Bool
 |[a,b]=>(match arL a with |some l=>l.all kvS |none=>false)&&(arI b).isSome
 |_=>false
def wfK:List Ar->Bool
 |[a,b,c]=>wfR [a,b]&&(arI c).isSome
 |_=>false
def jc(X:Addr)(c:Str)(w:Bool):Option (List (Str×D))->R Rv
 |some fs=>.ok (.val (.ins c (fs.map (·.1)) (fs.map (·.2))))
 |none=>if w=true then .exc X [] else .no
def qbQ(X:Addr)(k:Nat)(f:Str)(args:List Ar):R Rv:=if k < 12 then .no else
 if f = "Within" then jc X "Within" (wfK args) (zo "span" args) else if f = "Since" then jc X "Since" (wfK args) (zo "leave" args) else if f = "InRow" then jc X "InRow" (wfR args) (Ju args) else .no
end DG
namespace K13
open PySem L2 DE DG FA
def top(i:Nat):Stmt:=PySem.Challenge.pw_daysgate_k13_texts_that_are_none.main.body.getD i (.Pass ⟨0,0,0,0⟩)
def mem(i j:Nat):Stmt:=(qc8 (top i)).getD j (.Pass ⟨0,0,0,0⟩)
def xE:List (Str×Addr×List Str):=[("NoRule",72,[]),("NoText",165,[])]
def xR:List (Str×Addr):=[("DayError",59),("NoRule",72),("NoPaper",91),("NoStay",110),("NotLet",129),("NoWish",141),("NoDeed",153),("NoText",165),("NoRow",177)]
def qgy:Cs:={ tab:=["Within","Since","InRow"],fld:=λc x=>rk c&&(x == "lands" || x == "most" || (x == "span" && c == "Within")||(x == "leave" && c != "Within")),mt:=λc x=>if rk c&&x == "weight" then some "Rule.weight" else if c == "Within" && x == "line" then some "Within.line" else if c == "Since" && x == "line" then some "Since.line" else if c == "InRow" && x == "line" then some "InRow.line" else none,sub:=λc t=>if rk c&&t == "Within" then some (c == "Within") else if rk c&&t == "Since" then some (c != "Within") else if rk c&&t == "InRow" then some (c == "InRow") else none,toXs:=qcx xE xR }
def pg:Pg:={ defs:=[(("is_whole" : Str),top 6),(("is_between" : Str),top 7),(("is_made_of" : Str),top 8),(("is_name" : Str),top 9),(("is_written_number" : Str),top 10),(("is_land" : Str),top 24),(("are_lands" : Str),top 25),(("line_of" : Str),top 30),(("read_number" : Str),top 31),(("read_lands" : Str),top 32),(("rule_of" : Str),top 33),(("read_rule" : Str),top 34),(("_law_cell_at" : Str),top 36),(("_law_lands" : Str),top 37),(("_law_number" : Str),top 38),(("_law_rule" : Str),top 39),(("_law_line" : Str),top 40),(("_law_said" : Str),top 41),(("_law_odd" : Str),top 42),(("law" : Str),top 43)],gl:=λx=>if x = "GREATEST" then some (.int 1000000000) else if x = "LETTERS" then some (.str "abcdefghijklmnopqrstuvwxyz") else if x = "LONGEST_NAME" then some (.int 8) else if x = "FIGURES" then some (.str "0123456789") else if x = "MOST_FIGURES" then some (.int 10) else if x = "MOST_LANDS" then some (.int 6) else if x = "GREATEST_WEIGHT" then some (.int 9) else none,m:=40,w:=1000,meths:=[("Rule.weight",mem 26 1),("Within.line",mem 27 1),("Since.line",mem 28 1),("InRow.line",mem 29 1)],cs:=qgy,nw:=qbQ 72 }
instance:FA.LC pg:={%[36|1]}
instance:FA.LN pg:={%[37|1]}
def y6:Nat×Nat×Ss:=(1,1,%[.ret (.and (.isi Ty.int (.var 0)) (.one (.not (.isi Ty.bool (.var 0)))))|0])
def Za:RW pg "is_whole" y6:=%[6|1]
def zp:Nat×Nat×Ss:=(3,3,%[.ret (.and (.call "is_whole" %[0|0]) (.and (.cmp .LtE (.var 1) (.var 0)) (.one (.cmp .LtE (.var 0) (.var 2)))))|0])
def Yr:RW pg "is_between" zp:=%[7|1]
noncomputable abbrev zR:Ss:=%[.ite (.cmp .NotIn (.var 2) (.var 1)) %[.ret (.con (.bl false))|0] .nil|0]
def zt:Ss:=zR
def zJ:USs zt zR:=λ_ _ _ _=>(rfl)
def zS:Nat×Nat×Ss:=(2,3,%[.for_ (.one 2) (.seq (.var 0)) zt,.ret (.con (.bl true))|0])
def Ys:RW pg "is_made_of" zS:=%[8|1]
def jz:Nat×Nat×Ss:=(1,1,%[.ite (.not (.val (.isi Ty.str (.var 0)))) %[.ret (.con (.bl false))|0] .nil,.ret (.and (.cmp .LtE (.con (.int 1)) (.b1 .len (.var 0))) (.and (.cmp .LtE (.b1 .len (.var 0)) (.con (.int 8))) (.one (.call "is_made_of" %[0,.con (.str "abcdefghijklmnopqrstuvwxyz")|0]))))|0])
def qaf:RW pg "is_name" jz:=%[9|1]
def qu:Nat×Nat×Ss:=(1,1,%[.ite (.or (.cmp .Lt (.b1 .len (.var 0)) (.con (.int 1))) (.one (.cmp .Gt (.b1 .len (.var 0)) (.con (.int 10))))) %[.ret (.con (.bl false))|0] .nil,.ite (.and (.cmp .Eq (.idx (.var 0) (.con (.int 0))) (.con (.str "0"))) (.one (.cmp .Gt (.b1 .len (.var 0)) (.con (.int 1))))) %[.ret (.con (.bl false))|0] .nil,.ret (.call "is_made_of" %[0,.con (.str "0123456789")|0])|0])
def jd:RW pg "is_written_number" qu:=%[10|1]
def qag:RW pg "is_land" yx:=%[24|1]
def Y1:RW pg "are_lands" zk:=%[25|1]
abbrev jR:E:=(.fst %[0,.con (.str " "),1|0])
def je:E:=jR
def Jw:UE je jR:=λ_ _ _=>(rfl)
def Yt:Nat×Nat×Ss:=(2,4,%[.set 2 (.fld (.var 1) "most"),.set 3 (.met (.con (.str ", ")) "join" %[.comp je (.seq (.fld (.var 1) "lands")) (.many [0,1]) .yes 2 []|0]),(.ret (.fst %[0,.con (.str " most "),2,(.con (.str ": ")),3|0]))|0])
def qah:RW pg "line_of" Yt:=%[30|1]
def zB:Nat×Nat×Ss:=(1,1,%[(.ite (.not (.val (.call "is_written_number" %[0|0]))) %[(.rai "NoText" %[(.fst %[(.con (.str "no number: ")),.b1 .rpr (.var 0)|0])|0])|0] .nil),.ret (.b1 .int (.var 0))|0])
def Jx:RW pg "read_number" zB:=%[31|1]
noncomputable abbrev zT:Ss:=%[.set 3 (.met (.var 2) "split" %[.con (.str " ")|0]),(.ite (.cmp .NotEq (.b1 .len (.var 3)) (.con (.int 2))) %[(.rai "NoText" %[(.fst %[(.con (.str "no name and weight: ")),.b1 .rpr (.var 2)|0])|0])|0] .nil),.app 1 (.tup %[.idx (.var 3) (.con (.int 0)),.call "read_number" %[.idx (.var 3) (.con (.int 1))|0]|0])|0]
def zu:Ss:=zT
def qZ:USs zu zT:=λ_ _ _ _=>(rfl)
def zU:Nat×Nat×Ss:=(1,4,%[.set 1 (.lst .nil),.for_ (.one 2) (.seq (.met (.var 0) "split" %[.con (.str ", ")|0])) zu,.ret (.var 1)|0])
def Yu:RW pg "read_lands" zU:=%[32|1]
def qr:Nat×Nat×Ss:=(2,2,%[.ite (.and (.cmp .Eq (.b1 .len (.var 0)) (.con (.int 3))) (.and (.cmp .Eq (.idx (.var 0) (.con (.int 0))) (.con (.str "row"))) (.one (.cmp .Eq (.idx (.var 0) (.con (.int 1))) (.con (.str "most")))))) %[.ret (.new "InRow" %[1,.call "read_number" %[.idx (.var 0) (.con (.int 2))|0]|0])|0] .nil,.ite (.and (.cmp .Eq (.b1 .len (.var 0)) (.con (.int 4))) (.and (.cmp .Eq (.idx (.var 0) (.con (.int 0))) (.con (.str "within"))) (.one (.cmp .Eq (.idx (.var 0) (.con (.int 2))) (.con (.str "most")))))) %[.ret (.new "Within" %[1,.call "read_number" %[.idx (.var 0) (.con (.int 3))|0],.call "read_number" %[.idx (.var 0) (.con (.int 1))|0]|0])|0] .nil,.ite (.and (.cmp .Eq (.b1 .len (.var 0)) (.con (.int 4))) (.and (.cmp .Eq (.idx (.var 0) (.con (.int 0))) (.con (.str "since"))) (.one (.cmp .Eq (.idx (.var 0) (.con (.int 2))) (.con (.str "most")))))) %[.ret (.new "Since" %[1,.call "read_number" %[.idx (.var 0) (.con (.int 3))|0],.call "read_number" %[.idx (.var 0) (.con (.int 1))|0]|0])|0] .nil,.rai "NoText" %[.con (.str "no rule begins like this")|0]|0])
def qai:RW pg "rule_of" qr:=%[33|1]
def jf:Nat×Nat×Ss:=(1,2,%[.ite (.not (.val (.isi Ty.str (.var 0)))) %[.rai "NoText" %[.con (.str "no text")|0]|0] .nil,(.set 1 (.met (.var 0) "partition" %[(.con (.str ": "))|0])),.tryR "rule_of" (Xa.leaf (.met (.idx (.var 1) (.con (.int 0))) "split" %[.con (.str " ")|0]) (Xa.call "read_lands" %[.idx (.var 1) (.con (.int 2))|0] Xa.nil)) "NoRule" "NoText" 0|0])
def Y2:RW pg "read_rule" jf:=%[34|1]
def zC:Nat×Nat×Ss:=(2,2,%[.ite (.cmp .Eq (.bin .Mod (.var 0) (.con (.int 5))) (.con (.int 0))) %[.ret (.bin .Mod (.bin .FloorDiv (.var 0) (.con (.int 5))) (.bin .Add (.var 1) (.con (.int 1))))|0] .nil,.ret (.bin .Mod (.bin .FloorDiv (.var 0) (.con (.int 5))) (.b2 .min (.con (.int 31)) (.bin .Add (.var 1) (.con (.int 1)))))|0])
def Jy:RW pg "_law_number" zC:=%[38|1]
noncomputable abbrev z5:Ss:=%[.app 4 (.tup %[.idx (.var 1) (.bin .Mod (.bin .Add (.bin .FloorDiv (.var 2) (.con (.int 18))) (.var 5)) (.b1 .len (.var 1))),.bin .Add (.con (.int 1)) (.bin .Mod (.bin .FloorDiv (.bin .FloorDiv (.var 2) (.con (.int 108))) (.bin .Add (.var 5) (.con (.int 1)))) (.idx (.lst %[.con (.int 9),.con (.int 2),.con (.int 2)|0]) (.bin .Mod (.bin .Add (.var 2) (.var 5)) (.con (.int 3)))))|0])|0]
def zD:Ss:=z5
def yz:USs zD z5:=λ_ _ _ _=>(rfl)
def zE:Nat×Nat×Ss:=(2,8,%[.set 2 (.bin .Mod (.bin .Mult (.var 0) (.con (.int 1099087573))) (.con (.int 10000000000037))),.set 3 (.bin .Add (.con (.int 1)) (.bin .Mod (.bin .FloorDiv (.var 2) (.con (.int 3))) (.b1 .len (.var 1)))),.set 4 (.lst .nil),.for_ (.one 5) (.rng (.var 3)) zD,.set 6 (.call "_law_number" %[.bin .FloorDiv (.var 2) (.con (.int 972)),.bin .Pow (.con (.int 10)) (.con (.int 9))|0]),.set 7 (.bin .Add (.con (.int 1)) (.call "_law_number" %[.bin .FloorDiv (.var 2) (.con (.int 30132)),.bin .Sub (.bin .Pow (.con (.int 10)) (.con (.int 9))) (.con (.int 1))|0])),.ite (.cmp .Eq (.bin .Mod (.var 2) (.con (.int 3))) (.con (.int 0))) %[.ret (.tup %[.con (.str "within"),4,6,7|0])|0] .nil,.ite (.cmp .Eq (.bin .Mod (.var 2) (.con (.int 3))) (.con (.int 1))) %[.ret (.tup %[.con (.str "since"),4,6,7|0])|0] .nil,.ret (.tup %[.con (.str "row"),4,6,.con (.int 1)|0])|0])
def Y3:RW pg "_law_rule" zE:=%[39|1]
abbrev z6:E:=(.bin .Add (.bin .Add (.var 0) (.con (.str " "))) (.b1 .str (.var 1)))
def zF:E:=z6
def yA:UE zF z6:=λ_ _ _=>(rfl)
def zG:Nat×Nat×Ss:=(1,7,%[.setT (.many [1,2,3,4]) (.var 0),.set 5 (.var 1),.ite (.cmp .NotEq (.var 1) (.con (.str "row"))) %[.set 5 (.bin .Add (.bin .Add (.var 1) (.con (.str " "))) (.b1 .str (.var 4)))|0] .nil,.set 6 (.comp zF (.seq (.var 2)) (.many [0,1]) .yes 2 []),(.ret (.bin .Add (.bin .Add (.bin .Add (.bin .Add (.var 5) (.con (.str " most "))) (.b1 .str (.var 3))) (.con (.str ": "))) (.met (.con (.str ", ")) "join" %[6|0])))|0])
def Y4:RW pg "_law_line" zG:=%[40|1]
def jg:Nat×Nat×Ss:=(1,7,%[.set 1 (.con .non),.set 2 (.con (.str "")),.try_ %[.set 2 (.met (.call "read_rule" %[0|0]) "line" .nil)|0] [("NoText",3,1)],.ite (.cmp .Is (.var 1) (.con .non)) %[.ret (.var 2)|0] .nil,.set 4 (.or (.isc "NoPaper" (.var 1)) (.or (.isc "NoStay" (.var 1)) (.one (.isc "NotLet" (.var 1))))),.set 5 (.or (.isc "NoWish" (.var 1)) (.or (.isc "NoDeed" (.var 1)) (.one (.isc "NoRule" (.var 1))))),.set 6 (.or (.var 4) (.or (.var 5) (.one (.isc "NoRow" (.var 1))))),.ite (.and (.val (.isc "DayError" (.var 1))) (.and (.val (.isc "ValueError" (.var 1))) (.one (.not (.val (.var 6)))))) %[.ret (.tup %[.con (.str "refused")|0])|0] .nil,.ret (.tup %[.con (.str "otherwise")|0])|0])
def Y5:RW pg "_law_said" jg:=%[41|1]
def y7:Nat×Nat×Ss:=(1,2,%[(.set 1 (.lst %[.con (.str ""),.con (.str " "),.con (.str "within"),.con (.str "within 3"),.con (.str "within 3 most 4"),(.con (.str "within 3 most 4:")),(.con (.str "within 3 most 4: ")),(.con (.str "row most 4: a"))|0])),(.set 1 (.bin .Add (.var 1) (.lst %[(.con (.str "within 0 most 4: a 1")),(.con (.str "within 3 most 4: a 0")),(.con (.str "within 3 most 4: a 10")),(.con (.str "since 0 most 4: a 1"))|0]))),(.set 1 (.bin .Add (.var 1) (.lst %[(.con (.str "within 3 most 4: a 1,b 1")),(.con (.str "within 3 most 4: a 1, a 2")),(.con (.str "within 3 most 4: A 1")),(.con (.str "row most 04: a 1"))|0]))),(.set 1 (.bin .Add (.var 1) (.lst %[(.con (.str "within 03 most 4: a 1")),(.con (.str "within 3 most 4: a 01")),(.con (.str "within -3 most 4: a 1")),(.con (.str "row 1 most 4: a 1"))|0]))),(.set 1 (.bin .Add (.var 1) (.lst %[(.con (.str "within 1000000001 most 4: a 1")),(.con (.str "row most 1000000001: a 1")),(.con (.str "row most 4 : a 1")),(.con (.str "row most 4:  a 1"))|0]))),(.set 1 (.bin .Add (.var 1) (.lst %[(.con (.str "Row most 4: a 1")),(.con (.str "row most 4: a 1 ")),(.con (.str " row most 4: a 1")),(.con (.str "row most 4: a  1")),(.con (.str "row most: a 1"))|0]))),(.set 1 (.bin .Add (.var 1) (.lst %[(.con (.str "row least 4: a 1")),(.con (.str "row most x: a 1")),(.con (.str "since most 4: a 1")),(.con (.str "within 3 4: a 1")),(.con (.str "row most 4: a 1, "))|0]))),(.set 1 (.bin .Add (.var 1) (.lst %[(.con (.str "row most 4: a 1, b")),(.con (.str "row most 4: abcdefghi 1")),(.con (.str "row most 4: a 1: b 1")),(.con (.str "row most 12345678901: a 1"))|0]))),(.ret (.idx (.bin .Add (.var 1) (.lst %[(.con (.str "row most 4: a 1, b 1, c 1, d 1, e 1, f 1, g 1")),(.con (.str "row most 4: 1 a"))|0])) (.bin .Mod (.var 0) (.con (.int 40)))))|0])
def Zb:RW pg "_law_odd" y7:=%[42|1]
noncomputable abbrev QA:Ss:=%[.set 4 (.bin .Add (.bin .Mod (.bin .Mult (.call "_law_cell_at" %[0,.bin .Add (.con (.int 2)) (.var 3)|0]) (.con (.int 48271))) (.con (.int 2147483647))) (.var 3)),.set 5 (.bin .Mod (.var 4) (.b1 .len (.var 2))),(.set 6 (.idx (.con (.str "0123456789ab ,:-ws")) (.bin .Mod (.bin .FloorDiv (.var 4) (.con (.int 512))) (.con (.int 18))))),.set 7 (.bin .Mod (.bin .FloorDiv (.var 4) (.con (.int 16384))) (.con (.int 3))),.set 8 (.bin .Add (.bin .Add (.sli (.var 2) .none (.some (.var 5))) (.var 6)) (.sli (.var 2) (.some (.bin .Add (.var 5) (.bin .Mod (.var 7) (.con (.int 2))))) .none)),.ite (.cmp .Eq (.var 7) (.con (.int 2))) %[.set 8 (.bin .Add (.sli (.var 2) .none (.some (.var 5))) (.sli (.var 2) (.some (.bin .Add (.var 5) (.con (.int 1)))) .none))|0] .nil,.set 9 (.call "_law_said" %[8|0]),.ite (.and (.cmp .NotEq (.var 9) (.var 8)) (.one (.cmp .NotEq (.var 9) (.tup %[.con (.str "refused")|0])))) %[.ret (.con (.bl false))|0] .nil,.ite (.cmp .NotEq (.call "_law_said" %[.call "_law_odd" %[.bin .FloorDiv (.var 4) (.con (.int 65536))|0]|0]) (.tup %[.con (.str "refused")|0])) %[.ret (.con (.bl false))|0] .nil|0]
def Jz:Ss:=QA
def Yv:USs Jz QA:=λ_ _ _ _=>(rfl)
def qgz:Nat×Nat×Ss:=(1,10,%[.set 1 (.call "_law_lands" %[.call "_law_cell_at" %[0,.con (.int 0)|0],.con (.int 6)|0]),.set 2 (.call "_law_line" %[.call "_law_rule" %[.call "_law_cell_at" %[0,.con (.int 1)|0],1|0]|0]),.for_ (.one 3) (.rng (.con (.int 3))) Jz,.ret (.cmp .Eq (.call "_law_said" %[2|0]) (.var 2))|0])
def qh9:RW pg "law" qgz:=%[43|1]
def jA:Nat×Nat×Ss:=(1,2,%[.set 1 (.fld (.var 0) "span"),.ret (.call "line_of" %[.fst %[.con (.str "within "),1|0],0|0])|0])
def JA:RW pg "Within.line" jA:=qF (pg:=pg) (st:=mem 27 1) (4:) (λk cl=>(4:))
def jS:Nat×Nat×Ss:=(1,2,%[.set 1 (.fld (.var 0) "leave"),.ret (.call "line_of" %[.fst %[.con (.str "since "),1|0],0|0])|0])
def Yw:RW pg "Since.line" jS:=qF (pg:=pg) (st:=mem 28 1) (4:) (λk cl=>(4:))
def jT:Nat×Nat×Ss:=(1,1,%[.ret (.call "line_of" %[.con (.str "row"),0|0])|0])
def Yx:RW pg "InRow.line" jT:=qF (pg:=pg) (st:=mem 29 1) (4:) (λk cl=>(4:))
end K13
namespace FA
open PySem L2 DE DG
open LC LN
def lnD(p:Str×Int):D:=.tup [.str p.1,.int p.2]
def Yy(p:Str×Int):lnD p=.tup [.str p.1,.int p.2]:=rfl
def qbR{z:Str}(h:NameOk z):jy z=true:=by
 unfold jy;simp![Bool.and_eq_true,decide_eq_true_eq,List.all_eq_true];refine{⟨h.one,h.eight⟩,λc hc=>?_}
 have:=h.lets c hc
 unfold Jv at this
 lia
structure LnOk(p:Str×Int):Prop where
 nm:NameOk p.1
 one:1<=p.2
 nine:p.2<=9
def qbS{p:Str×Int}(h:LnOk p):YZ (lnD p)=some p:=by show(if (jy p.1&&decide (1<=p.2)&&decide (p.2<=9))=true then some (p.1,p.2) else none)=_;rw[if_pos (by rw[qbR h.nm,decide_eq_true h.one,decide_eq_true h.nine];rfl)]
theorem Yz:∀(l:List (Str×Int)) (acc:List Str),(∀p∈l,LnOk p)->(acc++l.map (·.1)).Nodup->zH acc (l.map lnD)=true
 |[],acc,_,_=>rfl
 | p::l,acc,h,nd=>by
  rw[List.map_cons];unfold zH;rw[qbS (h p (5:))];have e:acc++(p::l).map (·.1)=(acc++[p.1])++l.map (·.1):=by simp
  rw[e]at nd
  have n1:p.1∉acc:=by
   have:=(List.nodup_append.mp nd).1
   have:=(List.nodup_append.mp this).2.2
   intro hm;exact this p.1 hm p.1 (5:) rfl
  simp![Bool.and_eq_true,Bool.not_eq_true'];exact{by simpa using n1,Yz l (acc++[p.1]) (λq hq=>h q (by simp[hq])) nd}
def Zc{l:List (Str×Int)}(h:∀p∈l,LnOk p)(nd:(l.map (·.1)).Nodup)(h1:1<=l.length)(h6:l.length<=6):qi (l.map lnD)=true:=by unfold qi;rw[List.length_map,decide_eq_true h1,decide_eq_true h6,Yz l [] h (-nd:)];rfl
def qbT{zs:List Str}(i:Int)(h0:0<=i)(h1:i < zs.length):∃z,atI (zs.map D.str) i=some (.str z)/\zs[i.toNat]?=some z:=by
 let(j,rfl):=Int.eq_ofNat_of_zero_le h0;have hj:j < zs.length:=by lia
 exact{zs[j],qgs (by rw[List.getElem?_map,List.getElem?_eq_getElem hj];rfl),by simp[hj]}
def Lns(zs:List Str)(a:Int)(l:List (Str×Int)):Prop:=∀(i:Nat) (p:Str×Int),l[i]?=some p->zs[((a+(i:Int)) % (zs.length:Int)).toNat]?=some p.1/\LnOk p
inductive Kd where
 | wi|si|ro
def Kd.nm:Kd->Str
 |.wi=>"within"
 |.si=>"since"
 |.ro=>"row"
structure Ru where
 kd:Kd
 lands:List (Str×Int)
 most:Int
 days:Int
def ruD(r:Ru):D:=.tup [.str r.kd.nm,.lst (r.lands.map lnD),.int r.most,.int r.days]
end FA
namespace TW
open PySem PySem.StrLaws PySem.Builtin PySem.Builtin.Str
structure Sep(y:Str)(c:Nat)(t:List Nat):Prop where
 is_:y.cps.toList=c::t
 no:c∉t
 kd:strKind y=1
def Sep.len{y:Str}{c:Nat}{t:List Nat}(h:Sep y c t):y.length=t.length+1:=by
 have:=congrArg List.length h.is_
 simpa [Str.length] using this
def ze(x:Str):x.cps.toList.length=x.length:=by simp[Str.length]
def zV(y a b:Str)(r:List Str):(Str.join y (a::b::r)).cps.toList=a.cps.toList++(y.cps.toList++(Str.join y (b::r)).cps.toList):=by show(a++y++Str.join y (b::r)).cps.toList=_;simp![Str.cps_append,Array.toList_append,List.append_assoc]
theorem qaj{y:Str}{c:Nat}{t:List Nat}(h:Sep y c t):∀(zs:List Str),(∀z∈zs,c∉z.cps.toList)->∀k,(Str.join y zs).cps.toList[k]?=some c->((Str.join y zs).cps.toList.drop k).take (t.length+1)=c::t
 |[],_,k,e=>by simp[Str.join,Str.empty]at e
 |[z],hz,k,e=>by exfalso;exact hz z (5:) (List.mem_of_getElem? e)
 | a::b::r,hz,k,e=>by
  have ih:=qaj h (b::r) λz hm=>hz z (by simp![List.mem_cons]at hm ⊢;exact .inr hm);rw[zV,h.is_]at e ⊢
  by_cases h1:k < a.cps.toList.length
  ·rw[List.getElem?_append_left h1]at e;exact absurd (List.mem_of_getElem? e) (hz a (5:))
  ·rw[List.getElem?_append_right (by omega)]at e;let(j,rfl):∃j,k=a.cps.toList.length+j:={k - a.cps.toList.length,by omega};rw[Nat.add_sub_cancel_left]at e;rw[List.drop_append,Nat.add_sub_cancel_left,List.drop_eq_nil_of_le (by omega),List.nil_append]
   by_cases h2:j < (c::t).length
   ·rw[List.getElem?_append_left h2]at e
    cases j with
    |zero=>rw[List.drop_zero];exact List.take_left' (5:)
    |succ j=>rw[List.getElem?_cons_succ]at e;exact absurd (List.mem_of_getElem? e) h.no
   ·rw[List.getElem?_append_right (by omega)]at e;let(i,rfl):∃i,j=(c::t).length+i:={j - (c::t).length,by omega};rw[Nat.add_sub_cancel_left]at e;rw[List.drop_append,Nat.add_sub_cancel_left,List.drop_eq_nil_of_le (by omega),List.nil_append];exact ih i e
def qgA{x y:Str}{c:Nat}{t:List Nat}(h:Sep y c t){k:Nat}(e:(x.cps.toList.drop k).take (t.length+1)=c::t):At x y x.length k:=by
 refine{?_,?_}
 ·have:=congrArg List.length e
  rw[List.length_take,List.length_drop,ze,List.length_cons]at this;rw[h.len];omega
 ·rw[subAt_eq,h.len,e,h.is_];exact beq_self_eq_true _
def jJ(x y:Str)(c a b:Nat)(hb:b<=x.length)(H:∀k,x.cps.toList[k]?=some c->At x y x.length k)(hn:∀k,a<=k->k < b->¬ At x y x.length k):c∉(strSub x a b).cps.toList:=by
 intro hm;rw[strSub_toList]at hm;let(j,hj):=List.getElem?_of_mem hm
 have hlt:j < b - a:=by have h1:j < ((x.cps.toList.drop a).take (b - a)).length:=(List.getElem?_eq_some_iff.mp hj).1;simp at h1;omega
 rw[List.getElem?_take_of_lt hlt,List.getElem?_drop]at hj;exact hn (a+j) (by omega) (by omega) (H _ hj)
theorem yB(x y:Str)(c:Nat)(H:∀k,x.cps.toList[k]?=some c->At x y x.length k):∀(cuts:List Nat) (a f:Nat),ChainG x y x.length a cuts f->(∀k,f<=k->¬ At x y x.length k)->∀p∈partsFrom x y.length a cuts,c∉p.cps.toList
 |[],a,f,h,hn,p,hp=>by have e:f=a:=h;subst e;rw[List.mem_singleton.mp hp];exact jJ x y c f x.length (Nat.le_refl _) H λk h1 _=>hn k h1
 | d::r,a,f,h,hn,p,hp=>by
  rcases List.mem_cons.mp hp with rfl|hp'
  ·exact jJ x y c a d (by have:=h.2.1.1;omega) H h.2.2.1
  ·exact yB x y c H r _ f h.2.2.2 hn p hp'
def qbU(x:Str):1<=strKind x:=by
 unfold PySem.Builtin.Str.strKind;split
 ·decide
 ·split<;>decide
def Y6(x y:Str)(c:Nat)(hw:1<=y.length)(hk:strKind y=1)(H:∀k,x.cps.toList[k]?=some c->At x y x.length k):∀p∈Txt.split x y,c∉p.cps.toList:=by
 let(f,hG,hn):=occ_tight x y hw;unfold Txt.split;split
 ·rename_i hc;intro p hp;rw[List.mem_singleton.mp hp];intro hm;let(j,hj):=List.getElem?_of_mem hm;have hA:=H j hj;rw[Bool.or_eq_true,decide_eq_true_eq,decide_eq_true_eq,hk]at hc;rcases hc with h|h
  ·have:=hA.1;omega
  ·have:=qbU x;omega
 ·split
  ·rename_i he;intro p hp;rw[List.mem_singleton.mp hp];have e0:occurrences x y 0 x.length (x.length+1)=[]:=List.isEmpty_iff.mp he;rw[e0]at hG;have ef:f=0:=hG;subst ef;rw[<-sub_whole x];exact jJ x y c 0 x.length (Nat.le_refl _) H λk h1 _=>hn k h1
  ·rw[partsBetween_eq];exact yB x y c H _ 0 f hG hn
theorem qcy{c:Nat}:∀{a b:List Nat} {m n:List Nat},c∉a->c∉b->a++c::m=b++c::n->a=b/\m=n
 |[],[],m,n,_,_,e=>{rfl,(List.cons.inj e).2}
 | [],y::b,m,n,_,hb,e=>by exact absurd ((List.cons.inj e).1▸List.mem_cons_self) hb
 | x::a,[],m,n,ha,_,e=>by exact absurd ((List.cons.inj e).1.symm▸List.mem_cons_self) ha
 | x::a,y::b,m,n,ha,hb,e=>by let(e1,e2):=List.cons.inj e;let(e3,e4):=qcy (λh=>ha (.tail _ h)) (λh=>hb (.tail _ h)) e2;exact{by rw[e1,e3],e4}
theorem QB{y:Str}{c:Nat}{t:List Nat}(h:Sep y c t):∀(ps qs:List Str),ps≠[]->qs≠[]->(∀z∈ps,c∉z.cps.toList)->(∀z∈qs,c∉z.cps.toList)->(Str.join y ps).cps.toList=(Str.join y qs).cps.toList->ps=qs
 |[],_,n,_,_,_,_=>absurd rfl n
 | _::_,[],_,n,_,_,_=>absurd rfl n
 |[p],[q],_,_,_,_,e=>by have e:p.cps.toList=q.cps.toList:=e;rw[Str.ext' (Array.toList_inj.mp e)]
 | [p],q::q'::r,_,_,hp,_,e=>by exfalso;rw[zV,h.is_]at e;have e:p.cps.toList=_:=e;exact hp p (5:) (by rw[e];simp)
 | p::p'::r,[q],_,_,_,hq,e=>by exfalso;rw[zV,h.is_]at e;have e:_=q.cps.toList:=e;exact hq q (5:) (by rw[<-e];simp)
 | p::p'::r,q::q'::s,_,_,hp,hq,e=>by
  rw[zV,zV,h.is_]at e;let(e1,e2):=qcy (hp p (5:)) (hq q (5:)) e;have e2:=List.append_cancel_left e2
  have:=QB h (p'::r) (q'::s) (5:) (5:) (λz hz=>hp z (.tail _ hz)) (λz hz=>hq z (.tail _ hz)) e2
  rw[Str.ext' (Array.toList_inj.mp e1),this]
def qbV(x y:Str):Txt.split x y≠[]:=by
 unfold Txt.split;split
 ·simp
 ·split
  ·simp
  ·rw[partsBetween_eq];let(p,r,e):=partsFrom_ne x y.length 0 (occurrences x y 0 x.length (x.length+1));rw[e];simp
def zW{y:Str}{c:Nat}{t:List Nat}(h:Sep y c t)(zs:List Str)(h0:zs≠[])(hz:∀z∈zs,c∉z.cps.toList):Txt.split (Str.join y zs) y=zs:=
 QB h _ zs (qbV _ _) h0 (Y6 _ y c (by rw[h.len];omega) h.kd λk e=>qgA h (qaj h zs hz k e)) hz (by rw[join_split])
def qak(y:Str)(zs:List Str):Txt.join y zs=Str.join y zs:=glued_eq_join y zs
def qd3{y:Str}{c:Nat}{t:List Nat}(h:Sep y c t)(a b:Str)(ha:c∉a.cps.toList):Txt.partition (a++y++b) y=(a,y,b):=by
 have el:(a++y++b).cps.toList=a.cps.toList++(y.cps.toList++b.cps.toList):=by simp![Str.cps_append,Array.toList_append,List.append_assoc]
 have hat:At (a++y++b) y (a++y++b).length a.length:=by refine qgA h ?_;rw[el,h.is_,<-ze a,List.drop_left' rfl];exact List.take_left' (5:)
 have hno:∀k,k < a.length->¬ At (a++y++b) y (a++y++b).length k:=λk hk hA=>by have h2:=hA.2;rw[subAt_eq,h.is_,h.len]at h2;have h2:=eq_of_beq h2;have h3:=congrArg List.head? h2;rw[List.head?_take,if_neg (by omega),List.head?_drop,el,List.getElem?_append_left (by rw[ze];exact hk)]at h3;exact ha (List.mem_of_getElem? h3)
 unfold Txt.partition;rcases occ_head (a++y++b) y 1 (Nat.le_refl 1) with ⟨_,hn⟩|⟨i,r,e,hi,hn⟩
 ·exact absurd hat (hn _)
 ·have ei:i=a.length:=by
   rcases Nat.lt_trichotomy i a.length with q|q|q
   ·exact absurd hi (hno i q)
   ·exact q
   ·exact absurd hat (hn _ q)
  rw[e];subst ei;dsimp only
  congr 1
  ·apply Str.ext';apply Array.toList_inj.mp;rw[strSub_toList,el,List.drop_zero,Nat.sub_zero];exact List.take_left' (by rw[ze])
  ·congr 1
   apply Str.ext';apply Array.toList_inj.mp;rw[strSub_toList,el,<-List.append_assoc,List.drop_left' (by rw[List.length_append,ze,ze])];apply List.take_of_length_le;rw[ze,Str.length_append,Str.length_append];omega
end TW
namespace K13
open PySem L2 DE DG FA TW
abbrev nS(n:Int):Str:=Str.ofString (toString n)
def qbW(c:Nat):Prop:=48<=c/\c < 58
def qd4(m:Nat):Nat.toDigits 10 m≠[]:=λe=>by have h:=PySem.toDigits_len_ge 10 m;rw[e]at h;exact absurd h (2:)
theorem qal(m:Nat):m=0\/∃c r,(Nat.toDigits 10 m).map Char.toNat=c::r/\c≠48:=by
 induction m using Nat.strongRecOn with
 |_ m ih=>
  by_cases h:m < 10
  ·by_cases h0:m=0
   ·exact .inl h0
   ·refine .inr ⟨(Nat.digitChar m).toNat,[],?_,?_⟩
    ·rw[Nat.toDigits_of_lt_base h];rfl
    ·have:=PySem.W.KIN.digit_back m h
     omega
  ·have hm:m % 10 < 10:=Nat.mod_lt m (2:);have t:Nat.toDigits 10 (m / 10)++Nat.toDigits 10 (m % 10)=Nat.toDigits 10 (10 * (m / 10)+m % 10):=Nat.toDigits_append_toDigits (2:) (by omega) hm;rw[Nat.div_add_mod]at t;rcases ih (m / 10) (by omega) with z|⟨c,r,e,hc⟩
   ·omega
   ·exact .inr ⟨c,r++(Nat.toDigits 10 (m % 10)).map Char.toNat,by rw[<-t,List.map_append,e];rfl,hc⟩
structure NumOk(n:Int):Prop where
 lo:0<=n
 hi:n<=1000000000
def JB{n:Int}(h:NumOk n):∀c∈(nS n).cps.toList,qbW c:=by let(m,rfl):=Int.eq_ofNat_of_zero_le h.lo;intro c hc;rw[PySem.W.KIN.signs_num]at hc;let(ch,hch,e):=List.mem_map.mp hc;have r:=PyProof.Rows.digit_range (Nat.isDigit_of_mem_toDigits (2:) (2:) hch);rw[<-e];exact{r.1,by have:=r.2;omega}
def zv{n:Int}(h:NumOk n):1<=(nS n).length/\(nS n).length<=10:=by have h0:=h.lo;have h1:=h.hi;refine{?_,PySem.W.KT.len_num h0 (by omega)};let(m,rfl):=Int.eq_ofNat_of_zero_le h.lo;rw[<-ze,PySem.W.KIN.signs_num,List.length_map];exact List.length_pos_iff.mpr (qd4 m)
def qbX{n:Int}(h:NumOk n):(nS n).length=1\/∃c r,(nS n).cps.toList=c::r/\c≠48:=by
 let(m,rfl):=Int.eq_ofNat_of_zero_le h.lo;rcases qal m with rfl|q
 ·exact .inl (by rw[<-ze,PySem.W.KIN.signs_num];rfl)
 ·rw[PySem.W.KIN.signs_num];exact .inr q
def QC{n:Int}(h:NumOk n){c:Nat}(hc:c < 48\/58<=c):c∉(nS n).cps.toList:=λhm=>by
 have:=JB h c hm
 unfold qbW at this;omega
def zy{n:Int}(h:NumOk n):n.natAbs.log2 < 1920:=by
 have h0:=h.lo;have h1:=h.hi
 have:n.natAbs < 2 ^ 30:=by omega
 by_cases hz:n.natAbs=0
 ·rw[hz];decide
 ·have:=(Nat.log2_lt hz).mpr this
  omega
theorem YA:∀(n:Nat) (l:List Nat),l.length=n+1->(∀c∈l,48<=c/\c < 58)->(l.head?≠some 48\/n=0)->(Nat.toDigits 10 (NumText.digitsVal l)).map Char.toNat=l
 |0,l,hl,hc,_=>by
  let(c,rfl):=List.length_eq_one_iff.mp hl;have h:=hc c (5:);have key:∀j:Fin 10,(Nat.toDigits 10 (NumText.digitsVal [48+j.val])).map Char.toNat=[48+j.val]:=(3:)
  have k:=key ⟨c - 48,by omega⟩;dsimp only at k
  rwa[show 48+(c - 48)=c by omega]at k
 | n+1,l,hl,hc,hh=>by
  let(l',c,rfl):∃l' c,l=l'++[c]:={l.dropLast,l.getLast (by intro e;rw[e]at hl;cases hl),(List.dropLast_concat_getLast _).symm};have h':l'.length=n+1:=(-hl:)
  cases l' with
  |nil=>cases h'
  |cons x r=>
   have hx:x≠48:=(-hh:)
   have ih:=YA n (x::r) h' (λd hd=>hc d (List.mem_append_left _ hd)) (.inl (-hx:));rw[NumText.digitsVal_snoc];generalize NumText.digitsVal (x::r)=v at ih
   have hv:0 < v:=by
    rcases Nat.eq_zero_or_pos v with e|e
    ·rw[e]at ih
     have:[48]=x::r:=ih
     exact absurd (List.cons.inj this).1.symm hx
    ·exact e
   have hcc:=hc c (5:);have key:∀j:Fin 10,([Nat.digitChar j.val]).map Char.toNat=[48+j.val]:=(3:)
   have k:=key ⟨c - 48,by omega⟩;dsimp only at k;rw[show v * 10+(c - 48)=10 * v+(c - 48) by omega,<-Nat.toDigits_append_toDigits (2:) hv (by omega),List.map_append,ih,Nat.toDigits_of_lt_base (by omega),k,show 48+(c - 48)=c by omega]
def wnB(w:Str):Bool:=decide (1<=w.length)&&decide (w.length<=10)&&(decide (w.cps.toList.head?≠some 48)||decide (w.length=1))&&w.cps.toList.all λc=>decide (48<=c)&&decide (c < 58)
def zf(w:Str):Int:=(NumText.digitsVal w.cps.toList:Nat)
structure Wn(w:Str):Prop where
 l1:1<=w.length
 l2:w.length<=10
 hd:w.cps.toList.head?≠some 48\/w.length=1
 fg:∀c∈w.cps.toList,48<=c/\c < 58
def qam{w:Str}(h:wnB w=true):Wn w:=by unfold wnB at h;simp![Bool.and_eq_true,Bool.or_eq_true,decide_eq_true_eq,List.all_eq_true]at h;let(((a,b),c),d):=h;exact⟨a,b,c,d⟩
def yb{w:Str}(h:Wn w):nS (zf w)=w:=by
 have e:(nS (zf w)).cps.toList=w.cps.toList:=by unfold zf;rw[PySem.W.KIN.signs_num];have l:w.cps.toList.length=w.length:=Array.length_toList;exact YA (w.length - 1) _ (by have:=h.l1;omega) h.fg (h.hd.imp id (by omega))
 exact Str.ext' (Array.toList_inj.mp e)
def qgB{w:Str}(h:Wn w):PySem.intText? w=some (zf w):=by have l:w.cps.toList.length=w.length:=Array.length_toList;exact PySem.intText_digits (λc hc=>by have:=h.fg c hc;exact{this.1,by omega}) (λe=>by have:=h.l1;rw[e]at l;simp at l;omega) (by have:=h.l2;omega)
def rdW:List Str->Option (Str×Int)
 |[a,b]=>if wnB b=true then some (a,zf b) else none
 |_=>none
theorem qan{ws:List Str}(h:ws.length≠2):rdW ws=none:=by
 match ws,h with
 |[],_=>rfl
 |[_],_=>rfl
 | _::_::_::_,_=>rfl
 |[_,_],h=>exact absurd rfl h
def z7(p:Str):Option (Str×Int):=rdW (Txt.split p " ")
def qz:List Str->Option (List (Str×Int))
 |[]=>some []
 | p::ps=>(z7 p).bind λx=>(qz ps).map (x :: ·)
structure Sm(x:Str):Prop where
 len:x.length<=250
 ok:PyData.strOk x=true
def qbY{x p:Str}(h:Sm x)(h1:p.length<=x.length)(h2:∀c∈p.cps.toList,c∈x.cps.toList):Sm p:=by
 refine{Nat.le_trans h1 h.len,?_}
 have:=h.ok
 unfold PyData.strOk at *;rw[<-Array.all_toList,List.all_eq_true]at *;exactλc hc=>this c (h2 c hc)
theorem QD(y:Str):∀(zs:List Str) (p:Str),p∈zs->p.length<=(Str.join y zs).length/\∀c∈p.cps.toList,c∈(Str.join y zs).cps.toList
 |[],p,h=>by cases h
 |[a],p,h=>by rw[List.mem_singleton.mp h];exact{Nat.le_refl _,λc hc=>hc}
 | a::b::r,p,h=>by
  show p.length<=(a++y++Str.join y (b::r)).length/\∀c∈p.cps.toList,c∈(a++y++Str.join y (b::r)).cps.toList;rw[Str.length_append,Str.length_append,Str.cps_append,Str.cps_append,Array.toList_append,Array.toList_append];rcases List.mem_cons.mp h with rfl|h
  ·exact{by omega,λc hc=>List.mem_append_left _ (List.mem_append_left _ hc)}
  ·let(h1,h2):=QD y (b::r) p h;exact{by omega,λc hc=>List.mem_append_right _ (h2 c hc)}
def jB{x y p:Str}(h:Sm x)(hp:p∈Txt.split x y):Sm p:=by
 have:=QD y _ p hp
 rw[StrLaws.join_split]at this;exact qbY h this.1 this.2
def qd5{x y:Str}(h:Sm x):Sm (Txt.partition x y).1/\Sm (Txt.partition x y).2.2:=by
 have e:=StrLaws.partition_sum x y;have l:=congrArg Str.length e;have m:=congrArg (λs:Str=>s.cps.toList) e;simp![Str.length_append]at l;simp![Str.cps_append,Array.toList_append]at m;refine{qbY h (by omega) λc hc=>?_,qbY h (by omega) λc hc=>?_}<;>rw[<-m]
 ·exact List.mem_append_left _ (List.mem_append_left _ hc)
 ·exact List.mem_append_right _ hc
def qd6(x y:Str):(Txt.partition x y).2.1=y\/(Txt.partition x y).2.2 = "":=by
 unfold Txt.partition;split
 ·exact .inl rfl
 ·exact .inr rfl
def Y7{x:Str}(h:Sm x):(reprText x).length<=2600:=by
 have h1:=h.ok;unfold PyData.strOk at h1;rw[<-Array.all_toList,List.all_eq_true]at h1
 have:=StrLaws.reprText_len x λc hc=>by
  have:=h1 c hc
  simp![decide_eq_true_eq]at this;omega
 have:=h.len
 omega
def JC{x:Str}(l u:Option Int)(h:Sm x):Sm (Txt.slice x l u):=by
 refine qbY h (PyProof.Txt.length_slice_le x l u) λc hc=>?_;unfold Txt.slice at hc
 split at hc
 ·exact hc
 ·simp![List.mem_filterMap]at hc;let(i,_,e):=hc;exact Array.mem_toList_iff.mpr (Array.mem_of_getElem? e)
def JD(k:Nat)(n:Int):clK pg (k+1) "is_whole" [.val (.int n)]=.ok (.val (.bl true)):=by rw[Za];simp?![y6]
def jh(k:Nat)(n a b:Int):clK pg (k+2) "is_between" [.val (.int n),.val (.int a),.val (.int b)]=.ok (.val (.bl (DG.btw n a b))):=by
 rw[Yr];unfold DG.btw
 by_cases h1:a<=n
 ·by_cases h2:n<=b
  ·simp?![zp,JD,h1,h2,decide_true,Bool.and_self]
  ·simp?![zp,JD,h1,h2,decide_true,decide_false,Bool.and_false]
 ·simp?![zp,JD,h1,decide_false,Bool.false_and]
theorem YB(k:Nat)(z w:Str):∀(l:List Nat) (s:Sl),∃F,Ym (pg.kk k) 1000 (.one 2) zt (l.map λc=>D.str ⟨#[c]⟩) [.val (.str z),.val (.str w),s]=.ok F/\((l.all λc=>qaU ⟨#[c]⟩ w)=true->∃s',F=.next [.val (.str z),.val (.str w),s'])/\((l.all λc=>qaU ⟨#[c]⟩ w)=false->F=.ret (.val (.bl false)))
 |[],s=>{_,by rw[List.map_nil,qbJ],λ_=>⟨s,rfl⟩,(λh=>by cases h)}
 | c::l,s=>by
  rw[List.map_cons,List.all_cons]
  cases h:qaU ⟨#[c]⟩ w with
  |true=>let(F,e,a,b):=YB k z w l (.val (.str ⟨#[c]⟩));refine{F,?_,λh=>a (-h:),λh=>b (-h:)};simp?[zJ,h,e]
  |false=>refine{_,?_,(λh=>by cases h),λ_=>rfl};simp?[zJ,h]
theorem QE(k:Nat)(z w:Str):clK pg (k+1) "is_made_of" [.val (.str z),.val (.str w)]=.ok (.val (.bl (z.cps.toList.all λc=>qaU ⟨#[c]⟩ w))):=by
 let(F,e,a,b):=YB k z w z.cps.toList .no;rw[Ys]
 cases h:z.cps.toList.all λc=>qaU ⟨#[c]⟩ w with
 |true=>let(s',rfl):=a h;simp?![zS,Nat.reduceAdd,Nat.reduceSub,qaT,e]
 |false=>rw[b h]at e;simp?![zS,Nat.reduceAdd,Nat.reduceSub,qaT,e]
def qao{w:Str}{a n:Nat}(h:w.cps.toList=List.range' a n)(c:Nat):qaU ⟨#[c]⟩ w=(decide (a<=c)&&decide (c < a+n)):=by show(!(Builtin.Str.occurrences w ⟨#[c]⟩ 0 w.length 1).isEmpty)=_;rw[StrLaws.found_one,h,Bool.eq_iff_iff];simp![decide_eq_true_eq,Bool.and_eq_true,List.mem_range'_1]
def qbZ(k:Nat)(z:Str):clK pg (k+1) "is_made_of" [.val (.str z),.val (.str "abcdefghijklmnopqrstuvwxyz")]=.ok (.val (.bl (z.cps.toList.all λc=>decide (97<=c)&&decide (c<=122)))):=by
 rw[QE]
 congr 4
 funext c;rw[qao (a:=97) (n:=26) (3:)]
 congr 2
 exact propext ⟨λh=>by omega,λh=>by omega⟩
def qb0(k:Nat)(z:Str):clK pg (k+1) "is_made_of" [.val (.str z),.val (.str "0123456789")]=.ok (.val (.bl (z.cps.toList.all λc=>decide (48<=c)&&decide (c < 58)))):=by
 rw[QE]
 congr 4
 funext c;exact qao (a:=48) (n:=10) (3:) c
def qb1(k:Nat)(z:Str)(h:z.length<=3000):clK pg (k+2) "is_name" [.val (.str z)]=.ok (.val (.bl (jy z))):=by
 have hz:z.length<=sizeLine:=by show _<=2 ^ 24;omega
 have m:=qbZ k z;rw[qaf];unfold jy
 by_cases h1:1<=z.length
 ·have h1':(1:Int)<=(z.length:Int):=by omega
  by_cases h8:z.length<=8
  ·have h8':(z.length:Int)<=8:=by omega
   simp?![jz,hz,h1',h8',h1,h8,decide_true,m,Bool.true_and]
  ·have h8':¬ (z.length:Int)<=8:=by omega
   simp?![jz,hz,h1',h8',h1,h8,decide_true,decide_false,Bool.and_false,Bool.false_and]
 ·have h1':¬ (1:Int)<=(z.length:Int):=by omega
  simp?![jz,hz,h1',h1,decide_false,Bool.false_and]
theorem qb2(k:Nat)(s:Str)(w:Int)(h:s.length<=3000):clK pg (k+3) "is_land" [.val (.tup [.str s,.int w])]=.ok (.val (.bl (jy s&&decide (1<=w)&&decide (w<=9)))):=by
 have e0:atI [D.str s,D.int w] 0=some (.str s):=by rfl
 have e1:atI [D.str s,D.int w] 1=some (.int w):=by rfl
 have n:=qb1 k s h;have b:=jh k w 1 9;unfold DG.btw at b;rw[qag]
 cases nm:jy s with
 |true=>rw[nm]at n;simp?![yx,e0,e1,qP,n,b,show((((0+1+1:Nat):Int) == 2)=true) from rfl,Bool.true_and]
 |false=>rw[nm]at n;simp?![yx,e0,e1,qP,n,show((((0+1+1:Nat):Int) == 2)=true) from rfl,Bool.false_and]
theorem qgC{d:D}(h:kvS d=true):∃s w,d=.tup [.str s,.int w]/\s.length<=3000:=by
 unfold kvS at h
 cases e:kvD d with
 |none=>rw[e]at h;cases h
 |some p=>rw[e]at h;exact{p.1,p.2,qfe e,(-h:)}
theorem y8(k:Nat)(v:Sl):∀(l:List D) (acc:List Str) (s2:Sl),l.all kvS=true->acc.length+l.length < 1000->∃F,Ym (pg.kk (k+3)) 1000 (.one 2) zA l [v,.own (acc.map D.str),s2]=.ok F/\(zH acc l=true->∃s s',F=.next [v,s,s'])/\(zH acc l=false->F=.ret (.val (.bl false)))
 |[],acc,s2,_,_=>{_,rfl,λ_=>{_,_,rfl},(λh=>by cases h)}
 | d::l,acc,s2,h,hl=>by
  rw[List.all_cons,Bool.and_eq_true]at h;let(s,w,rfl,hs):=qgC h.1;have e0:atI [D.str s,D.int w] 0=some (.str s):=by rfl
  have ln:=qb2 k s w hs;unfold zH;rw[show YZ (.tup [.str s,.int w])=if (jy s&&decide (1<=w)&&decide (w<=9))=true then some (s,w) else none from rfl]
  cases c:jy s&&decide (1<=w)&&decide (w<=9) with
  |false=>rw[c]at ln;rw[if_neg (2:)];refine{_,?_,(λh=>by cases h),λ_=>rfl};simp?[zj,ln]
  |true=>
   rw[c]at ln;rw[if_pos rfl];dsimp only
   cases cc:acc.contains s with
   |true=>refine{_,?_,(λh=>by cases h),λ_=>rfl};simp?[zj,e0,ln,Yp,cc]
   |false=>
    rw[List.length_cons]at hl;let(F,ih,a,b):=y8 k v l (acc++[s]) (.val (.tup [.str s,.int w])) h.2 (by simp;omega);refine{F,?_,a,b};rw[List.map_append,List.map_cons,List.map_nil]at ih
    have hz:(acc.map D.str).length < sizeLine:=by rw[List.length_map];show acc.length < 2 ^ 24;omega
    simp?[zj,e0,ln,Yp,cc,hz,ih]
def jU(k:Nat)(b:Bool)(l:List D)(h:l.all kvS=true):clK pg (k+4) "are_lands" [aL b l]=.ok (.val (.bl (qi l))):=by
 rw[Y1];unfold qi
 by_cases h1:1<=l.length
 ·have h1':¬ (l.length:Int) < 1:=by omega
  by_cases h6:l.length<=6
  ·have h6':¬ (6:Int) < (l.length:Int):=by omega
   let(F,ih,a,c):=y8 k (pS b l) l [] .no h (by simp;omega);rw[List.map_nil]at ih;have zz:(0:Nat)<=sizeLine:=(3:)
   cases e:zH [] l with
   |true=>let(s,s',rfl):=a e;simp?![zk,h1',h6',h1,h6,zz,ih,decide_true,Bool.and_self]
   |false=>rw[c e]at ih;simp?![zk,h1',h6',h1,h6,zz,ih,decide_true,Bool.and_false]
  ·have h6':(6:Int) < (l.length:Int):=by omega
   simp?![zk,h1',h6',h6,decide_false,Bool.and_false,Bool.false_and]
 ·have h1':(l.length:Int) < 1:=by omega
  simp?![zk,h1',h1,decide_false,Bool.false_and]
open LC LN
structure N6(zs:List Str):Prop where
 two:2<=zs.length
 six:zs.length<=6
 ok:∀z∈zs,NameOk z
 nd:zs.Nodup
def N6.once{zs:List Str}(h:N6 zs)(i j:Nat)(z:Str)(hi:zs[i]?=some z)(hj:zs[j]?=some z):i=j:=by
 let(li,ei):=List.getElem?_eq_some_iff.mp hi;let(lj,ej):=List.getElem?_eq_some_iff.mp hj;have nd:=List.pairwise_iff_getElem.mp h.nd;rcases Nat.lt_trichotomy i j with q|q|q
 ·exact absurd (ei.trans ej.symm) (nd i j li lj q)
 ·exact q
 ·exact absurd (ej.trans ei.symm) (nd j i lj li q)
def Nm.ne6{cell at' k k':Int}{m:Nat}{z z':Str}(h:Nm cell at' k m z)(h':Nm cell at' k' m z')(h0:0<=at')(h1:at' < m)(hk:0<=k/\k < 6)(hk':0<=k'/\k' < 6)(ne:k≠k'):z≠z':=by
 rintro rfl;have e:(List.range m).map (ltr cell at' k)=(List.range m).map (ltr cell at' k'):=h.symm.trans h';have e2:=congrArg (λl=>l[at'.toNat]?) e;simp![List.getElem?_map]at e2;rw[List.getElem?_range (by omega)]at e2;simp![Option.map_some,Option.some.injEq]at e2;unfold ltr at e2;have ea:((at'.toNat:Nat):Int)=at':=by omega
 rw[ea,beq_self_eq_true,if_pos rfl]at e2;omega
def qgD(k:Nat)(cell:Int):∃zs:List Str,clK pg (k+1) "_law_lands" [.val (.int cell),.val (.int 6)]=.ok (.tmp (zs.map D.str))/\zs.length=6/\N6 zs:=by
 have hm:∃m:Nat,(1+cell % 8:Int)=(m:Int)/\1<=m/\m<=8:={(1+cell % 8).toNat,by omega,by omega,by omega};let(m,e,h1,h2):=hm;have a0:0<=cell / 8 % (m:Int):=Int.emod_nonneg _ (by omega);have a1:cell / 8 % (m:Int) < m:=Int.emod_lt_of_pos _ (by omega);let(zs,s6,s7,s8,s9,h,h3,h4):=Yq (pg.kk k) (.val (.int 6)) cell (cell / 8 % (m:Int)) m ⟨h1,h2⟩ 6 [] .no .no .no .no (5:) (λi z hz=>by simp at hz);simp at h3;refine{zs,?_,h3,{by omega,by omega,λz hz=>?_,?_}}
 ·rw[List.map_nil]at h;have hp:(0:Int) < (m:Int):=by omega
  have hs:zi 6=true:=by decide
  rw[show((([]:List Str).length:Nat):Int)=0 from rfl]at h;rw[r__law_lands];have t6:(6:Int).toNat=6:=rfl;simp?![jQ,e,hp,show(0:Nat)<=sizeLine by decide+kernel,hs,zO,Int.sub_zero,t6,h]
 ·let(i,hi):=List.getElem?_of_mem hz;exact(h4 i z hi).ok h1 h2
 ·rw[List.nodup_iff_pairwise_ne,List.pairwise_iff_getElem];intro i j hi hj hij e;exact Nm.ne6 (h4 i _ (List.getElem?_eq_getElem hi)) (h4 j _ (List.getElem?_eq_getElem hj)) a0 a1 ⟨by omega,by omega⟩ ⟨by omega,by omega⟩ (by omega) e
def Lns.nodup6{zs:List Str}(hz:N6 zs){a:Int}{l:List (Str×Int)}(h:Lns zs a l)(hl:l.length<=zs.length):(l.map (·.1)).Nodup:=by
 rw[List.nodup_iff_pairwise_ne,List.pairwise_iff_getElem];intro i j hi hj hij e;rw[List.length_map]at hi hj;rw[List.getElem_map,List.getElem_map]at e;have h1:=(h i _ (List.getElem?_eq_getElem hi)).1;have h2:=(h j _ (List.getElem?_eq_getElem hj)).1;rw[e]at h1
 have:=hz.once _ _ _ h1 h2
 have hL:(0:Int) < (zs.length:Int):=by have:=hz.two;omega
 have a0:0<=(a+(i:Int)) % (zs.length:Int):=Int.emod_nonneg _ (by omega);have b0:0<=(a+(j:Int)) % (zs.length:Int):=Int.emod_nonneg _ (by omega);have e3:(a+(i:Int)) % (zs.length:Int)=(a+(j:Int)) % (zs.length:Int):=by omega
 have e5:(a+(j:Int) - (a+(i:Int))) % (zs.length:Int)=0:=by rw[Int.sub_emod,e3,Int.sub_self,Int.zero_emod]
 rw[show a+(j:Int) - (a+(i:Int))=((j - i:Nat):Int) by omega]at e5;rw[Int.emod_eq_of_lt (by omega) (by omega)]at e5;omega
theorem YC(cl:Cl)(v0 v3 s6 s7:Sl)(n:Int)(zs:List Str)(hz:N6 zs):∀(m:Nat) (l:List (Str×Int)) (s5:Sl),l.length+m<=100->Lns zs (n / 18) l->
  ∃(l':List (Str×Int)) (s5':Sl),Ym cl 1000 (.one 5) zD (rgF (l.length:Int) m) [v0,.bor (zs.map D.str),.val (.int n),v3,.own (l.map lnD),s5,s6,s7]=.ok (.next [v0,.bor (zs.map D.str),.val (.int n),v3,.own (l'.map lnD),s5',s6,s7])/\l'.length=l.length+m/\Lns zs (n / 18) l'
 |0,l,s5,_,h=>⟨l,s5,rfl,rfl,h⟩
 | m+1,l,s5,hl,h=>by
  have hL:(0:Int) < (zs.length:Int):=by have:=hz.two;omega
  let(z,e1,e2):=qbT (zs:=zs) ((n / 18+(l.length:Int)) % (zs.length:Int)) (Int.emod_nonneg _ (by omega)) (Int.emod_lt_of_pos _ hL)
  have h3:∃q:Int,atI [D.int 9,D.int 2,D.int 2] ((n+(l.length:Int)) % 3)=some (.int q)/\2<=q/\q<=9:=by
   have a0:0<=(n+(l.length:Int)) % 3:=Int.emod_nonneg _ (2:);have a1:(n+(l.length:Int)) % 3 < 3:=Int.emod_lt_of_pos _ (2:)
   have:(n+(l.length:Int)) % 3=0\/(n+(l.length:Int)) % 3=1\/(n+(l.length:Int)) % 3=2:=by omega
   rcases this with e|e|e<;>rw[e]
   ·exact{9,rfl,by decide,by decide}
   ·exact{2,rfl,by decide,by decide}
   ·exact{2,rfl,by decide,by decide}
  let(q,e3,q2,q9):=h3;have hq:(0:Int) < q:=by omega
  have w0:0<=n / 108 / ((l.length:Int)+1) % q:=Int.emod_nonneg _ (by omega);have w1:n / 108 / ((l.length:Int)+1) % q < q:=Int.emod_lt_of_pos _ hq
  let(l',s5',ih,i1,i2):=YC cl v0 v3 s6 s7 n zs hz m (l++[(z,1+n / 108 / ((l.length:Int)+1) % q)]) (.val (.int (l.length:Int))) (by simp;omega) (λi p hp=>by
   by_cases hi:i < l.length
   ·rw[List.getElem?_append_left hi]at hp;exact h i p hp
   ·rw[List.getElem?_append_right (by omega)]at hp;have hlt:=(List.getElem?_eq_some_iff.mp hp).1;simp at hlt;have hi:i=l.length:=by omega
    subst hi;simp at hp;subst hp;exact{e2,hz.ok z (List.mem_of_getElem? e2),by show 1<=1+_;omega,by show 1+_<=9;omega})
  refine{l',s5',?_,by rw[i1];simp;omega,i2}
  have hs:l.length < sizeLine:=by show _ < 2 ^ 24;omega
  have two:0+1+1<=sizeLine:=(3:)
  have three:0+1+1+1<=sizeLine:=(3:)
  have hd:(0:Int) < (l.length:Int)+1/\(l.length:Int)+1 < 1073741824:={by omega,by omega};rw[List.length_append,List.length_singleton,show((l.length+1:Nat):Int)=(l.length:Int)+1 from by omega]at ih;simp![List.map_append,List.map_cons,List.map_nil,Yy]at ih;refine(qG _).symm.trans ?_;rw[rgF];simp?![yz,List.length_map,hL,e1,e3,hd,hq,two,three,hs,ih,Yy]
def qcz(k:Nat)(c t:Int)(h0:0<=t)(h1:t<=1000000000):∃n,0<=n/\n<=t/\clK pg (k+1) "_law_number" [.val (.int c),.val (.int t)]=.ok (.val (.int n)):=by
 rw[Jy];have hp:(0:Int) < t+1:=by omega
 by_cases hc:c % 5=0
 ·refine{c / 5 % (t+1),Int.emod_nonneg _ (by omega),by have:=Int.emod_lt_of_pos (c / 5) hp;omega,?_};have hb:(c % 5 == 0)=true:=(-hc:)
  simp?![zC,qP,hb,hp]
 ·have hb:(c % 5 == 0)=false:=(-hc:)
  let(d,ed):∃d:Int,(if t+1 < 31 then t+1 else 31)=d:={_,rfl};have hd:0 < d/\d<=t+1:=by rw[<-ed];split<;>omega
  refine{c / 5 % d,Int.emod_nonneg _ (by omega),by have:=Int.emod_lt_of_pos (c / 5) hd.1;omega,?_};simp?![zC,qP,hb,ed,hd.1]
structure R12(r:Ru):Prop where
 lands:qi (r.lands.map lnD)=true
 ok:∀p∈r.lands,LnOk p
 most:NumOk r.most
 days:NumOk r.days
 d1:1<=r.days
 row:r.kd=.ro->r.days=1
 nd:(r.lands.map (·.1)).Nodup
 l1:1<=r.lands.length
 l6:r.lands.length<=6
def qb3(k:Nat)(c:Int)(zs:List Str)(hz:N6 zs):∃r:Ru,R12 r/\clK pg (k+2) "_law_rule" [.val (.int c),.bor (zs.map D.str)]=.ok (.val (ruD r)):=by
 have hL:(0:Int) < (zs.length:Int):=by have:=hz.two;omega
 have hn:0<=c * 1099087573 % 10000000000037:=Int.emod_nonneg _ (2:);generalize hN:c * 1099087573 % 10000000000037=n at hn;have m0:0<=n / 3 % (zs.length:Int):=Int.emod_nonneg _ (by omega);have m1:n / 3 % (zs.length:Int) < zs.length:=Int.emod_lt_of_pos _ hL;have six:=hz.six;let(m,em):∃m:Nat,1+n / 3 % (zs.length:Int)=(m:Int):={(1+n / 3 % (zs.length:Int)).toNat,by omega};let(l,s4',e,e1,e2):=YC (pg.kk (k+1)) (.val (.int c)) (.val (.int (m:Int))) .no .no n zs hz m [] .no (by simp;omega) (λi p hp=>by simp at hp);simp at e1;rw[List.map_nil,show((([]:List (Str×Int)).length:Nat):Int)=0 from rfl]at e
 have ok:∀p∈l,LnOk p:=λp hp=>by let(i,hi):=List.getElem?_of_mem hp;exact(e2 i p hi).2
 have nd:=Lns.nodup6 hz e2 (by omega);have lok:qi (l.map lnD)=true:=Zc ok nd (by omega) (by omega);let(t,t0,t1,et):=qcz k (n / 972) 1000000000 (2:) (2:);let(d,d0,d1,ed):=qcz k (n / 30132) 999999999 (2:) (2:);have mul:Ql c 1099087573=true:=Qz (2:) (2:)
 have sm:zi (m:Int)=true:=by unfold zi;simp;omega
 have p9:(10:Int) ^ (9:Int).toNat=1000000000:=by decide
 have c9:(0:Int)<=9/\(9:Int)<=1000000/\(10:Int).natAbs < 2 ^ 64:=by decide
 have m9:(1000000000:Int) - 1=999999999:=by decide
 have four':0+1+1+1+1<=sizeLine:=(3:)
 have zero:(0:Nat)<=sizeLine:=(3:)
 rw[Y3]
 by_cases c0:n % 3=0
 ·refine{{.wi,l,t,1+d},{lok,ok,⟨t0,t1⟩,{by show 0<=1+d;omega,by show 1+d<=_;omega},by show 1<=1+d;omega,λz=>(by cases z),nd,by show 1<=l.length;omega,by show l.length<=6;omega},?_};have hb:(n % 3 == 0)=true:=(-c0:)
  simp?![zE,List.length_map,mul,hN,hL,em,sm,zO,Int.sub_zero,Int.toNat_natCast,e,qP,hb,four',zero,p9,c9,m9,et,ed,ruD,Kd.nm]
 by_cases c1:n % 3=1
 ·refine{{.si,l,t,1+d},{lok,ok,⟨t0,t1⟩,{by show 0<=1+d;omega,by show 1+d<=_;omega},by show 1<=1+d;omega,λz=>(by cases z),nd,by show 1<=l.length;omega,by show l.length<=6;omega},?_};have hb:(n % 3 == 0)=false:=(-c0:)
  have hc:(n % 3 == 1)=true:=(-c1:)
  simp?![zE,List.length_map,mul,hN,hL,em,sm,zO,Int.sub_zero,Int.toNat_natCast,e,qP,hb,hc,four',zero,p9,c9,m9,et,ed,ruD,Kd.nm]
 ·refine{{.ro,l,t,1},{lok,ok,⟨t0,t1⟩,{by show(0:Int)<=1;decide,by show(1:Int)<=1000000000;decide},by show(1:Int)<=1;decide,λ_=>rfl,nd,by show 1<=l.length;omega,by show l.length<=6;omega},?_};have hb:(n % 3 == 0)=false:=(-c0:)
  have hc:(n % 3 == 1)=false:=(-c1:)
  simp?![zE,List.length_map,mul,hN,hL,em,sm,zO,Int.sub_zero,Int.toNat_natCast,e,qP,hb,hc,four',zero,p9,c9,m9,et,ed,ruD,Kd.nm]
end K13
namespace DG
open PySem L2 DE FA
def _root_.FA.Kd.cls:Kd->Str
 |.wi=>"Within"
 |.si=>"Since"
 |.ro=>"InRow"
def _root_.FA.Kd.fld:Kd->Str
 |.wi=>"span"
 |.si=>"leave"
 |.ro=>"leave"
def ruI(r:Ru):D:=.ins r.kd.cls ["lands","most",r.kd.fld] [.tup (r.lands.map lnD),.int r.most,.int r.days]
def qb4{z:Str}(h:NameOk z):PyData.strOk z=true:=by
 unfold PyData.strOk;rw[<-Array.all_toList,List.all_eq_true];intro c hc
 have:=h.lets c hc
 unfold Jv at this;rw[decide_eq_true_eq]
 lia
end DG
namespace K13
open PySem L2 DE DG FA TW
open LC LN
def qI(p:Str×Int):Str:=p.1++(" " : Str)++nS p.2
def zl(l:List (Str×Int)):Str:=Str.join ", " (l.map qI)
def qM(h:Str)(r:Ru):Str:=h++(" most " : Str)++nS r.most++(": " : Str)++zl r.lands
def qN(r:Ru):Str:=match r.kd with
 |.wi=>("within " : Str)++nS r.days
 |.si=>("since " : Str)++nS r.days
 |.ro=>"row"
def qA:(Str.length " " = 1)/\(Str.length ", " = 2)/\(Str.length ": " = 2)/\(Str.length " most " = 6)/\(Str.length "within " = 7)/\(Str.length "since " = 6)/\(Str.length "row" = 3):=(3:)
def qap{p:Str×Int}(h:LnOk p):(qI p).length<=19:=by have h1:p.1.length<=8:=h.nm.eight;have h2:=(zv (n:=p.2) ⟨by have:=h.one;omega,by have:=h.nine;omega⟩).2;unfold qI;rw[Str.length_append,Str.length_append,qA.1];omega
theorem QF:∀(l:List (Str×Int)),(∀p∈l,LnOk p)->((l.map qI).map (·.length)).sum<=19 * l.length
 |[],_=>by simp
 | p::l,h=>by have h1:=qap (h p (5:));have h2:=QF l λq hq=>h q (by simp[hq]);simp![List.map_cons,List.sum_cons,List.length_cons];omega
def y9{l:List (Str×Int)}(h:∀p∈l,LnOk p)(h6:l.length<=6):(zl l).length<=130:=by have h1:=QF l h;have h2:=StrLaws.join_length_le (", " : Str) (l.map qI);rw[qA.2.1,List.length_map]at h2;unfold zl;omega
def qt{n:Nat}(h:n<=100000):n<=sizeLine:=by show _<=2 ^ 24;omega
theorem YD(cl:Cl):∀(l:List (Str×Int)) (acc:List D) (s0 s1:Sl),(∀p∈l,LnOk p)->acc.length+l.length < 1000->
  jw cl je (.many [0,1]) .yes (l.map lnD) [s0,s1] acc=.ok (acc++(l.map qI).map D.str)
 |[],acc,s0,s1,_,_=>by simp[Yn]
 | p::l,acc,s0,s1,h,hl=>by
  have hp:=h p (5:);have h1:p.1.length<=8:=hp.nm.eight;have hn:NumOk p.2:={by have:=hp.one;omega,by have:=hp.nine;omega};have h2:=(zv hn).2
  have f:yM Str.empty [.str p.1,.str " ",.int p.2]=some (qI p):=by rw[qU (by omega) (by rw[Str.length_append];exact qt (by rw[show Str.empty.length=0 from rfl];omega)),Str.empty_append,qU (3:) (by rw[Str.length_append,qA.1];exact qt (by omega)),ya (zy hn) (by rw[Str.length_append,Str.length_append,qA.1];exact qt (by show _+_+(nS p.2).length<=_;omega)),jx];rfl
  rw[List.length_cons]at hl;have ih:=YD cl l (acc++[.str (qI p)]) (.val (.str p.1)) (.val (.int p.2)) (λq hq=>h q (by simp[hq])) (by simp;omega);rw[List.append_assoc]at ih
  have sz:acc.length < sizeLine:=by show _ < 2 ^ 24;omega
  refine(qG _).symm.trans ?_;rw[List.map_cons,List.map_cons,List.map_cons];simp?![Jw,Yy,f,sz,ih,List.singleton_append]
def qaq(r:Ru):qaW pg.cs (.val (ruI r)) "lands" = some (.tup (r.lands.map lnD)):=by let(kd,l,m,d):=r;cases kd<;>rfl
def qb5(r:Ru):qaW pg.cs (.val (ruI r)) "most" = some (.int r.most):=by let(kd,l,m,d):=r;cases kd<;>rfl
def Zd(k:Nat)(h:Str)(hh:h.length<=20)(r:Ru)(hr:R12 r):clK pg (k+1) "line_of" [.val (.str h),.val (ruI r)]=.ok (.val (.str (qM h r))):=by
 have c:=YD (pg.kk k) r.lands [] .no .no hr.ok (by have:=hr.l6;simp;omega);rw[List.nil_append]at c;have l1:=hr.l1;have l6:=hr.l6;have s1:=QF r.lands hr.ok;have j:Zl "join" ", " [.val (.lst ((r.lands.map qI).map D.str))]=.ok (.val (.str (Txt.join ", " (r.lands.map qI)))):=qae (.inl rfl) (by rw[qA.2.1,List.length_map];omega);rw[qak]at j;have tl:=y9 hr.ok l6;have nl:=(zv hr.most).2
 have f:yM Str.empty [.str h,.str " most ",.int r.most,.str ": ",.str (zl r.lands)]=some (qM h r):=by
  have e0:Str.empty.length=0:=rfl;have b1:(Str.empty++h).length=h.length:=by rw[Str.empty_append]
  have b2:(Str.empty++h++(" most " : Str)).length=h.length+6:=by rw[Str.length_append,b1,qA.2.2.2.1]
  have b3:(Str.empty++h++(" most " : Str)++nS r.most).length=h.length+6+(nS r.most).length:=by rw[Str.length_append,b2]
  have b4:(Str.empty++h++(" most " : Str)++nS r.most++(": " : Str)).length=h.length+6+(nS r.most).length+2:=by rw[Str.length_append,b3,qA.2.2.1]
  rw[qU (by omega) (by rw[b1];exact qt (by omega)),qU (3:) (by rw[b2];exact qt (by omega)),ya (zy hr.most) (by rw[b3];exact qt (by omega)),qU (3:) (by rw[b4];exact qt (by omega)),qU (by omega) (by rw[Str.length_append,b4];exact qt (by omega)),jx,Str.empty_append];rfl
 have sz:(r.lands.map lnD).length<=sizeLine:=by rw[List.length_map];exact qt (by omega)
 rw[qah];unfold zl at f;have cs:(pg.kk k).cs=pg.cs:=rfl;generalize hx:ruI r=x;have f1:=qaq r;have f2:=qb5 r;rw[hx]at f1 f2;simp?![Yt,cs,f1,f2,sz,Q5,c,j,f]
def JE{r:Ru}(hr:R12 r):(qN r).length<=20:=by
 have h:=(zv hr.days).2;unfold qN;cases r.kd
 ·show(("within " : Str)++nS r.days).length<=20;rw[Str.length_append,qA.2.2.2.2.1];omega
 ·show(("since " : Str)++nS r.days).length<=20;rw[Str.length_append,qA.2.2.2.2.2.1];omega
 ·show Str.length "row"<=20
  decide+kernel
def qg7(r:Ru):Str:=match r.kd with
 |.wi=>"Within.line"
 |.si=>"Since.line"
 |.ro=>"InRow.line"
def qd7(r:Ru):mtD pg.cs (.val (ruI r)) "line" = some (qg7 r):=by let(kd,l,m,d):=r;cases kd<;>rfl
theorem qd8(k:Nat)(r:Ru)(hr:R12 r):clK pg (k+2) (qg7 r) [.val (ruI r)]=.ok (.val (.str (qM (qN r) r))):=by
 have c:=Zd k (qN r) (JE hr) r hr;have nl:=(zv hr.days).2;have cs:(pg.kk (k+1)).cs=pg.cs:=rfl;let(kd,l,m,d):=r;have e0:Str.empty.length=0:=rfl;have nl:(nS d).length<=10:=nl;have sd:d.natAbs.log2 < 1920:=zy hr.days
 cases kd with
 |wi=>
  have f:yM Str.empty [.str "within ",.int d]=some (("within " : Str)++nS d):=by rw[qU (3:) (3:),Str.empty_append,ya sd (by rw[Str.length_append,qA.2.2.2.2.1];exact qt (by show 7+(nS d).length<=_;omega)),jx]
  have fs:qaW pg.cs (.val (ruI ⟨.wi,l,m,d⟩)) "span" = some (.int d):=rfl;have c:clK pg (k+1) "line_of" [.val (.str (("within " : Str)++nS d)),.val (ruI ⟨.wi,l,m,d⟩)]=.ok (.val (.str (qM (("within " : Str)++nS d) ⟨.wi,l,m,d⟩))):=c;show clK pg (k+2) "Within.line" [.val (ruI ⟨.wi,l,m,d⟩)]=.ok (.val (.str (qM (("within " : Str)++nS d) ⟨.wi,l,m,d⟩)));generalize ruI ⟨.wi,l,m,d⟩=x at *;rw[JA];simp?![jA,cs,fs,f,c]
 |si=>
  have f:yM Str.empty [.str "since ",.int d]=some (("since " : Str)++nS d):=by rw[qU (3:) (3:),Str.empty_append,ya sd (by rw[Str.length_append,qA.2.2.2.2.2.1];exact qt (by show 6+(nS d).length<=_;omega)),jx]
  have fs:qaW pg.cs (.val (ruI ⟨.si,l,m,d⟩)) "leave" = some (.int d):=rfl;have c:clK pg (k+1) "line_of" [.val (.str (("since " : Str)++nS d)),.val (ruI ⟨.si,l,m,d⟩)]=.ok (.val (.str (qM (("since " : Str)++nS d) ⟨.si,l,m,d⟩))):=c;show clK pg (k+2) "Since.line" [.val (ruI ⟨.si,l,m,d⟩)]=.ok (.val (.str (qM (("since " : Str)++nS d) ⟨.si,l,m,d⟩)));generalize ruI ⟨.si,l,m,d⟩=x at *;rw[Yw];simp?![jS,cs,fs,f,c]
 |ro=>have c:clK pg (k+1) "line_of" [.val (.str "row"),.val (ruI ⟨.ro,l,m,d⟩)]=.ok (.val (.str (qM "row" ⟨.ro,l,m,d⟩))):=c;show clK pg (k+2) "InRow.line" [.val (ruI ⟨.ro,l,m,d⟩)]=.ok (.val (.str (qM "row" ⟨.ro,l,m,d⟩)));generalize ruI ⟨.ro,l,m,d⟩=x at *;rw[Yx];simp?![jT,c]
theorem qar(p:Str×Int)(h:LnOk p)(l:List (Str×Int)):zl (p::l)≠"":=λe=>by
 have h1:1<=p.1.length:=h.nm.one
 have:=congrArg Str.length e
 cases l with
 |nil=>have e:(qI p).length=0:=this;unfold qI at e;rw[Str.length_append,Str.length_append]at e;omega
 |cons q l=>have e:(qI p++(", " : Str)++zl (q::l)).length=0:=this;unfold qI at e;rw[Str.length_append,Str.length_append,Str.length_append,Str.length_append]at e;omega
def zX{a b:Str}(ha:PyData.strOk a=true)(hb:PyData.strOk b=true):PyData.strOk (a++b)=true:=by unfold PyData.strOk at *;rw[Str.cps_append,Array.all_append,ha,hb];rfl
def QG{n:Int}(h:NumOk n):PyData.strOk (nS n)=true:=by
 unfold PyData.strOk;rw[<-Array.all_toList,List.all_eq_true];intro c hc
 have:=JB h c hc
 unfold qbW at this;rw[decide_eq_true_eq];omega
def qas{p:Str×Int}(h:LnOk p):PyData.strOk (qI p)=true:=zX (zX (qb4 h.nm) (3:)) (QG ⟨by have:=h.one;omega,by have:=h.nine;omega⟩)
theorem QH:∀(l:List (Str×Int)),(∀p∈l,LnOk p)->PyData.strOk (zl l)=true
 |[],_=>(3:)
 |[p],h=>qas (h p (5:))
 | p::q::l,h=>by have ih:=QH (q::l) λx hx=>h x (by simp![List.mem_cons]at hx ⊢;exact .inr hx);exact zX (zX (qas (h p (5:))) (3:)) ih
def qd9{r:Ru}(hr:R12 r):PyData.strOk (qN r)=true:=by
 unfold qN;cases r.kd
 ·exact zX (3:) (QG hr.days)
 ·exact zX (3:) (QG hr.days)
 ·show PyData.strOk "row" = true
  decide+kernel
def qea{r:Ru}(hr:R12 r):PyData.strOk (qM (qN r) r)=true:=zX (zX (zX (zX (qd9 hr) (3:)) (QG hr.most)) (3:)) (QH _ hr.ok)
theorem jV(cl:Cl):∀(l:List (Str×Int)) (acc:List D) (s0 s1:Sl),(∀p∈l,LnOk p)->acc.length+l.length < 1000->
  jw cl zF (.many [0,1]) .yes (l.map lnD) [s0,s1] acc=.ok (acc++(l.map qI).map D.str)
 |[],acc,s0,s1,_,_=>by simp[Yn]
 | p::l,acc,s0,s1,h,hl=>by
  have hp:=h p (5:);have h1:p.1.length<=8:=hp.nm.eight;have hn:NumOk p.2:={by have:=hp.one;omega,by have:=hp.nine;omega};have h2:=(zv hn).2;have sm:=zy hn;have e1:Str.length " " = 1:=qA.1;have b0:p.1.length+Str.length " "<=sizeLine:=by rw[e1];exact qt (by omega)
  have b1:(p.1++(" " : Str)).length+(nS p.2).length<=sizeLine:=by rw[Str.length_append,e1];exact qt (by omega)
  rw[List.length_cons]at hl;have ih:=jV cl l (acc++[.str (qI p)]) (.val (.str p.1)) (.val (.int p.2)) (λq hq=>h q (by simp[hq])) (by simp;omega);rw[List.append_assoc]at ih
  have sz:acc.length < sizeLine:=by show _ < 2 ^ 24;omega
  refine(qG _).symm.trans ?_;rw[List.map_cons,List.map_cons,List.map_cons];unfold qI at ih ⊢;simp?![yA,Yy,b0,b1,sm,sz,ih,List.singleton_append]
theorem Ze(k:Nat)(r:Ru)(hr:R12 r):clK pg (k+1) "_law_line" [.val (ruD r)]=.ok (.val (.str (qM (qN r) r))):=by
 have l6:=hr.l6;have tl:=y9 hr.ok l6;have nl:=(zv hr.most).2;have dl:=(zv hr.days).2;have sd:=zy hr.days;have sm:=zy hr.most;have hl:=JE hr;have e2:=qA.2.2.2.1;have e3:=qA.2.2.1;let(kd,l,m,d):=r
 have fin:∀(H:Str),H.length<=20->(H.length+Str.length " most "<=sizeLine)/\((H++(" most " : Str)).length+(nS m).length<=sizeLine)/\((H++(" most " : Str)++nS m).length+Str.length ": "<=sizeLine)/\((H++(" most " : Str)++nS m++(": " : Str)).length+(zl l).length<=sizeLine):=λH hH=>by have nl:(nS m).length<=10:=nl;have tl:(zl l).length<=130:=tl;simp![Str.length_append,e2,e3];exact{qt (by omega),qt (by omega),qt (by omega),qt (by omega)}
 let(b1,b2,b3,b4):=fin (qN ⟨kd,l,m,d⟩) hl;have t7:Str.length " " = 1:=qA.1;rw[Y4];have c:=jV (pg.kk k) l [] .no .no hr.ok (by have:l.length<=6:=l6;simp;omega);rw[List.nil_append]at c;have s1:=QF l hr.ok;have jn:Zl "join" ", " [.bor ((l.map qI).map D.str)]=.ok (.val (.str (Txt.join ", " (l.map qI)))):=qae (.inr rfl) (by have:l.length<=6:=l6;rw[qA.2.1,List.length_map];omega);rw[qak]at jn;have jn:Zl "join" ", " [.bor ((l.map qI).map D.str)]=.ok (.val (.str (zl l))):=jn;have sz:l.length<=sizeLine:=qt (by have:l.length<=6:=l6;omega)
 cases kd with
 |wi=>
  have q:eqD (.str "within") (.str "row")=some false:=(3:)
  have hd:qN ⟨.wi,l,m,d⟩=("within" : Str)++(" " : Str)++nS d:=by show("within " : Str)++nS d=_;rw[show("within " : Str)=("within" : Str)++(" " : Str) by decide+kernel]
  rw[hd]at b1 b2 b3 b4 ⊢;have x1:Str.length "within" + Str.length " "<=sizeLine:=(3:)
  have x2:(("within" : Str)++(" " : Str)).length+(nS d).length<=sizeLine:=by have dl:(nS d).length<=10:=dl;rw[Str.length_append,t7,show Str.length "within" = 6 by decide+kernel];exact qt (by omega)
  unfold ruD Kd.nm;dsimp only;unfold qM;simp?![zG,q,Bool.not_false,x1,x2,sd,sm,c,jn,sz,Q5,List.length_map,b1,b2,b3,b4]
 |si=>
  have q:eqD (.str "since") (.str "row")=some false:=(3:)
  have hd:qN ⟨.si,l,m,d⟩=("since" : Str)++(" " : Str)++nS d:=by show("since " : Str)++nS d=_;rw[show("since " : Str)=("since" : Str)++(" " : Str) by decide+kernel]
  rw[hd]at b1 b2 b3 b4 ⊢;have x1:Str.length "since" + Str.length " "<=sizeLine:=(3:)
  have x2:(("since" : Str)++(" " : Str)).length+(nS d).length<=sizeLine:=by have dl:(nS d).length<=10:=dl;rw[Str.length_append,t7,show Str.length "since" = 5 by decide+kernel];exact qt (by omega)
  unfold ruD Kd.nm;dsimp only;unfold qM;simp?![zG,q,Bool.not_false,x1,x2,sd,sm,c,jn,sz,Q5,List.length_map,b1,b2,b3,b4]
 |ro=>
  have q:eqD (.str "row") (.str "row")=some true:=(3:)
  have hd:qN ⟨.ro,l,m,d⟩ = "row":=rfl;rw[hd]at b1 b2 b3 b4 ⊢;unfold ruD Kd.nm;dsimp only;unfold qM;simp?![zG,q,Bool.not_true,sd,sm,c,jn,sz,Q5,List.length_map,b1,b2,b3,b4]
def qeb{x:Str}(h:Sm x):x.length<=sizeLine:=by
 have:=h.len
 show _<=2 ^ 24;omega
theorem qec{z:Str}(h:1<=z.length):∃c,z.cps.toList.head?=some c/\atI z.cps.toList 0=some c/\c∈z.cps.toList:=by
 have l:z.cps.toList.length=z.length:=Array.length_toList
 cases e:z.cps.toList with
 |nil=>rw[e]at l;simp at l;omega
 |cons c r=>exact{c,rfl,qgs (j:=0) rfl,by simp}
def qgE{z:Str}(h:Sm z){c:Nat}(hc:c∈z.cps.toList):PyData.strOk ⟨#[c]⟩=true:=by
 have:=h.ok
 unfold PyData.strOk at *;rw[<-Array.all_toList,List.all_eq_true]at *;intro x hx;rw[show x=c by simpa using hx];exact this c hc
def Y8(k:Nat)(z:Str)(h:Sm z):clK pg (k+2) "is_written_number" [.val (.str z)]=.ok (.val (.bl (wnB z))):=by
 have hz:=qeb h;have m:=qb0 k z;rw[jd]
 by_cases l1:1<=z.length
 ·have l1':¬ (z.length:Int) < 1:=by omega
  by_cases l2:z.length<=10
  ·have l2':¬ (10:Int) < (z.length:Int):=by omega
   let(c,hc,a0,cm):=qec l1;have ok0:PyData.strOk "0" = true:=(3:)
   by_cases e:c=48
   ·subst e;have q:eqD (.str ⟨#[48]⟩) (.str "0")=some true:=(3:)
    by_cases e1:z.length=1
    ·have l3:¬ (1:Int) < (z.length:Int):=by omega
     have w:wnB z=z.cps.toList.all λc=>decide (48<=c)&&decide (c < 58):=by unfold wnB;simp[e1]
     rw[<-w]at m;simp?![qu,hz,l1',l2',l3,a0,q,decide_false,m]
    ·have l3:(1:Int) < (z.length:Int):=by omega
     have w:wnB z=false:=by unfold wnB;simp[e1,hc]
     simp?![qu,hz,l1',l2',l3,a0,q,decide_false,decide_true,w]
   ·have q:eqD (.str ⟨#[c]⟩) (.str "0")=some false:=by
     rw[Jt (qgE h cm) ok0]
     have:(⟨#[c]⟩:Str)≠"0":=λz=>e (by
      have:=congrArg (λs:Str=>s.cps.toList) z
      have e2:("0" : Str).cps.toList=[48]:=(3:)
      dsimp only at this;rw[e2]at this
      simpa using this)
     simpa using this
    have w:wnB z=z.cps.toList.all λc=>decide (48<=c)&&decide (c < 58):=by unfold wnB;simp[l1,l2,hc,e]
    rw[<-w]at m;simp?![qu,hz,l1',l2',a0,q,decide_false,m]
  ·have l2':(10:Int) < (z.length:Int):=by omega
   have w:wnB z=false:=by unfold wnB;simp[l2]
   simp?![qu,hz,l1',l2',decide_false,decide_true,w]
 ·have l1':(z.length:Int) < 1:=by omega
  have w:wnB z=false:=by unfold wnB;simp[l1]
  simp?![qu,hz,l1',decide_true,w]
abbrev aT:Addr:=165
abbrev aR:Addr:=72
def mkx(b:Bool)(d:D):mkX b pg.cs "NoText" [d]=.exc aT []:=by
 have e:pg.cs.xn "NoText" = some []:=by rfl
 unfold mkX;rw[e];show(if (1:Nat)<=sizeLine then _ else _)=_;rw[if_pos (3:)];rfl
def qiI{a z:Str}(ha:a.length<=100)(hz:Sm z):yM Str.empty [.str a,.str (reprText z)]=some (a++reprText z):=by have r:=Y7 hz;have e0:Str.empty.length=0:=rfl;rw[qU (by omega) (by rw[Str.length_append];exact qt (by omega)),qU (by omega) (by rw[Str.length_append,Str.length_append];exact qt (by omega)),jx,Str.empty_append]
def qat{z:Str}(hz:Sm z):(reprText z).length<=sizeLine:=qt (by have:=Y7 hz;omega)
theorem Ja(k:Nat)(z:Str)(h:Sm z):clK pg (k+3) "read_number" [.val (.str z)]=if wnB z=true then .ok (.val (.int (zf z))) else .exc aT []:=by
 have w:=Y8 k z h;rw[Jx]
 cases c:wnB z with
 |true=>rw[c]at w;rw[if_pos rfl];have e:qgY (.val (.str z))=.ok (.val (.int (zf z))):=qgv (qgB (qam c)) (by have:=h.len;omega);simp?![zB,w,e]
 |false=>rw[c]at w;rw[if_neg (2:)];have f:=qiI (a:="no number: ") (3:) h;have rz:=qat h;have cs:(pg.kk (k+2)).cs=pg.cs:=rfl;simp?![zB,w,rz,f,cs,mkx]
def eqn(n m:Nat):eqD (.int (n:Int)) (.int (m:Int))=some (decide (n=m)):=by
 rw[qP]
 congr 1
 rw[Bool.eq_iff_iff];simp;omega
theorem jC(k:Nat)(v0:Sl):∀(ps:List Str) (acc:List (Str×Int)) (s2 s3:Sl),(∀p∈ps,Sm p)->acc.length+ps.length < 1000->∃F,Ym (pg.kk (k+3)) 1000 (.one 2) zu (ps.map D.str) [v0,.own (acc.map lnD),s2,s3]=F/\(∀l,qz ps=some l->∃s s',F=.ok (.next [v0,.own ((acc++l).map lnD),s,s']))/\(qz ps=none->F=.exc aT [])
 |[],acc,s2,s3,_,_=>{_,rfl,(λl h=>by cases h;exact{s2,s3,by rw[List.append_nil];rfl}),(λh=>by cases h)}
 | p::ps,acc,s2,s3,h,hl=>by
  have hp:=h p (5:);have hs:∀q∈Txt.split p " ",Sm q:=λq hq=>jB hp hq;have c:(Str.length " " == 0)=false/\p.length+2<=sizeLine:={by decide+kernel,qt (by have:=hp.len;omega)};have cs:(pg.kk (k+3)).cs=pg.cs:=rfl;unfold qz z7;generalize hw:Txt.split p " " = ws at hs
  by_cases l2:ws.length=2
  ·match ws,l2 with
   |[a,b],_=>
    have rn:=Ja k b (hs b (5:));have z2:0+1+1<=sizeLine:=(3:)
    have a0:atI [D.str a,D.str b] 0=some (.str a):=by rfl
    have a1:atI [D.str a,D.str b] 1=some (.str b):=by rfl
    have e2:eqD (.int ((0+1+1:Nat):Int)) (.int 2)=some true:=by rw[qP];rfl
    rw[show rdW [a,b]=if wnB b=true then some (a,zf b) else none from rfl]
    cases w:wnB b with
    |false=>rw[w,if_neg (2:)]at rn;refine{_,rfl,(λl h=>by cases h),λ_=>?_};rw[List.map_cons];simp?[qZ,c,hw,List.map_cons,List.map_nil,e2,Bool.not_true,a0,a1,rn]
    |true=>
     rw[w,if_pos rfl]at rn;rw[List.length_cons]at hl;let(F,ih,i1,i2):=jC k v0 ps (acc++[(a,zf b)]) (.val (.str p)) (.own [.str a,.str b]) (λq hq=>h q (by simp[hq])) (by simp;omega);refine{F,?_,λl h=>?_,λh=>?_}
     ·have sz:(acc.map lnD).length < sizeLine:=by
       rw[List.length_map];show _ < 2 ^ 24;omega
      rw[List.map_append,List.map_cons,List.map_nil,Yy]at ih;rw[List.map_cons];simp?[qZ,c,hw,List.map_cons,List.map_nil,e2,Bool.not_true,a0,a1,rn,z2,sz,ih];exact qG _
     ·rw[if_pos rfl]at h
      cases e:qz ps with
      |none=>rw[e]at h;cases h
      | some l'=>rw[e]at h;cases h;let(s,s',e'):=i1 l' e;exact{s,s',by rw[e',List.append_assoc];rfl}
     ·rw[if_pos rfl]at h
      cases e:qz ps with
      |none=>exact i2 e
      | some l'=>rw[e]at h;cases h
  ·rw[qan l2];refine{_,rfl,(λl h=>by cases h),λ_=>?_};have e2:eqD (.int ((ws.map D.str).length:Int)) (.int 2)=some false:=by rw[List.length_map];exact(eqn ws.length 2).trans (by rw[decide_eq_false l2])
   have f:=qiI (a:="no name and weight: ") (3:) hp;have rz:=qat hp;rw[List.map_cons];simp?[qZ,c,hw,e2,Bool.not_false,rz,f,cs,mkx]
theorem YE(y:Str)(hy:1<=y.length):∀zs:List Str,zs.length<=(Str.join y zs).length+1
 |[]=>by simp
 |[a]=>by simp
 | a::b::r=>by have ih:=YE y hy (b::r);show _<=(a++y++Str.join y (b::r)).length+1;rw[Str.length_append,Str.length_append,List.length_cons];omega
def Zf{x y:Str}(hx:Sm x)(hy:1<=y.length):(Txt.split x y).length<=251:=by
 have:=YE y hy (Txt.split x y)
 rw[StrLaws.join_split]at this
 have:=hx.len
 omega
theorem JF(k:Nat)(z:Str)(h:Sm z):clK pg (k+4) "read_lands" [.val (.str z)]=match qz (Txt.split z ", ") with
 |some l=>.ok (.tmp (l.map lnD))
 |none=>.exc aT []:=by
 have hs:∀q∈Txt.split z ", ",Sm q:=λq hq=>jB h hq;have hn:=Zf (y:=", ") h (3:);have c:(Str.length ", " == 0)=false/\z.length+2<=sizeLine:={by decide+kernel,qt (by have:=h.len;omega)};have z0:0<=sizeLine:=(3:)
 let(F,e,i1,i2):=jC k (.val (.str z)) (Txt.split z ", ") [] .no .no hs (by simp;omega);rw[List.map_nil]at e;rw[Yu]
 cases r:qz (Txt.split z ", ") with
 |none=>rw[i2 r]at e;simp?![zU,z0,c,e]
 |some l=>let(s,s',e'):=i1 l r;rw[e',List.nil_append]at e;simp?![zU,z0,c,e]
def qH(l:List (Str×Int)):List Str->Option Ru
 |[a,b,c]=>if a = "row"/\b = "most"/\wnB c=true/\qi (l.map lnD)=true/\DG.btw (zf c) 0 1000000000=true then some ⟨.ro,l,zf c,1⟩ else none
 |[a,b,c,d]=>if (a = "within"\/a = "since")/\c = "most"/\wnB d=true/\wnB b=true/\qi (l.map lnD)=true/\DG.btw (zf d) 0 1000000000=true/\DG.btw (zf b) 1 1000000000=true then some ⟨if a = "within" then .wi else .si,l,zf d,zf b⟩ else none
 |_=>none
theorem YF(l:List (Str×Int)){ws:List Str}(h3:ws.length≠3)(h4:ws.length≠4):qH l ws=none:=by
 match ws,h3,h4 with
 |[],_,_=>rfl
 |[_],_,_=>rfl
 |[_,_],_,_=>rfl
 |[_,_,_],h,_=>exact absurd rfl h
 |[_,_,_,_],_,h=>exact absurd rfl h
 | _::_::_::_::_::_,_,_=>rfl
def yQ(C:Addr):Option Ru->R Rv
 |some r=>.ok (.val (ruI r))
 |none=>.exc C []
def QI(l:List (Str×Int))(h:∀p∈l,p.1.length<=3000):(l.map lnD).all kvS=true:=by rw[List.all_eq_true];intro d hd;let(p,hp,rfl):=List.mem_map.mp hd;show decide (p.1.length<=3000)=true;exact decide_eq_true (h p hp)
section
variable(k:Nat)(l:List (Str×Int))(h:∀p∈l,p.1.length<=3000)(m d:Int)
include h
theorem qgF:qbQ 72 (k+12) "InRow" [.val (.lst (l.map lnD)),.val (.int m)]=yQ aR (if qi (l.map lnD)=true/\DG.btw m 0 1000000000=true then some ⟨.ro,l,m,1⟩ else none):=by
 unfold qbQ;rw[if_neg (by omega)]
 have w:wfR [.val (.lst (l.map lnD)),.val (.int m)]=true:=by show((l.map lnD).all kvS&&true)=true;rw[QI l h];rfl
 show jc 72 "InRow" _ (if (qi (l.map lnD)&&DG.btw m 0 1000000000)=true then _ else none)=_;rw[w]
 by_cases c:qi (l.map lnD)=true/\DG.btw m 0 1000000000=true
 ·rw[if_pos c,if_pos (by rw[c.1,c.2];rfl)];rfl
 ·rw[if_neg c,if_neg (λe=>c (-e:))];rfl
theorem qed(b:Bool):qbQ 72 (k+12) (if b=true then "Within" else "Since") [.val (.lst (l.map lnD)),.val (.int m),.val (.int d)]=yQ aR (if qi (l.map lnD)=true/\DG.btw m 0 1000000000=true/\DG.btw d 1 1000000000=true then some ⟨if b=true then .wi else .si,l,m,d⟩ else none):=by
 unfold qbQ;rw[if_neg (by omega)]
 have w:wfK [.val (.lst (l.map lnD)),.val (.int m),.val (.int d)]=true:=by show(((l.map lnD).all kvS&&true)&&true)=true;rw[QI l h];rfl
 cases b with
 |true=>
  show jc 72 "Within" _ (if (qi (l.map lnD)&&DG.btw m 0 1000000000&&DG.btw d 1 1000000000)=true then _ else none)=_;rw[w]
  by_cases c:qi (l.map lnD)=true/\DG.btw m 0 1000000000=true/\DG.btw d 1 1000000000=true
  ·rw[if_pos c,if_pos (by rw[c.1,c.2.1,c.2.2];rfl)];rfl
  ·rw[if_neg c,if_neg (λe=>c (by simpa [and_assoc] using e))];rfl
 |false=>
  show jc 72 "Since" _ (if (qi (l.map lnD)&&DG.btw m 0 1000000000&&DG.btw d 1 1000000000)=true then _ else none)=_;rw[w]
  by_cases c:qi (l.map lnD)=true/\DG.btw m 0 1000000000=true/\DG.btw d 1 1000000000=true
  ·rw[if_pos c,if_pos (by rw[c.1,c.2.1,c.2.2];rfl)];rfl
  ·rw[if_neg c,if_neg (λe=>c (by simpa [and_assoc] using e))];rfl
end
def eqs{a b:Str}(h:Sm a)(hb:PyData.strOk b=true):eqD (.str a) (.str b)=some (decide (a=b)):=by
 rw[Jt h.ok hb]
 congr 1
def Zg(k:Nat)(ws:List Str)(hw:∀w∈ws,Sm w)(l:List (Str×Int))(h:∀p∈l,p.1.length<=3000):∃C,(C=aT\/C=aR)/\clK pg (k+13) "rule_of" [.val (.lst (ws.map D.str)),.val (.lst (l.map lnD))]=yQ C (qH l ws):=by
 have cs:(pg.kk (k+12)).cs=pg.cs:=rfl;have yy:(pg.kk (k+12)).y=true:=(decide_eq_true (show 12<=k+12 by omega):decide (12<=k+12)=true);have wn:(pg.kk (k+12)).nw=qbQ 72 (k+12):=rfl;have rn:∀z,Sm z->clK pg (k+12) "read_number" [.val (.str z)]=if wnB z=true then .ok (.val (.int (zf z))) else .exc aT []:=λz hz=>Ja (k+9) z hz;rw[qai]
 by_cases h3:ws.length=3
 ·match ws,h3 with
  |[a,b,c],_=>
   have e33:eqD (.int ((0+1+1+1:Nat):Int)) (.int 3)=some true:=by rw[qP];rfl
   have e34:eqD (.int ((0+1+1+1:Nat):Int)) (.int 4)=some false:=by rw[qP];rfl
   have a0:atI [D.str a,D.str b,D.str c] 0=some (.str a):=by rfl
   have a1:atI [D.str a,D.str b,D.str c] 1=some (.str b):=by rfl
   have a2:atI [D.str a,D.str b,D.str c] 2=some (.str c):=by rfl
   have qa:=eqs (hw a (5:)) (b:="row") (3:);have qb:=eqs (hw b (5:)) (b:="most") (3:);have rc:=rn c (hw c (5:));rw[List.map_cons,List.map_cons,List.map_cons,List.map_nil]
   by_cases ea:a = "row"
   ·subst ea;rw[decide_eq_true rfl]at qa
    by_cases eb:b = "most"
    ·subst eb;rw[decide_eq_true rfl]at qb
     cases ec:wnB c with
     |true=>
      rw[ec,if_pos rfl]at rc;have nw:=qgF k l h (zf c);refine{aR,.inr rfl,?_};have rr:qH l ["row","most",c]=if qi (l.map lnD)=true/\DG.btw (zf c) 0 1000000000=true then some ⟨.ro,l,zf c,1⟩ else none:=by unfold qH;simp![ec,true_and]
      rw[rr]
      by_cases cc:qi (l.map lnD)=true/\DG.btw (zf c) 0 1000000000=true
      ·rw[if_pos cc,yQ]at nw ⊢;simp?![qr,e33,qa,qb,a0,a1,a2,rc,yy,wn,nw]
      ·rw[if_neg cc,yQ]at nw ⊢;simp?![qr,e33,qa,qb,a0,a1,a2,rc,yy,wn,nw]
     |false=>
      rw[ec,if_neg (2:)]at rc;refine{aT,.inl rfl,?_};have rr:qH l ["row","most",c]=none:=by unfold qH;simp[ec]
      rw[rr,yQ];simp?![qr,e33,qa,qb,a0,a1,a2,rc,yy]
    ·rw[decide_eq_false eb]at qb;refine{aT,.inl rfl,?_};have rr:qH l ["row",b,c]=none:=by unfold qH;simp[eb]
     rw[rr,yQ];simp?![qr,e33,e34,qa,qb,a0,a1,cs,mkx]
   ·rw[decide_eq_false ea]at qa;refine{aT,.inl rfl,?_};have rr:qH l [a,b,c]=none:=by unfold qH;simp[ea]
    rw[rr,yQ];simp?![qr,e33,e34,qa,a0,cs,mkx]
 ·by_cases h4:ws.length=4
  ·match ws,h4 with
   |[a,b,c,d],_=>
    have e43:eqD (.int ((0+1+1+1+1:Nat):Int)) (.int 3)=some false:=by rw[qP];rfl
    have e44:eqD (.int ((0+1+1+1+1:Nat):Int)) (.int 4)=some true:=by rw[qP];rfl
    have a0:atI [D.str a,D.str b,D.str c,D.str d] 0=some (.str a):=by rfl
    have a1:atI [D.str a,D.str b,D.str c,D.str d] 1=some (.str b):=by rfl
    have a2:atI [D.str a,D.str b,D.str c,D.str d] 2=some (.str c):=by rfl
    have a3:atI [D.str a,D.str b,D.str c,D.str d] 3=some (.str d):=by rfl
    have qw:=eqs (hw a (5:)) (b:="within") (3:);have qs:=eqs (hw a (5:)) (b:="since") (3:);have qc:=eqs (hw c (5:)) (b:="most") (3:);have rb:=rn b (hw b (5:));have rd:=rn d (hw d (5:));rw[List.map_cons,List.map_cons,List.map_cons,List.map_cons,List.map_nil]
    by_cases ec:c = "most"
    ·subst ec;rw[decide_eq_true rfl]at qc
     by_cases ok:a = "within"\/a = "since"
     ·let(w,ew):∃w:Bool,a=if w=true then "within" else "since":=ok.elim (λe=>⟨true,e⟩) λe=>⟨false,e⟩
      cases ed:wnB d with
      |false=>
       rw[ed,if_neg (2:)]at rd;refine{aT,.inl rfl,?_};have rr:qH l [a,b,"most",d]=none:=by unfold qH;simp[ed]
       rw[rr,yQ]
       cases w with
       |true=>rw[if_pos rfl]at ew;subst ew;rw[decide_eq_true rfl]at qw;simp?![qr,e43,e44,qw,qc,a0,a1,a2,a3,rd,yy]
       |false=>rw[if_neg (2:)]at ew;subst ew;rw[decide_eq_false (3:)]at qw;rw[decide_eq_true rfl]at qs;simp?![qr,e43,e44,qw,qs,qc,a0,a1,a2,a3,rd,yy]
      |true=>
       rw[ed,if_pos rfl]at rd
       cases eb:wnB b with
       |false=>
        rw[eb,if_neg (2:)]at rb;refine{aT,.inl rfl,?_};have rr:qH l [a,b,"most",d]=none:=by unfold qH;simp[eb]
        rw[rr,yQ]
        cases w with
        |true=>rw[if_pos rfl]at ew;subst ew;rw[decide_eq_true rfl]at qw;simp?![qr,e43,e44,qw,qc,a0,a1,a2,a3,rd,rb,yy]
        |false=>rw[if_neg (2:)]at ew;subst ew;rw[decide_eq_false (3:)]at qw;rw[decide_eq_true rfl]at qs;simp?![qr,e43,e44,qw,qs,qc,a0,a1,a2,a3,rd,rb,yy]
       |true=>
        rw[eb,if_pos rfl]at rb;have nw:=qed k l h (zf d) (zf b) w;refine{aR,.inr rfl,?_}
        have rr:qH l [a,b,"most",d]=if qi (l.map lnD)=true/\DG.btw (zf d) 0 1000000000=true/\DG.btw (zf b) 1 1000000000=true then some ⟨if w=true then .wi else .si,l,zf d,zf b⟩ else none:=by
         unfold qH;simp![ed,eb,ok,true_and]
         cases w with
         |true=>rw[if_pos rfl]at ew;subst ew;rfl
         |false=>rw[if_neg (2:)]at ew;subst ew;rw[if_neg (show ¬ ("since" : Str) = "within" by decide+kernel)];rfl
        rw[rr];generalize hO:(if qi (l.map lnD)=true/\DG.btw (zf d) 0 1000000000=true/\DG.btw (zf b) 1 1000000000=true then some (⟨if w=true then .wi else .si,l,zf d,zf b⟩:Ru) else none)=O at nw ⊢;clear hO rr
        cases w with
        |true=>
         rw[if_pos rfl]at ew nw;subst ew;rw[decide_eq_true rfl]at qw
         cases O with
         |none=>rw[yQ]at nw ⊢;simp?![qr,e43,e44,qw,qc,a0,a1,a2,a3,rd,rb,yy,wn,nw]
         |some r=>rw[yQ]at nw ⊢;simp?![qr,e43,e44,qw,qc,a0,a1,a2,a3,rd,rb,yy,wn,nw]
        |false=>
         rw[if_neg (2:)]at ew nw;subst ew;rw[decide_eq_false (3:)]at qw;rw[decide_eq_true rfl]at qs
         cases O with
         |none=>rw[yQ]at nw ⊢;simp?![qr,e43,e44,qw,qs,qc,a0,a1,a2,a3,rd,rb,yy,wn,nw]
         |some r=>rw[yQ]at nw ⊢;simp?![qr,e43,e44,qw,qs,qc,a0,a1,a2,a3,rd,rb,yy,wn,nw]
     ·refine{aT,.inl rfl,?_};have rr:qH l [a,b,"most",d]=none:=if_neg λe=>ok e.1;rw[rr,yQ];rw[decide_eq_false λe=>ok (.inl e)]at qw;rw[decide_eq_false λe=>ok (.inr e)]at qs;simp?![qr,e43,e44,qw,qs,a0,cs,mkx]
    ·rw[decide_eq_false ec]at qc;refine{aT,.inl rfl,?_};have rr:qH l [a,b,c,d]=none:=if_neg λe=>ec e.2.1;rw[rr,yQ]
     by_cases ea:a = "within"
     ·subst ea;rw[decide_eq_true rfl]at qw;rw[decide_eq_false (3:)]at qs;simp?![qr,e43,e44,qw,qs,qc,a0,a2,cs,mkx]
     ·rw[decide_eq_false ea]at qw
      by_cases eb:a = "since"
      ·rw[decide_eq_true eb]at qs;simp?![qr,e43,e44,qw,qs,qc,a0,a2,cs,mkx]
      ·rw[decide_eq_false eb]at qs;simp?![qr,e43,e44,qw,qs,a0,cs,mkx]
  ·refine{aT,.inl rfl,?_};have e3:eqD (.int ((ws.map D.str).length:Int)) (.int 3)=some false:=by rw[List.length_map];exact(eqn ws.length 3).trans (by rw[decide_eq_false h3])
   have e4:eqD (.int ((ws.map D.str).length:Int)) (.int 4)=some false:=by rw[List.length_map];exact(eqn ws.length 4).trans (by rw[decide_eq_false h4])
   rw[YF l h3 h4];simp?![qr,e3,e4,cs,mkx,yQ]
def rdR(t:Str):Option Ru:=match qz (Txt.split (Txt.partition t ": ").2.2 ", ") with
 |some l=>qH l (Txt.split (Txt.partition t ": ").1 " ")
 |none=>none
def kTR(cl:Cl)(c n:Str)(r:R Fl):R Fl:=match r with
 |.exc C l=>yW cl.cs C l c n
 |r=>r
def kTc(cl:Cl)(f:Str)(x:List Ar×DE.Env):R Fl:=(cl f x.1).th qeu
def qee(cl:Cl)(w:Nat)(N:DE.Env)(f c n:Str)(a:Xa)(i:Nat):iS cl w (.tryR f a c n i) N=if qbm (slR N i)=true then kTR cl c n ((iXa cl a N).th (kTc cl f)) else .no:=by rw[iS];rfl
def qef{p:Str}(hp:Sm p){x:Str×Int}(h:z7 p=some x):x.1.length<=3000:=by
 unfold z7 at h;have hs:∀q∈Txt.split p " ",Sm q:=λq hq=>jB hp hq;generalize Txt.split p " " = ws at h hs
 by_cases l2:ws.length=2
 ·match ws,l2 with
  |[a,b],_=>
   have h:(if wnB b=true then some (a,zf b) else none)=some x:=h
   split at h
   ·cases h
    have:=(hs a (5:)).len
    dsimp only;omega
   ·cases h
 ·rw[qan l2]at h;cases h
theorem qau:∀(ps:List Str) (l:List (Str×Int)),(∀p∈ps,Sm p)->qz ps=some l->∀p∈l,p.1.length<=3000
 |[],l,_,h=>by cases h;exactλp hp=>by cases hp
 | p::ps,l,hs,h=>by
  unfold qz at h
  cases e:z7 p with
  |none=>rw[e]at h;cases h
  |some x=>
   rw[e]at h
   cases e2:qz ps with
   |none=>rw[e2]at h;cases h
   | some l'=>
    rw[e2]at h;cases h;intro q hq;rcases List.mem_cons.mp hq with rfl|hq
    ·exact qef (hs p (5:)) e
    ·exact qau ps l' (λz hz=>hs z (by simp[hz])) e2 q hq
def jv(C:Addr)(h:C=aT\/C=aR):yW pg.cs C [] "NoRule" "NoText" = .exc aT []:=by rcases h with rfl|rfl<;>rfl
theorem YG(k:Nat)(t:Str)(h:Sm t):clK pg (k+14) "read_rule" [.val (.str t)]=yQ aT (rdR t):=by
 let(p1,p2):=qd5 (y:=": ") h;have c1:(Str.length ": " == 0)=false/\t.length<=sizeLine:={by decide+kernel,qeb h};have c2:(Str.length " " == 0)=false/\(Txt.partition t ": ").1.length+2<=sizeLine:={by decide+kernel,qt (by have:=p1.len;omega)};have mo:∀s,qbm (slR [.val (.str t),s] 0)=true:=λs=>decide_eq_true (by have:=Y7 h;omega);have rl:clK pg (k+13) "read_lands" [.val (.str (Txt.partition t ": ").2.2)]=_:=JF (k+9) _ p2;have hs:∀q∈Txt.split (Txt.partition t ": ").2.2 ", ",Sm q:=λq hq=>jB p2 hq;have hw:∀q∈Txt.split (Txt.partition t ": ").1 " ",Sm q:=λq hq=>jB p1 hq;have a0:∀A B C:Str,atI [D.str A,D.str B,D.str C] 0=some (.str A):=λ_ _ _=>rfl;have a2:∀A B C:Str,atI [D.str A,D.str B,D.str C] 2=some (.str C):=λ_ _ _=>rfl;have ro:=Zg k (Txt.split (Txt.partition t ": ").1 " ") hw
 have E0:iR (pg.kk (k+13)) (E.met (E.idx (E.var 1) (E.con (D.int 0))) "split" (Es.cons (E.con (D.str " ")) Es.nil)) [.val (.str t),.val (.tup [.str (Txt.partition t ": ").1,.str (Txt.partition t ": ").2.1,.str (Txt.partition t ": ").2.2])]=.ok (.tmp ((Txt.split (Txt.partition t ": ").1 " ").map D.str),[.val (.str t),.val (.tup [.str (Txt.partition t ": ").1,.str (Txt.partition t ": ").2.1,.str (Txt.partition t ": ").2.2])]):=by simp?[a0,c2]
 have E2:iAs (pg.kk (k+13)) (Es.cons (E.idx (E.var 1) (E.con (D.int 2))) Es.nil) [.val (.str t),.val (.tup [.str (Txt.partition t ": ").1,.str (Txt.partition t ": ").2.1,.str (Txt.partition t ": ").2.2])]=.ok ([.val (.str (Txt.partition t ": ").2.2)],[.val (.str t),.val (.tup [.str (Txt.partition t ": ").1,.str (Txt.partition t ": ").2.1,.str (Txt.partition t ": ").2.2])]):=by simp?[a2]
 rw[Y2];unfold rdR;generalize Txt.split (Txt.partition t ": ").1 " " = ws at *;have hp:Txt.partition t ": " = ((Txt.partition t ": ").1,(Txt.partition t ": ").2.1,(Txt.partition t ": ").2.2):=rfl;generalize (Txt.partition t ": ").2.1=m at *;generalize (Txt.partition t ": ").1=A at *
 have X:∀{V:R Rv},V=yQ aT (match qz (Txt.split (Txt.partition t ": ").2.2 ", ") with |some l=>qH l ws |none=>none)->∀{M:Type} (K:Fl->R M),(iS (pg.kk (k+13)) 1000 (.tryR "rule_of" (Xa.leaf (.met (.idx (.var 1) (.con (D.int 0))) "split" %[.con (D.str " ")|0]) (Xa.call "read_lands" %[.idx (.var 1) (.con (D.int 2))|0] Xa.nil)) "NoRule" "NoText" 0) [.val (.str t),.val (.tup [.str A,.str m,.str (Txt.partition t ": ").2.2])]).th K=(V.th qeu).th K:=by
  rintro V rfl M K
  congr 1
  rw[qee,if_pos (mo _),iXa,E0];simp![n_ok,th_ok];rw[iXa,E2];simp![n_ok,th_ok];rw[show(pg.kk (k+13)).f "read_lands" [.val (.str (Txt.partition t ": ").2.2)]=_ from rl]
  cases e:qz (Txt.split (Txt.partition t ": ").2.2 ", ") with
  |none=>exact jv aT (.inl rfl)
  |some l=>
   let(C,hC,r):=ro l (qau _ l hs e);show kTR _ _ _ ((clK pg (k+13) "rule_of" [.val (.lst (ws.map D.str)),.val (.lst (l.map lnD))]).th qeu)=_;rw[r];dsimp only
   cases qH l ws with
   |none=>exact jv C hC
   |some r=>rfl
 have X:=λ{M:Type}=>X rfl (M:=M);generalize (match qz (Txt.split (Txt.partition t ": ").2.2 ", ") with |some l=>qH l ws |none=>none)=o at X ⊢;have pt:Txt.partition t ": " = (A,m,(Txt.partition t ": ").2.2):=hp;generalize (Txt.partition t ": ").2.2=B at X pt;have rt:∀d:D,qeu (.val d)=.ok (.ret (.val d)):=λ_=>rfl
 cases o with
 |none=>unfold yQ at X ⊢;simp?![jf,c1,pt,↓X]
 |some r=>unfold yQ at X ⊢;generalize ruI r=x at X ⊢;simp?![jf,c1,pt,↓X,rt]
def qiJ:Sep (" " : Str) 32 []:={by decide+kernel,by decide,(3:)}
def qjK:Sep (", " : Str) 44 [32]:={by decide+kernel,by decide,(3:)}
def qjL:Sep (": " : Str) 58 [32]:={by decide+kernel,by decide,(3:)}
def QJ{a b:Str}{c:Nat}(ha:c∉a.cps.toList)(hb:c∉b.cps.toList):c∉(a++b).cps.toList:=by rw[Str.cps_append,Array.toList_append,List.mem_append];exactλh=>h.elim ha hb
def qav{z:Str}(h:NameOk z){c:Nat}(hc:c < 97):c∉z.cps.toList:=λhm=>by
 have:=h.lets c hm
 unfold Jv at this;omega
def qeg{p:Str×Int}(h:LnOk p):NumOk p.2:={by have:=h.one;omega,by have:=h.nine;omega}
def qb6{p:Str×Int}(h:LnOk p):44∉(qI p).cps.toList:=QJ (QJ (qav h.nm (2:)) (3:)) (QC (qeg h) (.inl (2:)))
def Zh{p:Str×Int}(h:LnOk p):Txt.split (qI p) " " = [p.1,nS p.2]:=
 zW qiJ [p.1,nS p.2] (5:) λz hz=>by
  simp![List.mem_cons,List.not_mem_nil,or_false]at hz;rcases hz with rfl|rfl
  ·exact qav h.nm (2:)
  ·exact QC (qeg h) (.inl (2:))
def Y9{l:List (Str×Int)}(h:∀p∈l,LnOk p)(h0:l≠[]):Txt.split (zl l) ", " = l.map qI:=
 zW qjK (l.map qI) (-h0:) λz hz=>by let(p,hp,rfl):=List.mem_map.mp hz;exact qb6 (h p hp)
def JG(r:Ru):List Str:=match r.kd with
 |.wi=>["within",nS r.days,"most",nS r.most]
 |.si=>["since",nS r.days,"most",nS r.most]
 |.ro=>["row","most",nS r.most]
def qeh:(" most " : Str)=(" " : Str)++(("most" : Str)++(" " : Str)):=(3:)
theorem yC(r:Ru):qN r++(" most " : Str)++nS r.most=Str.join " " (JG r):=by
 rw[qeh];unfold qN JG
 cases r.kd with
 |wi=>show("within " : Str)++nS r.days++((" " : Str)++(("most" : Str)++(" " : Str)))++nS r.most=("within" : Str)++(" " : Str)++(nS r.days++(" " : Str)++(("most" : Str)++(" " : Str)++nS r.most));rw[show("within " : Str)=("within" : Str)++(" " : Str) by decide+kernel];simp![Str.append_assoc]
 |si=>show("since " : Str)++nS r.days++((" " : Str)++(("most" : Str)++(" " : Str)))++nS r.most=("since" : Str)++(" " : Str)++(nS r.days++(" " : Str)++(("most" : Str)++(" " : Str)++nS r.most));rw[show("since " : Str)=("since" : Str)++(" " : Str) by decide+kernel];simp![Str.append_assoc]
 |ro=>show("row" : Str)++((" " : Str)++(("most" : Str)++(" " : Str)))++nS r.most=("row" : Str)++(" " : Str)++(("most" : Str)++(" " : Str)++nS r.most);simp![Str.append_assoc]
theorem QK{r:Ru}(hr:R12 r){c:Nat}(hc:c=32\/c=58):∀z∈JG r,c∉z.cps.toList:=by
 have nd:c∉(nS r.days).cps.toList:=QC hr.days (by omega);have nm:c∉(nS r.most).cps.toList:=QC hr.most (by omega)
 have key:∀z∈(["within","since","row","most"]:List Str),c∉z.cps.toList:=by rcases hc with rfl|rfl<;>decide+kernel
 intro z hz;unfold JG at hz
 cases e:r.kd with
 |wi=>
  rw[e]at hz;simp![List.mem_cons,List.not_mem_nil,or_false]at hz;rcases hz with rfl|rfl|rfl|rfl
  ·exact key _ (5:)
  ·exact nd
  ·exact key _ (5:)
  ·exact nm
 |si=>
  rw[e]at hz;simp![List.mem_cons,List.not_mem_nil,or_false]at hz;rcases hz with rfl|rfl|rfl|rfl
  ·exact key _ (5:)
  ·exact nd
  ·exact key _ (5:)
  ·exact nm
 |ro=>
  rw[e]at hz;simp![List.mem_cons,List.not_mem_nil,or_false]at hz;rcases hz with rfl|rfl|rfl
  ·exact key _ (5:)
  ·exact key _ (5:)
  ·exact nm
def qb7(r:Ru):JG r≠[]:=by unfold JG;cases r.kd<;>simp
def Zi{r:Ru}(hr:R12 r):Txt.split (qN r++(" most " : Str)++nS r.most) " " = JG r:=by rw[yC];exact zW qiJ (JG r) (qb7 r) (QK hr (.inl rfl))
theorem qaw{c:Nat}{y:Str}(hy:c∉y.cps.toList):∀(zs:List Str),(∀z∈zs,c∉z.cps.toList)->c∉(Str.join y zs).cps.toList
 |[],_=>by simp[Str.join,Str.empty]
 |[z],h=>h z (5:)
 | a::b::l,h=>QJ (QJ (h a (5:)) hy) (qaw hy (b::l) λz hz=>h z (.tail _ hz))
def qax{r:Ru}(hr:R12 r):Txt.partition (qM (qN r) r) ": " = (qN r++(" most " : Str)++nS r.most,((": " : Str),zl r.lands)):=by unfold qM;refine qd3 qjL _ _ ?_;rw[yC];exact qaw (3:) _ (QK hr (.inr rfl))
def yD{n:Int}(h:NumOk n):wnB (nS n)=true/\zf (nS n)=n:=by
 refine{?_,?_}
 ·let(l1,l2):=zv h
  have hd:(decide ((nS n).cps.toList.head?≠some 48)||decide ((nS n).length=1))=true:=by
   rcases qbX h with e|⟨c,r,e,hc⟩
   ·rw[decide_eq_true e,Bool.or_true]
   ·rw[e]
    have:(c::r).head?≠some 48:=λz=>hc (Option.some.inj z)
    rw[decide_eq_true this,Bool.true_or]
  unfold wnB;rw[decide_eq_true l1,decide_eq_true l2,hd,Bool.true_and,Bool.true_and,Bool.true_and,List.all_eq_true];intro c hc
  have:=JB h c hc
  unfold qbW at this;rw[decide_eq_true this.1,decide_eq_true this.2];rfl
 ·let(m,rfl):=Int.eq_ofNat_of_zero_le h.lo;unfold zf;rw[PySem.W.KIN.signs_num,PySem.W.KIN.val_back]
def qay{p:Str×Int}(h:LnOk p):z7 (qI p)=some p:=by let(a,b):=yD (qeg h);unfold z7;rw[Zh h];show(if wnB (nS p.2)=true then some (p.1,zf (nS p.2)) else none)=_;rw[if_pos a,b]
theorem Jb:∀(l:List (Str×Int)),(∀p∈l,LnOk p)->qz (l.map qI)=some l
 |[],_=>rfl
 | p::l,h=>by rw[List.map_cons];unfold qz;rw[qay (h p (5:)),Jb l λq hq=>h q (by simp[hq])];rfl
def qcA{n a b:Int}(h1:a<=n)(h2:n<=b):DG.btw n a b=true:=by unfold DG.btw;rw[decide_eq_true h1,decide_eq_true h2];rfl
theorem qei{r:Ru}(hr:R12 r):rdR (qM (qN r) r)=some r:=by
 let(m1,m2):=yD hr.most;let(d1,d2):=yD hr.days;have ne:r.lands≠[]:=λe=>by have:=hr.l1;rw[e]at this;simp at this
 have bm:=qcA hr.most.lo hr.most.hi;have bd:=qcA hr.d1 hr.days.hi;unfold rdR;rw[qax hr];dsimp only;rw[Y9 hr.ok ne,Jb _ hr.ok,Zi hr];dsimp only;have hl:=hr.lands;have row:=hr.row;let(kd,l,m,d):=r;dsimp only at *
 cases kd with
 |wi=>show(if (("within" : Str) = "within"\/("within" : Str) = "since")/\("most" : Str) = "most"/\_/\_/\_/\_/\_ then some _ else none)=_;rw[m2,d2,if_pos ⟨.inl rfl,rfl,m1,d1,hl,bm,bd⟩,if_pos rfl]
 |si=>show(if (("since" : Str) = "within"\/("since" : Str) = "since")/\("most" : Str) = "most"/\_/\_/\_/\_/\_ then some _ else none)=_;rw[m2,d2,if_pos ⟨.inr rfl,rfl,m1,d1,hl,bm,bd⟩,if_neg (show ¬ ("since" : Str) = "within" by decide+kernel)]
 |ro=>show(if ("row" : Str) = "row"/\("most" : Str) = "most"/\_/\_/\_ then some _ else none)=_;rw[m2,if_pos ⟨rfl,rfl,m1,hl,bm⟩,row rfl]
theorem YH:∀(l:List (Str×Int)) (acc:List Str),zH acc (l.map lnD)=true->(∀p∈l,LnOk p/\p.1∉acc)/\(l.map (·.1)).Nodup
 |[],_,_=>{(λp hp=>by cases hp),List.nodup_nil}
 | p::l,acc,h=>by
  rw[List.map_cons]at h;unfold zH at h
  cases e:YZ (lnD p) with
  |none=>rw[e]at h;cases h
  |some q=>
   rw[e]at h;simp![Bool.and_eq_true,Bool.not_eq_true']at h;let(e1,n,h1,h9):=Qy e;let(a,b):=p;cases e1;let(x,y):=YH l (acc++[q.1]) h.2;refine{λz hz=>?_,?_}
   ·rcases List.mem_cons.mp hz with rfl|hz
    ·exact{⟨n,h1,h9⟩,(-h.1:)}
    ·exact{(x z hz).1,λc=>(x z hz).2 (List.mem_append_left _ c)}
   ·rw[List.map_cons,List.nodup_cons];refine{λc=>?_,y};let(z,hz,ez):=List.mem_map.mp c;exact(x z hz).2 (by rw[ez];simp)
def QL{l:List (Str×Int)}(h:qi (l.map lnD)=true):(∀p∈l,LnOk p)/\(l.map (·.1)).Nodup/\1<=l.length/\l.length<=6:=by unfold qi at h;simp![Bool.and_eq_true,decide_eq_true_eq,List.length_map]at h;let(a,b):=YH l [] h.2;exact{λp hp=>(a p hp).1,b,h.1.1,h.1.2}
def qaz{p:Str}{x:Str×Int}(h:z7 p=some x):p=qI x:=by
 unfold z7 at h;have j:=StrLaws.join_split p " ";generalize Txt.split p " " = ws at h j
 by_cases l2:ws.length=2
 ·match ws,l2 with
  |[a,b],_=>
   have h:(if wnB b=true then some (a,zf b) else none)=some x:=h
   split at h
   ·rename_i w;cases h;rw[<-j];show a++(" " : Str)++b=a++(" " : Str)++nS (zf b);rw[yb (qam w)]
   ·cases h
 ·rw[qan l2]at h;cases h
theorem Jc:∀(ps:List Str) (l:List (Str×Int)),qz ps=some l->ps=l.map qI
 |[],l,h=>by cases h;rfl
 | p::ps,l,h=>by
  unfold qz at h
  cases e:z7 p with
  |none=>rw[e]at h;cases h
  |some x=>
   rw[e]at h
   cases e2:qz ps with
   |none=>rw[e2]at h;cases h
   | some l'=>rw[e2]at h;cases h;rw[List.map_cons,<-qaz e,<-Jc ps l' e2]
def qaA{n a b:Int}(h:DG.btw n a b=true):a<=n/\n<=b:=by
 unfold DG.btw at h
 simpa using h
def qaB{l:List (Str×Int)}{ws:List Str}{r:Ru}(h:qH l ws=some r):R12 r/\r.lands=l/\ws=JG r:=by
 by_cases h3:ws.length=3
 ·match ws,h3 with
  |[a,b,c],_=>
   have h:(if a = "row"/\b = "most"/\wnB c=true/\qi (l.map lnD)=true/\DG.btw (zf c) 0 1000000000=true then some (⟨.ro,l,zf c,1⟩:Ru) else none)=some r:=h
   split at h
   ·rename_i k;cases h;let(rfl,rfl,w,hl,bm):=k;let(m1,m2):=qaA bm;let(o1,o2,o3,o4):=QL hl;refine{{hl,o1,⟨m1,m2⟩,{by show(0:Int)<=1;decide,by show(1:Int)<=1000000000;decide},by show(1:Int)<=1;decide,λ_=>rfl,o2,o3,o4},rfl,?_};show _=(["row","most",nS (zf c)]:List Str);rw[yb (qam w)]
   ·cases h
 ·by_cases h4:ws.length=4
  ·match ws,h4 with
   |[a,b,c,d],_=>
    have h:(if (a = "within"\/a = "since")/\c = "most"/\wnB d=true/\wnB b=true/\qi (l.map lnD)=true/\DG.btw (zf d) 0 1000000000=true/\DG.btw (zf b) 1 1000000000=true then some (⟨if a = "within" then .wi else .si,l,zf d,zf b⟩:Ru) else none)=some r:=h
    split at h
    ·rename_i k;cases h;let(ka,rfl,w,w',hl,bm,bd):=k;let(m1,m2):=qaA bm;let(d1,d2):=qaA bd;let(o1,o2,o3,o4):=QL hl;have e1:=yb (qam w);have e2:=yb (qam w');have row:(if a = "within" then Kd.wi else Kd.si)=.ro->zf b=1:=λz=>by split at z<;>cases z
     refine{{hl,o1,⟨m1,m2⟩,{by show 0<=zf b;omega,d2},d1,row,o2,o3,o4},rfl,?_};rcases ka with rfl|rfl
     ·rw[if_pos rfl];show _=(["within",nS (zf b),"most",nS (zf d)]:List Str);rw[e1,e2]
     ·rw[if_neg (show ¬ ("since" : Str) = "within" by decide+kernel)];show _=(["since",nS (zf b),"most",nS (zf d)]:List Str);rw[e1,e2]
    ·cases h
  ·rw[YF l h3 h4]at h;cases h
theorem qia{t:Str}{r:Ru}(h:rdR t=some r):R12 r/\qM (qN r) r=t:=by
 unfold rdR at h
 cases e:qz (Txt.split (Txt.partition t ": ").2.2 ", ") with
 |none=>rw[e]at h;cases h
 |some l=>
  rw[e]at h;let(hr,rfl,e2):=qaB h;refine{hr,?_};have j1:=StrLaws.join_split (Txt.partition t ": ").1 " ";have j2:=StrLaws.join_split (Txt.partition t ": ").2.2 ", ";rw[e2,<-yC]at j1;rw[Jc _ _ e]at j2;have sum:=StrLaws.partition_sum t ": "
  have m:(Txt.partition t ": ").2.1 = ": ":=by
   rcases qd6 t ": " with m|m
   ·exact m
   ·exfalso;rw[m]at j2;have l1:=hr.l1;have ok:=hr.ok
    cases eL:r.lands with
    |nil=>rw[eL]at l1;simp at l1
    |cons p q=>rw[eL]at j2 ok;exact qar p (ok p (5:)) q j2
  rw[<-j1,<-j2,m]at sum;rw[<-sum];rfl
abbrev xD:D:=.exc aT [] []
def qb8(t:Str):Option Ru->D
 |some _=>.str t
 |none=>.tup [.str "refused"]
theorem yc(k:Nat)(t:Str)(h:Sm t):clK pg (k+15) "_law_said" [.val (.str t)]=.ok (.val (qb8 t (rdR t))):=by
 have rr:=YG k t h;have cs:(pg.kk (k+14)).cs=pg.cs:=rfl;rw[Y5]
 cases e:rdR t with
 |some r=>let(hr,rfl):=qia e;rw[e]at rr;have ln:clK pg (k+14) (qg7 r) [.val (ruI r)]=.ok (.val (.str (qM (qN r) r))):=qd8 (k+12) r hr;have mt:=qd7 r;have rr:clK pg (k+14) "read_rule" [.val (.str (qM (qN r) r))]=.ok (.val (ruI r)):=rr;unfold qb8;generalize ruI r=x at *;generalize qM (qN r) r=L at *;generalize qg7 r=C at *;simp?![jg,rr,cs,mt,ln]
 |none=>
  rw[e]at rr;have rr:clK pg (k+14) "read_rule" [.val (.str t)]=.exc aT []:=rr;unfold qb8;have ca:ju pg.cs 7 aT [] [("NoText",3,1)]=.ok (.next [.no,.val xD,.no,.no,.no,.no,.no]):=by rfl
  have i1:Qn pg.cs (.val xD) "NoPaper" = some false:=by rfl
  have i2:Qn pg.cs (.val xD) "NoStay" = some false:=by rfl
  have i3:Qn pg.cs (.val xD) "NotLet" = some false:=by rfl
  have i4:Qn pg.cs (.val xD) "NoWish" = some false:=by rfl
  have i5:Qn pg.cs (.val xD) "NoDeed" = some false:=by rfl
  have i6:Qn pg.cs (.val xD) "NoRule" = some false:=by rfl
  have i7:Qn pg.cs (.val xD) "NoRow" = some false:=by rfl
  have i8:Qn pg.cs (.val xD) "DayError" = some true:=by rfl
  have i9:Qn pg.cs (.val xD) "ValueError" = some true:=by rfl
  have z1:0+1<=sizeLine:=(3:)
  simp?![jg,rr,cs,ca,i1,i2,i3,i4,i5,i6,i7,i8,i9,z1]
def qcB:List D:=[D.str "",D.str " ",D.str "within",D.str "within 3",D.str "within 3 most 4",D.str "within 3 most 4:",D.str "within 3 most 4: ",D.str "row most 4: a"]++[D.str "within 0 most 4: a 1",D.str "within 3 most 4: a 0",D.str "within 3 most 4: a 10",D.str "since 0 most 4: a 1"]++[D.str "within 3 most 4: a 1,b 1",D.str "within 3 most 4: a 1, a 2",D.str "within 3 most 4: A 1",D.str "row most 04: a 1"]++[D.str "within 03 most 4: a 1",D.str "within 3 most 4: a 01",D.str "within -3 most 4: a 1",D.str "row 1 most 4: a 1"]++[D.str "within 1000000001 most 4: a 1",D.str "row most 1000000001: a 1",D.str "row most 4 : a 1",D.str "row most 4:  a 1"]++[D.str "Row most 4: a 1",D.str "row most 4: a 1 ",D.str " row most 4: a 1",D.str "row most 4: a  1",D.str "row most: a 1"]++[D.str "row least 4: a 1",D.str "row most x: a 1",D.str "since most 4: a 1",D.str "within 3 4: a 1",D.str "row most 4: a 1, "]++[D.str "row most 4: a 1, b",D.str "row most 4: abcdefghi 1",D.str "row most 4: a 1: b 1",D.str "row most 12345678901: a 1"]++[D.str "row most 4: a 1, b 1, c 1, d 1, e 1, f 1, g 1",D.str "row most 4: 1 a"]
def qjM:D->Bool
 |.str t=>(rdR t).isNone&&decide (t.length<=250)&&PyData.strOk t
 |_=>false
def qgG:qcB.all qjM=true:=(3:)
theorem qgH(k:Nat)(c:Int):∃t,Sm t/\rdR t=none/\clK pg (k+1) "_law_odd" [.val (.int c)]=.ok (.val (.str t)):=by
 have i0:0<=c % 40:=Int.emod_nonneg _ (2:);have i1:c % 40 < 40:=Int.emod_lt_of_pos _ (2:);let(j,hj):∃j:Nat,c % 40=(j:Int):={(c % 40).toNat,by omega}
 have jl:j < qcB.length:=by rw[show qcB.length=40 from rfl];omega
 have hm:=List.all_eq_true.mp qgG qcB[j] (List.getElem_mem jl);have a:atI qcB (j:Int)=some qcB[j]:=qgs (List.getElem?_eq_getElem jl);generalize qcB[j]=d at a hm
 cases d with
 |str t=>
  have hm:((rdR t).isNone&&decide (t.length<=250)&&PyData.strOk t)=true:=hm;simp![Bool.and_eq_true,decide_eq_true_eq,Option.isNone_iff_eq_none]at hm;refine{t,⟨hm.1.2,hm.2⟩,hm.1.1,?_};unfold qcB at a;simp![List.cons_append,List.nil_append]at a
  have z:∀n,n<=100->n<=sizeLine:=λn h=>by show n<=2 ^ 24;omega
  rw[Zb];simp?![y7,hj,a,z,Nat.reduceLeDiff,List.length_cons,List.length_nil,List.cons_append,List.nil_append]
 |_=>cases hm
def qjN{p:Str×Int}(h:LnOk p):(nS p.2).length<=1:=by
 have key:∀j:Fin 10,(nS (j.val:Int)).length<=1:=(3:)
 have h1:=h.one;have h9:=h.nine;have k:=key ⟨p.2.toNat,by omega⟩
 rwa[show((p.2.toNat:Nat):Int)=p.2 by omega]at k
theorem qaC:∀(l:List (Str×Int)),(∀p∈l,LnOk p)->((l.map qI).map (·.length)).sum<=10 * l.length
 |[],_=>by simp
 | p::l,h=>by
  have hp:=h p (5:);have h1:p.1.length<=8:=hp.nm.eight;have h2:=qjN hp;have h3:=qaC l λq hq=>h q (by simp[hq])
  have e:(qI p).length=p.1.length+1+(nS p.2).length:=by unfold qI;rw[Str.length_append,Str.length_append,qA.1]
  simp![List.map_cons,List.sum_cons,List.length_cons];omega
def qej{r:Ru}(hr:R12 r):(qM (qN r) r).length<=120:=by
 have h1:=qaC r.lands hr.ok;have h2:=StrLaws.join_length_le (", " : Str) (r.lands.map qI);rw[qA.2.1,List.length_map]at h2;have h3:=JE hr;have h4:=(zv hr.most).2;have h6:=hr.l6
 have h5:(zl r.lands).length<=72:=by unfold zl;omega
 unfold qM;rw[Str.length_append,Str.length_append,Str.length_append,Str.length_append,qA.2.2.2.1,qA.2.2.1];omega
def qib(n i:Nat)(h:i<=n):(Builtin.Str.strSliceIndices none (some (i:Int)) 1 n).length<=i:=by
 unfold Builtin.Str.strSliceIndices sliceRange;simp![show(1:Int) > 0 by decide,if_true,List.length_map,List.length_range]
 (split<;>(try split)<;>(try split)<;>(try simp only[Int.ediv_one])<;>omega)
def qgI(n j:Nat)(h:j<=n):(Builtin.Str.strSliceIndices (some (j:Int)) none 1 n).length<=n - j:=by
 unfold Builtin.Str.strSliceIndices sliceRange;simp![show(1:Int) > 0 by decide,if_true,List.length_map,List.length_range]
 (split<;>(try split)<;>(try split)<;>(try simp only[Int.ediv_one])<;>omega)
def yE{x:Str}{l u:Option Int}{m:Nat}(h:(Builtin.Str.strSliceIndices l u 1 x.length).length<=m):(Txt.slice x l u).length<=m:=by
 unfold Txt.slice;split
 ·rename_i c
  have:(Builtin.Str.strSliceIndices l u 1 x.length).length=x.length:=(-c:)
  omega
 ·show(List.filterMap _ (Builtin.Str.strSliceIndices l u 1 x.length)).toArray.size<=m;rw[List.size_toArray];exact Nat.le_trans (List.length_filterMap_le _ _) h
def qaD{a b:Str}(ha:PyData.strOk a=true)(hb:PyData.strOk b=true)(h:a.length+b.length<=250):Sm (a++b):={by rw[Str.length_append];exact h,zX ha hb}
abbrev qek:D:=.tup [.str "refused"]
noncomputable abbrev okT:T:=(.and (.cmp .NotEq (.var 9) (.var 8)) (.one (.cmp .NotEq (.var 9) (.tup %[.con (.str "refused")|0]))))
theorem qaE{M:Type}(cl:Cl)(s0 s1 s2 s3 s4 s5 s6 s7:Sl)(t:Str)(h:Sm t)(o:Option Ru)(K:Bool×DE.Env->R M):(iT cl okT [s0,s1,s2,s3,s4,s5,s6,s7,.val (.str t),.val (qb8 t o)]).th K=K (false,[s0,s1,s2,s3,s4,s5,s6,s7,.val (.str t),.val (qb8 t o)]):=by
 cases o with
 |some r=>
  have q:eqD (.str t) (.str t)=some true:=by rw[Jt h.ok h.ok];simp
  unfold qb8;simp?![q,Bool.not_true]
 |none=>
  have q:eqD qek (.str t)=some false:=by
   have s1:SeqAt.shaped (.tuple [.str "refused"])=true:=(3:)
   have e1:toP qek=some (.tuple [.str "refused"]):=by rfl
   unfold eqD;rw[e1,toP];dsimp only;rw[s1,qgr h.ok];simp[PyData.eqv]
  have q2:eqD qek qek=some true:=(3:)
  have z1:0+1<=sizeLine:=(3:)
  unfold qb8;simp?![q,q2,z1,Bool.not_true,Bool.not_false]
theorem JH(k:Nat)(ns:List Int)(s1:Sl)(L:Str)(hL:Sm L)(l1:1<=L.length)(l2:L.length<=120):∀(js:List Nat) (s3 s4 s5 s6 s7 s8 s9:Sl),(∀j∈js,j < 3)->
  ∃s3' s4' s5' s6' s7' s8' s9',Ym (pg.kk (k+15)) 1000 (.one 3) Jz (js.map λj:Nat=>D.int (j:Int)) [.scr (ns.map D.int),s1,.val (.str L),s3,s4,s5,s6,s7,s8,s9]=.ok (.next [.scr (ns.map D.int),s1,.val (.str L),s3',s4',s5',s6',s7',s8',s9'])
 |[],s3,s4,s5,s6,s7,s8,s9,_=>⟨s3,s4,s5,s6,s7,s8,s9,rfl⟩
 | j::js,s3,s4,s5,s6,s7,s8,s9,hj=>by
  have hl:L.length<=sizeLine:=qeb hL
  have c0:clK pg (k+15) "_law_cell_at" [.scr (ns.map D.int),.val (.int (2+(j:Int)))]=.ok (.val (.int (zI ns (2+j)))):=by
   have:=Y0 (pg:=pg) (k+14) ns (2+j)
   rwa[show((2+j:Nat):Int)=2+(j:Int) by omega]at this
  have mul:Ql (zI ns (2+j)) 48271=true:=Qz (2:) (2:);generalize hv:zI ns (2+j) * 48271 % 2147483647+(j:Int)=v;have hp:(0:Int) < (L.length:Int):=by omega
  let(a,ea):∃a:Nat,v % (L.length:Int)=(a:Int):={(v % (L.length:Int)).toNat,by have:=Int.emod_nonneg v (show(L.length:Int)≠0 by omega);omega};have ha:a < L.length:=by have:=Int.emod_lt_of_pos v hp;omega
  let(w,ew):∃w:Nat,v / 16384 % 3=(w:Int):={(v / 16384 % 3).toNat,by omega};let(b,eb):∃b:Nat,(a:Int)+(w:Int) % 2=(b:Int):={a+w % 2,by omega};have hb:a<=b/\b<=a+1:=by omega
  have si0:0<=v / 512 % 18:=Int.emod_nonneg _ (2:);have si1:v / 512 % 18 < 18:=Int.emod_lt_of_pos _ (2:);let(g,eg):∃g:Nat,v / 512 % 18=(g:Int):={(v / 512 % 18).toNat,by omega};have sl:("0123456789ab ,:-ws" : Str).cps.toList.length=18:=(3:)
  have gl:g < ("0123456789ab ,:-ws" : Str).cps.toList.length:=by rw[sl];omega
  have sg:atI ("0123456789ab ,:-ws" : Str).cps.toList (g:Int)=some ("0123456789ab ,:-ws" : Str).cps.toList[g]:=qgs (List.getElem?_eq_getElem gl)
  have so:PyData.strOk ⟨#[("0123456789ab ,:-ws" : Str).cps.toList[g]]⟩=true:=by
   have key:(("0123456789ab ,:-ws" : Str).cps.toList.all λc=>PyData.strOk ⟨#[c]⟩)=true:=(3:)
   exact List.all_eq_true.mp key _ (List.getElem_mem gl)
  have sz:Str.length "0123456789ab ,:-ws"<=sizeLine:=(3:)
  generalize ("0123456789ab ,:-ws" : Str).cps.toList[g]=c at sg so;have cl1:Str.length ⟨#[c]⟩=1:=rfl;have A:=JC none (some (a:Int)) hL;have B:=JC (some (b:Int)) none hL;have C:=JC (some ((a:Int)+1)) none hL;have lA:(Txt.slice L none (some (a:Int))).length<=a:=yE (qib _ a (by omega));have lB:(Txt.slice L (some (b:Int)) none).length<=L.length - b:=yE (qgI _ b (by omega));have lC:(Txt.slice L (some ((a:Int)+1)) none).length<=L.length - (a+1):=yE (qgI _ (a+1) (by omega));generalize hxA:Txt.slice L none (some (a:Int))=xA at A lA;generalize hxB:Txt.slice L (some (b:Int)) none=xB at B lB;generalize hxC:Txt.slice L (some ((a:Int)+1)) none=xC at C lC;let(od,hod,ro,eo):=qgH (k+14) (v / 65536);have eo:clK pg (k+15) "_law_odd" [.val (.int (v / 65536))]=.ok (.val (.str od)):=eo;have so2:=yc k od hod;rw[ro]at so2;have so2:clK pg (k+15) "_law_said" [.val (.str od)]=.ok (.val qek):=so2;have q2:eqD qek qek=some true:=(3:)
  have z1:0+1<=sizeLine:=(3:)
  have y1:xA.length+Str.length ⟨#[c]⟩<=sizeLine:=qt (by omega);have S1:=qaD A.ok so (by omega);have y2:(xA++(⟨#[c]⟩:Str)).length+xB.length<=sizeLine:=qt (by rw[Str.length_append];omega);have S2:=qaD S1.ok B.ok (by rw[Str.length_append];omega);have y3:xA.length+xC.length<=sizeLine:=qt (by omega);have S3:=qaD A.ok C.ok (by omega);rw[List.map_cons]
  by_cases w2:w=2
  ·have e2:eqD (.int (w:Int)) (.int 2)=some true:=(eqn w 2).trans (by rw[decide_eq_true w2]);have sd:=yc k _ S3;have T:=λ{M:Type} (cl:Cl) (s0 s1 s2 s3 s4 s5 s6 s7:Sl) (K:Bool×DE.Env->R M)=>qaE cl s0 s1 s2 s3 s4 s5 s6 s7 _ S3 (rdR (xA++xC)) K;let(O,eO):∃O,xA++xC=O:={_,rfl};rw[eO]at sd T;generalize qb8 O (rdR O)=V at *;let(s3',s4',s5',s6',s7',s8',s9',ih):=JH k ns s1 L hL l1 l2 js (.val (.int (j:Int))) (.val (.int v)) (.val (.int (a:Int))) (.val (.str ⟨#[c]⟩)) (.val (.int (w:Int))) (.val (.str O)) (.val V) (λx hx=>hj x (by simp[hx]));refine{s3',s4',s5',s6',s7',s8',s9',?_};simp?[Yv,c0,mul,hv,hl,hp,ea,eg,sz,sg,ew,eb,hxA,hxB,hxC,y1,y2,y3,eO,e2,sd,↓T,eo,so2,q2,z1,Bool.not_true,ih]
  ·have e2:eqD (.int (w:Int)) (.int 2)=some false:=(eqn w 2).trans (by rw[decide_eq_false w2]);have sd:=yc k _ S2;have T:=λ{M:Type} (cl:Cl) (s0 s1 s2 s3 s4 s5 s6 s7:Sl) (K:Bool×DE.Env->R M)=>qaE cl s0 s1 s2 s3 s4 s5 s6 s7 _ S2 (rdR (xA++(⟨#[c]⟩:Str)++xB)) K;let(O,eO):∃O,xA++(⟨#[c]⟩:Str)++xB=O:={_,rfl};rw[eO]at sd T;generalize qb8 O (rdR O)=V at *;let(s3',s4',s5',s6',s7',s8',s9',ih):=JH k ns s1 L hL l1 l2 js (.val (.int (j:Int))) (.val (.int v)) (.val (.int (a:Int))) (.val (.str ⟨#[c]⟩)) (.val (.int (w:Int))) (.val (.str O)) (.val V) (λx hx=>hj x (by simp[hx]));refine{s3',s4',s5',s6',s7',s8',s9',?_};simp?[Yv,c0,mul,hv,hl,hp,ea,eg,sz,sg,ew,eb,hxA,hxB,y1,y2,eO,e2,sd,↓T,eo,so2,q2,z1,Bool.not_true,ih]
def qb9(ns:List Int):clK pg 20 "law" [.scr (ns.map D.int)]=.ok (.val (.bl true)):=by
 have c0:clK pg 19 "_law_cell_at" [.scr (ns.map D.int),.val (.int 0)]=.ok (.val (.int (zI ns 0))):=Y0 18 ns 0;have c1:clK pg 19 "_law_cell_at" [.scr (ns.map D.int),.val (.int 1)]=.ok (.val (.int (zI ns 1))):=Y0 18 ns 1;let(zs,ez,lz,hz):=qgD 18 (zI ns 0);let(r,hr,er):=qb3 17 (zI ns 1) zs hz;have el:clK pg 19 "_law_line" [.val (ruD r)]=.ok (.val (.str (qM (qN r) r))):=Ze 18 r hr;have l2:=qej hr;have hL:Sm (qM (qN r) r):={by omega,qea hr}
 have l1:1<=(qM (qN r) r).length:=by unfold qM;rw[Str.length_append,Str.length_append,qA.2.2.1];omega
 have sd:clK pg 19 "_law_said" [.val (.str (qM (qN r) r))]=_:=yc 4 _ hL;rw[qei hr]at sd;have sd:clK pg 19 "_law_said" [.val (.str (qM (qN r) r))]=.ok (.val (.str (qM (qN r) r))):=sd;generalize qM (qN r) r=L at *;let(s3,s4,s5,s6,s7,s8,s9,lp):=JH 4 ns (.own (zs.map D.str)) L hL l1 l2 [0,1,2] .no .no .no .no .no .no .no (λj hj=>by simp at hj;omega);have lp:Ym (pg.kk 19) 1000 (.one 3) Jz [.int 0,.int 1,.int 2] _=_:=lp;have rg:zw 0 3=[.int 0,.int 1,.int 2]:=rfl;have s3':zi 3=true:=by decide
 have q:eqD (.str L) (.str L)=some true:=by rw[Jt hL.ok hL.ok];simp
 rw[qh9];simp?![qgz,c0,c1,ez,er,el,s3',rg,lp,sd,q]
end K13
namespace DE
open PySem PySem.Spec PyProof.Rows L2
def jK(G G' H:Hp):Prop:=∀a o,G' a=some o->(∃o',G a=some o')\/H a=none
def But(p:Addr)(H H':Hp):Prop:=∀a o,a≠p->H a=some o->H' a=some o
def Zj(U:KC)(K:Frag)(ok:Str->Bool)(go:List Ar->Option (List (Str×D))):Sp:=λvs H Q _=>∃(G:Hp) (c:Str) (C p dx:Addr) (us:List V) (args:List Ar) (fs:List (Str×D)),vs=.ref p::us/\ok c=true/\U c=some C/\
 H p=some (.ins C dx [])/\G p=none/\qv G H/\zN U K G H args us/\go args=some fs/\
 ∀G' H' xs,qv G G'->qv G' H'->G' p=none->But p H H'->jK G G' H->H' p=some (.ins C dx ((fs.map (·.1)).zip xs))->xs.length=fs.length->qx U G' (fs.map (·.2)) xs->Q .non H'
noncomputable abbrev spQ(U:KC)(K:Frag)(cl:Str->List Ar->R Rv)(f:Str):Sp:=λvs H Q _=>spF U K cl f vs H Q E0
def yw.q{P:Program}{wd:World}{U:KC}{K:Frag}{mg:PR}{base:Heap}{pg:Pg}{k:Nat}(h:yw P wd U K mg base pg k)(f:Str)(st:Stmt)(e:pg.defs.lookup f=some st):∃fa fd,FnOk P wd K mg base CX0 k fa fd (yN st) (spQ U K (clK pg k) f)/\mg f=some (.ref fa)/\PySem.W.keepIn K (.ref fa)=true/\qR K fd (yN st) []:=
 let ⟨fa,fd,F,h⟩:=h.1 f st e
 ⟨fa,fd,Qx F λ_ _ _ _ z=>z,h⟩
section
variable{U:KC}{K:Frag}{G H G' H':Hp}
def yF{cl:Str->List Ar->R Rv}{f:Str}{args:List Ar}{vs:List V}{r:Rv}{Q:VK}{E:XK}(sub:qv G H)(ha:zN U K G H args vs)(e:cl f args=.ok r)
  (h:∀v G' H',qv H H'->qv G G'->qv G' H'->jK G G' H->ReR U G' H' H r v->Q v H'):spF U K cl f vs H Q E:={G,args,sub,ha,by rw[e];exact h}
theorem ArR.low{a:Ar}{v:V}(h:ArR U K G H a v)(gs:qv G G')(hs:∀b o,H b=some o->(∀C dx fs,o≠.ins C dx fs)->H' b=some o):(∀l,a≠.scr l)->ArR U K G' H' a v:=λhn=>by
 cases a with
 |val d=>exact Rep.same gs h
 |bor l=>let(b,xs,e,h1,h2):=h;exact{b,xs,e,hs _ _ h1 (by intros;intro z;cases z),h2.same gs}
 |scr l=>exact absurd rfl (hn l)
theorem qel{nw:Str->List Ar->R Rv}{f c:Str}{C:Addr}{ok:Str->Bool}{go:List Ar->Option (List (Str×D))}(hC:U c=some C)(hok:ok c=true)
  (hX:∀args c l,nw f args≠.exc c l) (hgo:∀args r,nw f args=.ok r->(∀a∈args,∀l,a≠.scr l)/\∃fs,go args=some fs/\r=.val (.ins c (fs.map (·.1)) (fs.map (·.2)))) :
  ∀vs H Q E,spF U K nw f vs H Q E->∀x dx,H x=none->H dx=none->dx≠x->Zj U K ok go (.ref x::vs) (upd (upd H dx (.own x)) x (.ins C dx [])) (λv H2=>v=.non/\Q (.ref x) H2) E:=by
 rintro vs H Q E ⟨G,args,sub,ha,hw⟩ x dx hx hdx ne
 cases e:nw f args with
 |no=>rw[e]at hw;exact hw.elim
 |exc c l=>exact(hX _ _ _ e).elim
 |ok r=>
  rw[e]at hw;let(hs,fs,hg,rfl):=hgo args r e;have gx:G x=none:=qv.none sub hx;have gd:G dx=none:=qv.none sub hdx
  have up:qv H (upd (upd H dx (.own x)) x (.ins C dx [])):=λb o hb=>by
   have nb:b≠x:=λz=>by rw[z,hx]at hb;cases hb
   have nd:b≠dx:=λz=>by rw[z,hdx]at hb;cases hb
   rw[qh nb,qh nd];exact hb
  have ha':∀{args:List Ar} {vs:List V},(∀a∈args,∀l,a≠.scr l)->zN U K G H args vs->zN U K G (upd (upd H dx (.own x)) x (.ins C dx [])) args vs:=by
   intro args
   induction args with
   |nil=>intro vs _ h;simp![zN]at h ⊢;exact h
   |cons a l ih=>intro vs hn h;simp![zN]at h ⊢;let(v,r,e,h1,h2):=h;exact{v,r,e,h1.low (λ_ _ z=>z) (λb o hb _=>up b o hb) (hn a (List.mem_cons_self ..)),ih (λb hb=>hn b (List.mem_cons_of_mem _ hb)) h2}
  refine{G,c,C,x,dx,vs,args,fs,rfl,hok,hC,qm,gx,λb o hb=>up b o (sub b o hb),ha' hs ha,hg,λG' H' xs gs sub' gx' but fr hp hl rp=>{rfl,?_}};refine hw (.ref x) (upd G' x (.ins C dx ((fs.map (·.1)).zip xs))) H' (λb o hb=>?_) (λb o hb=>?_) (λb o hb=>?_) (λb o hb=>?_) ?_
  ·exact but b o (λz=>by rw[z,hx]at hb;cases hb) (up b o hb)
  ·exact qv.upd gx' b o (gs b o hb)
  ·by_cases z:b=x
   ·subst z;rw[qm]at hb;cases hb;exact hp
   ·rw[qh z]at hb;exact sub' b o hb
  ·by_cases z:b=x
   ·subst z;exact .inr hx
   ·rw[qh z]at hb;rcases fr b o hb with q|q
    ·exact .inl q
    ·refine .inr ?_
     cases w:H b with
     |none=>rfl
     | some o'=>rw[up b o' w]at q;cases q
  ·simp![ReR,Rep];exact{x,dx,C,xs,hC,rfl,qm,by rw[hl,List.length_map],rp.same (qv.upd gx')}
end
end DE
namespace DG
open PySem PySem.Spec PyProof.Rows L2 DE
theorem jL{G G' H:Hp}{p:Addr}{o:L2.HO}(fr:jK G G' H)(g:G p=none)(h:H p=some o):G' p=none:=by
 cases e:G' p with
 |none=>rfl
 | some o'=>
  rcases fr p o' e with ⟨o'',z⟩|z
  ·rw[g]at z;cases z
  ·rw[h]at z;cases z
def jK.trans{G G1 G2 H H1:Hp}(a:jK G G1 H)(s:qv H H1)(b:jK G1 G2 H1):jK G G2 H:=λx o h=>by
 rcases b x o h with ⟨o',z⟩|z
 ·exact a x o' z
 ·exact .inr (qv.none s z)
def jK.transB{G G1 G2 H H1:Hp}{p:Addr}{o:L2.HO}(a:jK G G1 H)(s:But p H H1)(hp:H1 p=some o)(b:jK G1 G2 H1):jK G G2 H:=λx o h=>by
 rcases b x o h with ⟨o',z⟩|z
 ·exact a x o' z
 ·refine .inr ?_;have nx:x≠p:=λq=>by rw[q,hp]at z;cases z
  cases w:H x with
  |none=>rfl
  | some o'=>rw[s x o' nx w]at z;cases z
def aA(b:Bool)(l:List D):Ar:=match b with
 |true=>.bor l
 |false=>.val (.lst l)
def qaF{a:Ar}{l:List D}(e:arL a=some l):∃b,a=aA b l:=by
 unfold arL at e
 split at e
 ·cases e;exact⟨false,rfl⟩
 ·cases e;exact⟨true,rfl⟩
 ·cases e
def yG{a:Ar}{n:Int}(e:arI a=some n):a=.val (.int n):=by
 unfold arI at e
 split at e
 ·cases e;rfl
 ·cases e
theorem qem{U:KC}{K:Frag}{G H:Hp}{b:Bool}{l:List D}{v:V}(sub:qv G H)(h:ArR U K G H (aA b l) v):∃p xs,v=.ref p/\H p=some (.lst xs)/\qx U G l xs:=by
 cases b with
 |false=>simp![aA,ArR,Rep]at h;let(a,xs,e,h1,h2):=h;exact{a,xs,e,sub _ _ h1,h2}
 |true=>exact h
def jD{args:List Ar}{fs:List (Str×D)}(h:jP args=some fs):∃b l m,args=[aA b l,.val (.int m)]/\qi l=true/\btw m 0 1000000000=true/\fs=([("lands",.tup l),("most",.int m)]:List (Str×D)):=by
 unfold jP at h
 split at h
 ·split at h
  ·rename_i e1 e2
   split at h
   ·rename_i hc;cases h;rw[Bool.and_eq_true]at hc;let(b,rfl):=qaF e1;cases yG e2;exact{b,_,_,rfl,hc.1,hc.2,rfl}
   ·cases h
  ·cases h
 ·cases h
def jE{x:Str}{args:List Ar}{fs:List (Str×D)}(h:zo x args=some fs):∃b l m s,args=[aA b l,.val (.int m),.val (.int s)]/\qi l=true/\btw m 0 1000000000=true/\btw s 1 1000000000=true/\fs=([("lands",.tup l),("most",.int m),(x,.int s)]:List (Str×D)):=by
 unfold zo at h
 split at h
 ·split at h
  ·rename_i e1 e2 e3
   split at h
   ·rename_i hc;cases h;rw[Bool.and_eq_true,Bool.and_eq_true]at hc;let(b,rfl):=qaF e1;cases yG e2;cases yG e3;exact{b,_,_,_,rfl,hc.1.1,hc.1.2,hc.2,rfl}
   ·cases h
  ·cases h
 ·cases h
def JI{args:List Ar}{fs:List (Str×D)}(h:Ju args=some fs):∃b l m,args=[aA b l,.val (.int m)]/\qi l=true/\btw m 0 1000000000=true/\fs=([("lands",.tup l),("most",.int m),("leave",.int 1)]:List (Str×D)):=by
 unfold Ju at h
 split at h
 ·split at h
  ·rename_i e1 e2
   split at h
   ·rename_i hc;cases h;rw[Bool.and_eq_true]at hc;let(b,rfl):=qaF e1;cases yG e2;exact{b,_,_,rfl,hc.1,hc.2,rfl}
   ·cases h
  ·cases h
 ·cases h
def yH{b:Bool}{l:List D}{m:Int}(ol:qi l=true)(om:btw m 0 1000000000=true):jP [aA b l,.val (.int m)]=some ([("lands",.tup l),("most",.int m)]:List (Str×D)):=by cases b<;>(show(if (qi l&&btw m 0 1000000000)=true then _ else none)=_;rw[if_pos (by rw[ol,om];rfl)])
def YI{x:Str}{b:Bool}{l:List D}{m s:Int}(ol:qi l=true)(om:btw m 0 1000000000=true)(os:btw s 1 1000000000=true):zo x [aA b l,.val (.int m),.val (.int s)]=some ([("lands",.tup l),("most",.int m),(x,.int s)]:List (Str×D)):=by cases b<;>(show(if (qi l&&btw m 0 1000000000&&btw s 1 1000000000)=true then _ else none)=_;rw[if_pos (by rw[ol,om,os];rfl)])
structure Tx(U:KC)(K:Frag)(mg:PR):Prop where
 tup:mg "tuple" = none
 lst:mg "list" = none
 len:mg "len" = none
 gG:∃t,mg "GREATEST" = some (.int 1000000000 t)
 cls:∀c C,U c=some C->Cls K C
 nA:∀c x C,(pcs {}).fld c x=true->U c=some C->zm K C x
def QM{c:Str}(h:rk c=true):(pcs {}).fld c "lands" = true/\(pcs {}).fld c "most" = true:=by
 constructor
 ·show((rk c&&(true||_||_||_))||_)=true;rw[h];rfl
 ·show((rk c&&(false||true||_||_))||_)=true;rw[h];rfl
def okW(c:Str):Bool:=c == "Within"
def okS(c:Str):Bool:=c == "Since" || c == "InRow"
def okI(c:Str):Bool:=c == "InRow"
def qaG{c:Str}(h:okW c=true):rk c=true:=by unfold okW at h;unfold rk;rw[h];rfl
def qaH{c:Str}(h:okS c=true):rk c=true:=by unfold okS at h;unfold rk;rw[Bool.or_assoc,h,Bool.or_true]
def qaI{c:Str}(h:okI c=true):okS c=true:=by unfold okI at h;unfold okS;rw[h,Bool.or_true]
def qen{c:Str}(h:okW c=true):(pcs {}).fld c "span" = true:=by
 have e:c = "Within":=by simpa [okW] using h
 subst e;decide
def qca{c:Str}(h:okS c=true):(pcs {}).fld c "leave" = true:=by
 have e:c = "Since"\/c = "InRow":=by simpa [okS] using h
 rcases e with e|e<;>subst e<;>decide
end DG
namespace K13
open PySem PySem.Spec PyProof.Rows L2 DE DG
structure Ck13(pg:Pg)(j:Nat):Prop where
 lands:∀b l,qi l=true->clK pg j "are_lands" [aA b l]=.ok (.val (.bl true))
 btw:∀n a b,btw n a b=true->clK pg j "is_between" [.val (.int n),.val (.int a),.val (.int b)]=.ok (.val (.bl true))
 landsN:∀b l,(l.all kvS)=true->qi l=false->clK pg j "are_lands" [aA b l]=.ok (.val (.bl false))
 btwN:∀n a b,DG.btw n a b=false->clK pg j "is_between" [.val (.int n),.val (.int a),.val (.int b)]=.ok (.val (.bl false))
section
variable{P:Program}{wd:World}{U:KC}{K:Frag}{mg:PR}{base:Heap}{j:Nat}{f:Addr}{fd:FuncData}
def qaJ:FnScope ["self","lands","most"] ["self","lands","most"] (qj (mem 26 0)):={rfl,rfl,rfl,(3:),rfl,(3:),(3:)}
def QN(tx:Tx U K mg)(F:Fun K "__init__" "Rule.__init__" (mem 26 0) f fd)(at_:yw P wd U K mg base pg j)(ck:Ck13 pg j):FnOk P wd K mg base CX0 (j+1) f fd ["self","lands","most"] (Zj U K rk jP):=by
 let(fA,dA,FA,mA,kA,bA):=yw.q at_ "are_lands" (top 25) (4:);let(fB,dB,FB,mB,kB,bB):=yw.q at_ "is_between" (top 7) (4:);let(t1,g1):=tx.gG;refine F.ok qaJ (λvs H Q E h=>?_) (λcdv A outer s H vs Q E hr h=>?_)
 ·let(G,c,C,p,dx,us,args,fs,rfl,_,_,_,_,_,ha,hg,_):=h;let(b,l,m,rfl,_):=jD hg
  have:=ha.len
  simp at this;simp[<-this]
 ·let(G,c,C,p,dx,us,args,fs,rfl,hrk,hC,hp,gp,sub,ha,hg,k1):=h;let(b,l,m,rfl,ol,om,rfl):=jD hg;simp![zN]at ha;let(v1,us1,rfl,r1,v2,us2,rfl,r2,rfl):=ha;simp![ArR,Rep]at r2;subst r2;let(a,xs,rfl,hxa,rl):=qem sub r1
  refine{_,qK (JP (jM (ye (zM FA hr (by rfl) mA kA bA .nil yJ (qg (pv 1) qC)))) (qX j3) zL)
   (qK (JP (jM (ye (zM FB hr (by rfl) mB kB bB .nil yJ (qg (pv 2) (qg yd (qg (z8 (v:=.int 1000000000) (by rfl) g1 {_,rfl}) qC)))))) (qX j3) zL)
   (qK (Zz (pv 0) (yi Jf (by rfl) tx.tup PyProof.Rows.boot_tuple (qg (pv 1) qC)) rfl)
   (qX (Zz (pv 0) (pv 2) rfl)))),?_}
  refine{_,rfl,yF (E:=E0) (G:=G) (args:=[aA b l]) sub {_,_,rfl,r1,rfl} (ck.lands b l ol) λv G1 H1 hs1 gs1 sub1 fr1 rr=>?_};simp![ReR,Rep]at rr;subst rr;refine{_,rfl,?_};refine{_,rfl,yF (E:=E0) (G:=G1) (args:=[.val (.int m),.val (.int 0),.val (.int 1000000000)]) sub1 {_,_,rfl,by simp![ArR,Rep],_,_,rfl,by simp![ArR,Rep],_,_,rfl,by simp![ArR,Rep],rfl} (ck.btw m 0 1000000000 om) λv G2 H2 hs2 gs2 sub2 fr2 rr=>?_};simp![ReR,Rep]at rr;subst rr;refine{_,rfl,?_};have hp2:H2 p=some (.ins C dx []):=hs2 _ _ (hs1 _ _ hp);have ga2:H2 a=some (.lst xs):=hs2 _ _ (hs1 _ _ hxa);have gp1:G1 p=none:=jL fr1 gp hp;have gp2:G2 p=none:=jL fr2 gp1 (hs1 _ _ hp);refine{_,rfl,a,xs,rfl,.inl {SqL.of ga2,λt ht=>?_}};have ntp:t≠p:=λz=>by rw[z,hp2]at ht;cases ht
  have gt:G2 t=none:=qv.none sub2 ht;refine{_,rfl,p,C,dx,_,rfl,by rw[qh ntp.symm];exact hp2,tx.cls c C hC,tx.nA c _ C (QM hrk).1 hC,by decide,?_};refine{_,rfl,_,rfl,p,C,dx,_,rfl,qm,tx.cls c C hC,tx.nA c _ C (QM hrk).2 hC,(by show 1 < 1000;decide),?_};refine k1 (upd G2 t (.tup xs)) _ [.ref t,.int m] ?_ ?_ ?_ ?_ ?_ ?_ rfl ?_
  ·exactλb o e=>qv.upd gt b o (gs2 b o (gs1 b o e))
  ·intro b o e
   by_cases z:b=t
   ·subst z;rw[qm]at e;cases e;rw[qh ntp,qh ntp,qm]
   ·rw[qh z]at e;have nb:b≠p:=λq=>by rw[q,gp2]at e;cases e
    rw[qh nb,qh nb,qh z];exact sub2 b o e
  ·rw[qh ntp.symm];exact gp2
  ·intro b o nb e;have e2:=hs2 b o (hs1 b o e);have nt:b≠t:=λq=>by rw[q,ht]at e2;cases e2
   rw[qh nb,qh nb,qh nt];exact e2
  ·intro b o e
   by_cases z:b=t
   ·subst z;exact .inr (qv.none hs1 (qv.none hs2 ht))
   ·rw[qh z]at e;exact(jK.trans fr1 hs1 fr2) b o e
  ·rw[qm];rfl
  ·simp![List.map_cons,List.map_nil,qx,Rep];exact{_,_,rfl,{t,xs,rfl,qm,(rl.same gs1 |>.same gs2).same (qv.upd gt)},_,_,rfl,rfl,rfl}
def YJ:FnScope ["self","lands","most","span"] ["self","lands","most","span"] (qj (mem 27 0)):={rfl,rfl,rfl,(3:),rfl,(3:),(3:)}
def QO:FnScope ["self","lands","most","leave"] ["self","lands","most","leave"] (qj (mem 28 0)):={rfl,rfl,rfl,(3:),rfl,(3:),(3:)}
def JJ{fR cR:Addr}{dR:FuncData}(tx:Tx U K mg)(FR:Fun K "__init__" "Rule.__init__" (mem 26 0) fR dR)(bR:qR K dR ["self","lands","most"] [])(mR:mg "Rule" = some (.ref cR))(cf:ClsFn K cR "__init__" fR)
  (at0:yw P wd U K mg base pg j) (at1:yw P wd U K mg base pg (j+1)) (ck0:Ck13 pg j) (ck1:Ck13 pg (j+1)):(Fun K "__init__" "Within.__init__" (mem 27 0) f fd->FnOk P wd K mg base CX0 (j+2) f fd ["self","lands","most","span"] (Zj U K okW (zo "span")))/\(Fun K "__init__" "Since.__init__" (mem 28 0) f fd->FnOk P wd K mg base CX0 (j+2) f fd ["self","lands","most","leave"] (Zj U K okS (zo "leave"))):=by
 constructor<;>(
  intro F;let(fB,dB,FB,mB,kB,bB):=yw.q at1 "is_between" (top 7) (4:);let(t1,g1):=tx.gG;refine F.ok (by first|exact YJ |exact QO) (λvs H Q E h=>?_) (λcdv A outer s H vs Q E hr h=>?_)
  ·let(G,c,C,p,dx,us,args,fs,rfl,_,_,_,_,_,ha,hg,_):=h;let(b,l,m,z,rfl,_):=jE hg
   have:=ha.len
   simp at this;simp[<-this]
  ·let(G,c,C,p,dx,us,args,fs,rfl,hrk,hC,hp,gp,sub,ha,hg,k1):=h;let(b,l,m,z,rfl,ol,om,oz,rfl):=jE hg;simp![zN]at ha;let(v1,us1,rfl,r1,v2,us2,rfl,r2,v3,us3,rfl,r3,rfl):=ha;simp![ArR,Rep]at r2 r3;subst r2 r3
   refine{_,qK (z9 (jq cf (QN tx FR at0 ck0) hr (by rfl) mR bR .nil yJ (qg (pv 0) (qg (pv 1) (qg (pv 2) qC)))))
    (qK (JP (jM (ye (zM FB hr (by rfl) mB kB bB .nil yJ (qg (pv 3) (qg yd (qg (z8 (v:=.int 1000000000) (by rfl) g1 {_,rfl}) qC)))))) (qX j3) zL)
    (qX (Zz (pv 0) (pv 3) rfl))),?_}
   refine{_,rfl,_,rfl,_,rfl,G,c,C,p,dx,[v1,.int m],[aA b l,.val (.int m)],_,rfl,(by first|exact qaG hrk|exact qaH hrk),hC,hp,gp,sub,{_,_,rfl,r1,_,_,rfl,by simp![ArR,Rep],rfl},yH ol om,λG1 H1 xs gs1 sub1 gp1 but1 fr1 hp1 hl1 rp1=>?_};simp![List.map_cons,List.map_nil,qx]at rp1;let(x1,w1,rfl,q1,x2,w2,rfl,q2,rfl):=rp1;refine{_,rfl,yF (E:=E0) (G:=G1) (args:=[.val (.int z),.val (.int 1),.val (.int 1000000000)]) sub1 {_,_,rfl,by simp![ArR,Rep],_,_,rfl,by simp![ArR,Rep],_,_,rfl,by simp![ArR,Rep],rfl} (ck1.btw z 1 1000000000 oz) λv G2 H2 hs2 gs2 sub2 fr2 rr=>?_};simp![ReR,Rep]at rr;subst rr;refine{_,rfl,?_};have hp2:=hs2 _ _ hp1;have gp2:G2 p=none:=jL fr2 gp1 hp1;refine{_,rfl,_,rfl,p,C,dx,_,rfl,hp2,tx.cls c C hC,tx.nA c _ C (by first|exact qen hrk|exact qca hrk) hC,(by show 2 < 1000;decide),?_};refine k1 G2 _ [x1,x2,.int z] (λb o e=>gs2 b o (gs1 b o e)) (λb o e=>?_) gp2 (λb o nb e=>?_) (λb o e=>?_) ?_ rfl ?_
   ·rw[qh (λq=>by rw[q,gp2]at e;cases e)];exact sub2 b o e
   ·rw[qh nb];exact hs2 b o (but1 b o nb e)
   ·exact(jK.transB fr1 but1 hp1 fr2) b o e
   ·rw[qm];rfl
   ·simp![List.map_cons,List.map_nil,qx];exact{_,_,rfl,q1.same gs2,_,_,rfl,q2.same gs2,_,_,rfl,by simp![Rep],rfl})
def QP:FnScope ["self","lands","most"] ["self","lands","most"] (qj (mem 29 0)):={rfl,rfl,rfl,(3:),rfl,(3:),(3:)}
def qaK{fR cR fS cS:Addr}{dR dS:FuncData}(tx:Tx U K mg)(F:Fun K "__init__" "InRow.__init__" (mem 29 0) f fd)(FS:Fun K "__init__" "Since.__init__" (mem 28 0) fS dS)(bS:qR K dS ["self","lands","most","leave"] [])(mS:mg "Since" = some (.ref cS))(cfS:ClsFn K cS "__init__" fS)
  (FR:Fun K "__init__" "Rule.__init__" (mem 26 0) fR dR) (bR:qR K dR ["self","lands","most"] []) (mR:mg "Rule" = some (.ref cR)) (cf:ClsFn K cR "__init__" fR)
  (at0:yw P wd U K mg base pg j) (at1:yw P wd U K mg base pg (j+1)) (ck0:Ck13 pg j) (ck1:Ck13 pg (j+1)):FnOk P wd K mg base CX0 (j+3) f fd ["self","lands","most"] (Zj U K okI Ju):=by
 refine F.ok QP (λvs H Q E h=>?_) (λcdv A outer s H vs Q E hr h=>?_)
 ·let(G,c,C,p,dx,us,args,fs,rfl,_,_,_,_,_,ha,hg,_):=h;let(b,l,m,rfl,_):=JI hg
  have:=ha.len
  simp at this;simp[<-this]
 ·let(G,c,C,p,dx,us,args,fs,rfl,hrk,hC,hp,gp,sub,ha,hg,k1):=h;let(b,l,m,rfl,ol,om,rfl):=JI hg;simp![zN]at ha;let(v1,us1,rfl,r1,v2,us2,rfl,r2,rfl):=ha;simp![ArR,Rep]at r2;subst r2;refine{_,qX (z9 (jq cfS ((JJ tx FR bR mR cf at0 at1 ck0 ck1).2 FS) hr (by rfl) mS bS .nil yJ (qg (pv 0) (qg (pv 1) (qg (pv 2) (qg yd qC)))))),?_}
  exact{_,rfl,_,rfl,_,rfl,G,c,C,p,dx,[v1,.int m,.int 1],[aA b l,.val (.int m),.val (.int 1)],_,rfl,qaI hrk,hC,hp,gp,sub,{_,_,rfl,r1,_,_,rfl,by simp![ArR,Rep],_,_,rfl,by simp![ArR,Rep],rfl},
   YI ol om (2:),λG1 H1 xs gs1 sub1 gp1 but1 fr1 hp1 hl1 rp1=>k1 G1 H1 xs gs1 sub1 gp1 but1 fr1 hp1 hl1 rp1}
def qaL(U:KC)(K:Frag)(ok:Str->Bool)(bad:List Ar->Bool)(X:Addr):Sp:=λvs H Q E=>∃(G:Hp) (c:Str) (C p dx:Addr) (us:List V) (args:List Ar),vs=.ref p::us/\ok c=true/\U c=some C/\
 H p=some (.ins C dx [])/\G p=none/\qv G H/\zN U K G H args us/\bad args=true/\∀H',But p H H'->E (.ref X) none H'
def qcC(args:List Ar):Bool:=wfR args&&(jP args).isNone
def qcD(x:Str)(args:List Ar):Bool:=wfK args&&(zo x args).isNone
theorem qgJ{a:Ar}{l:List D}(h:arL a=some l):∃b,a=aA b l:=by
 cases a with
 |val d=>cases d with
  | lst l'=>cases h;exact⟨false,rfl⟩
  |_=>cases h
 | bor l'=>cases h;exact⟨true,rfl⟩
 | scr l'=>cases h
theorem yG{a:Ar}{m:Int}(h:arI a=some m):a=.val (.int m):=by
 cases a with
 |val d=>cases d with
  |int n=>cases h;rfl
  |_=>cases h
 |_=>cases h
theorem qaM{args:List Ar}(h:wfR args=true):∃b l m,args=[aA b l,.val (.int m)]/\(l.all kvS)=true:=by
 match args,h with
 |[a,b],h=>
  unfold wfR at h;rw[Bool.and_eq_true]at h
  cases e1:arL a with
  |none=>rw[e1]at h;cases h.1
  |some l=>
   rw[e1]at h
   cases e2:arI b with
   |none=>rw[e2]at h;cases h.2
   |some m=>let(b',rfl):=qgJ e1;cases yG e2;exact⟨b',l,m,rfl,h.1⟩
 |[],h=>cases h
 |[_],h=>cases h
 | _::_::_::_,h=>cases h
theorem JK{args:List Ar}(h:qcC args=true):∃b l m,args=[aA b l,.val (.int m)]/\(l.all kvS)=true/\(qi l=false\/(qi l=true/\DG.btw m 0 1000000000=false)):=by
 unfold qcC at h;rw[Bool.and_eq_true]at h;let(b,l,m,rfl,hl):=qaM h.1;refine{b,l,m,rfl,hl,?_}
 cases e1:qi l with
 |false=>exact .inl rfl
 |true=>
  refine .inr ⟨rfl,?_⟩
  cases e2:DG.btw m 0 1000000000 with
  |false=>rfl
  |true=>
   have:=h.2
   rw[yH e1 e2]at this;cases this
def qcb{X:Addr}(tx:Tx U K mg)(F:Fun K "__init__" "Rule.__init__" (mem 26 0) f fd)(at_:yw P wd U K mg base pg j)(ck:Ck13 pg j)(hX:mg "NoRule" = some (.ref X))(okX:PySem.W.excIn K X bV "ValueError.__new__" = true) :
  FnOk P wd K mg base (CX1 P wd) (j+1) f fd ["self","lands","most"] (qaL U K rk qcC X):=by
 let(fA,dA,FA,mA,kA,bA):=yw.q at_ "are_lands" (top 25) (4:);let(fB,dB,FB,mB,kB,bB):=yw.q at_ "is_between" (top 7) (4:);let(t1,g1):=tx.gG;refine F.okx qaJ (λvs H Q E h=>?_) (λcdv A outer s H vs Q E hr h=>?_)
 ·let(G,c,C,p,dx,us,args,rfl,_,_,_,_,_,ha,hg,_):=h;let(b,l,m,rfl,_):=JK hg
  have:=ha.len
  simp at this;simp[<-this]
 ·let(G,c,C,p,dx,us,args,rfl,hrk,hC,hp,gp,sub,ha,hg,k1):=h;let(b,l,m,rfl,hl,hb):=JK hg;simp![zN]at ha;let(v1,us1,rfl,r1,v2,us2,rfl,r2,rfl):=ha;simp![ArR,Rep]at r2;subst r2;rcases hb with hb|⟨ol,hb⟩
  ·refine{_,qK (JP (jM (ye (zM FA hr (by rfl) mA kA bA .nil yJ (qg (pv 1) qC)))) (qX (j8 Ji rfl (by rfl) hX okX PySem.F.excBase_ValueError (qg JO qC))) zL) jk,?_};refine{_,rfl,yF (E:=E0) (G:=G) (args:=[aA b l]) sub {_,_,rfl,r1,rfl} (ck.landsN b l hl hb) λv G1 H1 hs1 gs1 sub1 fr1 rr=>?_};simp![ReR,Rep]at rr;subst rr;exact{_,rfl,by show 1<=sizeLine;decide+kernel,k1 H1 λa o _ e=>hs1 a o e}
  ·refine{_,qK (JP (jM (ye (zM FA hr (by rfl) mA kA bA .nil yJ (qg (pv 1) qC)))) (qX j3) zL)
    (qK (JP (jM (ye (zM FB hr (by rfl) mB kB bB .nil yJ (qg (pv 2) (qg yd (qg (z8 (v:=.int 1000000000) (by rfl) g1 {_,rfl}) qC)))))) (qX (j8 Ji rfl (by rfl) hX okX PySem.F.excBase_ValueError (qg JO qC))) zL) jk),?_}
   refine{_,rfl,yF (E:=E0) (G:=G) (args:=[aA b l]) sub {_,_,rfl,r1,rfl} (ck.lands b l ol) λv G1 H1 hs1 gs1 sub1 fr1 rr=>?_};simp![ReR,Rep]at rr;subst rr;refine{_,rfl,?_};refine{_,rfl,yF (E:=E0) (G:=G1) (args:=[.val (.int m),.val (.int 0),.val (.int 1000000000)]) sub1 {_,_,rfl,by simp![ArR,Rep],_,_,rfl,by simp![ArR,Rep],_,_,rfl,by simp![ArR,Rep],rfl} (ck.btwN m 0 1000000000 hb) λv G2 H2 hs2 gs2 sub2 fr2 rr=>?_};simp![ReR,Rep]at rr;subst rr;exact{_,rfl,by show 1<=sizeLine;decide+kernel,k1 H2 λa o _ e=>hs2 a o (hs1 a o e)}
theorem qcE{args:List Ar}(h:wfK args=true):∃b l m z,args=[aA b l,.val (.int m),.val (.int z)]/\(l.all kvS)=true:=by
 match args,h with
 |[a,b,c],h=>
  have h:(wfR [a,b]&&(arI c).isSome)=true:=h;rw[Bool.and_eq_true]at h;let(b',l,m,e,hl):=qaM h.1;cases e
  cases e2:arI c with
  |none=>rw[e2]at h;cases h.2
  |some z=>cases yG e2;exact⟨b',l,m,z,rfl,hl⟩
 |[],h=>cases h
 |[_],h=>cases h
 |[_,_],h=>cases h
 | _::_::_::_::_,h=>cases h
theorem qaN{x:Str}{args:List Ar}(h:qcD x args=true):∃b l m z,args=[aA b l,.val (.int m),.val (.int z)]/\(l.all kvS)=true/\((qi l=false\/(qi l=true/\DG.btw m 0 1000000000=false))\/(qi l=true/\DG.btw m 0 1000000000=true/\DG.btw z 1 1000000000=false)):=by
 unfold qcD at h;rw[Bool.and_eq_true]at h;let(b,l,m,z,rfl,hl):=qcE h.1;refine{b,l,m,z,rfl,hl,?_}
 cases e1:qi l with
 |false=>exact .inl (.inl rfl)
 |true=>
  cases e2:DG.btw m 0 1000000000 with
  |false=>exact .inl (.inr ⟨rfl,rfl⟩)
  |true=>
   refine .inr ⟨rfl,rfl,?_⟩
   cases e3:DG.btw z 1 1000000000 with
   |false=>rfl
   |true=>
    have:=h.2
    rw[YI e1 e2 e3]at this;cases this
theorem qeo{b:Bool}{l:List D}{m:Int}(hl:(l.all kvS)=true)(h:qi l=false\/(qi l=true/\DG.btw m 0 1000000000=false)):qcC [aA b l,.val (.int m)]=true:=by
 have h1:wfR [aA b l,.val (.int m)]=true:=by cases b<;>(show((l.all kvS)&&true)=true;rw[hl];rfl)
 unfold qcC;rw[h1]
 cases e:jP [aA b l,.val (.int m)] with
 |none=>rfl
 |some fs=>
  let(b',l',m',e1,ol,om,_):=jD e;have e2:l'=l/\m'=m:=by cases b<;>cases b'<;>first|(cases e1;exact⟨rfl,rfl⟩)|cases e1
  let(rfl,rfl):=e2;rcases h with h|⟨_,h⟩
  ·rw[h]at ol;cases ol
  ·rw[h]at om;cases om
def JL{X fR cR:Addr}{dR:FuncData}(tx:Tx U K mg)(FR:Fun K "__init__" "Rule.__init__" (mem 26 0) fR dR)(bR:qR K dR ["self","lands","most"] [])(mR:mg "Rule" = some (.ref cR))(cf:ClsFn K cR "__init__" fR)
  (at0:yw P wd U K mg base pg j) (at1:yw P wd U K mg base pg (j+1)) (ck0:Ck13 pg j) (ck1:Ck13 pg (j+1)) (hX:mg "NoRule" = some (.ref X)) (okX:PySem.W.excIn K X bV "ValueError.__new__" = true) :
  (Fun K "__init__" "Within.__init__" (mem 27 0) f fd->FnOk P wd K mg base (CX1 P wd) (j+2) f fd ["self","lands","most","span"] (qaL U K okW (qcD "span") X))/\(Fun K "__init__" "Since.__init__" (mem 28 0) f fd->FnOk P wd K mg base (CX1 P wd) (j+2) f fd ["self","lands","most","leave"] (qaL U K okS (qcD "leave") X)):=by
 constructor<;>(
  intro F;let(fB,dB,FB,mB,kB,bB):=yw.q at1 "is_between" (top 7) (4:);let(t1,g1):=tx.gG;refine F.okx (by first|exact YJ |exact QO) (λvs H Q E h=>?_) (λcdv A outer s H vs Q E hr h=>?_)
  ·let(G,c,C,p,dx,us,args,rfl,_,_,_,_,_,ha,hg,_):=h;let(b,l,m,z,rfl,_):=qaN hg
   have:=ha.len
   simp at this;simp[<-this]
  ·let(G,c,C,p,dx,us,args,rfl,hrk,hC,hp,gp,sub,ha,hg,k1):=h;let(b,l,m,z,rfl,hl,hb):=qaN hg;simp![zN]at ha;let(v1,us1,rfl,r1,v2,us2,rfl,r2,v3,us3,rfl,r3,rfl):=ha;simp![ArR,Rep]at r2 r3;subst r2 r3;rcases hb with hb|⟨ol,om,oz⟩
   ·refine{_,qK (z9 (jq cf (qcb tx FR at0 ck0 hX okX) hr (by rfl) mR bR .nil (YU λ_ _ _ q=>q) (qg (pv 0) (qg (pv 1) (qg (pv 2) qC))))) jk,?_};exact{_,rfl,_,rfl,_,rfl,G,c,C,p,dx,[v1,.int m],[aA b l,.val (.int m)],rfl,(by first|exact qaG hrk|exact qaH hrk),hC,hp,gp,sub,{_,_,rfl,r1,_,_,rfl,by simp![ArR,Rep],rfl},qeo hl hb,k1}
   ·refine{_,qK (z9 (jq cf (QN tx FR at0 ck0) hr (by rfl) mR bR .nil yJ (qg (pv 0) (qg (pv 1) (qg (pv 2) qC)))))
     (qK (JP (jM (ye (zM FB hr (by rfl) mB kB bB .nil yJ (qg (pv 3) (qg yd (qg (z8 (v:=.int 1000000000) (by rfl) g1 {_,rfl}) qC)))))) (qX (j8 Ji rfl (by rfl) hX okX PySem.F.excBase_ValueError (qg JO qC))) zL) jk),?_}
    refine{_,rfl,_,rfl,_,rfl,G,c,C,p,dx,[v1,.int m],[aA b l,.val (.int m)],_,rfl,(by first|exact qaG hrk|exact qaH hrk),hC,hp,gp,sub,{_,_,rfl,r1,_,_,rfl,by simp![ArR,Rep],rfl},yH ol om,λG1 H1 xs gs1 sub1 gp1 but1 fr1 hp1 hl1 rp1=>?_};refine{_,rfl,yF (E:=E0) (G:=G1) (args:=[.val (.int z),.val (.int 1),.val (.int 1000000000)]) sub1 {_,_,rfl,by simp![ArR,Rep],_,_,rfl,by simp![ArR,Rep],_,_,rfl,by simp![ArR,Rep],rfl} (ck1.btwN z 1 1000000000 oz) λv G2 H2 hs2 gs2 sub2 fr2 rr=>?_};simp![ReR,Rep]at rr;subst rr;exact{_,rfl,by show 1<=sizeLine;decide+kernel,k1 H2 λa o na e=>hs2 a o (but1 a o na e)})
def qaO{X fR cR fS cS:Addr}{dR dS:FuncData}(tx:Tx U K mg)(F:Fun K "__init__" "InRow.__init__" (mem 29 0) f fd)(FS:Fun K "__init__" "Since.__init__" (mem 28 0) fS dS)(bS:qR K dS ["self","lands","most","leave"] [])(mS:mg "Since" = some (.ref cS))(cfS:ClsFn K cS "__init__" fS)
  (FR:Fun K "__init__" "Rule.__init__" (mem 26 0) fR dR) (bR:qR K dR ["self","lands","most"] []) (mR:mg "Rule" = some (.ref cR)) (cf:ClsFn K cR "__init__" fR)
  (at0:yw P wd U K mg base pg j) (at1:yw P wd U K mg base pg (j+1)) (ck0:Ck13 pg j) (ck1:Ck13 pg (j+1)) (hX:mg "NoRule" = some (.ref X)) (okX:PySem.W.excIn K X bV "ValueError.__new__" = true):FnOk P wd K mg base (CX1 P wd) (j+3) f fd ["self","lands","most"] (qaL U K okI qcC X):=by
 refine F.okx QP (λvs H Q E h=>?_) (λcdv A outer s H vs Q E hr h=>?_)
 ·let(G,c,C,p,dx,us,args,rfl,_,_,_,_,_,ha,hg,_):=h;let(b,l,m,rfl,_):=JK hg
  have:=ha.len
  simp at this;simp[<-this]
 ·let(G,c,C,p,dx,us,args,rfl,hrk,hC,hp,gp,sub,ha,hg,k1):=h;let(b,l,m,rfl,hl,hb):=JK hg;simp![zN]at ha;let(v1,us1,rfl,r1,v2,us2,rfl,r2,rfl):=ha;simp![ArR,Rep]at r2;subst r2;refine{_,qX (z9 (jq cfS ((JL tx FR bR mR cf at0 at1 ck0 ck1 hX okX).2 FS) hr (by rfl) mS bS .nil (YU λ_ _ _ q=>q) (qg (pv 0) (qg (pv 1) (qg (pv 2) (qg yd qC)))))),?_}
  have bk:qcD "leave" [aA b l,.val (.int m),.val (.int 1)]=true:=by
   have h1:wfK [aA b l,.val (.int m),.val (.int 1)]=true:=by cases b<;>(show(((l.all kvS)&&true)&&true)=true;rw[hl];rfl)
   unfold qcD;rw[h1]
   cases e:zo "leave" [aA b l,.val (.int m),.val (.int 1)] with
   |none=>rfl
   |some fs=>
    let(b',l',m',z',e1,ol,om,_):=jE e;have e2:l'=l/\m'=m:=by cases b<;>cases b'<;>first|(cases e1;exact⟨rfl,rfl⟩)|cases e1
    let(rfl,rfl):=e2;rcases hb with h|⟨_,h⟩
    ·rw[h]at ol;cases ol
    ·rw[h]at om;cases om
  exact{_,rfl,_,rfl,_,rfl,G,c,C,p,dx,[v1,.int m,.int 1],[aA b l,.val (.int m),.val (.int 1)],rfl,qaI hrk,hC,hp,gp,sub,{_,_,rfl,r1,_,_,rfl,by simp![ArR,Rep],_,_,rfl,by simp![ArR,Rep],rfl},bk,k1}
def FnOk.or{CX:CXT}{k:Nat}{ps:List Str}{sp sp':Sp}(F:FnOk P wd K mg base CX k f fd ps sp)(F':FnOk P wd K mg base CX k f fd ps sp'):FnOk P wd K mg base CX k f fd ps (λvs H Q E=>sp vs H Q E\/sp' vs H Q E):=
 ⟨λvs H Q E h=>h.elim (F.len vs H Q E) (F'.len vs H Q E),λA outer s H args us vs Q E hr he hb hv h=>h.elim (F.run A outer s H args us vs Q E hr he hb hv) (F'.run A outer s H args us vs Q E hr he hb hv)⟩
theorem JM{nw:Str->List Ar->R Rv}{f c:Str}{C X:Addr}{ok:Str->Bool}{go:List Ar->Option (List (Str×D))}{bad:List Ar->Bool}(hC:U c=some C)(hok:ok c=true)
  (hX:∀args C' l,nw f args=.exc C' l->C'=X/\l=[]/\(∀a∈args,∀l,a≠.scr l)/\bad args=true) (hgo:∀args r,nw f args=.ok r->(∀a∈args,∀l,a≠.scr l)/\∃fs,go args=some fs/\r=.val (.ins c (fs.map (·.1)) (fs.map (·.2)))) :
  ∀vs H Q E,spF U K nw f vs H Q E->∀x dx,H x=none->H dx=none->dx≠x->(Zj U K ok go (.ref x::vs) (upd (upd H dx (.own x)) x (.ins C dx [])) (λv H2=>v=.non/\Q (.ref x) H2) E\/qaL U K ok bad X (.ref x::vs) (upd (upd H dx (.own x)) x (.ins C dx [])) (λv H2=>v=.non/\Q (.ref x) H2) E):=by
 intro vs H Q E h x dx hx hdx ne;let(G,args,sub,ha,hw):=h
 cases e:nw f args with
 |no=>rw[e]at hw;exact hw.elim
 |ok r=>
  refine .inl (qel (nw:=λg a=>match nw g a with |.exc _ _=>.no |r=>r) (f:=f) hC hok (λa c l z=>?_) (λa r z=>hgo a r ?_) vs H Q E ⟨G,args,sub,ha,?_⟩ x dx hx hdx ne)
  ·cases q:nw f a with
   |ok r=>rw[q]at z;cases z
   | exc c' l'=>rw[q]at z;cases z
   |no=>rw[q]at z;cases z
  ·cases q:nw f a with
   | ok r'=>rw[q]at z;exact z
   | exc c' l'=>rw[q]at z;cases z
   |no=>rw[q]at z;cases z
  ·show Wx _ (match nw f args with |.exc _ _=>.no |r=>r) _;rw[e]at hw ⊢;exact hw
 | exc C' l'=>
  rw[e]at hw;let(rfl,rfl,hs,hb):=hX _ _ _ e;have gx:G x=none:=qv.none sub hx
  have up:qv H (upd (upd H dx (.own x)) x (.ins C dx [])):=λb o hb=>by
   have nb:b≠x:=λz=>by rw[z,hx]at hb;cases hb
   have nd:b≠dx:=λz=>by rw[z,hdx]at hb;cases hb
   rw[qh nb,qh nd];exact hb
  have ha':∀{args:List Ar} {vs:List V},(∀a∈args,∀l,a≠.scr l)->zN U K G H args vs->zN U K G (upd (upd H dx (.own x)) x (.ins C dx [])) args vs:=by
   intro args
   induction args with
   |nil=>intro vs _ h;simp![zN]at h ⊢;exact h
   |cons a l ih=>intro vs hn h;simp![zN]at h ⊢;let(v,r,e,h1,h2):=h;exact{v,r,e,h1.low (λ_ _ z=>z) (λb o hb _=>up b o hb) (hn a (List.mem_cons_self ..)),ih (λb hb=>hn b (List.mem_cons_of_mem _ hb)) h2}
  refine .inr ⟨G,c,C,x,dx,vs,args,rfl,hok,hC,qm,gx,λb o q=>up b o (sub b o q),ha' hs ha,hb,λH' but=>?_⟩;have sm:qv H H':=λb o q=>but b o (λz=>by rw[z,hx]at q;cases q) (up b o q);exact hw none G H' sm (λ_ _ q=>q) (λb o q=>sm b o (sub b o q)) (λa o q=>.inl ⟨o,q⟩) (.inl ⟨rfl,rfl⟩)
end
end K13
namespace DG
open PySem PySem.Spec PyProof.Rows L2 DE
def qgK(b:Bool)(l:List D):aA b l=aL b l:=by cases b<;>rfl
def Qa{c:Str}(h:rk c=true):c = "Within"\/c = "Since"\/c = "InRow":=by
 unfold rk at h
 simpa [or_assoc] using h
def qcF(b:Bool)(l l':List D):aA b l≠.scr l':=by cases b<;>(intro z;cases z)
structure Kl(K:Frag)(C:Addr):Prop where
 cls:Cls K C
 tc:PySem.W.findIn K (.ref C) "__class__" = some (some (.builtin "object.__class__"))
 mo:PySem.W.mroIn K C (.type "object")=some true
structure Kr(K:Frag)(fw C cW cS:Addr)(x:Str)(b:Bool):Prop where
 kl:Kl K C
 la:zm K C "lands"
 mo:zm K C "most"
 fx:zm K C x
 wt:Meth K C "weight" fw
 iw:PySem.W.kitOne K (.ref C) (.ref cW)=some b
 is:PySem.W.kitOne K (.ref C) (.ref cS)=some (!b)
def JN(K:Frag)(f:Addr)(n q:Str)(st:Stmt):Prop:=∃oc od kV dc pm an cd ct sl,K.lookup f=some ⟨oc,od,.func (PySem.W.fnOf n q (qY st) (qD st) (qj st) .none kV dc pm an cd ct),sl⟩/\PySem.W.codeIn K cd q=true/\PySem.W.keepIn K (.ref f)=true
noncomputable abbrev FG(K:Frag)(f:Addr)(n:Str)(st:Stmt):Prop:=PySem.W.nsIn K mainGlobals n=some (some (.ref f))/\JN K f n n st
section
variable{K:Frag}{f:Addr}{n q:Str}{st:Stmt}{mg:PR}{h:Heap}
def JN.fn(i:JN K f n q st):∃fd,Fun K n q st f fd:=by let(oc,od,kV,dc,pm,an,cd,ct,sl,l,c,k):=i;exact{_,qce l c k}
def JN.kp(i:JN K f n q st):PySem.W.keepIn K (.ref f)=true:=by let(oc,od,kV,dc,pm,an,cd,ct,sl,l,c,k):=i;exact k
theorem un1{us:List Value}{a:Str}{l:List Str}(h:us.length=(a::l).length):∃u vs,us=u::vs/\vs.length=l.length:=by
 cases us with
 |nil=>cases h
 |cons u vs=>exact{u,vs,rfl,Nat.succ.inj h}
def Bd(n q:Str)(st:Stmt)(ps:List Str):Prop:=∀(kV doc pm:Value) (an:Option Addr) (cdv ct:Value) (us:List Value),us.length=ps.length->bindArgs (PySem.W.fnOf n q (qY st) (qD st) (qj st) .none kV doc pm an cdv ct) ⟨us,[]⟩=pure (ps.zip us)
def qgL(X:K.In h)(G:h.Ns mainGlobals mg)(a:PySem.W.nsIn K mainGlobals n=some (some (.ref f)))(i:JN K f n n st){ps:List Str}(hp:yN st=ps)(hb:Bd n n st ps):FnF K mg n st:=by let(fd,F):=i.fn;exact{f,fd,F,PySem.W.mg_of X G a,hp▸F.binds hb}
def jW(i:JN K f n q st){ps:List Str}(hb:Bd n q st ps):∃fd,Fun K n q st f fd/\qR K fd ps []:=by let(fd,F):=i.fn;exact{fd,F,F.binds hb}
def qgM(i:JN K f n n st)(hb:Bd n n st ["_law_script"]):∃fd,Fun K n n st f fd/\∀(s:Shared) (v:Value),BindsTo s fd ⟨[v],[]⟩ [("_law_script",v)]:=by let(oc,od,kV,dc,pm,an,cd,ct,sl,l,c,k):=i;exact{_,qce l c k,λs v=>.of_eq (hb _ _ _ _ _ _ [v] rfl)}
end
section
variable{n q:Str}{st:Stmt}{a b c d e:Str}
def bd1(h:∀(kV doc pm:Value) (an:Option Addr) (cdv ct x:Value),bindArgs (PySem.W.fnOf n q (qY st) (qD st) (qj st) .none kV doc pm an cdv ct) ⟨[x],[]⟩=pure [(a,x)]):Bd n q st [a]:=λ_ _ _ _ _ _ us k0=>by
 let(_,us,rfl,k1):=un1 k0
 cases List.length_eq_zero_iff.mp k1;exact h ..
def bd2(h:∀(kV doc pm:Value) (an:Option Addr) (cdv ct x y:Value),bindArgs (PySem.W.fnOf n q (qY st) (qD st) (qj st) .none kV doc pm an cdv ct) ⟨[x,y],[]⟩=pure [(a,x),(b,y)]):Bd n q st [a,b]:=λ_ _ _ _ _ _ us k0=>by
 let(_,us,rfl,k1):=un1 k0;let(_,us,rfl,k2):=un1 k1
 cases List.length_eq_zero_iff.mp k2;exact h ..
def bd3(h:∀(kV doc pm:Value) (an:Option Addr) (cdv ct x y z:Value),bindArgs (PySem.W.fnOf n q (qY st) (qD st) (qj st) .none kV doc pm an cdv ct) ⟨[x,y,z],[]⟩=pure [(a,x),(b,y),(c,z)]):Bd n q st [a,b,c]:=λ_ _ _ _ _ _ us k0=>by
 let(_,us,rfl,k1):=un1 k0;let(_,us,rfl,k2):=un1 k1;let(_,us,rfl,k3):=un1 k2
 cases List.length_eq_zero_iff.mp k3;exact h ..
def bd4(h:∀(kV doc pm:Value) (an:Option Addr) (cdv ct x y z u:Value),bindArgs (PySem.W.fnOf n q (qY st) (qD st) (qj st) .none kV doc pm an cdv ct) ⟨[x,y,z,u],[]⟩=pure [(a,x),(b,y),(c,z),(d,u)]):Bd n q st [a,b,c,d]:=λ_ _ _ _ _ _ us k0=>by
 let(_,us,rfl,k1):=un1 k0;let(_,us,rfl,k2):=un1 k1;let(_,us,rfl,k3):=un1 k2;let(_,us,rfl,k4):=un1 k3
 cases List.length_eq_zero_iff.mp k4;exact h ..
end
end DG
namespace K13
open PySem L2 DE DG
theorem qcG{X:Addr}{c:Str}{w:Bool}{o:Option (List (Str×D))}{r:Rv}(h:jc X c w o=.ok r):∃fs,o=some fs/\r=.val (.ins c (fs.map (·.1)) (fs.map (·.2))):=by
 cases o with
 |none=>
  have h:(if w=true then R.exc X [] else R.no)=.ok r:=h
  cases w<;>cases h
 |some fs=>cases h;exact⟨fs,rfl,rfl⟩
theorem qaP{X C:Addr}{c:Str}{w:Bool}{o:Option (List (Str×D))}{l:List (Str×D)}(h:jc X c w o=.exc C l):o=none/\w=true/\C=X/\l=[]:=by
 cases o with
 |some fs=>cases h
 |none=>
  have h:(if w=true then R.exc X [] else R.no)=.exc C l:=h
  cases w with
  |false=>cases h
  |true=>cases h;exact⟨rfl,rfl,rfl,rfl⟩
def NoS(args:List Ar):Prop:=∀a∈args,∀l,a≠.scr l
def ns2(b:Bool)(l:List D)(m:Int):NoS [aA b l,.val (.int m)]:=λa ha=>by
 simp![List.mem_cons,List.not_mem_nil,or_false]at ha;rcases ha with rfl|rfl
 ·exactλl'=>qcF b l l'
 ·exactλl' z=>by cases z
def ns3(b:Bool)(l:List D)(m s:Int):NoS [aA b l,.val (.int m),.val (.int s)]:=λa ha=>by
 simp![List.mem_cons,List.not_mem_nil,or_false]at ha;rcases ha with rfl|rfl|rfl
 ·exactλl'=>qcF b l l'
 ·exactλl' z=>by cases z
 ·exactλl' z=>by cases z
section
variable{j:Nat}{args:List Ar}{r:Rv}{C:Addr}{l:List (Str×D)}
def qiK:qbQ 72 (j+12) "Within" args=jc 72 "Within" (wfK args) (zo "span" args):=if_neg (by omega)
def qiL:qbQ 72 (j+12) "Since" args=jc 72 "Since" (wfK args) (zo "leave" args):=if_neg (by omega)
def qiM:qbQ 72 (j+12) "InRow" args=jc 72 "InRow" (wfR args) (Ju args):=if_neg (by omega)
def qgN{x c:Str}(h:jc 72 c (wfK args) (zo x args)=.ok r):NoS args/\∃fs,zo x args=some fs/\r=.val (.ins c (fs.map (·.1)) (fs.map (·.2))):=by let(fs,e,er):=qcG h;let(b,l,m,s,rfl,_):=jE e;exact{ns3 b l m s,fs,e,er}
def qiN{x c:Str}(h:jc 72 c (wfK args) (zo x args)=.exc C l):C=72/\l=[]/\NoS args/\qcD x args=true:=by let(e,w,rfl,rfl):=qaP h;let(b,l,m,s,rfl,_):=qcE w;refine{rfl,rfl,ns3 b l m s,?_};unfold qcD;rw[w,e];rfl
def qic(h:jc 72 "InRow" (wfR args) (Ju args)=.ok r):NoS args/\∃fs,Ju args=some fs/\r=.val (.ins "InRow" (fs.map (·.1)) (fs.map (·.2))):=by let(fs,e,er):=qcG h;let(b,l,m,rfl,_):=JI e;exact{ns2 b l m,fs,e,er}
def qjO(h:jc 72 "InRow" (wfR args) (Ju args)=.exc C l):C=72/\l=[]/\NoS args/\qcC args=true:=by
 let(e,w,rfl,rfl):=qaP h;let(b,l,m,rfl,_):=qaM w;refine{rfl,rfl,ns2 b l m,?_}
 have g:jP [aA b l,.val (.int m)]=none:=by
  cases q:jP [aA b l,.val (.int m)] with
  |none=>rfl
  |some fs=>
   let(b',l',m',e1,ol,om,_):=jD q;rw[e1]at e;exfalso
   have:Ju [aA b' l',.val (.int m')]=some ([("lands",.tup l'),("most",.int m'),("leave",.int 1)]:List (Str×D)):=by cases b'<;>(show(if (qi l'&&DG.btw m' 0 1000000000)=true then _ else none)=_;rw[if_pos (by rw[ol,om];rfl)])
   rw[this]at e;cases e
 unfold qcC;rw[w,g];rfl
end
open PySem.W HD
abbrev HP:Program:=PySem.Challenge.rw_daysgate_k13_texts_that_are_none.row.toRowW.prog
def Hq:Program:=view HP [1,2,3,4,5,6,7,8,9,10,12,13,14,15,16,17,18,19,20,22,23,24,25,26,27,28,29,30,31,32,33,34,36,37,38,39,40,41,42,43]
def Hx(s:Shared):Bool:=xlAt Hq [] s&&recOk (RowW.records PySem.Challenge.rw_daysgate_k13_texts_that_are_none.row.toRowW) s
def Has:List Addr:=[nat_lit 2,nat_lit 3,nat_lit 20,nat_lit 21,nat_lit 27,nat_lit 28,nat_lit 34,nat_lit 35,nat_lit 41,nat_lit 42,nat_lit 48,nat_lit 49,nat_lit 58,nat_lit 59,nat_lit 60,nat_lit 71,nat_lit 72,nat_lit 87,nat_lit 88,nat_lit 90,nat_lit 91,nat_lit 106,nat_lit 107,nat_lit 109,nat_lit 110,nat_lit 125,nat_lit 126,nat_lit 128,nat_lit 129,nat_lit 140,nat_lit 141,nat_lit 152,nat_lit 153,nat_lit 164,nat_lit 165,nat_lit 176,nat_lit 177,nat_lit 185,nat_lit 186,nat_lit 192,nat_lit 193,nat_lit 206,nat_lit 207,nat_lit 213,nat_lit 214,nat_lit 216,nat_lit 217,nat_lit 218,nat_lit 219,nat_lit 234,nat_lit 235,nat_lit 241,nat_lit 242,nat_lit 244,nat_lit 245,nat_lit 260,nat_lit 261,nat_lit 267,nat_lit 268,nat_lit 270,nat_lit 271,nat_lit 286,nat_lit 287,nat_lit 293,nat_lit 294,nat_lit 296,nat_lit 297,nat_lit 303,nat_lit 304,nat_lit 310,nat_lit 311,nat_lit 317,nat_lit 318,nat_lit 324,nat_lit 325,nat_lit 331,nat_lit 332,nat_lit 338,nat_lit 339,nat_lit 345,nat_lit 346,nat_lit 352,nat_lit 353,nat_lit 359,nat_lit 360,nat_lit 364,nat_lit 365,nat_lit 371,nat_lit 372,nat_lit 378,nat_lit 379,nat_lit 385,nat_lit 386]
def t0(i:Nat):=fB (top i) "daysgate.checks" 187
def m1(i j:Nat):=fM (mem i j) "daysgate.errors" 238
def k1(w:String)(P:Params):=kC P "daysgate.errors" 238 w
def t2(i:Nat):=fB (top i) "daysgate.rules" 417
def m2(i j:Nat):=fM (mem i j) "daysgate.rules" 417
def k2(w:String)(P:Params):=kC P "daysgate.rules" 417 w
def t3(i:Nat):=fB (top i) "law_daysgate_k13_texts_that_are_none" 621
def e0(P:Params)(a b:Addr)(n:Str)(t:Tok)(l:Int)(k:Nat)(L:List (Str×Tok×Addr))(d:Tok):=k1 "ValueError.__new__" P a b n t l k L d (.ref 59) [(.ref 59),(.type "ValueError"),(.type "Exception"),(.type "BaseException"),(.type "object")] []
def HK(P:Params):Frag:=by
 refine(?f:∀K,K=(co (nat_lit 2) ⟨.none,none,.dict #[] 0,#[]⟩ <| co (nat_lit 3) ⟨.type "dict",none,.dict ⟨List.cons (dE P "__name__" 165 (.str "law_daysgate_k13_texts_that_are_none" 621)) <| List.cons (dE P "__doc__" 166 .none) <| List.cons (dE P "__package__" 167 .none) <| List.cons (dE P "__loader__" 168 (.builtin "__main__.__loader__#opaque")) <| List.cons (dE P "__spec__" 169 .none) <| dRs P [("__annotations__",170,6),("__builtins__",171,4)] <| List.cons (dE P "__file__" 173 (.str "/claim/cut.py" 172)) <| List.cons (dE P "__cached__" 174 .none) <| List.cons (dE P "GREATEST" 190 (.int (1000000000) 189)) <| List.cons (dE P "LETTERS" 192 (.str "abcdefghijklmnopqrstuvwxyz" 191)) <| List.cons (dE P "LONGEST_NAME" 194 (.int (8) 193)) <| List.cons (dE P "FIGURES" 196 (.str "0123456789" 195)) <| List.cons (dE P "MOST_FIGURES" 198 (.int (10) 197)) <| dRs P [("is_whole",205,21),("is_between",214,28),("is_made_of",223,35),("is_name",230,42),("is_written_number",237,49),("DayError",257,59),("NoRule",273,72),("NoPaper",298,91),("NoStay",323,110),("NotLet",352,129),("NoWish",368,141),("NoDeed",384,153),("NoText",400,165),("NoRow",416,177)] <| List.cons (dE P "MOST_LANDS" 420 (.int (6) 419)) <| List.cons (dE P "GREATEST_WEIGHT" 422 (.int (9) 421)) <| dRs P [("is_land",429,186),("are_lands",438,193),("Rule",479,217),("Within",514,245),("Since",549,271),("InRow",581,297),("line_of",587,304),("read_number",594,311),("read_lands",604,318),("rule_of",612,325),("read_rule",620,332),("_law_cell_at",630,339),("_law_lands",646,346),("_law_number",654,353),("_law_rule",668,360),("_law_line",674,365),("_law_said",687,372),("_law_odd",695,379),("law",711,386)] <| []⟩ 49,#[]⟩ <| t0 6 (20:) (21:) "is_whole" 199 7 1 203 <| t0 7 (27:) (28:) "is_between" 206 9 3 212 <| t0 8 (34:) (35:) "is_made_of" 215 11 2 221 <| t0 9 (41:) (42:) "is_name" 224 16 1 228 <| t0 10 (48:) (49:) "is_written_number" 231 20 1 235 <| k1 "ValueError.__new__" P (58:) (59:) "DayError" 240 27 3 [("__static_attributes__",252,57),("__weakref__",254,60)] 255 (.type "ValueError") [(.type "ValueError"),(.type "Exception"),(.type "BaseException"),(.type "object")] [(.ref 72),(.ref 91),(.ref 110),(.ref 129),(.ref 141),(.ref 153),(.ref 165),(.ref 177)] (some (.ref 50)) <| co (60:) ⟨(.type "getset_descriptor"),none,.fields #[(.str "__weakref__" 253),(.ref 59),(.builtin "ExceptionGroup.__weakref__"),.none],#[]⟩ <| e0 P (71:) (72:) "NoRule" 258 29 2 [("__static_attributes__",270,70)] 271 (some (.ref 63)) <| m1 14 0 (87:) (88:) "__init__" "NoPaper.__init__" 286 33 2 291 <| e0 P (90:) (91:) "NoPaper" 274 31 2 [("__init__",293,88),("__static_attributes__",295,89)] 296 (some (.ref 75)) <| m1 15 0 (106:) (107:) "__init__" "NoStay.__init__" 311 38 2 316 <| e0 P (109:) (110:) "NoStay" 299 36 2 [("__init__",318,107),("__static_attributes__",320,108)] 321 (some (.ref 94)) <| m1 16 0 (125:) (126:) "__init__" "NotLet.__init__" 336 43 4 343 <| e0 P (128:) (129:) "NotLet" 324 41 2 [("__init__",345,126),("__static_attributes__",349,127)] 350 (some (.ref 113)) <| e0 P (140:) (141:) "NoWish" 353 48 2 [("__static_attributes__",365,139)] 366 (some (.ref 132)) <| e0 P (152:) (153:) "NoDeed" 369 50 2 [("__static_attributes__",381,151)] 382 (some (.ref 144)) <| e0 P (164:) (165:) "NoText" 385 52 2 [("__static_attributes__",397,163)] 398 (some (.ref 156)) <| e0 P (176:) (177:) "NoRow" 401 54 2 [("__static_attributes__",413,175)] 414 (some (.ref 168)) <| t2 24 (185:) (186:) "is_land" 423 59 1 427 <| t2 25 (192:) (193:) "are_lands" 430 63 1 436 <| m2 26 0 (206:) (207:) "__init__" "Rule.__init__" 451 74 3 457 <| m2 26 1 (213:) (214:) "weight" "Rule.weight" 460 82 2 467 <| k2 "object.__new__" P (216:) (217:) "Rule" 439 72 4 [("__init__",459,207),("weight",469,214),("__static_attributes__",472,215),("__dict__",474,218),("__weakref__",476,219)] 477 (.type "object") [(.type "object")] [(.ref 245),(.ref 271)] (none) <| co (218:) ⟨(.type "getset_descriptor"),none,.fields #[(.str "__dict__" 473),(.ref 217),(.builtin "function.__dict__"),(.builtin "function.__dict__#set")],#[]⟩ <| co (219:) ⟨(.type "getset_descriptor"),none,.fields #[(.str "__weakref__" 475),(.ref 217),(.builtin "ExceptionGroup.__weakref__"),.none],#[]⟩ <| m2 27 0 (234:) (235:) "__init__" "Within.__init__" 492 89 4 499 <| m2 27 1 (241:) (242:) "line" "Within.line" 502 95 1 507 <| k2 "object.__new__" P (244:) (245:) "Within" 480 87 2 [("__init__",501,235),("line",509,242),("__static_attributes__",511,243)] 512 (.ref 217) [(.ref 217),(.type "object")] [] (some (.ref 222)) <| m2 28 0 (260:) (261:) "__init__" "Since.__init__" 527 100 4 534 <| m2 28 1 (267:) (268:) "line" "Since.line" 537 106 1 542 <| k2 "object.__new__" P (270:) (271:) "Since" 515 98 2 [("__init__",536,261),("line",544,268),("__static_attributes__",546,269)] 547 (.ref 217) [(.ref 217),(.type "object")] [(.ref 297)] (some (.ref 248)) <| m2 29 0 (286:) (287:) "__init__" "InRow.__init__" 562 111 3 568 <| m2 29 1 (293:) (294:) "line" "InRow.line" 571 114 1 575 <| k2 "object.__new__" P (296:) (297:) "InRow" 550 109 2 [("__init__",570,287),("line",577,294),("__static_attributes__",578,295)] 579 (.ref 271) [(.ref 271),(.ref 217),(.type "object")] [] (some (.ref 274)) <| co (303:) (oC "line_of" 582 "line_of" 583 584 116 2 300 301 .none .none 302 585 586) <| co (304:) (oG (top 30) "line_of" "daysgate.rules" 417 303) <| t2 31 (310:) (311:) "read_number" 588 120 1 592 <| t2 32 (317:) (318:) "read_lands" 595 124 1 602 <| t2 33 (324:) (325:) "rule_of" 605 132 2 610 <| t2 34 (331:) (332:) "read_rule" 613 140 1 618 <| t3 36 (338:) (339:) "_law_cell_at" 623 149 2 628 <| t3 37 (345:) (346:) "_law_lands" 631 153 2 644 <| t3 38 (352:) (353:) "_law_number" 647 165 2 652 <| t3 39 (359:) (360:) "_law_rule" 655 169 2 666 <| co (364:) (oC "_law_line" 669 "_law_line" 670 671 182 1 361 362 .none .none 363 672 673) <| co (365:) (oG (top 40) "_law_line" "law_daysgate_k13_texts_that_are_none" 621 364) <| t3 41 (371:) (372:) "_law_said" 675 189 1 685 <| t3 42 (378:) (379:) "_law_odd" 688 204 1 693 <| t3 43 (385:) (386:) "law" 696 214 1 709 <| [])->Frag) ?_ ?h
 case f=>exactλK _=>K
 case h=>delta e0 t0 k1 m1 t2 m2 k2 t3 co fB fM kC;rfl
def HKe(P:Params):Has=(HK P).map (·.1):=(4:)
def qgO(p q:Program)(rc:Shared->Bool)(w:World)(H0:Heap)(s0:SharedT):=(yn treeTable p w 11 (some (.ref 6)) 8354 s0 (topStub p)).map (λs=>qda p q [] (λs=>xlAt q [] s&&rc s) (λs=>Has.map s.heap.get?) true H0 s.abs)
def Hlk(w:World)(H0:Heap)(s0:SharedT):=qgO HP Hq (recOk (RowW.records PySem.Challenge.rw_daysgate_k13_texts_that_are_none.row.toRowW)) w H0 s0
def qgP(q:Program):=openGood q []
def Hgd:=qgP Hq
def qaQ:qgO=qgO:=rfl
def qaR:qgP=qgP:=rfl
end K13
lay_quick K13.qgO K13.qgP
name_quick hlkQ for K13.qgO by K13.qaQ
name_quick hgdQ for K13.qgP by K13.qaR
namespace K13
open PySem PySem.W HD DG
def qgQ(w:World)(os:OsState):Hlk w (boot_heap w.params) (qc9 w.params os)=some (true,Hgd,(HK w.params).map λp=>some p.2):=by
 unfold Hlk Hgd;rw[PySem.W.Fast.hlkQ_eq,PySem.W.Fast.hgdQ_eq]
 kernel_rfl
def qid:LeftO HP Hq [] Hx (λs=>Has.map s.heap.get?) (λw=>(HK w.params).map λp=>some p.2) 8354 true:=
 qdb (boot_open (4:) (2:) (λ_=>(4:))) ZK qgQ
end K13
namespace DG
open PySem PySem.Spec PyProof.Rows L2 DE
inductive BDs:List (Str×Stmt)->Prop
 | nil:BDs []
 | cons {n st l ps}:yN st=ps->Bd n n st ps->BDs l->BDs ((n,st)::l)
inductive FGs(K:Frag):List (Str×Stmt)->Prop
 | nil:FGs K []
 | cons {f n st l}:FG K f n st->FGs K l->FGs K ((n,st)::l)
inductive ZNs(K:Frag):List Str->Prop
 | nil:ZNs K []
 | cons {n l}:PySem.W.nsIn K mainGlobals n=some none->ZNs K l->ZNs K (n::l)
section
variable{K:Frag}{mg:PR}{h:Heap}
theorem FGs.all(X:K.In h)(G:h.Ns mainGlobals mg){l:List (Str×Stmt)}(a:FGs K l)(p:BDs l):AllF K mg l:=by
 induction a with
 |nil=>exact .nil
 |cons i _ ih=>
  cases p with
  |cons e b p=>exact .cons (qgL X G i.1 i.2 e b) (ih p)
theorem ZNs.all(X:K.In h)(G:h.Ns mainGlobals mg){l:List Str}(a:ZNs K l):∀f∈l,mg f=none:=by
 induction a with
 |nil=>exact nofun
 |cons i _ ih=>
  intro f hf;rcases List.mem_cons.mp hf with rfl|hf
  ·exact PySem.W.mg_none_of X G i
  ·exact ih f hf
end
end DG
namespace DE
open PySem PySem.W L2 DG
inductive Kt(K:Frag)(a:Addr):List Bool->List (Str×Addr)->Prop
 | nil:Kt K a [] []
 | cons {t:Str} {c:Addr} {b:Bool} {bs:List Bool} {r:List (Str×Addr)} (h:kitOne K (.ref a) (.ref c)=some b) (h':exmOne K (.ref a) (.ref c)=some b) (q:Kt K a bs r):Kt K a (b::bs) ((t,c)::r)
theorem Kt.at{K:Frag}{a c:Addr}{n t:Str}:∀{bs:List Bool} {r:List (Str×Addr)},Kt K a bs r->bs=r.map (λt=>isX n t.1)->r.lookup t=some c->kitOne K (.ref a) (.ref c)=some (isX n t)/\exmOne K (.ref a) (.ref c)=some (isX n t)
 |_,_,.nil,_,h=>by cases h
 | _,_,.cons (t:=t') (r:=r) h h' q,e,hl=>by
  rw[List.map_cons,List.cons.injEq]at e;rw[List.lookup_cons]at hl
  cases q':(t == t') with
  |true=>
   rw[q']at hl;cases hl
   have:t=t':=(-q':)
   subst this;rw[<-e.1];exact⟨h,h'⟩
  |false=>rw[q']at hl;exact q.at e.2 hl
structure XE(K:Frag)(mg:PR)(er:List (Str×Addr))(e:Str×Addr×List Str):Prop where
 m:mg e.1=some (.ref e.2.1)
 kv:kitOne K (.ref e.2.1) (.type "ValueError")=some true
 is_:ExcIs K e.2.1
 kt:∃bs,Kt K e.2.1 bs er/\bs=er.map λt=>isX e.1 t.1
 n0:e.2.2=[]->excIn K e.2.1 bV "ValueError.__new__" = true
section
variable{K:Frag}{mg:PR}{l:List (Str×Addr×List Str)}{er:List (Str×Addr)}
theorem qgR{n:Str}{ns:List Str}:∀{l:List (Str×Addr×List Str)},(l.lookup n).map (·.2)=some ns->∃e∈l,e.1=n/\e.2.2=ns/\((l.lookup n).map (·.1)).getD 0=e.2.1
 |[],h=>by cases h
 | e::l,h=>by
  let(m,a,f):=e;rw[List.lookup_cons]at h ⊢
  cases q:(n == m) with
  |true=>rw[q]at h;cases h;exact{_,List.mem_cons_self ..,(by simpa using q:n=m).symm,rfl,rfl}
  |false=>rw[q]at h;let(e,h1,h2,h3,h4):=qgR h;exact{e,List.mem_cons_of_mem _ h1,h2,h3,h4}
theorem qgS{C:Addr}{t:Str}{b:Bool}(h:(qcx l er).xs C t=some b):∃e∈l,e.2.1=C/\((t = "ValueError"/\b=true)\/∃c,er.lookup t=some c/\b=isX e.1 t):=by
 have h:((l.find? λe=>e.2.1 == C).bind λe=>if t == "ValueError" then some true else (er.lookup t).map λ_=>isX e.1 t)=some b:=h
 cases q:l.find? λe=>e.2.1 == C with
 |none=>rw[q]at h;cases h
 |some e=>
  rw[q]at h;refine{e,List.mem_of_find?_eq_some q,by simpa using List.find?_some q,?_};have h:(if t == "ValueError" then some true else (er.lookup t).map λ_=>isX e.1 t)=some b:=h
  split at h
  ·rename_i hv;cases h;exact .inl ⟨by simpa using hv,rfl⟩
  ·let(c,h1,h2):=Option.map_eq_some_iff.mp h;exact .inr ⟨c,h1,h2.symm⟩
variable(A:∀e∈l,XE K mg er e)(er_:∀t c,er.lookup t=some c->mg t=some (.ref c))(mV:mg "ValueError" = none)
include A er_ mV in
theorem qep(C:Addr)(t:Str)(b:Bool)(h:(qcx l er).xs C t=some b):ExcIs K C/\((∃T,mg t=some (.ref T)/\kitOne K (.ref C) (.ref T)=some b)\/(mg t=none/\t = "ValueError"/\kitOne K (.ref C) (.type "ValueError")=some b)):=by
 obtain⟨e,he,rfl,⟨rfl,rfl⟩|⟨c,hc,rfl⟩⟩:=qgS h
 ·exact{(A e he).is_,.inr {mV,rfl,(A e he).kv}}
 ·let(bs,k1,k2):=(A e he).kt;exact{(A e he).is_,.inl {c,er_ t c hc,(k1.at k2 hc).1}}
include A er_ in
theorem qie(C:Addr)(t:Str)(b:Bool)(hn:t≠("ValueError" : Str))(h:(qcx l er).xs C t=some b):∃D,mg t=some (.ref D)/\exmOne K (.ref C) (.ref D)=some b:=by
 obtain⟨e,he,rfl,⟨rfl,rfl⟩|⟨c,hc,rfl⟩⟩:=qgS h
 ·exact absurd rfl hn
 ·let(bs,k1,k2):=(A e he).kt;exact{c,er_ t c hc,(k1.at k2 hc).2}
include A in
theorem qif(n:Str)(h:(qcx l er).xn n=some []):mg n=some (.ref ((qcx l er).xa n))/\excIn K ((qcx l er).xa n) bV "ValueError.__new__" = true:=by let(e,he,rfl,h3,h4):=qgR (l:=l) h;rw[show(qcx l er).xa e.1=e.2.1 from h4];exact{(A e he).m,(A e he).n0 h3}
end
inductive ENs(K:Frag):List (Str×Addr)->Prop
 | nil:ENs K []
 | cons {n:Str} {a:Addr} {l:List (Str×Addr)}:nsIn K mainGlobals n=some (some (.ref a))->ENs K l->ENs K ((n,a)::l)
theorem ENs.all{K:Frag}{mg:PR}{h:Heap}(X:K.In h)(G:h.Ns mainGlobals mg):∀{l:List (Str×Addr)},ENs K l->∀t c,l.lookup t=some c->mg t=some (.ref c)
 |_,.nil,t,c,q=>by cases q
 | _,.cons (n:=n) h e,t,c,q=>by
  rw[List.lookup_cons]at q
  cases z:(t == n) with
  |true=>rw[z]at q;cases q;rw[show t=n by simpa using z];exact mg_of X G h
  |false=>rw[z]at q;exact e.all X G t c q
end DE
namespace K13
open PySem PySem.W L2 DE DG
def qcH(cW cS cI:Addr):KC:=λc=>if c = "Within" then some cW else if c = "Since" then some cS else if c = "InRow" then some cI else none
def qaS{cW cS cI C:Addr}{c:Str}(h:qcH cW cS cI c=some C):(c = "Within"/\C=cW)\/(c = "Since"/\C=cS)\/(c = "InRow"/\C=cI):=by
 unfold qcH at h
 split at h
 ·cases h;exact .inl ⟨‹_›,rfl⟩
 split at h
 ·cases h;exact .inr (.inl ⟨‹_›,rfl⟩)
 split at h
 ·cases h;exact .inr (.inr ⟨‹_›,rfl⟩)
 cases h
theorem qcI:∀(l:List D) (acc:List Str),zH acc l=true->l.all kvS=true
 |[],_,_=>rfl
 | d::l,acc,h=>by
  unfold zH at h
  cases e:YZ d with
  |none=>rw[e]at h;cases h
  |some p=>
   rw[e]at h;simp![Bool.and_eq_true]at h;let(rfl,hn,_):=Qy e;rw[List.all_cons,qcI l _ h.2,Bool.and_true]
   have:=hn.eight
   exact decide_eq_true (show p.1.length<=3000 by show p.1.cps.size<=3000;omega)
def Zm(j:Nat):Ck13 pg (j+5) where
 lands:=λb l h=>by
  rw[qgK]
  have kv:l.all kvS=true:=by unfold qi at h;simp![Bool.and_eq_true]at h;exact qcI l [] h.2
  rw[jU (j+1) b l kv,h]
 btw:=λn a b h=>by rw[jh (j+3) n a b,h]
 landsN:=λb l hk h=>by rw[qgK,jU (j+1) b l hk,h]
 btwN:=λn a b h=>by rw[jh (j+3) n a b,h]
def qig{c x:Str}(h:qgy.fld c x=true):(rk c=true/\(x = "lands"\/x = "most"))\/(c = "Within"/\x = "span")\/((c = "Since"\/c = "InRow")/\x = "leave"):=by
 have h:(rk c&&(x == "lands" || x == "most" || (x == "span" && c == "Within")||(x == "leave" && c != "Within")))=true:=h;simp![Bool.or_eq_true,Bool.and_eq_true,beq_iff_eq,bne_iff_ne]at h;obtain⟨h1,((h2|h2)|h2)|h2⟩:=h
 ·exact .inl ⟨h1,.inl h2⟩
 ·exact .inl ⟨h1,.inr h2⟩
 ·exact .inr (.inl ⟨h2.2,h2.1⟩)
 ·refine .inr (.inr ⟨?_,h2.1⟩);rcases Qa h1 with q|q
  ·exact absurd q h2.2
  ·exact q
def qjP{c x f:Str}(h:qgy.mt c x=some f):(rk c=true/\x = "weight"/\f = "Rule.weight")\/(c = "Within"/\x = "line"/\f = "Within.line")\/(c = "Since"/\x = "line"/\f = "Since.line")\/(c = "InRow"/\x = "line"/\f = "InRow.line"):=by
 have h:(if (rk c&&x == "weight")=true then some ("Rule.weight" : Str) else if (c == "Within" && x == "line")=true then some ("Within.line" : Str) else if (c == "Since" && x == "line")=true then some ("Since.line" : Str) else if (c == "InRow" && x == "line")=true then some ("InRow.line" : Str) else none)=some f:=h
 split at h
 ·rename_i q;simp![Bool.and_eq_true,beq_iff_eq]at q;cases h;exact .inl ⟨q.1,q.2,rfl⟩
 split at h
 ·rename_i q;simp![Bool.and_eq_true,beq_iff_eq]at q;cases h;exact .inr (.inl ⟨q.1,q.2,rfl⟩)
 split at h
 ·rename_i q;simp![Bool.and_eq_true,beq_iff_eq]at q;cases h;exact .inr (.inr (.inl ⟨q.1,q.2,rfl⟩))
 split at h
 ·rename_i q;simp![Bool.and_eq_true,beq_iff_eq]at q;cases h;exact .inr (.inr (.inr ⟨q.1,q.2,rfl⟩))
 cases h
def qih{c t:Str}{b:Bool}(h:qgy.sub c t=some b):rk c=true/\((t = "Within"/\b=(c == "Within"))\/(t = "Since"/\b=(c != "Within"))\/(t = "InRow"/\b=(c == "InRow"))):=by
 have h:(if (rk c&&t == "Within")=true then some (c == "Within") else if (rk c&&t == "Since")=true then some (c != "Within") else if (rk c&&t == "InRow")=true then some (c == "InRow") else none)=some b:=h
 split at h
 ·rename_i q;simp![Bool.and_eq_true,beq_iff_eq]at q;cases h;exact{q.1,.inl ⟨q.2,rfl⟩}
 split at h
 ·rename_i q;simp![Bool.and_eq_true,beq_iff_eq]at q;cases h;exact{q.1,.inr (.inl ⟨q.2,rfl⟩)}
 split at h
 ·rename_i q;simp![Bool.and_eq_true,beq_iff_eq]at q;cases h;exact{q.1,.inr (.inr ⟨q.2,rfl⟩)}
 cases h
def ty3{K:Frag}{C:Addr}(k:Kl K C)(n:PySem.W.specialIn K (.builtin "object.__class__") "__get__" = some (some (.builtin "getset_descriptor.__get__")))(tk:PySem.W.takesIn K (.builtin "object.__class__")=some true) :
  ∀(H:Hp) (p dx:Addr) (fs:List (Str×V)),H p=some (L2.HO.ins C dx fs)->TyOf K H (.ref p) (.ref C):=λH p dx fs hp=>.ins hp k.cls k.tc n tk k.mo
def qgT{l:OpenLaw}{w:World}{K:Frag}{h:Heap}{mg:PR}{fa cR cW cS cI fL fiR fiW fiS fiI fmw flW flS flI:Addr}{t0 t1 t2 t3 t4 t5 t6:Tok}(X:K.In h)(G:h.Ns mainGlobals mg)(hfa:mg "law" = some (.ref fa))
  (aL:FG K fL "law" (top 43))
  (a:FGs K pg.defs)
  (z:ZNs K Z0)
  (v0:nsIn K mainGlobals "GREATEST" = some (some (.int 1000000000 t0)))
  (v1:nsIn K mainGlobals "LETTERS" = some (some (.str "abcdefghijklmnopqrstuvwxyz" t1)))
  (v2:nsIn K mainGlobals "LONGEST_NAME" = some (some (.int 8 t2)))
  (v3:nsIn K mainGlobals "FIGURES" = some (some (.str "0123456789" t3)))
  (v4:nsIn K mainGlobals "MOST_FIGURES" = some (some (.int 10 t4)))
  (v5:nsIn K mainGlobals "MOST_LANDS" = some (some (.int 6 t5)))
  (v6:nsIn K mainGlobals "GREATEST_WEIGHT" = some (some (.int 9 t6)))
  (ncR:nsIn K mainGlobals "Rule" = some (some (.ref cR)))
  (ncW:nsIn K mainGlobals "Within" = some (some (.ref cW)))
  (ncS:nsIn K mainGlobals "Since" = some (some (.ref cS)))
  (ncI:nsIn K mainGlobals "InRow" = some (some (.ref cI)))
  (inR:findIn K (.ref cR) "__init__" = some (some (.ref fiR)))
  (inW:findIn K (.ref cW) "__init__" = some (some (.ref fiW)))
  (inS:findIn K (.ref cS) "__init__" = some (some (.ref fiS)))
  (inI:findIn K (.ref cI) "__init__" = some (some (.ref fiI)))
  (twW:findIn K (.ref cW) "weight" = some (some (.ref fmw)))
  (tlW:findIn K (.ref cW) "line" = some (some (.ref flW)))
  (twS:findIn K (.ref cS) "weight" = some (some (.ref fmw)))
  (tlS:findIn K (.ref cS) "line" = some (some (.ref flS)))
  (twI:findIn K (.ref cI) "weight" = some (some (.ref fmw)))
  (tlI:findIn K (.ref cI) "line" = some (some (.ref flI)))
  (hiR:JN K fiR "__init__" "Rule.__init__" (mem 26 0))
  (niR:isFn K (.ref fiR)=true)
  (hiW:JN K fiW "__init__" "Within.__init__" (mem 27 0))
  (niW:isFn K (.ref fiW)=true)
  (hiS:JN K fiS "__init__" "Since.__init__" (mem 28 0))
  (niS:isFn K (.ref fiS)=true)
  (hiI:JN K fiI "__init__" "InRow.__init__" (mem 29 0))
  (niI:isFn K (.ref fiI)=true)
  (hmw:JN K fmw "weight" "Rule.weight" (mem 26 1))
  (nmw:isFn K (.ref fmw)=true)
  (hlW:JN K flW "line" "Within.line" (mem 27 1))
  (nlW:isFn K (.ref flW)=true)
  (hlS:JN K flS "line" "Since.line" (mem 28 1))
  (nlS:isFn K (.ref flS)=true)
  (hlI:JN K flI "line" "InRow.line" (mem 29 1))
  (nlI:isFn K (.ref flI)=true)
  (mkW:makesIn K cW=true)
  (kcW:keepIn K (.ref cW)=true)
  (LW:Kl K cW)
  (na_landsW:findIn K (.ref cW) "lands" = some none)
  (na_mostW:findIn K (.ref cW) "most" = some none)
  (na_spanW:findIn K (.ref cW) "span" = some none)
  (kwW:kitOne K (.ref cW) (.ref cW)=some true)
  (ksW:kitOne K (.ref cW) (.ref cS)=some false)
  (kiW:kitOne K (.ref cW) (.ref cI)=some false)
  (mkS:makesIn K cS=true)
  (kcS:keepIn K (.ref cS)=true)
  (LS:Kl K cS)
  (na_landsS:findIn K (.ref cS) "lands" = some none)
  (na_mostS:findIn K (.ref cS) "most" = some none)
  (na_leaveS:findIn K (.ref cS) "leave" = some none)
  (kwS:kitOne K (.ref cS) (.ref cW)=some false)
  (ksS:kitOne K (.ref cS) (.ref cS)=some true)
  (kiS:kitOne K (.ref cS) (.ref cI)=some false)
  (mkI:makesIn K cI=true)
  (kcI:keepIn K (.ref cI)=true)
  (LI:Kl K cI)
  (na_landsI:findIn K (.ref cI) "lands" = some none)
  (na_mostI:findIn K (.ref cI) "most" = some none)
  (na_leaveI:findIn K (.ref cI) "leave" = some none)
  (kwI:kitOne K (.ref cI) (.ref cW)=some false)
  (ksI:kitOne K (.ref cI) (.ref cS)=some true)
  (kiI:kitOne K (.ref cI) (.ref cI)=some true)
  (rdR:readsIn K cR (.type "type")=true)
  (gsR:specialIn K (.ref cR) "__getattribute__" = some (some (.builtin "type.__getattribute__")))
  (fcR:findCls K (.ref cR) (.type "type") "__init__" = some (.val (.ref fiR)))
  (rdS:readsIn K cS (.type "type")=true)
  (gsS:specialIn K (.ref cS) "__getattribute__" = some (some (.builtin "type.__getattribute__")))
  (fcS:findCls K (.ref cS) (.type "type") "__init__" = some (.val (.ref fiS)))
  (og:specialIn K (.builtin "object.__class__") "__get__" = some (some (.builtin "getset_descriptor.__get__")))
  (ot:takesIn K (.builtin "object.__class__")=some true)
  (ens:ENs K xR)
  (ncV:nsIn K mainGlobals "ValueError" = some none)
  (xv0:kitOne K (.ref 72) (.type "ValueError")=some true)
  (xk0:Kt K 72 [true,true,false,false,false,false,false,false,false] xR)
  (xi0:ExcIs K 72)
  (xn0:excIn K 72 bV "ValueError.__new__" = true)
  (xv1:kitOne K (.ref 165) (.type "ValueError")=some true)
  (xk1:Kt K 165 [true,false,false,false,false,false,false,true,false] xR)
  (xi1:ExcIs K 165)
  (xn1:excIn K 165 bV "ValueError.__new__" = true)
  :
  ∃fd:FuncData,(∀(s:Shared) (v:Value),BindsTo s fd ⟨[v],[]⟩ [("_law_script",v)])/\∀base:Heap,K.In base->base.Ns mainGlobals mg->FnOk l.prog w K mg base CX0 20 fa fd ["_law_script"] (spL (qcH cW cS cI) K pg 20):=by
 have e:=hfa.symm.trans (mg_of X G aL.1);cases e;let(dL,FL,bL):=qgM aL.2 ((bd1 λ_ _ _ _ _ _ _ =>rfl));have z:=z.all X G;let(diR,FiR,biR):=jW hiR (ps:=["self","lands","most"]) ((bd3 λ_ _ _ _ _ _ _ _ _ =>rfl));let(diW,FiW,biW):=jW hiW (ps:=["self","lands","most","span"]) ((bd4 λ_ _ _ _ _ _ _ _ _ _ =>rfl));let(diS,FiS,biS):=jW hiS (ps:=["self","lands","most","leave"]) ((bd4 λ_ _ _ _ _ _ _ _ _ _ =>rfl));let(diI,FiI,biI):=jW hiI (ps:=["self","lands","most"]) ((bd3 λ_ _ _ _ _ _ _ _ _ =>rfl));let(dmw,Fmw,bmw):=jW hmw (ps:=["self","land"]) ((bd2 λ_ _ _ _ _ _ _ _ =>rfl));let(dlW,FlW,blW):=jW hlW (ps:=["self"]) ((bd1 λ_ _ _ _ _ _ _ =>rfl));let(dlS,FlS,blS):=jW hlS (ps:=["self"]) ((bd1 λ_ _ _ _ _ _ _ =>rfl));let(dlI,FlI,blI):=jW hlI (ps:=["self"]) ((bd1 λ_ _ _ _ _ _ _ =>rfl));have mcR:=mg_of X G ncR;have mcW:=mg_of X G ncW;have mcS:=mg_of X G ncS;have mcI:=mg_of X G ncI;have rW:Kr K fmw cW cW cS "span" true:={LW,na_landsW,na_mostW,na_spanW,⟨twW,nmw,hmw.kp⟩,kwW,ksW};have rS:Kr K fmw cS cW cS "leave" false:={LS,na_landsS,na_mostS,na_leaveS,⟨twS,nmw,hmw.kp⟩,kwS,ksS};have rI:Kr K fmw cI cW cS "leave" false:={LI,na_landsI,na_mostI,na_leaveI,⟨twI,nmw,hmw.kp⟩,kwI,ksI}
 have clsA:∀c C,qcH cW cS cI c=some C->Cls K C:=λc C hc=>by
  rcases qaS hc with ⟨_,rfl⟩|⟨_,rfl⟩|⟨_,rfl⟩
  ·exact rW.kl.cls
  ·exact rS.kl.cls
  ·exact rI.kl.cls
 have fldA:∀c x C,qgy.fld c x=true->qcH cW cS cI c=some C->zm K C x:=λc x C hf hc=>by
  rcases qig hf with ⟨hr,rfl|rfl⟩|⟨rfl,rfl⟩|⟨rfl|rfl,rfl⟩
  ·rcases Qa hr with rfl|rfl|rfl
   ·cases hc;exact rW.la
   ·cases hc;exact rS.la
   ·cases hc;exact rI.la
  ·rcases Qa hr with rfl|rfl|rfl
   ·cases hc;exact rW.mo
   ·cases hc;exact rS.mo
   ·cases hc;exact rI.mo
  ·cases hc;exact rW.fx
  ·cases hc;exact rS.fx
  ·cases hc;exact rI.fx
 have fldB:∀c x C,(pcs {}).fld c x=true->qcH cW cS cI c=some C->zm K C x:=λc x C hf hc=>by
  refine fldA c x C ?_ hc;rcases qaS hc with ⟨rfl,_⟩|⟨rfl,_⟩|⟨rfl,_⟩
  all_goals
   have hf:((rk _&&(x == "lands" || x == "most" || (x == "span" && _)||(x == "leave" && _)))||(_&&(x == "kept_rules" || x == "kept_papers")))=true:=hf;rw[Bool.or_eq_true]at hf;rcases hf with hf|hf
   ·exact hf
   ·rw[Bool.and_eq_true]at hf;exact absurd hf.1 (2:)
 have tx:Tx (qcH cW cS cI) K mg:={z "tuple" (3:),z "list" (3:),z "len" (3:),{_,mg_of X G v0},clsA,fldB};have cfR:ClsFn K cR "__init__" fiR:=⟨rdR,gsR,fcR,hiR.kp⟩;have cfS:ClsFn K cS "__init__" fiS:=⟨rdS,gsS,fcS,hiS.kp⟩;have mV:=mg_none_of X G ncV;have er_:=ens.all X G
 have A:∀e∈xE,XE K mg xR e:=by
  intro e he;simp![xE,List.mem_cons,List.not_mem_nil,or_false]at he;rcases he with rfl|rfl
  ·exact{er_ _ _ (3:),xv0,xi0,{_,xk0,(3:)},λ_=>xn0}
  ·exact{er_ _ _ (3:),xv1,xi1,{_,xk1,(3:)},λ_=>xn1}
 refine{dL,bL,λbase _ _=>qfX (k:=19) (st:=top 43) ?ok FL (4:) (4:)}
 case ok=>
 refine { fn:=a.all X G ?q,blt:=z,gl:=?g,cls:=clsA,flds:=fldA,mts:=?m,mks:=?k,subs:=?s,xsubs:=qep A er_ mV,xn0:=qif A,xhs:=qie A er_ }
 case q=>repeat first|exact .nil |refine .cons (4:) (bd2 λ_ _ _ _ _ _ _ _ =>rfl) ?_ |refine .cons (4:) (bd3 λ_ _ _ _ _ _ _ _ _ =>rfl) ?_ |refine .cons (4:) (bd1 λ_ _ _ _ _ _ _ =>rfl) ?_ |refine .cons (4:) (bd4 λ_ _ _ _ _ _ _ _ _ _ =>rfl) ?_ |refine .cons (4:) (bd5 λ_ _ _ _ _ _ _ _ _ _ _ =>rfl) ?_ |refine .cons (4:) (bd6 λ_ _ _ _ _ _ _ _ _ _ _ _ =>rfl) ?_
 case g=>
  intro x d hd;unfold pg at hd;dsimp only at hd
  by_cases h0:x = "GREATEST"
  ·rw[if_pos h0]at hd;cases hd;exact{.int 1000000000,_,h0▸mg_of X G v0,{_,rfl},λ_=>by simp![Rep]}
  rw[if_neg h0]at hd
  by_cases h1:x = "LETTERS"
  ·rw[if_pos h1]at hd;cases hd;exact{.str "abcdefghijklmnopqrstuvwxyz",_,h1▸mg_of X G v1,{_,rfl},λ_=>by simp![Rep]}
  rw[if_neg h1]at hd
  by_cases h2:x = "LONGEST_NAME"
  ·rw[if_pos h2]at hd;cases hd;exact{.int 8,_,h2▸mg_of X G v2,{_,rfl},λ_=>by simp![Rep]}
  rw[if_neg h2]at hd
  by_cases h3:x = "FIGURES"
  ·rw[if_pos h3]at hd;cases hd;exact{.str "0123456789",_,h3▸mg_of X G v3,{_,rfl},λ_=>by simp![Rep]}
  rw[if_neg h3]at hd
  by_cases h4:x = "MOST_FIGURES"
  ·rw[if_pos h4]at hd;cases hd;exact{.int 10,_,h4▸mg_of X G v4,{_,rfl},λ_=>by simp![Rep]}
  rw[if_neg h4]at hd
  by_cases h5:x = "MOST_LANDS"
  ·rw[if_pos h5]at hd;cases hd;exact{.int 6,_,h5▸mg_of X G v5,{_,rfl},λ_=>by simp![Rep]}
  rw[if_neg h5]at hd
  by_cases h6:x = "GREATEST_WEIGHT"
  ·rw[if_pos h6]at hd;cases hd;exact{.int 9,_,h6▸mg_of X G v6,{_,rfl},λ_=>by simp![Rep]}
  rw[if_neg h6]at hd;cases hd
 case m=>
  intro c x f hm;rcases qjP hm with ⟨hr,rfl,rfl⟩|⟨rfl,rfl,rfl⟩|⟨rfl,rfl,rfl⟩|⟨rfl,rfl,rfl⟩
  ·rcases Qa hr with rfl|rfl|rfl
   ·exact{cW,fmw,_,mem 26 1,"weight",rfl,rW.wt,(4:),(4:),Fmw,bmw}
   ·exact{cS,fmw,_,mem 26 1,"weight",rfl,rS.wt,(4:),(4:),Fmw,bmw}
   ·exact{cI,fmw,_,mem 26 1,"weight",rfl,rI.wt,(4:),(4:),Fmw,bmw}
  ·exact{cW,flW,_,mem 27 1,"line",rfl,⟨tlW,nlW,hlW.kp⟩,(4:),(4:),FlW,blW}
  ·exact{cS,flS,_,mem 28 1,"line",rfl,⟨tlS,nlS,hlS.kp⟩,(4:),(4:),FlS,blS}
  ·exact{cI,flI,_,mem 29 1,"line",rfl,⟨tlI,nlI,hlI.kp⟩,(4:),(4:),FlI,blI}
 case k=>
  intro P wd base k ih f hf
  by_cases hk:k < 12
  ·exact .inl ⟨by omega,λargs=>if_pos hk⟩
  let(j,rfl):∃j,k=j+12:={k - 12,by omega};right;have mX:=er_ "NoRule" 72 (3:)
  have hf:f = "Within"\/f = "Since"\/f = "InRow":=by
   have hf:((["Within","Since","InRow"]:List Str).contains f)=true:=hf
   simpa using hf
  rcases hf with rfl|rfl|rfl
  ·exact{cW,fiW,_,_,_,⟨mkW,inW,niW,kcW⟩,FnOk.or (FnOk.lift ((JJ (j:=j+9) tx FiR biR mcR cfR (ih (j+9) (by omega)) (ih (j+10) (by omega)) (Zm (j+4)) (Zm (j+5))).1 FiW)) ((JL (j:=j+9) tx FiR biR mcR cfR (ih (j+9) (by omega)) (ih (j+10) (by omega)) (Zm (j+4)) (Zm (j+5)) mX xn0).1 FiW),mcW,biW,by omega,JM (c:="Within") rfl rfl (λa c l h=>qiN ((qiK (j:=j)).symm.trans h)) λa r h=>qgN ((qiK (j:=j)).symm.trans h)}
  ·exact{cS,fiS,_,_,_,⟨mkS,inS,niS,kcS⟩,FnOk.or (FnOk.lift ((JJ (j:=j+9) tx FiR biR mcR cfR (ih (j+9) (by omega)) (ih (j+10) (by omega)) (Zm (j+4)) (Zm (j+5))).2 FiS)) ((JL (j:=j+9) tx FiR biR mcR cfR (ih (j+9) (by omega)) (ih (j+10) (by omega)) (Zm (j+4)) (Zm (j+5)) mX xn0).2 FiS),mcS,biS,by omega,JM (c:="Since") rfl rfl (λa c l h=>qiN ((qiL (j:=j)).symm.trans h)) λa r h=>qgN ((qiL (j:=j)).symm.trans h)}
  ·exact{cI,fiI,_,_,_,⟨mkI,inI,niI,kcI⟩,FnOk.or (FnOk.lift (qaK (j:=j+8) tx FiI FiS biS mcS cfS FiR biR mcR cfR (ih (j+8) (by omega)) (ih (j+9) (by omega)) (Zm (j+3)) (Zm (j+4)))) (qaO (j:=j+8) tx FiI FiS biS mcS cfS FiR biR mcR cfR (ih (j+8) (by omega)) (ih (j+9) (by omega)) (Zm (j+3)) (Zm (j+4)) mX xn0),mcI,biI,by omega,JM (c:="InRow") rfl rfl (λa c l h=>qjO ((qiM (j:=j)).symm.trans h)) λa r h=>qic ((qiM (j:=j)).symm.trans h)}
 case s=>
  intro c t b hs;obtain⟨hr,⟨rfl,rfl⟩|⟨rfl,rfl⟩|⟨rfl,rfl⟩⟩:=qih hs
  ·rcases Qa hr with rfl|rfl|rfl
   ·exact{cW,cW,rfl,ty3 rW.kl og ot,mcW,rW.iw}
   ·exact{cS,cW,rfl,ty3 rS.kl og ot,mcW,rS.iw}
   ·exact{cI,cW,rfl,ty3 rI.kl og ot,mcW,rI.iw}
  ·rcases Qa hr with rfl|rfl|rfl
   ·exact{cW,cS,rfl,ty3 rW.kl og ot,mcS,rW.is}
   ·exact{cS,cS,rfl,ty3 rS.kl og ot,mcS,rS.is}
   ·exact{cI,cS,rfl,ty3 rI.kl og ot,mcS,rI.is}
  ·rcases Qa hr with rfl|rfl|rfl
   ·exact{cW,cI,rfl,ty3 rW.kl og ot,mcI,kiW}
   ·exact{cS,cI,rfl,ty3 rS.kl og ot,mcI,kiS}
   ·exact{cI,cI,rfl,ty3 rI.kl og ot,mcI,kiI}
def qjQ{l:PySem.W.OpenLaw}{q:Program}{loose:List Str}{XP:(Str->Option Value)->Heap->Prop}{YP:World->Heap->Prop}{d:DefRec}{K:Params->Frag}{U:KC}(hn:l.most=some 63)(hdf:d.params.defaults=[])
  (hY:∀(w:World) (h:Heap),YP w h->(K w.params).In h)
  (F:∀(w:World) (mg:PR) (fa:Addr) (h:Heap),(K w.params).In h->h.Ns mainGlobals mg->mg d.name=some (.ref fa)->
   ∃fd:FuncData,(∀(s:Shared) (u:Value),BindsTo s fd ⟨[u],[]⟩ [("_law_script",u)])/\∀base:Heap,(K w.params).In base->base.Ns mainGlobals mg->FnOk l.prog w (K w.params) mg base CX0 20 fa fd ["_law_script"] (spL U (K w.params) pg 20)) :
  PySem.W.WalkO q loose XP YP l.row.toRowW d [] (λf vs=>PySem.call f vs):=
 L2.qc7 (n:=63) (k:=20) (x:="_law_script") (CX:=λ_=>CX0) (sp:=λw=>spL U (K w.params) pg 20) hn (2:) hdf ⟨rfl,by decide,by decide⟩ hY F (λ_ _ a ns hl _ hS=>qfY hS (qb9 ns)) λ_ _ _ _ _ z=>z
end K13
open PySem PySem.W PyProof.Rows
set_option maxHeartbeats 0 in
theorem PySem.Challenge.cw_daysgate_k13_texts_that_are_none_holds : PySem.Challenge.rw_daysgate_k13_texts_that_are_none.Holds := by
 w_on;refine holds_law saidX λsaid=>?_
 refine holds_open (q:=K13.Hq) (loose:=[]) (Xt:=K13.Hx) (XP:=XL K13.Hq []) (Yf:=λs=>K13.Has.map s.heap.get?) (Ya:=λw=>(K13.HK w.params).map λp=>some p.2) (YP:=InK K13.HK) (N:=8354) K13.qid (InK.of K13.HKe) InK.keeps (λs e=>xl_of s (Bool.and_eq_true_iff.mp e).1) XL.keeps (by rfl) (by rfl) (by rfl) (λs e=>recFacts_of (Bool.and_eq_true_iff.mp e).2) (by rfl) (by first|assumption|decide+kernel) (3:) ⟨rfl,rfl,rfl,rfl,rfl,(3:)⟩ ?hw ?hc
 (case hw=>w_witness2)
 k_fill
 refine K13.qjQ (l:=PySem.Challenge.rw_daysgate_k13_texts_that_are_none) (U:=(K13.qcH (245:) (271:) (297:))) rfl rfl (λw h Y=>Y) ?F
 case F=>
  intro w mg fa h KX G hmg
  refine' K13.qgT KX G hmg ?_ ?_ ?_ ?_ ?_ ?_ ?_ ?_ ?_ ?_ ?_ ?_ ?_ ?_ ?_ ?_ ?_ ?_ ?_ ?_ ?_ ?_ ?_ ?_ ?_ ?_ ?_ ?_ ?_ ?_ ?_ ?_ ?_ ?_ ?_ ?_ ?_ ?_ ?_ ?_ ?_ ?_ ?_ ?_ ?_ ?_ ?_ ?_ ?_ ?_ ?_ ?_ ?_ ?_ ?_ ?_ ?_ ?_ ?_ ?_ ?_ ?_ ?_ ?_ ?_ ?_ ?_ ?_ ?_ ?_ ?_ ?_ ?_ ?_ ?_ ?_ ?_ ?_ ?_ ?_ ?_ ?_ ?_ ?_ ?_
  all_goals try first|k_is|exact{by k_is,by unfold DG.JN;exact{_,_,_,_,_,_,_,_,_,by k_is,by k_is,by k_is}}|(unfold DG.JN;exact{_,_,_,_,_,_,_,_,_,by k_is,by k_is,by k_is})|(refine{{?_,?_,?_,?_},?_,?_}<;>k_is)|kit_is|(repeat first|exact .nil|refine .cons ⟨by k_is,by unfold DG.JN;exact{_,_,_,_,_,_,_,_,_,by k_is,by k_is,by k_is}⟩ ?_|refine .cons (by k_is) ?_)
  all_goals try first|kernel_rfl|(refine{?_,?_,?_}<;>first|k_is|kernel_rfl)|(refine{{?_,?_,?_,?_,?_,?_,?_,?_},?_,?_}<;>first|k_is|kernel_rfl)|(refine{?_,?_,?_,?_,?_,?_,?_,?_}<;>first|k_is|kernel_rfl)|(repeat first|exact .nil|refine .cons (by k_is) ?_|refine .cons (by kit_is) (by kit_is) ?_|refine .cons (4:) (4:) ?_)
